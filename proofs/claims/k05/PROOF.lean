import PyProof.Rows.All
import Wide.All
import OpenK.AllK
import Wide.FinOn
import HandS.Base
import HandS.Call
import HandS.List
import HandS.Comp
import HandS.Dict
import HandS.Iter
import HandS.Text
import HandS.TupAny
import HandS.Wide
import HandS.Deep
import HandS.Style
import HandS.ForMost
import HandS.IsInst
import HandS.Defaults
import HandS.MakeKw
import HandS.Conv
import OpenK.KMeth
import OpenK.KOps
import KE.GoesMore
import KE.GoesEnum
import HandS.MakeKwOnly
import HandS.Walk
import HandS.Exc
import KE.KExcSuper
import HandS.ExcOwn
import HandS.WordsExc
import HandS.ExcIs
import KE.DataFind
import HandS.More
import HandS.DictComp
import HandS.TupMul
import HandS.Sort
import HandS.NoneIn
import HandS.WrittenGet
import KE.KDictList
import HandS.Zip
import HandS.StrMore
import KE.GoesEnumKw
import HandS.Codes
import HandS.Flow
import HandS.Property
import HandS.SortInts
import HandS.OwnEq
import PyProof.InstEq
import PyProof.NeKinds
import PyProof.FactsAll.dict_1
import PyProof.FactsAll.dict_2
import PySem.Challenge.RW_yearturned_k05_equal_scripts_and_steps_i
import HandS.EndBits
import HandS.Ends
set_option Elab.async false
set_option linter.all false
set_option maxRecDepth 100000
namespace Y
open PySem L2
/-! frames -/
abbrev VL := List V → Hp → Prop
def fOp1 (r : R2) (tb : TE) (σ : St) (Q : VK) : VK := fun x H => tb σ H fun y H2 => r x y H2 Q
def fOp2 (r : R2) (x : V) (Q : VK) : VK := fun y H => r x y H Q
def fUn (r : V → Hp → VK → Prop) (Q : VK) : VK := fun x H => r x H Q
def fFld (K : PySem.W.Frag) (f : Str) (Q : VK) : VK := fun x H1 => ∃ a C dx fs v, x = .ref a ∧ H1 a = some (.ins C dx fs) ∧ Cls K C ∧ NoAttr K C f ∧ fs.lookup f = some v ∧ Q v H1
def fTup (Q : VK) : VL := fun xs H1 => xs.length ≤ sizeLine ∧ ∀ p, H1 p = none → Q (.ref p) (upd H1 p (.tup xs))
def fLst (Q : VK) : VL := fun xs H1 => xs.length ≤ sizeLine ∧ ∀ p, H1 p = none → Q (.ref p) (upd H1 p (.lst xs))
def fCons (tr : TA) (σ : St) (Q : VL) : VK := fun x H1 => tr σ H1 fun xs H2 => Q (x :: xs) H2
def fCons2 (x : V) (Q : VL) : VL := fun xs H2 => Q (x :: xs) H2
def fCall (sp : Sp) (dvs : List V) (E : XK) (Q : VK) : VL := fun vs H1 => sp (vs ++ dvs) H1 Q E
def fCB (r : List V → Hp → VK → Prop) (Q : VK) : VL := fun vs H1 => r vs H1 Q
def fMeth (C : Addr) (m : Str) (sp : Sp) (dvs : List V) (E : XK) (t : TA) (σ : St) (Q : VK) : VK := fun x H1 => ∃ a dx fs, x = .ref a ∧ H1 a = some (.ins C dx fs) ∧ fs.lookup m = none ∧ t σ H1 fun vs H2 => sp (.ref a :: (vs ++ dvs)) H2 Q E
def fMake (C : Addr) (sp : Sp) (dvs : List V) (E : XK) (Q : VK) : VL := fun vs H1 => ∀ x dx, H1 x = none → H1 dx = none → dx ≠ x →
  sp (.ref x :: (vs ++ dvs)) (upd (upd H1 dx (.own x)) x (.ins C dx [])) (fun v H2 => v = .non ∧ Q (.ref x) H2) E
def fB (Q : Bool → Hp → Prop) : VK := fun x H1 => ∃ c, x = .bl c ∧ Q c H1
def fIf (ta tb : TE) (σ : St) (Q : VK) : Bool → Hp → Prop := fun c H1 => if c = true then ta σ H1 Q else tb σ H1 Q
def fIfS (t u : TS) (D : Ends) (σ : St) : Bool → Hp → Prop := fun b H1 => if b = true then t D σ H1 else u D σ H1
def fAnd (u : TT) (σ : St) (Q : Bool → Hp → Prop) : Bool → Hp → Prop := fun c H1 => if c = true then u σ H1 Q else Q false H1
def fOr (u : TT) (σ : St) (Q : Bool → Hp → Prop) : Bool → Hp → Prop := fun c H1 => if c = true then Q true H1 else u σ H1 Q
def fNot (Q : Bool → Hp → Prop) : Bool → Hp → Prop := fun c H1 => Q (!c) H1
def fAndV (tb : TE) (σ : St) (Q : VK) : VK := fun x H1 => ∃ c, x = .bl c ∧ if c = true then tb σ H1 Q else Q (.bl false) H1
def fOrV (tb : TE) (σ : St) (Q : VK) : VK := fun x H1 => ∃ c, x = .bl c ∧ if c = true then Q (.bl true) H1 else tb σ H1 Q
def fNotV (Q : VK) : VK := fun x H1 => ∃ c, x = .bl c ∧ Q (.bl (!c)) H1
def fDrop (nx : St → Hp → Prop) (σ : St) : VK := fun _ H1 => nx σ H1
def fAsg (g : TG) (σ : St) (nx : St → Hp → Prop) : VK := fun x H1 => g x σ H1 nx
def fPart (Q : Option Int → Hp → Prop) : VK := fun x H1 => ∃ i, x = .int i ∧ Q (some i) H1
def fSl1 (r : V → Option Int → Option Int → Hp → VK → Prop) (tl th : TO) (σ : St) (Q : VK) : VK := fun x H1 => tl σ H1 fun l H2 => th σ H2 fun u H3 => r x l u H3 Q
def fSl2 (r : V → Option Int → Option Int → Hp → VK → Prop) (x : V) (th : TO) (σ : St) (Q : VK) : Option Int → Hp → Prop := fun l H2 => th σ H2 fun u H3 => r x l u H3 Q
def fSl3 (r : V → Option Int → Option Int → Hp → VK → Prop) (x : V) (l : Option Int) (Q : VK) : Option Int → Hp → Prop := fun u H3 => r x l u H3 Q
section
variable {K : PySem.W.Frag} {σ : St} {H : Hp} {Q : VK} {QT : Bool → Hp → Prop} {r : R2} {ta tb tc : TE} {t u : TT} {v : V} {f m : Str} {tl tr : TA} {sp : Sp} {dvs : List V} {E : XK} {C : Addr} {QL : VL} {D : Ends} {nx : St → Hp → Prop} {rt : VK} {bk ct : St → Hp → Prop} {s1 s2 : TS} {g : TG} {i : Nat}
theorem e_C : tC v σ H Q = Q v H := rfl
theorem e_var0 {x : V} {l : St} : tVar 0 (some x :: l) H Q = Q x H := by
  show (∃ v, (some x :: l)[0]? = some (some v) ∧ Q v H) = Q x H
  simp
theorem e_varS {x : Option V} {l : St} {n : Nat} : tVar (n + 1) (x :: l) H Q = tVar n l H Q := by
  show (∃ v, (x :: l)[n + 1]? = some (some v) ∧ Q v H) = (∃ v, l[n]? = some (some v) ∧ Q v H)
  simp
theorem e_op : tOp r ta tb σ H Q = ta σ H (fOp1 r tb σ Q) := rfl
theorem e_op1 : fOp1 r tb σ Q v H = tb σ H (fOp2 r v Q) := rfl
theorem e_un {r : V → Hp → VK → Prop} : tUn r ta σ H Q = ta σ H (fUn r Q) := rfl
theorem e_fld : tFld K ta f σ H Q = ta σ H (fFld K f Q) := rfl
theorem e_tup : tTup tl σ H Q = tl σ H (fTup Q) := rfl
theorem e_lst : tLst tl σ H Q = tl σ H (fLst Q) := rfl
theorem e_cons : tCons ta tr σ H QL = ta σ H (fCons tr σ QL) := rfl
theorem e_cons1 : fCons tr σ QL v H = tr σ H (fCons2 v QL) := rfl
theorem e_cons2 {xs : List V} : fCons2 v QL xs H = QL (v :: xs) H := rfl
theorem e_nil : tNil σ H QL = QL [] H := rfl
theorem e_call : tCall sp dvs E tl σ H Q = tl σ H (fCall sp dvs E Q) := rfl
theorem e_call1 {vs : List V} : fCall sp [] E Q vs H = sp vs H Q E := by
  show sp (vs ++ []) H Q E = _
  rw [List.append_nil]
theorem e_CB {r : List V → Hp → VK → Prop} : tCB r tl σ H Q = tl σ H (fCB r Q) := rfl
theorem e_CB1 {r : List V → Hp → VK → Prop} {vs : List V} : fCB r Q vs H = r vs H Q := rfl
theorem e_meth : tMeth C m sp dvs E ta tl σ H Q = ta σ H (fMeth C m sp dvs E tl σ Q) := by
  unfold tMeth fMeth
  congr 1
  funext x H1
  apply propext
  constructor
  · rintro ⟨a, dx, fs, rfl, h1, h2, h3⟩
    exact ⟨a, dx, fs, rfl, h1, h2, h3⟩
  · rintro ⟨a, dx, fs, rfl, h1, h2, h3⟩
    exact ⟨a, dx, fs, rfl, h1, h2, h3⟩
theorem e_make : tMake C sp dvs E tl σ H Q = tl σ H (fMake C sp dvs E Q) := rfl
theorem e_B : tB ta σ H QT = ta σ H (fB QT) := rfl
theorem e_test : tTest ta σ H QT = ta σ H (fB QT) := rfl
theorem e_B1 {b : Bool} : fB QT (.bl b) H = QT b H := by
  apply propext
  constructor
  · rintro ⟨c, h, q⟩
    cases h
    exact q
  · exact fun q => ⟨b, rfl, q⟩
theorem e_if : tIf t ta tb σ H Q = t σ H (fIf ta tb σ Q) := rfl
theorem e_if1 {c : Bool} : fIf ta tb σ Q c H = (if c = true then ta σ H Q else tb σ H Q) := rfl
theorem e_ifS : tIfS t s1 s2 D σ H = t σ H (fIfS s1 s2 D σ) := rfl
theorem e_ifS1 {c : Bool} : fIfS s1 s2 D σ c H = (if c = true then s1 D σ H else s2 D σ H) := rfl
theorem e_and : tAnd t u σ H QT = t σ H (fAnd u σ QT) := rfl
theorem e_and1 : fAnd u σ QT true H = u σ H QT := rfl
theorem e_and0 : fAnd u σ QT false H = QT false H := rfl
theorem e_or : tOr t u σ H QT = t σ H (fOr u σ QT) := rfl
theorem e_or1 : fOr u σ QT true H = QT true H := rfl
theorem e_or0 : fOr u σ QT false H = u σ H QT := rfl
theorem e_not : tNot t σ H QT = t σ H (fNot QT) := rfl
theorem e_not1 {c : Bool} : fNot QT c H = QT (!c) H := rfl
theorem e_andV : tAndV ta tb σ H Q = ta σ H (fAndV tb σ Q) := rfl
theorem e_andV1 : fAndV tb σ Q (.bl true) H = tb σ H Q := propext ⟨fun ⟨c, h, q⟩ => by cases h; exact q, fun q => ⟨true, rfl, q⟩⟩
theorem e_andV0 : fAndV tb σ Q (.bl false) H = Q (.bl false) H := propext ⟨fun ⟨c, h, q⟩ => by cases h; exact q, fun q => ⟨false, rfl, q⟩⟩
theorem e_orV : tOrV ta tb σ H Q = ta σ H (fOrV tb σ Q) := rfl
theorem e_orV1 : fOrV tb σ Q (.bl true) H = Q (.bl true) H := propext ⟨fun ⟨c, h, q⟩ => by cases h; exact q, fun q => ⟨true, rfl, q⟩⟩
theorem e_orV0 : fOrV tb σ Q (.bl false) H = tb σ H Q := propext ⟨fun ⟨c, h, q⟩ => by cases h; exact q, fun q => ⟨false, rfl, q⟩⟩
theorem e_notV : tNotV ta σ H Q = ta σ H (fNotV Q) := rfl
theorem e_notV1 {b : Bool} : fNotV Q (.bl b) H = Q (.bl (!b)) H := propext ⟨fun ⟨c, h, q⟩ => by cases h; exact q, fun q => ⟨b, rfl, q⟩⟩
theorem e_seq : tSeq s1 s2 ⟨nx, rt, bk, ct⟩ σ H = s1 ⟨s2 ⟨nx, rt, bk, ct⟩, rt, bk, ct⟩ σ H := rfl
theorem e_next : tNext ⟨nx, rt, bk, ct⟩ σ H = nx σ H := rfl
theorem e_break : tBreak ⟨nx, rt, bk, ct⟩ σ H = bk σ H := rfl
theorem e_cont : tCont ⟨nx, rt, bk, ct⟩ σ H = ct σ H := rfl
theorem e_drop : tDrop ta ⟨nx, rt, bk, ct⟩ σ H = ta σ H (fDrop nx σ) := rfl
theorem e_drop1 : fDrop nx σ v H = nx σ H := rfl
theorem e_ret : tRet ta ⟨nx, rt, bk, ct⟩ σ H = ta σ H rt := rfl
theorem e_retN : tRetN ⟨nx, rt, bk, ct⟩ σ H = rt .non H := rfl
theorem e_asg : tAsg ta g ⟨nx, rt, bk, ct⟩ σ H = ta σ H (fAsg g σ nx) := rfl
theorem e_name : fAsg (gName i) σ nx v H = nx (σ.set i (some v)) H := rfl
theorem e_part : tPart ta σ H = fun q => ta σ H (fPart q) := rfl
theorem e_part1 {q : Option Int → Hp → Prop} {j : Int} : fPart q (.int j) H = q (some j) H := propext ⟨fun ⟨c, h, q⟩ => by cases h; exact q, fun q => ⟨j, rfl, q⟩⟩
theorem e_noPart {q : Option Int → Hp → Prop} : tNoPart σ H q = q none H := rfl
theorem e_sl {r : V → Option Int → Option Int → Hp → VK → Prop} {tl th : TO} : tSl r ta tl th σ H Q = ta σ H (fSl1 r tl th σ Q) := rfl
theorem e_sl1 {r : V → Option Int → Option Int → Hp → VK → Prop} {tl th : TO} : fSl1 r tl th σ Q v H = tl σ H (fSl2 r v th σ Q) := rfl
theorem e_sl2 {r : V → Option Int → Option Int → Hp → VK → Prop} {th : TO} {o : Option Int} : fSl2 r v th σ Q o H = th σ H (fSl3 r v o Q) := rfl
theorem e_sl3 {r : V → Option Int → Option Int → Hp → VK → Prop} {o o2 : Option Int} : fSl3 r v o Q o2 H = r v o o2 H Q := rfl
end
end Y

set_option Elab.async false
set_option linter.all false
set_option maxRecDepth 100000
namespace Y
open PySem L2
/-! ### operators whatever their operands are -/
def rAddU (K : PySem.W.Frag) : R2 := fun x y H Q => match x, y with
  | .int i, .int j => Q (.int (i + j)) H
  | .str a, .str b => a.length + b.length ≤ sizeLine ∧ Q (.str (a ++ b)) H
  | .ref a, .ref b => rCatA K (.ref a) (.ref b) H Q ∨ rCat (.ref a) (.ref b) H Q
  | _, _ => False
theorem op_addU {X : Cx} : OpR X (binaryOp .Add) (rAddU X.K) := by
  intro pins s σ H x y v u Q I rx ry h
  unfold rAddU at h
  split at h
  · exact op_add pins s σ H _ _ v u Q I rx ry ⟨_, _, rfl, rfl, h⟩
  · exact op_add_str pins s σ H _ _ v u Q I rx ry ⟨_, _, rfl, rfl, h.1, h.2⟩
  · rcases h with h | h
    · exact op_catA pins s σ H _ _ v u Q I rx ry h
    · exact op_cat pins s σ H _ _ v u Q I rx ry h
  · exact h.elim
/-- * of two factors of together at most a hundred million bits -/
def CMulX (i j : Int) : Prop := Builtin.Int.intBits i + Builtin.Int.intBits j ≤ 100000000
theorem CMulX.ok {i j : Int} (h : CMulX i j) : IntMulOk i j := by
  have h' : Builtin.Int.intBits i + Builtin.Int.intBits j ≤ 100000000 := h
  have e : bitsLine = 134217728 := by decide
  unfold IntMulOk
  intro z
  rw [Bool.and_eq_true] at z
  have z2 := z.2
  unfold Builtin.Int.intTooBig at z2
  have z3 := of_decide_eq_true z2
  rw [e] at z3
  omega
theorem op_mulX {X : Cx} : OpR X (binaryOp .Mult) (rI CMulX fun i j => .int (i * j)) := opI fun _ _ _ _ _ _ _ hc q => PyProof.Rows.mul_int q hc.ok
theorem bits_lt {i : Int} {a : Nat} (ha : i.natAbs < 2 ^ a) (h0 : 0 < a) : Builtin.Int.intBits i ≤ a := by
  have x := PySem.Flt.log2_lt_of h0 ha
  unfold Builtin.Int.intBits
  split <;> omega
theorem mulX {i j : Int} {a b : Nat} (ha : i.natAbs < 2 ^ a) (hb : j.natAbs < 2 ^ b) (h0 : 0 < a) (h1 : 0 < b) (h : a + b ≤ 100000000) : CMulX i j := by
  have x := bits_lt ha h0
  have y := bits_lt hb h1
  unfold CMulX
  omega
def rMulU : R2 := fun x y H Q => match x, y with
  | .int i, .int j => CMulX i j ∧ Q (.int (i * j)) H
  | .ref a, .int k => rRep (.ref a) (.int k) H Q
  | _, _ => False
theorem op_mulU {X : Cx} : OpR X (binaryOp .Mult) rMulU := by
  intro pins s σ H x y v u Q I rx ry h
  unfold rMulU at h
  split at h
  · exact op_mulX pins s σ H _ _ v u Q I rx ry ⟨_, _, rfl, rfl, h.1, h.2⟩
  · exact op_rep pins s σ H _ _ v u Q I rx ry h
  · exact h.elim
/-- a power of at most 2 ^ 27 bits -/
def CPowW (i j : Int) : Prop := 0 ≤ j ∧ ((i.natAbs.log2 : Int) + 1) * j ≤ 134217728
theorem op_powW {X : Cx} : OpR X (binaryOp .Pow) (rI CPowW fun i j => .int (i ^ j.toNat)) := opI fun i j _ _ _ _ _ hc q => by
  refine PyProof.Rows.pow_int hc.1 ?_ q
  have b : Builtin.Int.intBits i ≤ i.natAbs.log2 + 1 := by
    unfold Builtin.Int.intBits
    split <;> omega
  have h0 : (Builtin.Int.intBits i : Int) ≤ (i.natAbs.log2 : Int) + 1 := by omega
  have h1 : (Builtin.Int.intBits i : Int) * j ≤ ((i.natAbs.log2 : Int) + 1) * j := Int.mul_le_mul_of_nonneg_right h0 hc.1
  have := hc.2
  omega
/-- what the rules of great numbers ask, from bounds -/
theorem powW {i j : Int} {b : Nat} (h0 : 0 ≤ j) (hb : i.natAbs < 2 ^ b) (hp : 0 < b) (h : (b : Int) * j ≤ 134217728) : CPowW i j := by
  have x := PySem.Flt.log2_lt_of hp hb
  refine ⟨h0, ?_⟩
  have h1 : (i.natAbs.log2 : Int) + 1 ≤ (b : Int) := by omega
  have h2 : ((i.natAbs.log2 : Int) + 1) * j ≤ (b : Int) * j := Int.mul_le_mul_of_nonneg_right h1 h0
  omega
def rEqU (K : PySem.W.Frag) : R2 := fun x y H Q => rEq x y H Q ∨ rEqD K x y H Q
def rNeU (K : PySem.W.Frag) : R2 := fun x y H Q => rNe x y H Q ∨ rNeD K x y H Q
theorem op_eqU {X : Cx} (hu : X.A.units + 65 < cLine) : OpR X (compareOp .Eq) (rEqU X.K) := by
  intro pins s σ H x y v u Q I rx ry h
  rcases h with h | h
  · exact op_eq pins s σ H _ _ v u Q I rx ry h
  · exact op_eqD (by omega) pins s σ H _ _ v u Q I rx ry h
theorem op_neU {X : Cx} (hu : X.A.units + 65 < cLine) : OpR X (compareOp .NotEq) (rNeU X.K) := by
  intro pins s σ H x y v u Q I rx ry h
  rcases h with h | h
  · exact op_ne pins s σ H _ _ v u Q I rx ry h
  · exact op_neD (by omega) pins s σ H _ _ v u Q I rx ry h
/-- x in t, t a tuple of data -/
def rInT (K : PySem.W.Frag) : R2 := fun x y H Q => ∃ d ds, Dp K H x d ∧ Dp K H y (.tuple ds) ∧ SeqAt.shaped d = true ∧ SeqAt.shaped (.tuple ds) = true ∧ Q (.bl (ds.any fun z => PyData.eqv z d)) H
theorem op_inT {X : Cx} (hu : X.A.units + 65 < cLine) : OpR X (compareOp .In) (rInT X.K) := by
  intro pins s σ H x y v u Q I rx ry h
  obtain ⟨d, ds, hd, he, sd, se, q⟩ := h
  obtain ⟨as, r1⟩ := Dp.reads I d x v hd rx
  obtain ⟨bs, r2⟩ := Dp.reads I (.tuple ds) y u he ry
  exact SeqAt.in_tuple_reads r2 r1 (SeqAt.canLay_of_shaped se) (SeqAt.canLay_of_shaped sd) (PyProof.Rows.room_in_shaped sd hu) ⟨.bl _, H, I, rfl, q⟩
def rInU (K : PySem.W.Frag) : R2 := fun x y H Q => rIn K false x y H Q ∨ rInT K x y H Q ∨ rInD K x y H Q
theorem op_inU {X : Cx} (hu : X.A.units + 65 < cLine) : OpR X (compareOp .In) (rInU X.K) := by
  intro pins s σ H x y v u Q I rx ry h
  rcases h with h | h | h
  · exact op_in_seq pins s σ H _ _ v u Q I rx ry h
  · exact op_inT hu pins s σ H _ _ v u Q I rx ry h
  · exact op_inD hu pins s σ H _ _ v u Q I rx ry h
theorem hu65 {A : Around} {k : Nat} (hr : Room k A) : A.units + 65 < cLine := by
  have := hr.un
  omega
end Y

set_option Elab.async false
set_option linter.all false
set_option maxRecDepth 100000
namespace Y
open PySem L2
/-! ### names of Python's own -/
theorem b_len : bootBuiltins "len" = some (.builtin "len") := by decide +kernel
theorem b_abs : bootBuiltins "abs" = some (.builtin "abs") := by decide +kernel
theorem b_isinstance : bootBuiltins "isinstance" = some (.builtin "isinstance") := by decide +kernel
theorem b_all : bootBuiltins "all" = some (.builtin "all") := by decide +kernel
theorem b_any : bootBuiltins "any" = some (.builtin "any") := by decide +kernel
theorem b_max : bootBuiltins "max" = some (.builtin "max") := by decide +kernel
theorem b_min : bootBuiltins "min" = some (.builtin "min") := by decide +kernel
theorem b_int : bootBuiltins "int" = some (.type "int") := by decide +kernel
theorem b_bool : bootBuiltins "bool" = some (.type "bool") := by decide +kernel
theorem b_str : bootBuiltins "str" = some (.type "str") := by decide +kernel
theorem b_tuple : bootBuiltins "tuple" = some (.type "tuple") := by decide +kernel
theorem b_list : bootBuiltins "list" = some (.type "list") := by decide +kernel
theorem b_dict : bootBuiltins "dict" = some (.type "dict") := by decide +kernel
/-! ### is, is not -/
def rIsU (neg : Bool) : R2 := fun x y H Q => match x, y with
  | x, .non => Q (.bl (if neg then !decide (x = .non) else decide (x = .non))) H
  | .bl a, .bl b => Q (.bl (if neg then !decide (a = b) else decide (a = b))) H
  | _, _ => False
/-! ### len -/
def rLenU (K : PySem.W.Frag) : List V → Hp → VK → Prop := fun xs H Q => match xs with
  | [.str z] => z.length ≤ sizeLine ∧ Q (.int z.length) H
  | [.ref a] => (∃ ys, (SqL K H a ys ∨ SqT K H a ys) ∧ Q (.int ys.length) H) ∨ ∃ kvs, H a = some (.dK kvs) ∧ Q (.int kvs.length) H
  | _ => False
theorem call_lenU {X : Cx} : CallR X (.builtin "len") (rLenU X.K) := by
  intro pins s σ H xs us Q I r h
  unfold rLenU at h
  split at h
  · exact call_len pins s σ H _ us Q I r ⟨_, _, rfl, ⟨h.1, rfl⟩, h.2⟩
  · rcases h with ⟨ys, hq, q⟩ | ⟨kvs, hq, q⟩
    · exact call_len_seq pins s σ H _ us Q I r ⟨_, ys, rfl, hq, q⟩
    · exact call_lenD pins s σ H _ us Q I r ⟨_, kvs, rfl, hq, q⟩
  · exact h.elim
/-! ### isinstance -/
def rIsiU (K : PySem.W.Frag) : List V → Hp → VK → Prop := fun xs H Q => rIsi K xs H Q ∨ rIsiT K xs H Q
theorem call_isiU {X : Cx} : CallR X (.builtin "isinstance") (rIsiU X.K) := by
  intro pins s σ H xs us Q I r h
  rcases h with h | h
  · exact call_isi pins s σ H _ us Q I r h
  · exact call_isiT pins s σ H _ us Q I r h
/-! ### slices -/
def rSlU (K : PySem.W.Frag) : V → Option Int → Option Int → Hp → VK → Prop := fun x lo hi H Q => rSlA K x lo hi H Q ∨ rSlL K x lo hi H Q
/-! ### a method of one's own behind an operator -/
section
variable {X : Cx} {CX : CXT} {k : Nat} {f C : Addr} {fd : FuncData} {ps : List Str} {sp : Sp} {E : XK}
/-- x in o, o an instance with its own __contains__ -/
def rInO (C : Addr) (sp : Sp) (E : XK) : R2 := fun x y H Q => ∃ a dx fs, y = .ref a ∧ H a = some (.ins C dx fs) ∧ sp [.ref a, x] H (fun v H' => ∃ b, v = .bl b ∧ Q (.bl b) H') E
theorem op_inO (hs : PySem.W.findIn X.K (.ref C) "__contains__" = some (some (.ref f))) (hf : PySem.W.isFn X.K (.ref f) = true) (F : FnOk X.prog X.w X.K X.mg X.base CX k f fd ps sp) (hr : Room k X.A) (hb : Binds X.K fd ps []) (hx : Passes CX X E) :
    OpR X (compareOp .In) (rInO C sp E) := by
  intro pins s σ H x y v u Q I rx ry h
  obtain ⟨a, dx, fs, rfl, ha, q⟩ := h
  obtain rfl : u = Value.ref a := ry
  obtain ⟨mA, O, _⟩ := ins_get I.hok ha
  obtain ⟨od, J, _⟩ := O.look
  obtain ⟨m, fr⟩ := I.fr
  refine PySem.W.in_K fr I.ok.mod.kin J hs hf ?_
  refine thn (run_fn (us := [.ref a, v]) (vs := [.ref a, x]) (dvs := []) (ds := []) F hr hb .nil hx I (.cons rfl (.cons rx .nil)) q) fun w s1 ⟨z, H1, I1, rz, b, ez, q1⟩ => ?_
  subst ez
  cases rz
  exact wpAny_truthy_bool ⟨.bl b, H1, I1, rfl, q1⟩
/-- the callee runs, at an around of the same frames -/
theorem run_fnA {A : Around} {pins : List (Addr × Obj)} {σ : St} {H : Hp} {s : Shared} {Q : VK} {us : List Value} {vs : List V} (hf : A.frames = X.A.frames) (F : FnOk X.prog X.w X.K X.mg X.base CX k f fd ps sp) (hr : Room k A) (hb : Binds X.K fd ps []) (hx : Passes CX X E)
    (I : Inv X pins σ H s) (r : Vals vs us) (h : sp vs H Q E) : wpAny (model X.prog X.w) A (call (.ref f) us) (EP X pins σ Q) X.xe s := by
  have hl : (us ++ []).length = ps.length := by rw [List.append_nil, ← r.length]; exact F.len _ _ _ _ h
  have e := I.env0
  have e0 : Env0 X.prog X.w X.K X.mg X.base A X.stack s H := ⟨by rw [hf]; exact e.frames, e.mod, e.bs, e.bsz, e.funs, e.frf, e.hok, e.bare⟩
  have hb' := hb s us I.kIn hl
  rw [List.append_nil] at hb'
  refine wpAny_call (codeAny_mono (F.run A X.stack s H ⟨us, []⟩ us vs Q E hr e0 hb' r h) fun r s' hq => ?_)
  cases r with
  | error e => exact hx pins σ H s e s' I hq
  | ok fl =>
    cases fl with
    | ret u => exact I.after hq
    | next => exact False.elim hq
    | brk => exact False.elim hq
    | cont => exact False.elim hq
/-- o[i], o an instance with its own __getitem__ -/
def rIxO (C : Addr) (sp : Sp) (E : XK) : R2 := fun x y H Q => ∃ a dx fs, x = .ref a ∧ H a = some (.ins C dx fs) ∧ sp [.ref a, y] H Q E
theorem pe_ixO {a b : Expr} {ta tb : TE} {pos : Pos} (hs : PySem.W.findIn X.K (.ref C) "__getitem__" = some (some (.ref f))) (hf : PySem.W.isFn X.K (.ref f) = true) (hn : PySem.W.fnIn X.K f = true) (F : FnOk X.prog X.w X.K X.mg X.base CX k f fd ps sp) (hr : Room (k + 1) X.A) (hb : Binds X.K fd ps [])
    (hx : Passes CX X E) (ha : PE X a ta) (hi : PE X b tb) (hsl : ∀ o i, subscripted b true o i = runValue (.builtin "lifetime.subscript" ⟨[o, i], []⟩) := by intro _ _; with_unfolding_all rfl) :
    PE X (.Subscript a b pos) (tOp (rIxO C sp E) ta tb) := by
  refine ⟨fun pins s σ H Q I h => ?_⟩
  refine PyProof.Rows.Subscript_ (binT ha hi I h fun v u s2 x y H2 I2 rx ry q => ?_)
  obtain ⟨o, dx, fs, rfl, ho, q⟩ := q
  obtain rfl : v = Value.ref o := rx
  obtain ⟨mA, O, _⟩ := ins_get I2.hok ho
  obtain ⟨od, J, _⟩ := O.look
  obtain ⟨m, fr⟩ := I2.fr
  exact PySem.W.sub_K fr I2.ok.mod.kin J hs hn hf (run_fnA (A := X.A.in1) (vs := [.ref o, y]) rfl F hr.in1 hb hx I2 (.cons rfl (.cons ry .nil)) q) (hsl _ _)
/-- len(o), o an instance with its own __len__ -/
def rLenO (C : Addr) (sp : Sp) (E : XK) : List V → Hp → VK → Prop := fun xs H Q => ∃ a dx fs, xs = [.ref a] ∧ H a = some (.ins C dx fs) ∧ sp [.ref a] H (fun v H' => ∃ n : Nat, v = .int n ∧ n < 2 ^ 63 ∧ Q (.int n) H') E
theorem call_lenO (hs : PySem.W.findIn X.K (.ref C) "__len__" = some (some (.ref f))) (hf : PySem.W.isFn X.K (.ref f) = true) (F : FnOk X.prog X.w X.K X.mg X.base CX k f fd ps sp) (hr : Room (k + 1) X.A) (hb : Binds X.K fd ps []) (hx : Passes CX X E) :
    CallR X (.builtin "len") (rLenO C sp E) := by
  intro pins s σ H xs us Q I r h
  obtain ⟨a, dx, fs, rfl, ha, q⟩ := h
  obtain ⟨u, rfl, rx⟩ := vals1 r
  obtain rfl : u = Value.ref a := rx
  obtain ⟨mA, O, _⟩ := ins_get I.hok ha
  obtain ⟨od, J, _⟩ := O.look
  obtain ⟨m, fr⟩ := I.fr
  refine PySem.W.len_K fr I.ok.mod.kin J hs hf (thn (run_fnA (A := X.A.in1) (vs := [.ref a]) rfl F hr.in1 hb hx I (.cons rfl .nil) q) fun w s1 ⟨z, H1, I1, rz, n, ez, hn, q1⟩ => ?_)
  subst ez
  obtain ⟨t, rfl⟩ := rz
  exact ⟨⟨by omega, by omega⟩, .int n, H1, I1.tok _, ⟨_, rfl⟩, q1⟩
/-- o + p, both instances of the class at C, with its own __add__ -/
def rAddO (C : Addr) (sp : Sp) (E : XK) : R2 := fun x y H Q => ∃ a b dx dy fs gs, x = .ref a ∧ y = .ref b ∧ H a = some (.ins C dx fs) ∧ H b = some (.ins C dy gs) ∧ sp [.ref a, .ref b] H Q E
theorem op_addO (hs : PySem.W.findIn X.K (.ref C) "__add__" = some (some (.ref f))) (hf : PySem.W.isFn X.K (.ref f) = true) (hc : PySem.W.selfFirst X.K C = true) (F : FnOk X.prog X.w X.K X.mg X.base CX k f fd ps sp) (hr : Room k X.A) (hb : Binds X.K fd ps []) (hx : Passes CX X E) :
    OpR X (binaryOp .Add) (rAddO C sp E) := by
  intro pins s σ H x y v u Q I rx ry h
  obtain ⟨a, b, dx, dy, fs, gs, rfl, rfl, ha, hb', q⟩ := h
  obtain rfl : v = Value.ref a := rx
  obtain rfl : u = Value.ref b := ry
  obtain ⟨mA, O, _⟩ := ins_get I.hok ha
  obtain ⟨od, J, _⟩ := O.look
  obtain ⟨mB, O', _⟩ := ins_get I.hok hb'
  obtain ⟨od', J', _⟩ := O'.look
  obtain ⟨m, fr⟩ := I.fr
  refine PySem.W.binop_K (op := .Add) fr I.ok.mod.kin J J'.type hc hs hf (thn (run_fnA (A := X.A) (vs := [.ref a, .ref b]) rfl F hr hb hx I (.cons rfl (.cons rfl .nil)) q) fun w s1 hw => ?_)
  obtain ⟨z, H1, I1, rz, q1⟩ := hw
  have nn : w ≠ .notImplemented := by
    intro e
    subst e
    cases z <;> first
      | exact nomatch (show Value.notImplemented = _ from rz)
      | (obtain ⟨t, e⟩ := rz; cases e)
  cases w <;> first
    | exact absurd rfl nn
    | exact ⟨z, H1, I1, rz, q1⟩
end
/-! ### is, is not; slices -/
section
variable {X : Cx}
theorem op_isU : OpR X (compareOp .Is) (rIsU false) := by
  intro pins s σ H x y v u Q I rx ry h
  unfold rIsU at h
  split at h
  · exact op_isN pins s σ H _ _ v u Q I rx ry ⟨rfl, by simpa using h⟩
  · exact op_isBl pins s σ H _ _ v u Q I rx ry ⟨_, _, rfl, rfl, by simpa using h⟩
  · exact h.elim
theorem op_isNotU : OpR X (compareOp .IsNot) (rIsU true) := by
  intro pins s σ H x y v u Q I rx ry h
  unfold rIsU at h
  split at h
  · exact op_notN pins s σ H _ _ v u Q I rx ry ⟨rfl, by simpa using h⟩
  · exact op_notBl pins s σ H _ _ v u Q I rx ry ⟨_, _, rfl, rfl, by simpa using h⟩
  · exact h.elim
theorem sl_U : SlR X (rSlU X.K) := SlR.or sl_tupA sl_list
end
end Y

set_option Elab.async false
set_option linter.all false
set_option maxRecDepth 100000
namespace Y
open PySem L2
theorem pe_gint {X : Cx} {x : Str} {i : Int} {pos : Pos} (hg : Gl X x) (hm : ∃ t, X.mg x = some (.int i t)) (hd : (x == ("__debug__" : Str)) = false := by decide) : PE X (.Name x pos) (tC (.int i)) := by
  obtain ⟨t, e⟩ := hm
  exact pe_glob hg e ⟨t, rfl⟩ hd
theorem pe_gstr {X : Cx} {x : Str} {i : Str} {pos : Pos} (hg : Gl X x) (hm : ∃ t, X.mg x = some (.str i t)) (hd : (x == ("__debug__" : Str)) = false := by decide) : PE X (.Name x pos) (tC (.str i)) := by
  obtain ⟨t, e⟩ := hm
  exact pe_glob hg e ⟨t, rfl⟩ hd
section
variable {K : PySem.W.Frag} {σ : St} {H : Hp} {Q : VK} {QT : Bool → Hp → Prop} {r : R2} {ta tb tc : TE} {t u : TT} {v x y : V} {f m : Str} {tl tr : TA} {sp : Sp} {dvs : List V} {E : XK} {a b C dx p : Addr} {fs : List (Str × V)} {QL : VL} {D : Ends} {nx : St → Hp → Prop} {rt : VK} {bk ct : St → Hp → Prop} {s1 s2 : TS} {g : TG} {i j : Int} {n : Nat} {xs ys : List V}
/-! ### values in frames -/
theorem k_fld (h : H a = some (.ins C dx fs)) (c : Cls K C) (n : NoAttr K C f) (l : fs.lookup f = some v) (q : Q v H) : fFld K f Q (.ref a) H := ⟨a, C, dx, fs, v, rfl, h, c, n, l, q⟩
theorem k_tup (hl : xs.length ≤ 100000) (q : ∀ p, H p = none → Q (.ref p) (upd H p (.tup xs))) : fTup Q xs H := ⟨Nat.le_trans hl (by decide), q⟩
theorem k_lst (hl : xs.length ≤ 100000) (q : ∀ p, H p = none → Q (.ref p) (upd H p (.lst xs))) : fLst Q xs H := ⟨Nat.le_trans hl (by decide), q⟩
theorem o_add_int : fOp2 (rAddU K) (.int i) Q (.int j) H = Q (.int (i + j)) H := rfl
theorem o_add_str {a b : Str} : fOp2 (rAddU K) (.str a) Q (.str b) H = (a.length + b.length ≤ sizeLine ∧ Q (.str (a ++ b)) H) := rfl
theorem o_I0 {g : Int → Int → V} : fOp2 (rI0 g) (.int i) Q (.int j) H = Q (g i j) H := propext ⟨fun ⟨a, b, h1, h2, q⟩ => by cases h1; cases h2; exact q, fun q => ⟨i, j, rfl, rfl, q⟩⟩
theorem o_un {g : Int → V} : fUn (rU g) Q (.int i) H = Q (g i) H := propext ⟨fun ⟨a, h1, q⟩ => by cases h1; exact q, fun q => ⟨i, rfl, q⟩⟩
theorem k_I {P : Int → Int → Prop} {g : Int → Int → V} (h : P i j) (q : Q (g i j) H) : fOp2 (rI P g) (.int i) Q (.int j) H := ⟨i, j, rfl, rfl, h, q⟩
theorem k_mul (h : CMulX i j) (q : Q (.int (i * j)) H) : fOp2 rMulU (.int i) Q (.int j) H := ⟨h, q⟩
theorem k_eq_int (q : Q (.bl (decide (i = j))) H) : fOp2 (rEqU K) (.int i) Q (.int j) H := .inl ⟨rfl, by
  have e : decide (V.int i = V.int j) = decide (i = j) := by simp
  rw [e]
  exact q⟩
theorem k_ne_int (q : Q (.bl (!decide (i = j))) H) : fOp2 (rNeU K) (.int i) Q (.int j) H := .inl ⟨rfl, by
  have e : decide (V.int i = V.int j) = decide (i = j) := by simp
  rw [e]
  exact q⟩
theorem k_eq_str {i j : Str} (q : Q (.bl (decide (i = j))) H) : fOp2 (rEqU K) (.str i) Q (.str j) H := .inl ⟨rfl, by
  have e : decide (V.str i = V.str j) = decide (i = j) := by simp
  rw [e]
  exact q⟩
theorem k_ne_str {i j : Str} (q : Q (.bl (!decide (i = j))) H) : fOp2 (rNeU K) (.str i) Q (.str j) H := .inl ⟨rfl, by
  have e : decide (V.str i = V.str j) = decide (i = j) := by simp
  rw [e]
  exact q⟩
theorem k_eq_bl {i j : Bool} (q : Q (.bl (decide (i = j))) H) : fOp2 (rEqU K) (.bl i) Q (.bl j) H := .inl ⟨rfl, by
  have e : decide (V.bl i = V.bl j) = decide (i = j) := by simp
  rw [e]
  exact q⟩
theorem k_ne_bl {i j : Bool} (q : Q (.bl (!decide (i = j))) H) : fOp2 (rNeU K) (.bl i) Q (.bl j) H := .inl ⟨rfl, by
  have e : decide (V.bl i = V.bl j) = decide (i = j) := by simp
  rw [e]
  exact q⟩
/-- == of data -/
theorem k_eq_D {d e : PyData} (h1 : Dp K H x d) (h2 : Dp K H y e) (s1 : SeqAt.shaped d = true) (s2 : SeqAt.shaped e = true) (q : Q (.bl (PyData.eqv d e)) H) : fOp2 (rEqU K) x Q y H := .inr ⟨d, e, h1, h2, s1, s2, q⟩
theorem k_ne_D {d e : PyData} (h1 : Dp K H x d) (h2 : Dp K H y e) (s1 : SeqAt.shaped d = true) (s2 : SeqAt.shaped e = true) (q : Q (.bl (!PyData.eqv d e)) H) : fOp2 (rNeU K) x Q y H := .inr ⟨d, e, h1, h2, s1, s2, q⟩
theorem k_isN : fOp2 (rIsU false) x Q .non H = Q (.bl (decide (x = .non))) H := by
  show rIsU false x .non H Q = _
  unfold rIsU
  split
  · simp
  · simp_all
  · simp_all
theorem k_notN : fOp2 (rIsU true) x Q .non H = Q (.bl (!decide (x = .non))) H := by
  show rIsU true x .non H Q = _
  unfold rIsU
  split
  · simp
  · simp_all
  · simp_all
theorem k_isB {i j : Bool} : fOp2 (rIsU false) (.bl i) Q (.bl j) H = Q (.bl (decide (i = j))) H := rfl
theorem k_notB {i j : Bool} : fOp2 (rIsU true) (.bl i) Q (.bl j) H = Q (.bl (!decide (i = j))) H := rfl
/-! calls of Python's own -/
theorem c_int : fCB (fun xs H Q => (∃ i, xs = [V.int i] ∧ Q (.int i) H) ∨ ∃ k, xs = [V.bl k] ∧ Q (.int (if k then 1 else 0)) H) Q [.int i] H = Q (.int i) H := by
  show ((∃ i', [V.int i] = [V.int i'] ∧ Q (.int i') H) ∨ ∃ k, [V.int i] = [V.bl k] ∧ Q (.int (if k then 1 else 0)) H) = _
  apply propext
  constructor
  · rintro (⟨k, h, q⟩ | ⟨k, h, q⟩)
    · cases h
      exact q
    · cases h
  · exact fun q => .inl ⟨i, rfl, q⟩
theorem c_intB {k : Bool} : fCB (fun xs H Q => (∃ i, xs = [V.int i] ∧ Q (.int i) H) ∨ ∃ k, xs = [V.bl k] ∧ Q (.int (if k then 1 else 0)) H) Q [.bl k] H = Q (.int (if k then 1 else 0)) H := by
  show ((∃ i', [V.bl k] = [V.int i'] ∧ Q (.int i') H) ∨ ∃ k', [V.bl k] = [V.bl k'] ∧ Q (.int (if k' then 1 else 0)) H) = _
  apply propext
  constructor
  · rintro (⟨k, h, q⟩ | ⟨k, h, q⟩)
    · cases h
    · cases h
      exact q
  · exact fun q => .inr ⟨k, rfl, q⟩
theorem c_abs : fCB (fun xs H Q => ∃ i, xs = [V.int i] ∧ Q (.int (if i < 0 then -i else i)) H) Q [.int i] H = Q (.int (if i < 0 then -i else i)) H := propext ⟨fun ⟨k, h, q⟩ => by cases h; exact q, fun q => ⟨i, rfl, q⟩⟩
theorem c_max : fCB (fun xs H Q => ∃ i j, xs = [V.int i, V.int j] ∧ Q (.int (if j > i then j else i)) H) Q [.int i, .int j] H = Q (.int (if j > i then j else i)) H := propext ⟨fun ⟨k, l, h, q⟩ => by cases h; exact q, fun q => ⟨i, j, rfl, q⟩⟩
theorem c_min : fCB (fun xs H Q => ∃ i j, xs = [V.int i, V.int j] ∧ Q (.int (if j < i then j else i)) H) Q [.int i, .int j] H = Q (.int (if j < i then j else i)) H := propext ⟨fun ⟨k, l, h, q⟩ => by cases h; exact q, fun q => ⟨i, j, rfl, q⟩⟩
theorem k_lenS (h : SqL K H a xs ∨ SqT K H a xs) (q : Q (.int xs.length) H) : fCB (rLenU K) Q [.ref a] H := .inl ⟨xs, h, q⟩
theorem k_lenD {kvs : List (Key × V)} (h : H a = some (.dK kvs)) (q : Q (.int kvs.length) H) : fCB (rLenU K) Q [.ref a] H := .inr ⟨kvs, h, q⟩
theorem k_isi {c : V} {w z : Value} {k : Bool} (hc : ClsV c z) (ht : TyX K H x w) (hk : PySem.W.kitOne K w z = some k) (q : Q (.bl k) H) : fCB (rIsiU K) Q [x, c] H := .inl ⟨x, c, w, z, k, rfl, hc, ht, hk, q⟩
theorem k_isiT {tp : Addr} {cs : List V} {w : Value} {us : List Value} {k : Bool} (h : H tp = some (.tup cs)) (hc : Paired ClsV cs us) (ht : TyX K H x w) (hk : PySem.W.kitAny K w us = some k) (q : Q (.bl k) H) : fCB (rIsiU K) Q [x, .ref tp] H := .inr ⟨x, tp, cs, w, us, k, rfl, h, hc, ht, hk, q⟩
theorem k_listOf (h : SqL K H a xs ∨ SqT K H a xs) (q : ∀ l, H l = none → Q (.ref l) (upd H l (.lst xs))) : fCB (fun xs H Q => ∃ p ys, xs = [V.ref p] ∧ (SqL K H p ys ∨ SqT K H p ys) ∧ ∀ l, H l = none → Q (.ref l) (upd H l (.lst ys))) Q [.ref a] H := ⟨a, xs, rfl, h, q⟩
theorem k_tupOfL (h : SqL K H a xs) (q : ∀ l, H l = none → Q (.ref l) (upd H l (.tup xs))) : fCB (fun xs H Q => ∃ p ys, xs = [V.ref p] ∧ ((SqL K H p ys ∧ ∀ l, H l = none → Q (.ref l) (upd H l (.tup ys))) ∨ (SqT K H p ys ∧ Q (.ref p) H))) Q [.ref a] H := ⟨a, xs, rfl, .inl ⟨h, q⟩⟩
theorem k_tupOfT (h : SqT K H a xs) (q : Q (.ref a) H) : fCB (fun xs H Q => ∃ p ys, xs = [V.ref p] ∧ ((SqL K H p ys ∧ ∀ l, H l = none → Q (.ref l) (upd H l (.tup ys))) ∨ (SqT K H p ys ∧ Q (.ref p) H))) Q [.ref a] H := ⟨a, xs, rfl, .inr ⟨h, q⟩⟩
/-! items -/
theorem k_ixL (h : SqL K H a xs) (e : atI xs i = some v) (q : Q v H) : fOp2 (rIx K) (.ref a) Q (.int i) H := .inl ⟨a, xs, i, v, rfl, rfl, h, e, q⟩
theorem k_ixT (h : SqT K H a xs) (e : atI xs i = some v) (q : Q v H) : fOp2 (rIx K) (.ref a) Q (.int i) H := .inr (.inl ⟨a, xs, i, v, rfl, rfl, h, e, q⟩)
theorem k_ixS {z : Str} {c : Nat} (h : z.length ≤ sizeLine) (e : atI z.cps.toList i = some c) (q : Q (.str ⟨#[c]⟩) H) : fOp2 (rIx K) (.str z) Q (.int i) H := .inr (.inr ⟨z, i, c, rfl, rfl, h, e, q⟩)
/-- xs[i] = v -/
def fSub (ti : TE) (t : TSet) (v : V) (σ : St) (nx : St → Hp → Prop) : VK := fun o H1 => ti σ H1 fun i H2 => t o i v H2 fun H3 => nx σ H3
def fSub2 (t : TSet) (o v : V) (σ : St) (nx : St → Hp → Prop) : VK := fun i H2 => t o i v H2 fun H3 => nx σ H3
theorem e_sub {to ti : TE} {ts : TSet} : fAsg (gSub to ti ts) σ nx v H = to σ H (fSub ti ts v σ nx) := rfl
theorem e_sub1 {ti : TE} {ts : TSet} : fSub ti ts v σ nx x H = ti σ H (fSub2 ts x v σ nx) := rfl
theorem k_setL {j : Nat} (h : H p = some (.lst xs)) (e : ixN xs.length i = some j) (q : nx σ (upd H p (.lst (xs.set j v)))) : fSub2 rSetL (.ref p) v σ nx (.int i) H := ⟨p, xs, i, j, rfl, rfl, h, e, q⟩
theorem e_andc {c : Bool} : fAnd u σ QT c H = (if c = true then u σ H QT else QT false H) := rfl
theorem e_orc {c : Bool} : fOr u σ QT c H = (if c = true then QT true H else u σ H QT) := rfl
theorem e_andVc {c : Bool} : fAndV tb σ Q (.bl c) H = (if c = true then tb σ H Q else Q (.bl false) H) := propext ⟨fun ⟨c, h, q⟩ => by cases h; exact q, fun q => ⟨c, rfl, q⟩⟩
theorem e_orVc {c : Bool} : fOrV tb σ Q (.bl c) H = (if c = true then Q (.bl true) H else tb σ H Q) := propext ⟨fun ⟨c, h, q⟩ => by cases h; exact q, fun q => ⟨c, rfl, q⟩⟩
theorem cx_K {CX : CXT} {P : Program} {w : World} {mg : Str → Option Value} {base : Heap} {N : List Str} {qual : Str} {scope : Scope} {f : Addr} {cd : Value} {A : Around} {outer : List Env} {s : Shared} : (cxOf CX P w K mg base N qual scope f cd A outer s H E).K = K := rfl
theorem cx_noxK {X : Cx} : X.nox.K = X.K := rfl
theorem cx_P {CX : CXT} {P : Program} {w : World} {mg : Str → Option Value} {base : Heap} {N : List Str} {qual : Str} {scope : Scope} {f : Addr} {cd : Value} {A : Around} {outer : List Env} {s : Shared} : (cxOf CX P w K mg base N qual scope f cd A outer s H E).prog = P := rfl
theorem cx_w {CX : CXT} {P : Program} {w : World} {mg : Str → Option Value} {base : Heap} {N : List Str} {qual : Str} {scope : Scope} {f : Addr} {cd : Value} {A : Around} {outer : List Env} {s : Shared} : (cxOf CX P w K mg base N qual scope f cd A outer s H E).w = w := rfl
end
end Y

set_option Elab.async false
set_option linter.all false
set_option maxRecDepth 100000
namespace PySem
set_option maxHeartbeats 1000000 in
/-- enumerate(v), v begun as B says: its two new cells -/
theorem yEnumNew {v : Value} {o : Obj} {H : Heap → Prop} (B : Begins v o H) : Meets (Builtin.«enumerate.__new__» ⟨[.type "enumerate", v], []⟩) (fun _ R s =>
    H s.heap ∧ R (.ok (.ret (.ref (s.heap.push o).objs.size))) { s with heap := (s.heap.push o).push { cls := .type "enumerate", data := .fields #[.none, .bool false, .ref s.heap.objs.size, rawInt 0, .none, .none] } }) := by
  refine .of_wp fun prog w A R s h => ?_
  rcases s with ⟨hp, g, d, tk, os⟩
  rcases h with ⟨h1, h⟩
  have hs := sub_enumerate
  have go : ∀ {A' : Around} {E Q : Value → Shared → Prop}, Q (.ref hp.objs.size) ⟨hp.push o, g, d, tk, os⟩ → wpAny (model prog w) A' (pyIter v) Q E ⟨hp, g, d, tk, os⟩ := fun q => B.iter prog w _ _ ⟨hp, g, d, tk, os⟩ _ h1 q
  wp_walk using go
  refine wpAny_stack_any fun _ => wpAny_pure ?_
  split <;> first
    | (rename_i c _ _ _ _ _
       cases (c == Value.type "enumerate") <;> (wp_walk using go; exact ⟨_, rfl, h⟩))
    | (wp_walk using go; exact ⟨_, rfl, h⟩)
theorem yEnum1 {prog : Program} {w : World} {A : Around} {E : Value → Shared → Prop} {s : Shared} {v : Value} {o : Obj} {H : Heap → Prop} {Q : Value → Shared → Prop} (B : Begins v o H) (h1 : H s.heap)
    (h : ∀ h', IsEnum h' (s.heap.objs.size + 1) s.heap.objs.size 0 .none → h'.get? s.heap.objs.size = some o → (∀ b o, s.heap.get? b = some o → h'.get? b = some o) → Q (.ref (s.heap.objs.size + 1)) { s with heap := h' }) :
    wpAny (model prog w) A (call (.type "enumerate") [v]) Q E s := by
  refine callType_new F.called_enumerate (by decide) (F.typeCall_enumerate_1 _) (F.newCall_enumerate_1 _) (fun obj => F.args_object_init_2 obj _) F.entry_enumerate_new (yEnumNew B) ⟨h1, ?_⟩
  have z : (s.heap.push o).objs.size = s.heap.objs.size + 1 := Heap.size_push ..
  show _ ∧ _
  rw [z]
  have e := Heap.get?_push_size (s.heap.push o) (o := { cls := .type "enumerate", data := .fields #[.none, .bool false, .ref s.heap.objs.size, rawInt 0, .none, .none] }) rfl
  rw [z] at e
  exact ⟨⟨_, e, rfl⟩, h _ e (Heap.get?_push_of_some _ (Heap.get?_push_size _ B.free)) fun b o x => Heap.get?_push_of_some _ (Heap.get?_push_of_some _ x)⟩
end PySem
namespace Y
open PySem L2
/-! ### for i, x in enumerate(t), t a tuple -/
def IteT (K : PySem.W.Frag) (a : Addr) : It :=
  ⟨fun i H => ∃ (xs : List V) (x : V), SqT K H a xs ∧ xs[i]? = some x, fun i H v H' => ∃ T x, v = .ref T ∧ H T = none ∧ H' = upd H T (.tup [.int (i : Nat), x]) ∧ ∀ xs, SqT K H a xs → xs[i]? = some x,
    fun i H => ∃ xs : List V, SqT K H a xs ∧ xs.length ≤ i⟩
theorem tup_inj {X : Cx} {pins : List (Addr × Obj)} {σ : St} {H : Hp} {s : Shared} {a : Addr} {xs ys : List V} (I : Inv X pins σ H s) (h1 : SqT X.K H a xs) (h2 : SqT X.K H a ys) : xs = ys := by
  obtain ⟨its, r1, ⟨o1, e1, c1, n1, d1⟩, _⟩ := I.tuple h1
  obtain ⟨its2, r2, ⟨o2, e2, c2, n2, d2⟩, _⟩ := I.tuple h2
  rw [e1] at e2
  cases e2
  rw [d1] at d2
  have e : its = its2 := by
    have := congrArg Array.toList (by injection d2)
    simpa using this
  subst e
  exact r1.inj r2
theorem turn_enumT {P : Program} {w : World} {K : PySem.W.Frag} {elts : List Expr} {kk : Nat} {tpos : Pos} (a e it : Addr) :
    Turn P w K (.Tuple elts kk tpos) (IteT K a) [e, it] e (fun i h => (∃ old, IsEnum h e it ((i : Nat) : Int) old) ∧ h.IsTupleIter it a i ∧ e ≠ it ∧ a ≠ it ∧ a ≠ e) where
  mem := by simp
  obj := fun i h st b hb => by
    rcases st with ⟨⟨old, he⟩, ⟨o, ho, hc, hd⟩, _⟩
    rcases List.mem_cons.mp hb with z | z
    · subst z
      exact ⟨_, he, fun v q => nomatch q⟩
    · have z' := List.mem_singleton.mp z
      subst z'
      exact ⟨o, ho, fun v q => by rw [hd] at q; cases q⟩
  keep := fun i h h' st k => by
    rcases st with ⟨⟨old, he⟩, hi, ne⟩
    exact ⟨⟨old, k e (by simp) _ he⟩, hi.at fun o q => k it (by simp) o q, ne⟩
  item := by
    rintro X rfl rfl rfl hc i pins s σ H E I hf st ⟨xs, x, hq, hx⟩
    rcases st with ⟨⟨old, he⟩, hit, hne, hai, hae⟩
    obtain ⟨its, rv, p, hz⟩ := I.tuple hq
    obtain ⟨u, hu, ru⟩ := rv.get hx
    have hel : e < s.heap.objs.size := Heap.lt_size he
    have hil : it < s.heap.objs.size := by
      obtain ⟨_, q, _⟩ := hit
      exact Heap.lt_size q
    have hlt : i < its.toArray.size := by
      have := (List.getElem?_eq_some_iff.mp hu).1
      simpa using this
    have D := Draws.tuple (prog := X.prog) (w := X.w) (A := X.A.in1) (I.ok.hd hc) it a hai its.toArray
    refine wpAny_pyNext_enum_itemD D he ⟨hit, p⟩ hlt hne (by simp [hne, Ne.symm hae]) fun y h' tk hy ho hst' hT hsz hk => ?_
    have hy' : y = u := by
      have e1 : its.toArray[i]? = its[i]? := by simp
      rw [e1, hu] at hy
      exact (Option.some.inj hy).symm
    subst hy'
    refine ⟨_, rfl, wpAny_letOwnedTupleGo_enum (s := { s with heap := h', toks := tk + 1 }) ho fun h2 he' sb => ?_⟩
    have hT2 : h2.get? s.heap.objs.size = some { cls := .type "tuple", data := .seq #[.int i tk, y] } := (sb.2 _ (Nat.ne_of_gt hel)).trans hT
    have new : ObjOk X.prog X.w (upd H s.heap.objs.size (.tup [.int (i : Nat), x])) h2 s.heap.objs.size (.tup [.int (i : Nat), x]) :=
      ⟨(by decide : 2 ≤ sizeLine), [.int i tk, y], .cons ⟨_, rfl⟩ (.cons ru .nil), ⟨_, hT2, rfl, _, rfl⟩⟩
    have I1 : Inv X pins σ (upd H s.heap.objs.size (.tup [.int (i : Nat), x])) { s with heap := h2, toks := tk + 1 } := by
      refine I.turnedNew (ch := [e, it]) (fun b ob hb q => ?_) hf (Nat.le_refl _) new
      have h1 : b ≠ e := fun z => hb (by simp [z])
      have h3 : b ≠ it := fun z => hb (by simp [z])
      exact (sb.2 b h1).trans (hk b ob h1 h3 q)
    refine ⟨.ref s.heap.objs.size, _, I1, rfl, ⟨_, x, rfl, I.hok.fresh (Nat.le_refl _), rfl, fun ys hy => by rw [tup_inj I hy hq]; exact hx⟩, ⟨⟨y, ?_⟩, hst'.1.at fun o q => (sb.2 it (Ne.symm hne)).trans q, hne, hai, hae⟩, fun b hb => ?_⟩
    · rw [show ((i + 1 : Nat) : Int) = (i : Int) + 1 by omega]
      exact he'
    · have hb' : b < s.heap.objs.size := by
        rcases List.mem_cons.mp hb with z | z
        · rw [z]
          exact hel
        · rw [List.mem_singleton.mp z]
          exact hil
      rw [upd_ne (Nat.ne_of_lt hb')]
      exact (hf b hb).1
  done := by
    rintro X rfl rfl rfl hc i pins s σ H E I hf st ⟨xs, hq, hx⟩
    rcases st with ⟨⟨old, he⟩, hit, hne, hai, hae⟩
    obtain ⟨its, rv, p, hz⟩ := I.tuple hq
    obtain ⟨f0, f1, f2, f3, f4, f5⟩ := hf it (by simp)
    have hl := rv.length
    have D := Draws.tuple (prog := X.prog) (w := X.w) (A := X.A.in1) (I.ok.hd hc) it a hai its.toArray
    have D' : Draws X.prog X.w X.A.in1 it [it, a] 0 (fun _ _ => True) (fun j h => h.IsTupleIter it a (i + j) ∧ h.IsTuple a its.toArray) := {
      live := fun j h st => D.live _ h st
      frame := fun j h h' st k => D.frame _ h h' st k
      item := fun j s Q E hj => absurd hj (Nat.not_lt_zero _)
      done := fun s Q E st hE => wpAny_nextOf_tuple_end (I.ok.hd hc) st.1 st.2 (by simp; omega) hE }
    exact wpAny_pyNext_enum_endD D' he ⟨hit, p⟩ fun h' eb => ⟨rfl, I.turned (t' := s.toks) (fun b o hb q => eb b o hb q) f0 f1 f3 f4 f5⟩
  self := fun A i s Q E st h => by
    rcases st with ⟨⟨_, he⟩, _⟩
    exact wpAny_pyIter_enum he h
/-- what enumerate walks: a list or a tuple -/
def iEnumT (K : PySem.W.Frag) (ta : TA) : TI := fun σ H R => ta σ H fun vs H1 => ∃ a xs, vs = [.ref a] ∧ SqT K H1 a xs ∧ R (IteT K a) H1
theorem pi_enumT {X : Cx} {e : Expr} {ta : TA} {p pos tpos : Pos} {elts : List Expr} {kk : Nat} (hg : Gl X "enumerate") (hm : X.mg "enumerate" = none) (ha : PA X [e] ta) (hs : starEach [e] X.env = [(false, eval e X.env)] := by rfl) :
    PI X (.Tuple elts kk tpos) (.Call (.Name "enumerate" p) [e] [] pos) (iEnumT X.K ta) := by
  refine ⟨fun pins s σ H R I h => PyProof.Rows.Call_ (ld_blt I hg hm PyProof.Rows.boot_enumerate (PyProof.Rows.callWith_type1 (thn (ha.run pos pins s σ H _ I h) fun us s1 ⟨vs, H1, I1, r1, q1⟩ => ?_) hs rfl))⟩
  rcases q1 with ⟨a, xs, ex, hq, q⟩
  subst ex
  cases r1 with
  | cons r rr =>
    cases rr
    cases r
    obtain ⟨its, rv, p', hz⟩ := I1.tuple hq
    refine yEnum1 (begins_tuple a its.toArray) p' fun h' he hit hk => wpAny_pyIter_enum he ?_
    have I2 : Inv X pins σ H1 { s1 with heap := h' } := I1.kept (t' := s1.toks) hk
    have hal : a < s1.heap.objs.size := by
      obtain ⟨o, e1, _⟩ := p'
      exact Heap.lt_size e1
    refine ⟨s1.heap.objs.size + 1, [s1.heap.objs.size + 1, s1.heap.objs.size], _, _, H1, rfl, I2, turn_enumT a (s1.heap.objs.size + 1) s1.heap.objs.size, ⟨⟨.none, he⟩, ⟨_, hit, rfl, rfl⟩, Nat.succ_ne_self _, Nat.ne_of_lt hal, Nat.ne_of_lt (Nat.lt_succ_of_lt hal)⟩, fun b hb => ?_, q⟩
    have hle : s1.heap.objs.size ≤ b := by
      rcases List.mem_cons.mp hb with z | z
      · rw [z]
        exact Nat.le_succ _
      · rw [List.mem_singleton.mp z]
        exact Nat.le_refl _
    exact I1.fpOk hle (I1.hok.fresh hle)
theorem walk_enumT {K : PySem.W.Frag} {a : Addr} {xs : List V} : Walk (IteT K a) xs.length (fun H => SqT K H a xs) (YPair (fun i => some (.int (i : Nat))) (fun i => xs[i]?)) := by
  refine ⟨fun i _ hi q => ⟨xs, xs[i], q, by simp [hi]⟩, fun _ q => ⟨xs, q, Nat.le_refl _⟩, fun i H v H' _ q y => ?_⟩
  rcases y with ⟨T, x, h1, h2, h3, h4⟩
  exact ⟨T, .int (i : Nat), x, h1, h2, h3, rfl, h4 xs q⟩
/-- a list or a tuple walked -/
def iSeq (K : PySem.W.Frag) (te : TE) : TI := fun σ H R => te σ H fun x H1 => (∃ a, x = .ref a ∧ (∃ xs, SqL K H1 a xs) ∧ R (Itl K a) H1) ∨ ∃ a, x = .ref a ∧ (∃ xs, SqT K H1 a xs) ∧ R (Itt K a) H1
theorem pi_seq {X : Cx} {tg e : Expr} {te : TE} (he : PE X e te) : PI X tg e (iSeq X.K te) := by
  refine ⟨fun pins s σ H R I h => thn (he.run pins s σ H _ I h) fun v s1 ⟨x, H1, I1, r1, q1⟩ => ?_⟩
  rcases q1 with ⟨a, ex, ⟨xs, hq⟩, q⟩ | ⟨a, ex, ⟨xs, hq⟩, q⟩
  · subst ex
    cases r1
    obtain ⟨its, rv, p, hz⟩ := I1.list hq
    refine wpAny_pyIter_list p.isList ⟨s1.heap.objs.size, [s1.heap.objs.size], _, _, H1, rfl, I1.kept (t' := s1.toks) fun b o e => Heap.get?_push_of_some _ e, turn_list a _, ⟨_, Heap.get?_push_size _ rfl, rfl, rfl⟩, fun b hb => ?_, q⟩
    cases List.mem_singleton.mp hb
    exact I1.fpOk (Nat.le_refl _) (I1.hok.fresh (Nat.le_refl _))
  · subst ex
    cases r1
    obtain ⟨its, rv, p, hz⟩ := I1.tuple hq
    refine wpAny_pyIter_tuple (show s1.heap.IsTuple a its.toArray from p) ⟨s1.heap.objs.size, [s1.heap.objs.size], _, _, H1, rfl, I1.kept (t' := s1.toks) fun b o e => Heap.get?_push_of_some _ e, turn_tuple a _, ⟨_, Heap.get?_push_size _ rfl, rfl, rfl⟩, fun b hb => ?_, q⟩
    cases List.mem_singleton.mp hb
    exact I1.fpOk (Nat.le_refl _) (I1.hok.fresh (Nat.le_refl _))
end Y

set_option Elab.async false
set_option linter.all false
set_option maxRecDepth 100000
namespace Y
open PySem L2
def fFor (g : TG) (tb : TS) (D : Ends) (σ : St) : It → Hp → Prop := fun J H1 => ∃ W : Nat → Nat → St → Hp → Prop, (∃ m, W 0 m σ H1) ∧ ∀ i m σ H, W i m σ H →
  (J.stop i H ∧ D.nx σ H) ∨ (J.go i H ∧ ∃ N : St → Hp → Prop, (∀ σ' H', N σ' H' → ∃ m', m' < m ∧ W (i + 1) m' σ' H') ∧ ∀ x H', J.yld i H x H' → g x σ H' fun σ2 H2 => tb { D with nx := N, ct := N, bk := D.nx } σ2 H2)
def fRng1 (R : It → Hp → Prop) : VL := fun vs H1 => ∃ j : Int, vs = [.int j] ∧ -(2 ^ 62) ≤ j ∧ j < 2 ^ 62 ∧ R (Itr 0 j.toNat) H1
def fRng2 (R : It → Hp → Prop) : VL := fun vs H1 => ∃ i j : Int, vs = [.int i, .int j] ∧ (-(2 ^ 62) ≤ i ∧ i < 2 ^ 62 ∧ -(2 ^ 62) ≤ j ∧ j < 2 ^ 62) ∧ R (Itr i (j - i).toNat) H1
def fSeq (K : PySem.W.Frag) (R : It → Hp → Prop) : VK := fun x H1 => (∃ a, x = .ref a ∧ (∃ xs, SqL K H1 a xs) ∧ R (Itl K a) H1) ∨ ∃ a, x = .ref a ∧ (∃ xs, SqT K H1 a xs) ∧ R (Itt K a) H1
def fEnumT (K : PySem.W.Frag) (R : It → Hp → Prop) : VL := fun vs H1 => ∃ a xs, vs = [.ref a] ∧ SqT K H1 a xs ∧ R (IteT K a) H1
def fEnum (K : PySem.W.Frag) (R : It → Hp → Prop) : VL := fun vs H1 => ∃ a xs, vs = [.ref a] ∧ SqL K H1 a xs ∧ R (Ite K a) H1
def fLc (g : TG) (tt : TT) (te : TE) (vs : List Nat) (σ : St) (Q : VK) : It → Hp → Prop := fun J H1 => ∀ D, H1 D = none → ∃ W : Nat → Nat → Hp → Prop, (∃ m, W 0 m (upd H1 D (.lst []))) ∧ ∀ i m H, W i m H →
  (J.stop i H ∧ Q (.ref D) H) ∨ (J.go i H ∧ ∃ Nx : Hp → Prop, (∀ H', Nx H' → ∃ m', m' < m ∧ W (i + 1) m' H') ∧ ∀ x H', J.yld i H x H' → g x (wipe σ vs) H' fun σ2 H2 => wipe σ2 vs = wipe σ vs ∧ tt σ2 H2 fun b H3 =>
    if b = true then te σ2 H3 fun y H4 => ∃ acc, H4 D = some (.lst acc) ∧ acc.length < sizeLine ∧ Nx (upd H4 D (.lst (acc ++ [y]))) else Nx H3)
/-- a comprehension's element is laid -/
def fAcc (D : Addr) (N : Hp → Prop) : VK := fun y H4 => ∃ acc, H4 D = some (.lst acc) ∧ acc.length < sizeLine ∧ N (upd H4 D (.lst (acc ++ [y])))
def fLcT (te : TE) (σ2 : St) (D : Addr) (N : Hp → Prop) : Bool → Hp → Prop := fun b H3 => if b = true then te σ2 H3 (fAcc D N) else N H3
def fBM (K : PySem.W.Frag) (T : String) (r : V → List V → Hp → VK → Prop) (t : TA) (σ : St) (Q : VK) : VK := fun x H1 => tyV K T x H1 ∧ t σ H1 fun xs H2 => r x xs H2 Q
def fBM2 (r : V → List V → Hp → VK → Prop) (x : V) (Q : VK) : VL := fun xs H2 => r x xs H2 Q
def fBM0 (K : PySem.W.Frag) (T : String) (r : V → List V → Hp → VK → Prop) (Q : VK) : VK := fun x H1 => tyV K T x H1 ∧ r x [] H1 Q
def fPar (i j : Nat) (σ : St) (nx : St → Hp → Prop) : VL := fun vs H1 => ∃ v w, vs = [v, w] ∧ nx ((σ.set i (some v)).set j (some w)) H1
def fPar3 (i j l : Nat) (σ : St) (nx : St → Hp → Prop) : VL := fun vs H1 => ∃ u v w, vs = [u, v, w] ∧ nx (((σ.set i (some u)).set j (some v)).set l (some w)) H1
def fChain1 (r r' : R2) (tb tc : TE) (σ : St) (Q : VK) : VK := fun x H1 => tb σ H1 fun y H2 => r x y H2 fun z H3 => ∃ k, z = .bl k ∧ (if k = true then tc σ H3 fun w' H4 => r' y w' H4 Q else Q (.bl false) H3)
def fChain2 (r r' : R2) (x : V) (tc : TE) (σ : St) (Q : VK) : VK := fun y H2 => r x y H2 fun z H3 => ∃ k, z = .bl k ∧ (if k = true then tc σ H3 fun w' H4 => r' y w' H4 Q else Q (.bl false) H3)
def fChain3 (r' : R2) (y : V) (tc : TE) (σ : St) (Q : VK) : VK := fun z H3 => ∃ k, z = .bl k ∧ (if k = true then tc σ H3 (fOp2 r' y Q) else Q (.bl false) H3)
def fStF (K : PySem.W.Frag) (ta : TE) (f : Str) (σ : St) (nx : St → Hp → Prop) : VK := fun y H1 => ta σ H1 fun x H2 => ∃ a C dx fs, x = .ref a ∧ H2 a = some (.ins C dx fs) ∧ Cls K C ∧ NoAttr K C f ∧ fs.length < 1000 ∧ nx σ (upd H2 a (.ins C dx (putF f y fs)))
def fStF2 (K : PySem.W.Frag) (y : V) (f : Str) (σ : St) (nx : St → Hp → Prop) : VK := fun x H2 => ∃ a C dx fs, x = .ref a ∧ H2 a = some (.ins C dx fs) ∧ Cls K C ∧ NoAttr K C f ∧ fs.length < 1000 ∧ nx σ (upd H2 a (.ins C dx (putF f y fs)))
section
variable {K : PySem.W.Frag} {σ σ2 : St} {H : Hp} {Q : VK} {QT : Bool → Hp → Prop} {r r' : R2} {ta tb tc te : TE} {t u tt : TT} {v x y : V} {f m : Str} {tl tr : TA} {sp : Sp} {dvs : List V} {E : XK} {a b C dx p l : Addr} {fs : List (Str × V)} {QL : VL} {D : Ends} {nx : St → Hp → Prop} {rt : VK} {bk ct : St → Hp → Prop} {s1 s2 ts : TS} {g : TG} {i j : Int} {n : Nat} {xs ys zs vs : List V} {wi : TI} {R : It → Hp → Prop} {J : It} {G : Hp → Prop} {Yd : Nat → Hp → V → Hp → Prop} {T : String} {rm : V → List V → Hp → VK → Prop}
theorem lk_new {o u : HO} (h : H a = some o) (n : H p = none) : upd H p u a = some o := by
  rw [upd_ne (ne_of_none h n)]
  exact h
theorem lk_ne {o u : HO} (h : H a = some o) (n : a ≠ p) : upd H p u a = some o := by
  rw [upd_ne n]
  exact h
theorem sqL_new {o : HO} (h : SqL K H a xs) (n : H p = none) : SqL K (upd H p o) a xs := by
  rcases h with (h | ⟨u, h⟩) | h
  · exact .inl (.inl (lk_new h n))
  · exact .inl (.inr ⟨u, lk_new h n⟩)
  · exact .inr h
theorem sqT_new {o : HO} (h : SqT K H a xs) (n : H p = none) : SqT K (upd H p o) a xs := by
  rcases h with (h | ⟨u, h⟩) | h
  · exact .inl (.inl (lk_new h n))
  · exact .inl (.inr ⟨u, lk_new h n⟩)
  · exact .inr h
theorem sqL_same {H' : Hp} (e : Same H H') (h : SqL K H a xs) : SqL K H' a xs := e.seq h
/-- a list that is read stays where another one is changed -/
theorem sqL_mut {o : HO} (h : SqL K H a xs) (n : a ≠ p) : SqL K (upd H p o) a xs := by
  rcases h with (h | ⟨u, h⟩) | h
  · exact .inl (.inl (lk_ne h n))
  · exact .inl (.inr ⟨u, lk_ne h n⟩)
  · exact .inr h
theorem e_for : tFor wi g ts D σ H = wi σ H (fFor g ts D σ) := rfl
theorem e_rng1 : iRng1 tl σ H R = tl σ H (fRng1 R) := rfl
theorem e_rng2 : iRng2 tl σ H R = tl σ H (fRng2 R) := rfl
theorem e_seqI : iSeq K te σ H R = te σ H (fSeq K R) := rfl
theorem e_enumT : iEnumT K tl σ H R = tl σ H (fEnumT K R) := rfl
theorem e_enum : iEnum K tl σ H R = tl σ H (fEnum K R) := rfl
theorem k_rng1 (h1 : -(2 ^ 62) ≤ j) (h2 : j < 2 ^ 62) (q : R (Itr 0 j.toNat) H) : fRng1 R [.int j] H := ⟨j, rfl, h1, h2, q⟩
theorem k_rng2 (h : -(2 ^ 62) ≤ i ∧ i < 2 ^ 62 ∧ -(2 ^ 62) ≤ j ∧ j < 2 ^ 62) (q : R (Itr i (j - i).toNat) H) : fRng2 R [.int i, .int j] H := ⟨i, j, rfl, h, q⟩
theorem k_seqL (h : SqL K H a xs) (q : R (Itl K a) H) : fSeq K R (.ref a) H := .inl ⟨a, rfl, ⟨xs, h⟩, q⟩
theorem k_seqT (h : SqT K H a xs) (q : R (Itt K a) H) : fSeq K R (.ref a) H := .inr ⟨a, rfl, ⟨xs, h⟩, q⟩
theorem k_enumT (h : SqT K H a xs) (q : R (IteT K a) H) : fEnumT K R [.ref a] H := ⟨a, xs, rfl, h, q⟩
theorem k_enum (h : SqL K H a xs) (q : R (Ite K a) H) : fEnum K R [.ref a] H := ⟨a, xs, rfl, h, q⟩
/-- a for, by what holds at each turn -/
theorem k_for (w : Walk J n G Yd) (Pv : Nat → St → Hp → Prop) (h0 : Pv 0 σ H) (hG : ∀ i σ H, i ≤ n → Pv i σ H → G H)
    (hs : ∀ i x σ H H', i < n → Pv i σ H → Yd i H x H' → g x σ H' fun σ2 H2 => ts ⟨Pv (i + 1), rt, nx, Pv (i + 1)⟩ σ2 H2) (hd : ∀ σ H, Pv n σ H → nx σ H) : fFor g ts ⟨nx, rt, bk, ct⟩ σ J H :=
  for_it w (D := ⟨nx, rt, bk, ct⟩) Pv h0 hG hs hd
theorem e_gname {i : Nat} {Qs : St → Hp → Prop} : gName i v σ H Qs = Qs (σ.set i (some v)) H := rfl
/-- the pair of an enumerate, of a dict's items .. -/
theorem k_pairS {t1 t2 : TG} {Qs : St → Hp → Prop} (h : SqT K H p [x, y]) (q : t1 x σ H fun σ1 H1 => t2 y σ1 H1 Qs) : gTup K 2 (gCons t1 (gCons t2 gNil)) (.ref p) σ H Qs :=
  ⟨p, [x, y], rfl, h, rfl, x, [y], rfl, (by
    have e : (fun σ' H' => (gCons t2 gNil) [y] σ' H' Qs) = fun σ1 H1 => t2 y σ1 H1 Qs := by
      funext σ1 H1
      apply propext
      constructor
      · rintro ⟨v, r, e, q⟩
        cases e
        have e2 : (fun σ' H' => gNil [] σ' H' Qs) = Qs := by
          funext σ' H'
          exact propext ⟨fun z => z.2, fun z => ⟨rfl, z⟩⟩
        rw [e2] at q
        exact q
      · intro q
        refine ⟨y, [], rfl, ?_⟩
        have e2 : (fun σ' H' => gNil [] σ' H' Qs) = Qs := by
          funext σ' H'
          exact propext ⟨fun z => z.2, fun z => ⟨rfl, z⟩⟩
        rw [e2]
        exact q
    rw [e]
    exact q)⟩
/-! comprehensions -/
theorem k_pair {t1 t2 : TG} {Qs : St → Hp → Prop} (h : H p = some (.tup [x, y])) (q : t1 x σ H fun σ1 H1 => t2 y σ1 H1 Qs) : gTup K 2 (gCons t1 (gCons t2 gNil)) (.ref p) σ H Qs := k_pairS (SqT.of h) q
theorem e_lc : tLc wi g tt te ((n : Nat) :: []) σ H Q = wi σ H (fLc g tt te [n] σ Q) := rfl
theorem e_acc {Nx : Hp → Prop} : fAcc l Nx v H = ∃ acc, H l = some (.lst acc) ∧ acc.length < sizeLine ∧ Nx (upd H l (.lst (acc ++ [v]))) := rfl
theorem k_acc {Nx : Hp → Prop} {acc : List V} (h : H l = some (.lst acc)) (hl : acc.length < 100000) (q : Nx (upd H l (.lst (acc ++ [v])))) : fAcc l Nx v H := ⟨acc, h, Nat.lt_of_lt_of_le hl (by decide), q⟩
theorem e_lcT {Nx : Hp → Prop} {b : Bool} : fLcT te σ2 l Nx b H = (if b = true then te σ2 H (fAcc l Nx) else Nx H) := rfl
theorem e_yes : tYes σ H QT = QT true H := rfl
/-- a list comprehension, by what holds at each turn; l: the new list -/
theorem k_lc {wp : List Nat} (w : Walk J n G Yd) (q : ∀ l, H l = none → ∃ Pv : Nat → Hp → Prop, Pv 0 (upd H l (.lst [])) ∧ (∀ i H, i ≤ n → Pv i H → G H) ∧
    (∀ i x H H', i < n → Pv i H → Yd i H x H' → g x (wipe σ wp) H' fun σ2 H2 => wipe σ2 wp = wipe σ wp ∧ tt σ2 H2 (fLcT te σ2 l (Pv (i + 1)))) ∧ ∀ H, Pv n H → Q (.ref l) H) : fLc g tt te wp σ Q J H := by
  intro l hl
  obtain ⟨Pv, h0, hG, hs, hd⟩ := q l hl
  exact lc_it w (Qd := fun H => Q (.ref l) H) Pv h0 hG hs hd
/-! methods of Python's own -/
theorem e_bm : tBM K T rm ta tl σ H Q = ta σ H (fBM K T rm tl σ Q) := rfl
theorem e_bm2 : fBM2 rm x Q xs H = rm x xs H Q := rfl
theorem k_bmL (h : H a = some (.lst xs)) (q : tl σ H (fBM2 rm (.ref a) Q)) : fBM K "list" rm tl σ Q (.ref a) H := ⟨.inl ⟨rfl, xs, SqL.of h⟩, q⟩
theorem k_bmS {z : Str} (q : tl σ H (fBM2 rm (.str z) Q)) : fBM K "str" rm tl σ Q (.str z) H := ⟨rfl, q⟩
theorem k_append (h : H a = some (.lst xs)) (hl : xs.length < 100000) (q : Q .non (upd H a (.lst (xs ++ [y])))) : fBM2 rAppend (.ref a) Q [y] H := ⟨a, xs, y, rfl, rfl, h, Nat.lt_of_lt_of_le hl (by decide), q⟩
theorem k_extend (h : H a = some (.lst xs)) (h' : H b = some (.lst zs)) (hl : xs.length + zs.length ≤ 100000) (q : Q .non (upd H a (.lst (xs ++ zs)))) : fBM2 rExtend (.ref a) Q [.ref b] H :=
  ⟨a, b, xs, zs, rfl, rfl, h, h', Nat.le_trans hl (by decide), q⟩
/-! several targets, chains, fields stored -/
theorem e_par {i j : Nat} : tPar i j tl ⟨nx, rt, bk, ct⟩ σ H = tl σ H (fPar i j σ nx) := rfl
theorem e_par1 {i j : Nat} : fPar i j σ nx [x, y] H = nx ((σ.set i (some x)).set j (some y)) H := propext ⟨fun ⟨v, w, e, q⟩ => by cases e; exact q, fun q => ⟨x, y, rfl, q⟩⟩
theorem e_par3 {i j l : Nat} : tPar3 i j l tl ⟨nx, rt, bk, ct⟩ σ H = tl σ H (fPar3 i j l σ nx) := rfl
theorem e_par31 {i j l : Nat} {z : V} : fPar3 i j l σ nx [x, y, z] H = nx (((σ.set i (some x)).set j (some y)).set l (some z)) H := propext ⟨fun ⟨u, v, w, e, q⟩ => by cases e; exact q, fun q => ⟨x, y, z, rfl, q⟩⟩
theorem e_chain : tChain r r' ta tb tc σ H Q = ta σ H (fChain1 r r' tb tc σ Q) := rfl
theorem e_chain1 : fChain1 r r' tb tc σ Q x H = tb σ H (fChain2 r r' x tc σ Q) := rfl
theorem e_chain2 : fChain2 r r' x tc σ Q y H = fOp2 r x (fChain3 r' y tc σ Q) y H := rfl
theorem e_chain3 {k : Bool} : fChain3 r' y tc σ Q (.bl k) H = (if k = true then tc σ H (fOp2 r' y Q) else Q (.bl false) H) := propext ⟨fun ⟨u, e, q⟩ => by cases e; exact q, fun q => ⟨k, rfl, q⟩⟩
theorem e_sfld : sFld K ta tb f ⟨nx, rt, bk, ct⟩ σ H = tb σ H (fStF K ta f σ nx) := rfl
theorem e_sfld1 : fStF K ta f σ nx y H = ta σ H (fStF2 K y f σ nx) := rfl
theorem k_sfld (h : H a = some (.ins C dx fs)) (c : Cls K C) (n : NoAttr K C f) (hl : fs.length < 1000) (q : nx σ (upd H a (.ins C dx (putF f y fs)))) : fStF2 K y f σ nx (.ref a) H := ⟨a, C, dx, fs, rfl, h, c, n, hl, q⟩
theorem k_meth (h : H a = some (.ins C dx fs)) (hl : fs.lookup m = none) (q : tl σ H (fCons2 (.ref a) (fCall sp dvs E Q))) : fMeth C m sp dvs E tl σ Q (.ref a) H := ⟨a, dx, fs, rfl, h, hl, q⟩
end
end Y

set_option Elab.async false
set_option linter.all false
set_option maxRecDepth 100000
namespace Y
open PySem L2
section
variable {K : PySem.W.Frag}
theorem e_never {D : Ends} {σ : St} {H : Hp} : tNever D σ H = False := rfl
theorem kt_self {t : Value} : PySem.W.kitOne K t t = some true := by
  unfold PySem.W.kitOne
  rw [if_pos (by simp)]
theorem kt_int_bool : PySem.W.kitOne K (.type "int") (.type "bool") = some false := kit_ty (by decide +kernel)
theorem kt_int_str : PySem.W.kitOne K (.type "int") (.type "str") = some false := kit_ty (by decide +kernel)
theorem kt_int_list : PySem.W.kitOne K (.type "int") (.type "list") = some false := kit_ty (by decide +kernel)
theorem kt_int_tuple : PySem.W.kitOne K (.type "int") (.type "tuple") = some false := kit_ty (by decide +kernel)
theorem kt_bool_int : PySem.W.kitOne K (.type "bool") (.type "int") = some true := kit_ty (by decide +kernel)
theorem kt_bool_str : PySem.W.kitOne K (.type "bool") (.type "str") = some false := kit_ty (by decide +kernel)
theorem kt_bool_list : PySem.W.kitOne K (.type "bool") (.type "list") = some false := kit_ty (by decide +kernel)
theorem kt_bool_tuple : PySem.W.kitOne K (.type "bool") (.type "tuple") = some false := kit_ty (by decide +kernel)
theorem kt_str_int : PySem.W.kitOne K (.type "str") (.type "int") = some false := kit_ty (by decide +kernel)
theorem kt_str_bool : PySem.W.kitOne K (.type "str") (.type "bool") = some false := kit_ty (by decide +kernel)
theorem kt_str_list : PySem.W.kitOne K (.type "str") (.type "list") = some false := kit_ty (by decide +kernel)
theorem kt_str_tuple : PySem.W.kitOne K (.type "str") (.type "tuple") = some false := kit_ty (by decide +kernel)
theorem kt_non_int : PySem.W.kitOne K (.type "NoneType") (.type "int") = some false := kit_ty (by decide +kernel)
theorem kt_non_bool : PySem.W.kitOne K (.type "NoneType") (.type "bool") = some false := kit_ty (by decide +kernel)
theorem kt_non_str : PySem.W.kitOne K (.type "NoneType") (.type "str") = some false := kit_ty (by decide +kernel)
theorem kt_non_list : PySem.W.kitOne K (.type "NoneType") (.type "list") = some false := kit_ty (by decide +kernel)
theorem kt_non_tuple : PySem.W.kitOne K (.type "NoneType") (.type "tuple") = some false := kit_ty (by decide +kernel)
theorem kt_tuple_int : PySem.W.kitOne K (.type "tuple") (.type "int") = some false := kit_ty (by decide +kernel)
theorem kt_tuple_bool : PySem.W.kitOne K (.type "tuple") (.type "bool") = some false := kit_ty (by decide +kernel)
theorem kt_tuple_str : PySem.W.kitOne K (.type "tuple") (.type "str") = some false := kit_ty (by decide +kernel)
theorem kt_tuple_list : PySem.W.kitOne K (.type "tuple") (.type "list") = some false := kit_ty (by decide +kernel)
theorem kt_list_int : PySem.W.kitOne K (.type "list") (.type "int") = some false := kit_ty (by decide +kernel)
theorem kt_list_bool : PySem.W.kitOne K (.type "list") (.type "bool") = some false := kit_ty (by decide +kernel)
theorem kt_list_str : PySem.W.kitOne K (.type "list") (.type "str") = some false := kit_ty (by decide +kernel)
theorem kt_list_tuple : PySem.W.kitOne K (.type "list") (.type "tuple") = some false := kit_ty (by decide +kernel)
theorem kt_dict_int : PySem.W.kitOne K (.type "dict") (.type "int") = some false := kit_ty (by decide +kernel)
theorem kt_dict_bool : PySem.W.kitOne K (.type "dict") (.type "bool") = some false := kit_ty (by decide +kernel)
theorem kt_dict_str : PySem.W.kitOne K (.type "dict") (.type "str") = some false := kit_ty (by decide +kernel)
theorem kt_dict_list : PySem.W.kitOne K (.type "dict") (.type "list") = some false := kit_ty (by decide +kernel)
theorem kt_dict_tuple : PySem.W.kitOne K (.type "dict") (.type "tuple") = some false := kit_ty (by decide +kernel)
/-- (list, tuple) -/
theorem ka_tuple : PySem.W.kitAny K (.type "tuple") [.type "list", .type "tuple"] = some true := kitAny_cons kt_tuple_list (fun _ => kitAny_cons kt_self (fun z => nomatch z) fun _ => rfl) fun z => nomatch z
theorem ka_list : PySem.W.kitAny K (.type "list") [.type "list", .type "tuple"] = some true := kitAny_cons kt_self (fun z => nomatch z) fun _ => rfl
theorem ka_no {t : Value} (h1 : PySem.W.kitOne K t (.type "list") = some false) (h2 : PySem.W.kitOne K t (.type "tuple") = some false) : PySem.W.kitAny K t [.type "list", .type "tuple"] = some false :=
  kitAny_cons h1 (fun _ => kitAny_cons h2 (fun _ => rfl) fun z => nomatch z) fun z => nomatch z
/-- (bool, int), (bool, str) -/
theorem ka_bi_int : PySem.W.kitAny K (.type "int") [.type "bool", .type "int"] = some true := kitAny_cons kt_int_bool (fun _ => kitAny_cons kt_self (fun z => nomatch z) fun _ => rfl) fun z => nomatch z
variable {H : Hp} {a : Addr} {xs : List V} {Q : VK} {QL : VL}
theorem tyx_tup (h : SqT K H a xs) : TyX K H (.ref a) (.type "tuple") := by
  rcases h with (h | ⟨o, h⟩) | ⟨o, its, n, h1, h2, _⟩
  · exact .base (.tup h)
  · exact .fTuple h
  · exact .kTuple h1 h2
theorem tyx_lst (h : SqL K H a xs) : TyX K H (.ref a) (.type "list") := by
  rcases h with (h | ⟨o, h⟩) | ⟨o, its, n, h1, h2, _⟩
  · exact .base (.lst h)
  · exact .base (.frz h)
  · exact .kList h1 h2
theorem k_all {bs : List Bool} (h : SqL K H a (bs.map V.bl)) (q : Q (.bl (bs.all id)) H) : fCB (rAll K) Q [.ref a] H := ⟨a, bs, rfl, h, q⟩
theorem k_inT {x y : V} {d : PyData} {ds : List PyData} (h1 : Dp K H x d) (h2 : Dp K H y (.tuple ds)) (s1 : SeqAt.shaped d = true) (s2 : SeqAt.shaped (.tuple ds) = true) (q : Q (.bl (ds.any fun z => PyData.eqv z d)) H) : fOp2 (rInU K) x Q y H :=
  .inr (.inl ⟨d, ds, h1, h2, s1, s2, q⟩)
theorem k_inL {x y : V} {d : PyData} {ds : List PyData} (h1 : Dp K H x d) (h2 : Dp K H y (.list ds)) (s1 : SeqAt.shaped d = true) (s2 : SeqAt.shaped (.list ds) = true) (q : Q (.bl (ds.any fun z => PyData.eqv z d)) H) : fOp2 (rInU K) x Q y H :=
  .inr (.inr ⟨d, ds, h1, h2, s1, s2, q⟩)
/-- data from tuples of texts -/
theorem dp_strs : ∀ {w : List Str}, DpAll K H (w.map V.str) (w.map PyData.str)
  | [] => .nil
  | _ :: _ => .cons (.str _) dp_strs
end
/-! ### the rules with the written part named -/
section
variable {X : Cx} (K : PySem.W.Frag)
theorem pe_bty {x : Str} {n : String} {pos : Pos} (hg : Gl X x) (hm : X.mg x = none) (hv : bootBuiltins x = some (.type n)) (hn : x ≠ "__name__" := by decide) (hd : (x == ("__debug__" : Str)) = false := by decide) : PE X (.Name x pos) (tC (.ty n)) :=
  pe_bltn hg hm hv (v := .ty n) rfl hn hd
theorem call_isiUk (h : X.K = K := by rfl) : CallR X (.builtin "isinstance") (rIsiU K) := by subst h; exact call_isiU
theorem call_lenUk (h : X.K = K := by rfl) : CallR X (.builtin "len") (rLenU K) := by subst h; exact call_lenU
theorem op_addUk (h : X.K = K := by rfl) : OpR X (binaryOp .Add) (rAddU K) := by subst h; exact op_addU
theorem op_eqUk (hu : X.A.units + 65 < cLine) (h : X.K = K := by rfl) : OpR X (compareOp .Eq) (rEqU K) := by subst h; exact op_eqU hu
theorem op_neUk (hu : X.A.units + 65 < cLine) (h : X.K = K := by rfl) : OpR X (compareOp .NotEq) (rNeU K) := by subst h; exact op_neU hu
theorem op_inUk (hu : X.A.units + 65 < cLine) (h : X.K = K := by rfl) : OpR X (compareOp .In) (rInU K) := by subst h; exact op_inU hu
theorem ix_seqk (h : X.K = K := by rfl) : IxR X (rIx K) := by subst h; exact ix_seq
theorem sl_Uk (h : X.K = K := by rfl) : SlR X (rSlU K) := by subst h; exact sl_U
theorem cr_allk (hc : X.calm = true) (h : X.K = K := by rfl) : CallR X (.builtin "all") (rAll K) := by subst h; exact cr_all hc
theorem cr_anyk (hc : X.calm = true) (h : X.K = K := by rfl) : CallR X (.builtin "any") (rAny K) := by subst h; exact cr_any hc
theorem call_tuple_ofk (h : X.K = K := by rfl) : CallR X (.type "tuple") (fun xs H Q => ∃ p ys, xs = [.ref p] ∧ ((SqL K H p ys ∧ ∀ l, H l = none → Q (.ref l) (upd H l (.tup ys))) ∨ (SqT K H p ys ∧ Q (.ref p) H))) := by subst h; exact call_tuple_of
theorem call_list_ofk (h : X.K = K := by rfl) : CallR X (.type "list") (fun xs H Q => ∃ p ys, xs = [.ref p] ∧ (SqL K H p ys ∨ SqT K H p ys) ∧ ∀ l, H l = none → Q (.ref l) (upd H l (.lst ys))) := by subst h; exact call_list_of
theorem pe_fldk {e : Expr} {f : Str} {ta : TE} {pos : Pos} (he : PE X e ta) (hb : attributeBase e f X.env (eval e X.env) = eval e X.env) (h : X.K = K := by rfl) : PE X (.Attribute e f pos) (tFld K ta f) := by subst h; exact pe_fld he hb
theorem pi_seqk {tg e : Expr} {te : TE} (he : PE X e te) (h : X.K = K := by rfl) : PI X tg e (iSeq K te) := by subst h; exact pi_seq he
end
end Y

set_option Elab.async false
set_option linter.all false
set_option maxRecDepth 100000
set_option maxHeartbeats 2000000
namespace PySem
namespace ErrX
open PySem.W PySem.Calls PyProof.Rows PySem.HandSPX
/-! an own error whose __init__ says super().__init__(text); self.f = f -/
def iA (fl : Str) (p1 p2 : Pos) : Arguments := { posonlyargs := [], args := [{ arg := "self", annotation := none, pos := p1 }, { arg := fl, annotation := none, pos := p2 }], vararg := none, kwonlyargs := [], kw_defaults := [], kwarg := none, defaults := [] }
def iB (fl msg : Str) (a b c d e f g h i j : Pos) : List Stmt :=
  [.Expr (.Call (.Attribute (.Call (.Name "super" a) [] [] b) "__init__" c) [.Constant (.str msg) 0 d] [] e) f, .Assign [.Attribute (.Name "self" g) fl h] (.Name fl i) j]
def iS (fl : Str) : Scope := { kind := .function, names := [("self", .local), (fl, .local), ("__class__", .free), ("super", .globalImplicit)], isGenerator := false, isCoroutine := false, more := [] }
/-- what the written part says of the class, at C, and of its __init__, at fI -/
structure ErrTxt (P : Program) (K : Frag) (mg : Str → Option Value) (nm fl msg : Str) (C fI : Addr) : Prop where
  gC : mg nm = some (.ref C)
  gS : mg "super" = none
  cls : ∃ nm q N bs bm sn sub ab col dd k0 k1 k2 k3 k5, K.lookup C = some (excClassObj nm q C N bs bm true sn sub ab col dd k0 k1 k2 k3 k5 "ValueError.__new__") ∧ refsVE bm = true
  sa : findIn K (.ref C) "__setattr__" = some (some (.builtin "object.__setattr__"))
  ga : findIn K (.ref C) "__getattribute__" = some (some (.builtin "BaseException.__getattribute__"))
  gg : findIn K (.ref C) "__getattr__" = some none
  noN : findIn K (.ref C) fl = some none
  iC : findIn K (.ref C) "__init__" = some (some (.ref fI))
  tC : typeIn K (.ref fI) = some (.type "function")
  kC : keepIn K (.ref C) = true
  exC : subIn K (.ref C) (.type "BaseException") = some true
  tyC : typeIn K (.ref C) = some (.type "type")
  hdC : hasDictIn K C = true
  te : exmOne K (.ref C) (.ref C) = some true
  qI : excInitIn K C [.type "ValueError", .type "Exception", .type "BaseException", .type "object"] "ValueError.__new__" = true
  veC : subIn K (.ref C) (.type "ValueError") = some true
  mro : mroIn K C (.ref C) = some true
  sup : ks_superIn K C C "__init__" = some (some (.builtin "ValueError.__init__"))
  any : nsIn K cStatics "thirdparty.any" = some none
  top : (P.main.scope.names.lookup ("super" : Str)).isSome = false
  fn : ∃ (qual : Str) (oc : Value) (od : Option Addr) (doc pm : Value) (an : Option Addr) (cda : Addr) (ct : Value) (osl : Array (Option Value)) (cc : Addr) (p1 p2 a b c d e f g h i j : Pos) (ccl : Value) (cdd : Option Addr) (vs : Array Value) (ccs : Array (Option Value)) (file : Str) (tf : Tok) (cl : Value) (cld : Option Addr) (csl : Array (Option Value)),
    K.lookup fI = some ⟨oc, od, .func (ksFn "__init__" qual (iA fl p1 p2) (iB fl msg a b c d e f g h i j) (iS fl) .none .none doc pm an (.ref cda) ct cc), osl⟩ ∧ codeIn K (.ref cda) qual = true ∧
    K.lookup cda = some ⟨ccl, cdd, .fields vs, ccs⟩ ∧ vs[2]? = some (.str file tf) ∧ ((P.main.file : Str) == file) = true ∧ K.lookup cc = some ⟨cl, cld, .cell (some (.ref C)), csl⟩ ∧
    (∃ pl : Env → Sem Bool, ∀ env : Env, eval (.Call (.Attribute (.Call (.Name "super" a) [] [] b) "__init__" c) [.Constant (.str msg) 0 d] [] e) env = (do
      let ov ← attributeBase (.Call (.Name "super" a) [] [] b) "__init__" env (eval (.Call (.Name "super" a) [] [] b) env)
      standAt c.atName
      let (f, first) ← holding [ov] (getMethod ov "__init__" (pl env))
      callWith e f first (backTo e (starEach [.Constant (.str msg) 0 d] env)) []))
theorem one_size (v : Value) : [v].length ≤ sizeLine := by
  rw [sizeLine_eq]
  exact (by decide : 1 ≤ 16777216)
theorem ldC {M : Model} {s : Shared} {env : Env} {m : Str → Option Value} {x : Str} {pos : Pos} {v : Value} {Q : Value → Shared → Prop} {A : Around} {E : Value → Shared → Prop} (hn : s.heap.Ns env.locals m) (hv : m x = some v) (h : Q v s)
    (hk : env.scope.kind = .function := by rfl) (hl : env.kindOf x = some .local := by rfl) (hd : (x == ("__debug__" : Str)) = false := by decide) :
    wpAny M A (eval (.Name x pos) env) Q E s := wpAny_Name (wpAny_loadName_local hk hl hn hv h) hd
/-- what __init__ leaves of a fresh exception at x -/
structure InitEnd (fl : Str) (h h' : Heap) (x C dx t1 : Addr) (v : Value) : Prop where
  keep : ∀ b o, b ≠ x → h.get? b = some o → h'.get? b = some o
  obj : h'.get? x = some { cls := .ref C, dict := some dx, data := .fields #[.ref t1, .none, .none, .none, .bool false, .none] }
  dbig : h.objs.size ≤ dx
  dne : dx ≠ x
  ns : h'.Ns1 dx (fun y => if y = fl then some v else none)
/-- a made error -/
structure OwnMade (fl : Str) (h h' : Heap) (e C d : Addr) (v : Value) : Prop where
  keep : ∀ b o, h.get? b = some o → h'.get? b = some o
  new : h.objs.size ≤ e
  obj : ∃ oe vs, h'.get? e = some oe ∧ oe.cls = .ref C ∧ oe.dict = some d ∧ oe.data = .fields vs ∧ vs[1]? = some .none
  dbig : h.objs.size ≤ d
  dne : d ≠ e
  ns : h'.Ns1 d (fun y => if y = fl then some v else none)
section
variable {P : Program} {w : World} {A : Around} {E : Value → Shared → Prop} {R : Result → Shared → Prop} {s : Shared} {K : Frag} {mg mb : Str → Option Value} {nm fl msg : Str} {C fI : Addr}
theorem err_init (T : ErrTxt P K mg nm fl msg C fI) (hfl : fl = "index" ∨ fl = "number" ∨ fl = "part") {x t0 : Addr} {v : Value} (X : K.In s.heap) (G : s.heap.Ns mainGlobals mg) (Bn : s.heap.Ns builtinsNs mb) (hmb : mb "super" = bootBuiltins "super")
    (hlim : s.heap.NoLimit) (hnx : K.lookup x = none) (hx : s.heap.get? x = some (excO C t0)) (hroom : A.depth < recursionLimit)
    (hq : ∀ h' tk dx t1, InitEnd fl s.heap h' x C dx t1 v → R (.ok (.ret .none)) { s with heap := h', toks := tk }) :
    codeAny (model P w) A (.call (.ref fI) ⟨[.ref x, v], []⟩) R s := by
  obtain ⟨qual, oc, od, doc, pm, an, cda, ct, osl, cc, p1, p2, a, b, c, d, e, f, g, h, i, j, ccl, cdd, vs, ccs, file, tf, cl, cld, csl, ho, hcd, hcda, hvs, hfile, hcc, pl, he⟩ := T.fn
  obtain ⟨nm', q, N, bs, bm, sn, sub, ab, col, dd, k0, k1, k2, k3, k5, hC, hbm⟩ := T.cls
  have hcl : clsIn K C = some { name := nm', bases := bs, mro := .ref C :: bm, ns := N, qualname := q, hasDict := true, slotNames := sn, subclasses := sub, abstract := ab, collection := col, hasDel := false } := by unfold clsIn; rw [hC] <;> rfl
  have tab : ∀ z ∈ (iS fl).names, z.2 ≠ .cell := by rcases hfl with rfl | rfl | rfl <;> decide
  have hb : BindsTo s (ksFn "__init__" qual (iA fl p1 p2) (iB fl msg a b c d e f g h i j) (iS fl) .none .none doc pm an (.ref cda) ct cc) ⟨[.ref x, v], []⟩ [("self", .ref x), (fl, v)] := by
    rcases hfl with rfl | rfl | rfl <;> exact BindsTo.of_eq (by first | rfl | with_unfolding_all rfl)
  have hloc : ∀ z ∈ ([("self", .ref x), (fl, v)] : List (Str × Value)), (iS fl).names.lookup z.1 = some .local := by
    rcases hfl with rfl | rfl | rfl <;> exact locs rfl
  have hnk : (iS fl).names.lookup ("super" : Str) = some .globalImplicit := by rcases hfl with rfl | rfl | rfl <;> rfl
  have hck : (iS fl).names.lookup ("__class__" : Str) = some .free := by rcases hfl with rfl | rfl | rfl <;> rfl
  have hsk : (iS fl).names.lookup ("self" : Str) = some .local := by rcases hfl with rfl | rfl | rfl <;> rfl
  have hfk : (iS fl).names.lookup fl = some .local := by rcases hfl with rfl | rfl | rfl <;> rfl
  have hfd : (fl == ("__debug__" : Str)) = false := by rcases hfl with rfl | rfl | rfl <;> decide
  have hls : ([("self", Value.ref x), (fl, v)] : List (Str × Value)).reverse.lookup ("self" : Str) = some (Value.ref x) := by rcases hfl with rfl | rfl | rfl <;> rfl
  have hlf : ([("self", Value.ref x), (fl, v)] : List (Str × Value)).reverse.lookup fl = some v := by rcases hfl with rfl | rfl | rfl <;> rfl
  have sup : alongIn K "__init__" (((.ref C :: bm : List Value).dropWhile (· != .ref C)).drop 1) = some (some (.builtin "ValueError.__init__")) := by
    have q := T.sup
    unfold ks_superIn at q
    rw [hcl] at q
    exact q
  refine ks_codeAny_call_defAt (fd := ksFn "__init__" qual (iA fl p1 p2) (iB fl msg a b c d e f g h i j) (iS fl) .none .none doc pm an (.ref cda) ct cc) (binds := [("self", .ref x), (fl, v)]) hroom (X _ _ ho) rfl hlim (codeRec_of X hcd) rfl hb tab hloc (fun h₁ hn k => ?_)
  obtain ⟨hp, gg, dd', tt, os⟩ := s
  have X₁ : K.In h₁ := X.keeps k
  have hx₁ := k _ _ hx
  refine ks_wpAt_execs_cons (ks_wpAt_Expr_any (ks_wpAt_MethodCall (pl := pl _) ?_ (he _)))
  refine ks_wpAt_super_base (env := callEnv (ksFn "__init__" qual (iA fl p1 p2) (iB fl msg a b c d e f g h i j) (iS fl) .none .none doc pm an (.ref cda) ct cc) hp.objs.size fI) hnk hck (by decide) rfl (X₁ _ _ ho) rfl rfl rfl (X₁ _ _ hcda) rfl hvs hfile T.top ?_
  refine ks_loadName_global rfl hnk (loadGlobal_builtin (G.keeps k) T.gS (Bn.keeps k) (hmb.trans (by decide +kernel : bootBuiltins "super" = some (.type "super"))) ⟨rfl, ?_⟩)
  refine wpAny_loadName_free rfl hck rfl ⟨_, X₁ _ _ hcc, rfl⟩ ?_
  refine wpAny_loadName_local rfl hsk hn hls ?_
  refine ks_wpAny_isType_cls (X₁ _ _ hC) rfl ⟨rfl, ?_⟩
  refine ks_wpAny_call_super (X₁ _ _ hC) rfl hx₁ rfl (fun c e => by cases e) (looks_mroIn X₁ T.mro) (fun h₂ e₂ k₂ => ?_)
  have X₂ : K.In h₂ := X₁.keeps k₂
  have hx₂ := k₂ _ _ hx₁
  have I₂ : InstAt h₂ x (excO C t0) C none := ⟨hx₂, rfl, rfl, trivial⟩
  refine kxs_getMethod kxs_ValueError e₂ (looks_opaque X₂ T.any) (l₀ := .ref C :: bm) (fun A Q E s k q => wpAny_bind ((looks_clsIn X₂ hcl) A _ E s k (wpAny_pure q))) rfl X₂ sup (I₂.type.andThen (looks_subIn X₂ T.veC)) (ks_ne X₂ I₂ hcl) (by decide) ?_
  have lt1 : hp.objs.size < h₁.objs.size := hn.lt
  have lt2 : h₁.objs.size < h₂.objs.size := Heap.lt_size e₂
  have ltx : x < hp.objs.size := Heap.lt_size hx
  have k₃ : ∀ b o, h₂.get? b = some o → (h₂.push (kxs_mw "ValueError.__init__" x)).get? b = some o := fun b o e => Heap.get?_push_of_some _ e
  have XH : K.In (hp.hide x) := fun a o e => (Heap.hide_ne hp fun z => by rw [z, hnx] at e; cases e).trans (X a o e)
  have F₃ : Fr (hp.hide x) hp.objs.size (h₂.push (kxs_mw "ValueError.__init__" x)) (fun y => ([("self", .ref x), (fl, v)] : List (Str × Value)).reverse.lookup y) :=
    ⟨hn.keeps fun b o e => k₃ b o (k₂ b o e), fun b o e => k₃ b o (k₂ b o (k b o (Heap.of_hide e))), Nat.le_of_eq (Heap.hide_size hp x)⟩
  have N₃ : News (hp.hide x) hp.objs.size (h₂.push (kxs_mw "ValueError.__init__" x)) [(h₂.objs.size, kxs_mw "ValueError.__init__" x), (x, excObj C t0 none .none)] := fun p hp' => by
    rcases List.mem_cons.mp hp' with rfl | hp'
    · refine ⟨Heap.get?_push_at rfl rfl, Nat.ne_of_gt (Nat.lt_trans lt1 lt2), ?_⟩
      cases z : (hp.hide x).get? h₂.objs.size with
      | none => rfl
      | some o => exact absurd (Heap.lt_size (Heap.of_hide z)) (Nat.not_lt_of_gt (Nat.lt_trans lt1 lt2))
    · rw [List.mem_singleton.mp hp']
      exact ⟨k₃ _ _ hx₂, Nat.ne_of_lt ltx, Heap.hide_self hp x⟩
  refine kxs_callWith1 N₃ (List.mem_cons_self ..) (spliced_more (Constant_str (spliced_none ⟨(N₃ _ (List.mem_cons_self ..)).1, ?_⟩)))
  refine kxs_call F₃ XH N₃ F.excBase_ValueError T.qI (List.mem_cons_self ..) (.tail (Nat.ne_of_gt (Nat.lt_trans ltx (Nat.lt_trans lt1 lt2))) (.head fun _ z => nomatch z)) (one_size _) (fun t' h₄ F₄ N₄ _ => ?_)
  have X₄ : K.In h₄ := XH.keeps F₄.keep
  have hx₄ : h₄.get? x = some (excO C t') := (N₄ (x, excObj C t' none .none) (by simp)).1
  have hn₄ := F₄.ns
  have lt4 : hp.objs.size < h₄.objs.size := hn₄.lt
  show wpAt _ _ _ (execs _ _) _ _ _
  refine wpAt_of_wpAny (wpAny_execs_cons (plainObj_wpAny_Assign_Attribute ?_))
  refine ldC (v := v) hn₄ hlf (ldC (v := .ref x) hn₄ hls ?_ rfl hsk) rfl hfk hfd
  refine set_plain X₄ (ox := excO C t') (od := none) ⟨hx₄, rfl, rfl, trivial⟩ T.sa ?_
  refine exc_osa X₄ hx₄ hcl (show refsVE (.ref C :: bm) = true from hbm) rfl T.noN (fun h₅ tk₅ dx k₅ dn dne hx₅ hn₅ => ?_)
  show wpAny _ _ (execs _ _) _ _ _
  exact wpAny_execs_nil (hq h₅ tk₅ dx t' ⟨fun b o hb e => k₅ b o hb (F₄.keep b o ((Heap.hide_ne hp hb).trans e)), hx₅, Nat.le_of_lt (Nat.lt_of_lt_of_le lt4 dn), dne, hn₅⟩)
end
end ErrX
end PySem

set_option Elab.async false
set_option linter.all false
set_option maxRecDepth 100000
set_option maxHeartbeats 2000000
namespace PySem
namespace ErrX
open PySem.W PySem.Calls PyProof.Rows PySem.HandSPX
section
variable {P : Program} {w : World} {A : Around} {R : Result → Shared → Prop} {s : Shared} {K : Frag} {mg mb : Str → Option Value} {nm fl msg : Str} {C fI : Addr}
theorem err_made (T : ErrTxt P K mg nm fl msg C fI) (hfl : fl = "index" ∨ fl = "number" ∨ fl = "part") {v : Value} (X : K.In s.heap) (G : s.heap.Ns mainGlobals mg) (Bn : s.heap.Ns builtinsNs mb) (hmb : mb "super" = bootBuiltins "super")
    (hlim : s.heap.NoLimit) (hroom : A.depth + 1 < recursionLimit)
    (hq : ∀ h' tk e d, OwnMade fl s.heap h' e C d v → R (.ok (.ret (.ref e))) { s with heap := h', toks := tk }) :
    codeAny (model P w) A (.call (.ref C) ⟨[v], []⟩) R s := by
  obtain ⟨nm', q, N, bs, bm, sn, sub, ab, col, dd, k0, k1, k2, k3, k5, hC, hbm⟩ := T.cls
  obtain ⟨hp, g, dr, tk, os⟩ := s
  have up : ∀ b o, hp.get? b = some o → ((hp.push (kdv_tup [v])).push (excO C hp.objs.size)).get? b = some o :=
    fun b o e => Heap.get?_push_of_some _ (Heap.get?_push_of_some _ e)
  have mine : ((hp.push (kdv_tup [v])).push (excO C hp.objs.size)).get? (hp.objs.size + 1) = some (excO C hp.objs.size) := by heap_get
  have free : K.lookup (hp.objs.size + 1) = none := by
    cases e : K.lookup (hp.objs.size + 1) with
    | none => rfl
    | some o => exact absurd (Nat.lt_of_succ_lt (Heap.lt_size (X _ _ e))) (Nat.lt_irrefl _)
  refine call_own F.excBase_ValueError (fun Y => refsVE_contains Y bm hbm) (X _ _ hC) (looks_findIn X T.iC) (fun self => bind_fn X self T.tC) (one_size v) ?_
  refine err_init (s := ⟨(hp.push (kdv_tup [v])).push (excO C hp.objs.size), g, dr, tk, os⟩) T hfl (X.keeps up) (G.keeps up) (Bn.keeps up) hmb (hlim.keeps up) free mine ?_ fun h' tk' dx t1 I => ?_
  · show A.depth + 1 < recursionLimit
    exact hroom
  · have old : ∀ b o, hp.get? b = some o → h'.get? b = some o := fun b o e => I.keep b o (Nat.ne_of_lt (Nat.lt_succ_of_lt (Heap.lt_size e))) (up b o e)
    have z : hp.objs.size + 1 + 1 ≤ dx := by
      have q := I.dbig
      first
        | exact q
        | (rw [Heap.size_push, Heap.size_push] at q; exact q)
        | (simpa only [Heap.size_push] using q)
    exact ⟨rfl, hq h' tk' (hp.objs.size + 1) dx ⟨old, Nat.le_succ _, ⟨_, _, I.obj, rfl, rfl, rfl, rfl⟩, Nat.le_trans (Nat.le_trans (Nat.le_succ _) (Nat.le_succ _)) z, I.dne, I.ns⟩⟩
end
end ErrX
end PySem
namespace L2
open PySem PySem.Spec PyProof.Rows
theorem relO_err {fl : Str} {v : V} {v' : Value} (r : RelV v v') (f : Str) : RelO (List.lookup f [(fl, v)]) (if f = fl then some v' else none) := by
  by_cases hw : f = fl
  · subst hw
    rw [if_pos rfl]
    have q : List.lookup f [(f, v)] = some v := by simp [List.lookup]
    rw [q]
    exact r
  · have e : (f == fl) = false := by simpa using hw
    rw [if_neg hw]
    simp [List.lookup, e, RelO]
section
variable {X : Cx} {nm fl msg : Str} {C fI : Addr}
/-- C(e): for every new dict d that holds the field -/
def tMkErr (fl : Str) (C : Addr) (ta : TA) : St → Hp → XK → Prop := fun σ H Q => ta σ H fun vs H1 => ∃ v, vs = [v] ∧ ∀ d, H1 d = none → Q (.ref C) (some d) (upd H1 d (.xd [(fl, v)]))
theorem pmk_err {a : Expr} {ta : TA} {p pos : Pos} {k : Nat} (T : PySem.ErrX.ErrTxt X.prog X.K X.mg nm fl msg C fI) (hfl : fl = "index" ∨ fl = "number" ∨ fl = "part") (hr : Room k X.A) (ha : PA X [a] ta) (hg : Gl X nm) (hd : (nm == ("__debug__" : Str)) = false)
    (he : starEach (a :: []) X.env = (false, eval a X.env) :: starEach [] X.env := by rfl) (hpl : (backTo pos (starEach [] X.env)).any (·.1) = false := by rfl) :
    PMk X (.Call (.Name nm p) [a] [] pos) (tMkErr fl C ta) := by
  intro pins s σ H Q I h
  refine wpAny_Call_Name_kw (ld_glob I hg T.gC ?_ hd)
  refine PySem.W.callWith_K (h₀ := X.base) I.ok.mod.kin T.kC (thn (ha.run pos pins s σ H _ I h) fun us s1 hh => ?_) he hpl
  obtain ⟨vs, H1, I1, r1, v, ev, q1⟩ := hh
  subst ev
  refine ⟨I1.kIn, ?_⟩
  cases r1 with
  | cons rv rn =>
    rename_i v' us'
    cases rn
    show wpAny _ _ (call (.ref C) [v']) _ _ _
    have hlim := I1.nolimit
    obtain ⟨mb, b1, b2⟩ := I1.mod.blt
    have gl := I1.mod.glob.keeps I1.bk
    have bl := b1.keeps I1.bk
    obtain ⟨hp, g, dr, tk, os⟩ := s1
    refine wpAny_call (PySem.ErrX.err_made T hfl I1.kIn gl bl (b2 _ (by decide)) hlim (by have := hr.dp; omega) fun h' tk' e d M => ?_)
    show MkP X pins σ Q (.ref e) ⟨h', g, dr, tk', os⟩
    obtain ⟨oe, fv, hoe, hc, hd', hdat, h1⟩ := M.obj
    have hns := M.ns
    obtain ⟨G', g1, g2⟩ := restrict h' fun b => decide (b ≠ e)
    have gk : ∀ b, b ≠ e → G'.get? b = h'.get? b := fun b hb => g1 b (decide_eq_true hb)
    have ge : G'.get? e = none := g2 e (by simp)
    have old : ∀ b o, hp.get? b = some o → G'.get? b = some o := fun b o q => (gk b (Nat.ne_of_lt (Nat.lt_of_lt_of_le (Heap.lt_size q) M.new))).trans (M.keep b o q)
    have ob : ObjOk X.prog X.w (upd H1 d (.xd [(fl, v)])) G' d (.xd [(fl, v)]) := ⟨_, hns.at (fun o q => (gk d M.dne).trans q), fun f => relO_err rv f⟩
    have J : Inv X pins σ (upd H1 d (.xd [(fl, v)])) ⟨G', g, dr, tk', os⟩ := I1.laid (t' := tk') old M.dbig ob
    refine ⟨e, oe, fv, ⟨G', g, dr, tk', os⟩, _, .ref C, some d, rfl, J, fun b o q => ?_, ge, hoe, ⟨hc, hd'⟩, hdat, h1, ?_, rfl, I1.bare, raises_own T.exC T.tyC, q1 d (I1.hok.fresh M.dbig)⟩
    · by_cases hb : b = e
      · have q' : G'.get? b = some o := q
        rw [hb, ge] at q'
        cases q'
      · exact (gk b hb).symm.trans q
    · rw [upd_ne (Ne.symm M.dne)]
      exact I1.hok.fresh M.new
/-- raise C(e) -/
def tRaiseErr (fl : Str) (C : Addr) (W : WX) (ta : TA) : TS := fun _ σ H => tMkErr fl C ta σ H fun cls d H' => W cls d σ H'
theorem ps_raiseErr {a : Expr} {ta : TA} {W : WX} {p pos pos2 : Pos} {k : Nat} (hc : X.calm = true) (T : PySem.ErrX.ErrTxt X.prog X.K X.mg nm fl msg C fI) (hfl : fl = "index" ∨ fl = "number" ∨ fl = "part") (hr : Room k X.A) (tk : Takes X W) (ha : PA X [a] ta) (hg : Gl X nm) (hd : (nm == ("__debug__" : Str)) = false)
    (he : starEach (a :: []) X.env = (false, eval a X.env) :: starEach [] X.env := by rfl) (hpl : (backTo pos (starEach [] X.env)).any (·.1) = false := by rfl) :
    PS X (.Raise (some (.Call (.Name nm p) [a] [] pos)) none pos2) (tRaiseErr fl C W ta) := ps_raise hc tk (pmk_err T hfl hr ha hg hd he hpl)
/-- e.field, e the exception that the suite holds (at a; its class cls, its dict d) -/
def tFldErr (fl : Str) (C : Addr) (a : Addr) (cls : Value) (d : Option Addr) (te : TE) : TE := fun σ H Q => te σ H fun x H1 => x = .ref a ∧ cls = .ref C ∧ ∃ (dd : Addr) (v : V), d = some dd ∧ H1 dd = some (.xd [(fl, v)]) ∧ Q v H1
theorem pe_fldErr {a : Addr} {oe : Obj} {cls : Value} {d : Option Addr} {pn : List (Addr × Obj)} {e : Expr} {te : TE} {pos : Pos} (T : PySem.ErrX.ErrTxt X.prog X.K X.mg nm fl msg C fI) (hz : Zc cls d oe) (hf : ∃ vs, oe.data = .fields vs) (he : PE (X.suite a ((a, oe) :: pn)) e te)
    (hb : attributeBase e fl X.env (eval e X.env) = eval e X.env := by rfl) :
    PE (X.suite a ((a, oe) :: pn)) (.Attribute e fl pos) (tFldErr fl C a cls d te) := by
  refine ⟨fun pins s σ H Q I h => ?_⟩
  refine attr_of hb (thn (he.run pins s σ H _ I h) fun u s1 hh => ?_)
  obtain ⟨x, H1, I1, rx, ex, ec, dd, v, ed, ea, q⟩ := hh
  subst ex
  obtain rfl : u = Value.ref a := rx
  subst ec
  subst ed
  obtain ⟨ha, _⟩ := I1.pin (a, oe) (List.mem_append_left _ List.mem_cons_self)
  obtain ⟨vs, hd⟩ := hf
  have hx : ObjOk X.prog X.w H1 s1.heap dd (.xd [(fl, v)]) := I1.hok dd _ ea
  obtain ⟨mA, hns, hr⟩ := hx
  obtain ⟨od, ho, hl⟩ := lookIn_ns hns
  have l : List.lookup fl [(fl, v)] = some v := by simp [List.lookup]
  obtain ⟨u, hu, ru⟩ := RelO.some_of (v := v) (o := mA fl) (by rw [← l]; exact hr fl)
  have J : PySem.W.InstAt s1.heap a oe C (some od) := ⟨ha, hz.1, by unfold PySem.W.notCls; rw [hd] <;> rfl, by rw [hz.2]; exact ho⟩
  exact PySem.HandSPX.exc_get I1.kIn J T.ga T.gg T.exC (PySem.W.findObj_own T.hdC T.noN rfl (by rw [hl, hu])) (handed_of ru) ⟨v, H1, I1.tok _, ru, q⟩
end
end L2

set_option Elab.async false
set_option linter.all false
set_option maxRecDepth 100000
set_option maxHeartbeats 2000000
namespace Y
open PySem L2
/-! calls that may raise, for a try around: what is wanted of an error may speak of the slots -/
section
variable {X : Cx} {CX : CXT} {k : Nat} {f C : Addr} {fd : FuncData} {ps : List Str} {sp : Sp}
theorem run_fnT {A : Around} {pins : List (Addr × Obj)} {σ : St} {H : Hp} {s : Shared} {Q : VK} {E : XK} {us ds : List Value} {vs dvs : List V} (hf : A.frames = X.A.frames) (F : FnOk X.prog X.w X.K X.mg X.base CX k f fd ps sp) (hr : Room k A) (hb : Binds X.K fd ps ds) (hd : Vals dvs ds) (hx : PassesAt CX X σ E)
    (I : Inv X pins σ H s) (r : Vals vs us) (h : sp (vs ++ dvs) H Q E) : wpAny (model X.prog X.w) A (call (.ref f) us) (EP X pins σ Q) X.xe s := by
  have r2 := r.append hd
  have len : (us ++ ds).length = ps.length := r2.length.symm.trans (F.len _ _ _ _ h)
  have e := I.env0
  have e0 : Env0 X.prog X.w X.K X.mg X.base A X.stack s H := ⟨hf.trans e.frames, e.mod, e.bs, e.bsz, e.funs, e.frf, e.hok, e.bare⟩
  refine wpAny_call (codeAny_mono (F.run A X.stack s H ⟨us, []⟩ _ _ Q E hr e0 (hb s us I.kIn len) r2 h) fun r t hq => ?_)
  rcases r with x | fl
  · exact hx pins H s x t I hq
  · cases fl <;> first | exact I.after hq | exact hq.elim
def tOpS (r : St → R2) (ta tb : TE) : TE := fun σ H Q => ta σ H fun x H1 => tb σ H1 fun y H2 => r σ x y H2 Q
/-- a + b of two instances, their class's own __add__ may raise -/
theorem pe_addOS {E : St → XK} {a b : Expr} {ta tb : TE} {pos : Pos} (hs : PySem.W.findIn X.K (.ref C) "__add__" = some (some (.ref f))) (hf : PySem.W.isFn X.K (.ref f) = true) (hc : PySem.W.selfFirst X.K C = true) (F : FnOk X.prog X.w X.K X.mg X.base CX k f fd ps sp) (hr : Room k X.A) (hb : Binds X.K fd ps [])
    (hx : ∀ σ, PassesAt CX X σ (E σ)) (ha : PE X a ta) (hb2 : PE X b tb) : PE X (.BinOp a .Add b pos) (tOpS (fun σ => rAddO C sp (E σ)) ta tb) := by
  refine ⟨fun pins s σ H Q I h => wpAny_BinOp (binT ha hb2 I (R := fun x y H2 => rAddO C sp (E σ) x y H2 Q) h fun v u s2 x y H2 I2 rx ry q => ?_)⟩
  obtain ⟨a, b, dx, dy, fs, gs, rfl, rfl, e1, e2, q⟩ := q
  obtain rfl : v = Value.ref a := rx
  obtain rfl : u = Value.ref b := ry
  obtain ⟨_, O, _⟩ := ins_get I2.hok e1
  obtain ⟨_, J, _⟩ := O.look
  obtain ⟨_, O', _⟩ := ins_get I2.hok e2
  obtain ⟨_, J', _⟩ := O'.look
  obtain ⟨m, fr⟩ := I2.fr
  refine PySem.W.binop_K (op := .Add) fr I2.ok.mod.kin J J'.type hc hs hf (thn (run_fnT (A := X.A) (vs := [.ref a, .ref b]) (dvs := []) (ds := []) rfl F hr hb .nil (hx σ) I2 (.cons rfl (.cons rfl .nil)) q) fun w s1 hw => ?_)
  obtain ⟨z, H1, I1, rz, q1⟩ := hw
  have nn : w ≠ .notImplemented := fun e => by
    subst e
    cases z <;> first
      | exact nomatch (show Value.notImplemented = _ from rz)
      | (obtain ⟨t, e⟩ := rz; cases e)
  cases w <;> first
    | exact absurd rfl nn
    | exact ⟨z, H1, I1, rz, q1⟩
/-- o[i], the class's own __getitem__ may raise -/
theorem pe_ixOS {E : St → XK} {a b : Expr} {ta tb : TE} {pos : Pos} (hs : PySem.W.findIn X.K (.ref C) "__getitem__" = some (some (.ref f))) (hf : PySem.W.isFn X.K (.ref f) = true) (hn : PySem.W.fnIn X.K f = true) (F : FnOk X.prog X.w X.K X.mg X.base CX k f fd ps sp) (hr : Room (k + 1) X.A) (hb : Binds X.K fd ps [])
    (hx : ∀ σ, PassesAt CX X σ (E σ)) (ha : PE X a ta) (hi : PE X b tb) (hsl : ∀ o i, subscripted b true o i = runValue (.builtin "lifetime.subscript" ⟨[o, i], []⟩) := by intro _ _; with_unfolding_all rfl) :
    PE X (.Subscript a b pos) (tOpS (fun σ => rIxO C sp (E σ)) ta tb) := by
  refine ⟨fun pins s σ H Q I h => PyProof.Rows.Subscript_ (binT ha hi I (R := fun x y H2 => rIxO C sp (E σ) x y H2 Q) h fun v u s2 x y H2 I2 rx ry q => ?_)⟩
  obtain ⟨o, dx, fs, rfl, ho, q⟩ := q
  obtain rfl : v = Value.ref o := rx
  obtain ⟨_, O, _⟩ := ins_get I2.hok ho
  obtain ⟨_, J, _⟩ := O.look
  obtain ⟨_, fr⟩ := I2.fr
  exact PySem.W.sub_K fr I2.ok.mod.kin J hs hn hf (run_fnT (A := X.A.in1) (vs := [.ref o, y]) (dvs := []) (ds := []) rfl F hr.in1 hb .nil (hx σ) I2 (.cons rfl (.cons ry .nil)) q) (hsl _ _)
/-- o.m(..), which may raise -/
def tMethS (C : Addr) (m : Str) (sp : Sp) (E : St → XK) (ta : TE) (t : TA) : TE := fun σ H Q => ta σ H fun x H1 => ∃ a dx fs, x = .ref a ∧ H1 a = some (.ins C dx fs) ∧ fs.lookup m = none ∧ t σ H1 fun vs H2 => sp (x :: vs) H2 Q (E σ)
theorem pe_methS {m : Str} {E : St → XK} {o e : Expr} {es : List Expr} {ta : TE} {t : TA} {apos pos : Pos} {pl : Sem Bool} (ho : PE X o ta) (c : Cls X.K C) (hm : Meth X.K C m f) (F : FnOk X.prog X.w X.K X.mg X.base CX k f fd ps sp) (hr : Room k X.A) (hb : Binds X.K fd ps []) (hx : ∀ σ, PassesAt CX X σ (E σ)) (ha : PA X (e :: es) t)
    (hst : starEach (e :: es) X.env = (false, eval e X.env) :: starEach es X.env := by rfl) (hpl : (backTo pos (starEach es X.env)).any (·.1) = false := by rfl)
    (ht : eval (.Call (.Attribute o m apos) (e :: es) [] pos) X.env = (do
      let ov ← eval o X.env
      standAt apos.atName
      let (g, first) ← holding [ov] (getMethod ov m pl)
      callWith pos g first (backTo pos (starEach (e :: es) X.env)) (backToKw pos (keywordEach [] X.env))) := by rfl) :
    PE X (.Call (.Attribute o m apos) (e :: es) [] pos) (tMethS C m sp E ta t) := by
  refine ⟨fun pins s σ H Q I h => PySem.W.methodCall_KW (pl := pl) (thn (ho.run pins s σ H _ I h) fun z s1 hz => ?_) ht⟩
  obtain ⟨x, H1, I1, rx, a, dx, fs, rfl, ea, l, q⟩ := hz
  obtain rfl : z = Value.ref a := rx
  refine getmeth_ok I1 ea c hm l (PySem.W.callWith_K (first := [.ref a]) (h₀ := X.base) I.ok.mod.kin hm.kp (thn (ha.run pos pins s1 σ H1 _ I1 q) fun us s2 hu => ?_) hst hpl)
  obtain ⟨vs, H2, I2, r, q2⟩ := hu
  refine ⟨I2.kIn, run_fnT (us := .ref a :: us) (vs := .ref a :: vs) (dvs := []) (ds := []) rfl F hr hb .nil (hx σ) I2 (.cons rfl r) ?_⟩
  rw [List.append_nil]
  exact q2
/-- C(..), whose own __init__ may raise -/
def tMakeS (C : Addr) (sp : Sp) (E : St → XK) (t : TA) : TE := fun σ H Q => t σ H fun vs H1 => ∀ x dx, H1 x = none → H1 dx = none → dx ≠ x → sp (.ref x :: vs) (upd (upd H1 dx (.own x)) x (.ins C dx [])) (fun v H2 => v = .non ∧ Q (.ref x) H2) (E σ)
theorem run_makeS {pins : List (Addr × Obj)} {σ : St} {H : Hp} {s : Shared} {Q : VK} {E : XK} {us : List Value} {vs : List V} (M : Mk X.K C f) (F : FnOk X.prog X.w X.K X.mg X.base CX k f fd ps sp) (hr : Room (k + 1) X.A) (hb : Binds X.K fd ps [])
    (hx : PassesAt CX X σ E) (I : Inv X pins σ H s) (r : Vals vs us) (h : ∀ x dx, H x = none → H dx = none → dx ≠ x → sp (.ref x :: vs) (upd (upd H dx (.own x)) x (.ins C dx [])) (fun v H2 => v = .non ∧ Q (.ref x) H2) E) :
    wpAny (model X.prog X.w) X.A (call (.ref C) us) (EP X pins σ Q) X.xe s := by
  have q := h (s.heap.objs.size + 1) s.heap.objs.size (I.hok.fresh (Nat.le_succ _)) (I.hok.fresh (Nat.le_refl _)) (Nat.ne_of_lt (Nat.lt_succ_self _))
  have J := Inv.made (C := C) I
  have r2 : Vals (V.ref (s.heap.objs.size + 1) :: vs) (Value.ref (s.heap.objs.size + 1) :: us) := .cons rfl r
  have len : (Value.ref (s.heap.objs.size + 1) :: us ++ []).length = ps.length := by
    rw [List.append_nil]
    exact r2.length.symm.trans (F.len _ _ _ _ q)
  have bd := hb _ (Value.ref (s.heap.objs.size + 1) :: us) J.kIn len
  rw [List.append_nil] at bd
  refine wpAny_call (make_map (f := f) I.kIn M.makes M.init (beq_iff_eq.mp M.fn) (codeAny_mono (F.run _ X.stack _ _ ⟨Value.ref (s.heap.objs.size + 1) :: us, []⟩ _ _ _ E (hr.make C us []) (J.env0.make C us []) bd r2 q) fun r t hq => ?_))
  rcases r with x | fl
  · exact hx pins _ _ x t J hq
  · cases fl with
    | ret u =>
      obtain ⟨v, H', I3, rv, rfl, q3⟩ := J.after hq
      exact ⟨rv, V.ref (s.heap.objs.size + 1), H', I3, rfl, q3⟩
    | next => exact hq.elim
    | brk => exact hq.elim
    | cont => exact hq.elim
theorem pe_makeS {x : Str} {E : St → XK} {e : Expr} {es : List Expr} {t : TA} {p pos : Pos} (M : Mk X.K C f) (F : FnOk X.prog X.w X.K X.mg X.base CX k f fd ps sp) (hr : Room (k + 1) X.A) (hg : Gl X x) (hm : X.mg x = some (.ref C)) (hb : Binds X.K fd ps []) (hx : ∀ σ, PassesAt CX X σ (E σ))
    (ha : PA X (e :: es) t) (hdb : (x == ("__debug__" : Str)) = false := by decide) (he : starEach (e :: es) X.env = (false, eval e X.env) :: starEach es X.env := by rfl) (hpl : (backTo pos (starEach es X.env)).any (·.1) = false := by rfl) :
    PE X (.Call (.Name x p) (e :: es) [] pos) (tMakeS C sp E t) :=
  ⟨fun pins s σ H Q I h => wpAny_Call_Name_kw (ld_glob I hg hm (PySem.W.callWith_K (h₀ := X.base) I.ok.mod.kin M.kp (thn (ha.run pos pins s σ H _ I h) fun us s1 hu => by
    obtain ⟨vs, H1, I1, r, q⟩ := hu
    exact ⟨I1.kIn, run_makeS M F hr hb (hx σ) I1 r q⟩) he hpl) hdb)⟩
end
end Y
namespace Y
open PySem L2
/-- a call of what may raise, where it does not -/
theorem passX0 {X : Cx} : Passes (L2.CX X.prog X.w) X (fun _ _ _ => False) := passes_call (W := fun _ _ _ _ => False) takes0 fun _ _ _ _ z => z
end Y

set_option Elab.async false
set_option linter.all false
set_option maxRecDepth 100000
set_option maxHeartbeats 2000000
namespace PySem
namespace ErrX
open PySem.W PySem.Calls PyProof.Rows PySem.Spec
section
variable {prog : Program} {w : World} {A : Around} {E : Value → Shared → Prop} {s : Shared} {K : Frag} {x D : Addr} {ox : Obj} {od : Option Obj}
theorem find_data {name : Str} {a g : Value} (hc : (clsIn K D).isSome = true) (ha : findIn K (.ref D) name = some (some a)) (hg : specialIn K a "__get__" = some (some g)) (ht : takesIn K a = some true) : findObj K D od name = some (.bind g a) := by
  obtain ⟨cd, e⟩ := Option.isSome_iff_exists.mp hc
  unfold findObj
  rw [e, Option.bind_some, ha, Option.bind_some]
  cases od <;> simp [hg, ht]
/-- e.__class__ of an own error, whatever its dict holds -/
theorem cls_asked {Q : Option Value → Shared → Prop} (Y : L2.ExcC K D) (X : K.In s.heap) (J : InstAt s.heap x ox D od) (h : Q (some (.ref D)) { s with toks := s.toks + 1 }) : wpAny (model prog w) A (getAttr? (.ref x) "__class__") Q E s := by
  have found : findObj K D od "__class__" = some (.bind (.builtin "getset_descriptor.__get__") (.builtin "object.__class__")) :=
    find_data (by obtain ⟨c, e, _⟩ := any_some Y.hd; rw [e]; rfl) Y.ha Y.hn Y.ht
  rcases s with ⟨hh, gg, dd, tt, oo⟩
  have a0 := J.type (M := model prog w)
  have a1 := looks_findIn (M := model prog w) X Y.hg
  have a2 := looks_findIn (M := model prog w) X Y.hk
  have a3 := looks_find (M := model prog w) X J found
  have base : Looks (model prog w) hh (isInstance (.ref x) (.type "BaseException")) true := a0.andThen (looks_subIn X Y.hs)
  have other : (Value.builtin "BaseException.__getattribute__" == Value.builtin "object.__getattribute__") = false := by decide +kernel
  unfold getAttr? getAttrBy? getAttrBy
  refine wpAny_bind (wpAny_mkText (wpAny_bind (wpAny_attempt (wpAny_holding (wpAny_bind (a0.at (wpAny_bind (a1.at ?_))))))))
  simp only [other, Bool.and_false, Bool.false_eq_true, if_false]
  unfold getAttrByItsOwn hookBefore
  refine wpAny_bind ?_
  simp only [show onTheHeap (Value.ref D) = true from rfl, if_true]
  refine a2.at (wpAny_bind (wpAny_attempt (wpAny_holding ?_)))
  unfold callGetattribute
  simp only [Bool.false_and, Bool.false_eq_true, if_false]
  unfold boundAndCalled
  rw [PySem.F.excAttr_ValueError.ga.bind (.ref x)]
  refine wpAny_bind (wpAny_pure (wpAny_call (codeAny_call_builtin PySem.F.excAttr_ValueError.ga.plain PySem.F.entry_bexc_ga
    (@check_slot (model prog w) _ _ ⟨hh, gg, dd, tt + 1, oo⟩ "BaseException.__getattribute__" "BaseException" "__getattribute__" (.ref x) [.str "__class__" tt] [] _ (by decide +kernel) (by decide +kernel) base (PySem.F.args_bexc_ga (.ref x) (.str "__class__" tt)) ?_))))
  unfold Builtin.«object.__getattribute__»
  refine wpAny_bind (wpAny_of_eq (a := ((Value.ref x : Value), [Value.str "__class__" tt])) (by first | rfl | (simp only [slotArgs]; rfl)) (wpAny_bind (wpAny_pure (wpAny_bind (a0.at (wpAny_bind (a3.at ?_)))))))
  show wpAny _ _ (holding [_] (call (.builtin "getset_descriptor.__get__") [.builtin "object.__class__", .ref x, .ref D]) >>= ret) _ _ _
  refine wpAny_bind (wpAny_holding (wpAny_call (class_get (s := ⟨hh, gg, dd, tt + 1, oo⟩) (ox := ox) (od := od) X J Y.hm (wpAny_pure ?_))))
  show wpAny _ _ (handedOut (.ref D)) _ _ _
  rw [handedOut_of (v := .ref D) rfl]
  first
    | exact wpAny_pure h
    | exact wpAny_pure (wpAny_pure h)
    | exact wpAny_pure (wpAny_bind (wpAny_pure (wpAny_pure h)))
theorem cls_at {h : Heap} {cd : ClassData} (X : K.In h) (e : clsIn K D = some cd) : ∃ o, h.get? D = some o ∧ o.data = .cls cd := by
  unfold clsIn at e
  split at e
  · rename_i z
    cases e
    exact ⟨_, X _ _ z, rfl⟩
  · cases e
theorem kitx_err (Y : L2.ExcC K D) : KitX K (.ref x) (.ref D) (fun h => InstAt h x ox D od) where
  ty := fun _ _ _ J => J.type
  it := fun _ h X _ A Q E t k q => by
    obtain ⟨c, e, _⟩ := any_some Y.hd
    obtain ⟨o, e1, e2⟩ := cls_at X e
    obtain ⟨hp, g, d, t, os⟩ := t
    exact ks_wpAny_isType_cls (k _ _ e1) e2 q
  ne := (PySem.W.handS_kitx_exc (x := x) (ox := ox) Y.hg Y.hk Y.hs Y.hd Y.ha Y.hn Y.ht Y.hm).ne
  ca := fun X J k => cls_asked Y X J k
end
end ErrX
end PySem

namespace L2
open PySem PySem.Spec PyProof.Rows
/-- isinstance(e, c), e the exception that the suite holds at a, whatever its own dict holds -/
def rIsErr (K : PySem.W.Frag) (D a : Addr) (cls : Value) (d : Option Addr) : List V → Hp → VK → Prop := fun xs H Q => ∃ (c : V) (cv : Value) (b : Bool) (dd : Addr) (fs : List (Str × V)), d = some dd ∧ H dd = some (.xd fs) ∧ cls = .ref D ∧ xs = [.ref a, c] ∧ (∀ u, RelV c u → u = cv) ∧ PySem.W.kitOne K (.ref D) cv = some b ∧ Q (.bl b) H
theorem call_isErr {X : Cx} {a D : Addr} {cls : Value} {d : Option Addr} {oe : Obj} {pn : List (Addr × Obj)} (Y : ExcC X.K D) (hz : Zc cls d oe) (hf : ∃ vs, oe.data = .fields vs) :
    CallR (X.suite a ((a, oe) :: pn)) (.builtin "isinstance") (rIsErr X.K D a cls d) := by
  intro pins s σ H xs us Q I r h
  obtain ⟨c, cv, b, dd, fs, rfl, hd, rfl, rfl, hcv, e, q⟩ := h
  obtain ⟨u, v, rfl, rx, rt⟩ := vals2 r
  obtain rfl : u = Value.ref a := rx
  obtain rfl := hcv _ rt
  obtain ⟨ha, _⟩ := I.pin (a, oe) (List.mem_append_left _ List.mem_cons_self)
  obtain ⟨vs, hv⟩ := hf
  have ob : ObjOk X.prog X.w H s.heap dd (.xd fs) := I.hok dd _ hd
  obtain ⟨mA, hns, hr⟩ := ob
  obtain ⟨od, ho, hl⟩ := lookIn_ns hns
  have J : PySem.W.InstAt s.heap a oe D (some od) := ⟨ha, hz.1, by unfold PySem.W.notCls; rw [hv], by rw [hz.2]; exact ho⟩
  exact PySem.W.kia_one (PySem.ErrX.kitx_err Y) I.kIn J e (fun z => nomatch z) fun tk => ⟨.bl b, H, I.kept (t' := tk) fun _ _ z => z, rfl, q⟩
end L2

set_option Elab.async false
set_option linter.all false
set_option maxRecDepth 100000
set_option maxHeartbeats 2000000
namespace Y
open PySem L2
section
variable {X : Cx} {CX : CXT} {k : Nat} {f C : Addr} {fd : FuncData} {ps : List Str} {sp : Sp} {E : XK}
/-- a == b of two instances, by their class's own __eq__ -/
def rEqO (C : Addr) (sp : Sp) (E : XK) : R2 := fun x y H Q => ∃ a b dx dy fs gs, x = .ref a ∧ y = .ref b ∧ H a = some (.ins C dx fs) ∧ H b = some (.ins C dy gs) ∧ sp [.ref a, .ref b] H (fun v H' => ∃ t, v = .bl t ∧ Q v H') E
theorem op_eqO (hs : PySem.W.findIn X.K (.ref C) "__eq__" = some (some (.ref f))) (hf : PySem.W.isFn X.K (.ref f) = true) (F : FnOk X.prog X.w X.K X.mg X.base CX k f fd ps sp) (hr : Room k X.A) (hb : Binds X.K fd ps []) (hx : Passes CX X E) :
    OpR X (compareOp .Eq) (rEqO C sp E) := by
  intro pins s σ H x y v u Q I rx ry h
  obtain ⟨a, b, dx, dy, fs, gs, rfl, rfl, ha, hb', q⟩ := h
  obtain rfl : v = Value.ref a := rx
  obtain rfl : u = Value.ref b := ry
  obtain ⟨_, O, _⟩ := ins_get I.hok ha
  obtain ⟨_, J, _⟩ := O.look
  obtain ⟨_, O', _⟩ := ins_get I.hok hb'
  obtain ⟨_, J', _⟩ := O'.look
  obtain ⟨m, fr⟩ := I.fr
  show wpAny (model X.prog X.w) X.A (richCompare .Eq (.ref a) (.ref b)) _ _ _
  refine PySem.W.cmp_K (op := .Eq) (tb := .ref C) hr.units0 fr I.ok.mod.kin J J'.type (by simp [PySem.W.notFirst]) hs hf (thn (run_fnA (A := X.A) (vs := [.ref a, .ref b]) rfl F hr hb hx I (.cons rfl (.cons rfl .nil)) q) fun w s1 hw => ?_)
  obtain ⟨z, H1, I1, rz, t, rfl, q1⟩ := hw
  obtain rfl : w = Value.bool t := rz
  exact ⟨.bl t, H1, I1, rfl, q1⟩
end
end Y

set_option Elab.async false
set_option linter.all false
set_option maxRecDepth 100000
namespace Y
open PySem L2
/-! ### what the laws of right scripts want beside -/
/-- nothing but the object at a is otherwise -/
def But (a : Addr) (H H' : Hp) : Prop := ∀ b o, H b = some o → b ≠ a → H' b = some o
theorem But.refl (a : Addr) (H : Hp) : But a H H := fun _ _ e _ => e
theorem But.trans {a : Addr} {H H1 H2 : Hp} (h : But a H H1) (k : But a H1 H2) : But a H H2 := fun b o e n => k b o (h b o e n) n
theorem But.of {a : Addr} {H H' : Hp} (h : Same H H') : But a H H' := fun b o e _ => h b o e
theorem But.at_ {a b : Addr} {H H' : Hp} {o : HO} (h : But a H H') (e : H b = some o) (n : b ≠ a) : H' b = some o := h b o e n
theorem But.free {a b : Addr} {H H' : Hp} (h : But a H H') (n : H' b = none) (na : b ≠ a) : H b = none := by
  cases e : H b with
  | none => rfl
  | some o =>
    rw [h b o e na] at n
    cases n
theorem Same.none_of {H H' : Hp} (e : Same H H') {p : Addr} (h : H' p = none) : H p = none := by
  cases q : H p with
  | none => rfl
  | some o =>
    rw [e _ _ q] at h
    cases h
theorem Same.new {H : Hp} {p : Addr} {o : HO} (n : H p = none) : Same H (upd H p o) := fun _ _ e => lk_new e n
/-- a new object, changed -/
theorem Same.upd_new {H H' : Hp} {p : Addr} {o : HO} (s : Same H H') (n : H p = none) : Same H (upd H' p o) := fun b u e => lk_ne (s b u e) (ne_of_none e n)
theorem But.upd_new {a : Addr} {H H' : Hp} {p : Addr} {o : HO} (s : But a H H') (n : H p = none) : But a H (upd H' p o) := fun b u e na => lk_ne (s b u e na) (ne_of_none e n)
theorem dp_kt {K : PySem.W.Frag} {H : Hp} {a : Addr} {xs : List V} {its : List Value} {ds : List PyData} {d : Option Addr} {n : Nat} {sl : Array (Option Value)} (h : K.lookup a = some ⟨.type "tuple", d, .seq its.toArray n, sl⟩) (hl : its.length ≤ 1000)
    (hv : Vals xs its) (hd : DpAll K H xs ds) : Dp K H (.ref a) (.tuple ds) :=
  .tup (.inr ⟨_, _, n, h, rfl, rfl, by rw [List.size_toArray]; exact Nat.le_trans hl (by decide), by simpa using hv⟩) hd
theorem Dp.tupS {K : PySem.W.Frag} {H : Hp} {v : V} {ds : List PyData} (h : Dp K H v (.tuple ds)) : ∃ a xs, v = .ref a ∧ SqT K H a xs ∧ DpAll K H xs ds := by
  cases h with
  | tup h1 h2 => exact ⟨_, _, rfl, h1, h2⟩
theorem DpAll.length {K : PySem.W.Frag} {H : Hp} : ∀ {xs : List V} {ds : List PyData}, DpAll K H xs ds → xs.length = ds.length
  | _, _, .nil => rfl
  | _, _, .cons _ t => congrArg Nat.succ (DpAll.length t)
section
variable {X : Cx} (K : PySem.W.Frag)
theorem cr_maxk (hc : X.calm = true) (h : X.K = K := by rfl) : CallR X (.builtin "max") (rMax K) := by subst h; exact cr_max hc
theorem cr_mink (hc : X.calm = true) (h : X.K = K := by rfl) : CallR X (.builtin "min") (rMin K) := by subst h; exact cr_min hc
/-- l.count(y), data -/
def rCntD (K : PySem.W.Frag) : V → List V → Hp → VK → Prop := fun x vs H Q => ∃ p ds d y, x = .ref p ∧ vs = [y] ∧ Dp K H (.ref p) (.list ds) ∧ Dp K H y d ∧ SeqAt.shaped (.list ds) = true ∧ SeqAt.shaped d = true ∧ Q (.int ((ds.countP fun z => PyData.eqv z d : Nat) : Int)) H
theorem mt_cntDk (hu : X.A.units + 65 < cLine) (h : X.K = K := by rfl) : MtR X "list.count" (rCntD K) := by
  subst h
  intro pins s σ H x xs v us Q I rx rxs h
  obtain ⟨p, ds, d, y, rfl, rfl, h1, h2, s1, s2, q⟩ := h
  cases rx
  obtain ⟨u, rfl, ru⟩ := rxs.one
  cases h1 with
  | lst hs ha =>
    obtain ⟨its, rv, ⟨o, n, ho, hc, hdn, hd⟩, hlen⟩ := I.list hs
    obtain ⟨as, r1⟩ := Dp.readsAll I ds _ its ha rv
    obtain ⟨bs, r2⟩ := Dp.reads I d y u h2 ru
    have c1 := SeqAt.canLay_of_shaped s1
    have c2 := SeqAt.canLay_of_shaped s2
    have c1' : PyData.canLayAll0 ds = true := by simpa [PyData.canLay0] using c1
    have dd := SeqAt.depth_of_shaped s2
    refine SeqAt.count_list_data (xs := ds) (d := d) (vs := its.toArray) ⟨o, ho, hc, n, hd⟩ (by simpa using r1) r2 (PyData.plainAll_of_canLay0 _ c1') (PyData.plain_of_canLay0 _ c2) ?_ ⟨.int _, H, I.tok _, ⟨_, rfl⟩, q⟩
    have := Nat.min_le_right (PyData.depthAll ds) d.depth
    omega
end
def rInsert : V → List V → Hp → VK → Prop := fun x vs H Q => ∃ (l : Addr) (xs : List V) (i : Int) (y : V), x = .ref l ∧ vs = [.int i, y] ∧ H l = some (.lst xs) ∧ xs.length < sizeLine ∧ 0 ≤ i ∧ i < 2 ^ 63 ∧ Q .non (upd H l (.lst (xs.take i.toNat ++ [y] ++ xs.drop i.toNat)))
theorem mt_insertk {X : Cx} : MtR X "list.insert" rInsert := mt_insert
section
variable {K : PySem.W.Frag} {σ : St} {H : Hp} {Q : VK} {a b p : Addr} {xs ys : List V} {x y v : V} {i : Int} {lo hi : Option Int} {Qs : St → Hp → Prop} {t : TG} {tg : TGs} {n : Nat} {nx : St → Hp → Prop}
theorem k_insert (h : H a = some (.lst xs)) (hl : xs.length < 100000) (h0 : 0 ≤ i) (h1 : i < 2 ^ 62) (q : Q .non (upd H a (.lst (xs.take i.toNat ++ [y] ++ xs.drop i.toNat)))) : fBM2 rInsert (.ref a) Q [.int i, y] H :=
  ⟨a, xs, i, y, rfl, rfl, h, Nat.lt_of_lt_of_le hl (by decide), h0, by omega, q⟩
theorem k_count {ds : List PyData} {d : PyData} (h1 : Dp K H (.ref a) (.list ds)) (h2 : Dp K H y d) (s1 : SeqAt.shaped (.list ds) = true) (s2 : SeqAt.shaped d = true) (q : Q (.int ((ds.countP fun z => PyData.eqv z d : Nat) : Int)) H) : fBM2 (rCntD K) (.ref a) Q [y] H :=
  ⟨a, ds, d, y, rfl, rfl, h1, h2, s1, s2, q⟩
theorem k_max1 {ns : List Int} (h : SqL K H a (ns.map V.int)) (hl : 0 < ns.length) (q : ∀ m, m ∈ ns → (∀ y, y ∈ ns → y ≤ m) → Q (.int m) H) : fCB (rMax K) Q [.ref a] H := ⟨a, ns, rfl, h, hl, q⟩
theorem k_min1 {ns : List Int} (h : SqL K H a (ns.map V.int)) (hl : 0 < ns.length) (q : ∀ m, m ∈ ns → (∀ y, y ∈ ns → m ≤ y) → Q (.int m) H) : fCB (rMin K) Q [.ref a] H := ⟨a, ns, rfl, h, hl, q⟩
theorem k_slL (h : SqL K H a xs) (q : ∀ p, H p = none → Q (.ref p) (upd H p (.lst (cutV xs lo hi)))) : rSlU K (.ref a) lo hi H Q := .inr ⟨a, xs, rfl, h, q⟩
theorem cutV_all (h : HT.sIx xs.length 0 lo = 0 ∧ HT.sIx xs.length xs.length hi = xs.length) : cutV xs lo hi = xs := by
  unfold cutV
  rw [h.1, h.2]
  simp
theorem k_slT (h : SqT K H a xs) (q : ∀ (p : Addr) (H' : Hp), Same H H' → SqT K H' p (cutV xs lo hi) → Q (.ref p) H') : rSlU K (.ref a) lo hi H Q :=
  .inl ⟨a, xs, rfl, h, fun e => q a H (Same.refl H) (by rw [cutV_all e]; exact h), fun _ p n => q p _ (fun c o e => lk_new e n) (SqT.of upd_same)⟩
theorem k_catL (h1 : H a = some (.lst xs)) (h2 : H b = some (.lst ys)) (hl : xs.length + ys.length ≤ 100000) (q : ∀ p, H p = none → Q (.ref p) (upd H p (.lst (xs ++ ys)))) : fOp2 (rAddU K) (.ref a) Q (.ref b) H :=
  .inr ⟨a, b, xs, ys, rfl, rfl, h1, h2, Nat.le_trans hl (by decide), q⟩
theorem k_unp (h : SqT K H p xs) (hn : xs.length = n) (q : tg xs σ H Qs) : gTup K n tg (.ref p) σ H Qs := ⟨p, xs, rfl, h, hn, q⟩
theorem e_gcons : gCons t tg (x :: xs) σ H Qs = t x σ H (fun σ1 H1 => tg xs σ1 H1 Qs) := propext ⟨fun ⟨v, r, e, q⟩ => by cases e; exact q, fun q => ⟨x, xs, rfl, q⟩⟩
theorem e_gnil : gNil [] σ H Qs = Qs σ H := propext ⟨fun q => q.2, fun q => ⟨rfl, q⟩⟩
theorem e_asgT : fAsg (gTup K n tg) σ nx v H = gTup K n tg v σ H nx := rfl
theorem e_callD {sp : Sp} {d : V} {ds : List V} {E : XK} {vs : List V} : fCall sp (d :: ds) E Q vs H = sp (vs ++ (d :: ds)) H Q E := rfl
end
/-- a cut of any list -/
def cutG {α : Type} (xs : List α) (lo hi : Option Int) : List α := (xs.drop (HT.sIx xs.length 0 lo)).take (HT.sIx xs.length xs.length hi - HT.sIx xs.length 0 lo)
theorem cutV_eq (xs : List V) (lo hi : Option Int) : cutV xs lo hi = cutG xs lo hi := rfl
theorem cutG_to {α : Type} (xs : List α) (k : Nat) : cutG xs none (some (k : Int)) = xs.take k := by
  unfold cutG
  rw [HT.sIx_none, HT.sIx_nat, List.drop_zero, Nat.sub_zero]
  by_cases h : k ≤ xs.length
  · rw [Nat.min_eq_left h]
  · rw [Nat.min_eq_right (by omega), List.take_of_length_le (Nat.le_refl _), List.take_of_length_le (by omega)]
theorem cutG_from {α : Type} (xs : List α) (k : Nat) : cutG xs (some (k : Int)) none = xs.drop k := by
  unfold cutG
  rw [HT.sIx_none, HT.sIx_nat]
  by_cases h : k ≤ xs.length
  · rw [Nat.min_eq_left h, List.take_of_length_le (by rw [List.length_drop]; omega)]
  · rw [Nat.min_eq_right (by omega), Nat.sub_self, List.take_zero, List.drop_of_length_le (by omega)]
theorem cutG_mem {α : Type} {xs : List α} {lo hi : Option Int} {x : α} (h : x ∈ cutG xs lo hi) : x ∈ xs := List.mem_of_mem_drop (List.mem_of_mem_take h)
theorem Paired.take {α β : Type} {F : α → β → Prop} : ∀ {xs : List α} {ys : List β} (n : Nat), Paired F xs ys → Paired F (xs.take n) (ys.take n)
  | _, _, 0, _ => by simpa using Paired.nil
  | _, _, n + 1, .nil => by simpa using Paired.nil
  | _, _, n + 1, .cons h t => by simpa using Paired.cons h (Paired.take n t)
theorem Paired.drop {α β : Type} {F : α → β → Prop} : ∀ {xs : List α} {ys : List β} (n : Nat), Paired F xs ys → Paired F (xs.drop n) (ys.drop n)
  | _, _, 0, h => by simpa using h
  | _, _, n + 1, .nil => by simpa using Paired.nil
  | _, _, n + 1, .cons h t => by simpa using Paired.drop n t
theorem Paired.cut {α β : Type} {F : α → β → Prop} {xs : List α} {ys : List β} {lo hi : Option Int} (h : Paired F xs ys) : Paired F (cutG xs lo hi) (cutG ys lo hi) := by
  have e := Paired.length h
  unfold cutG
  rw [e]
  exact Paired.take _ (Paired.drop _ h)
/-! ### errors -/
def fMkErr (fl : Str) (C : Addr) (Q : XK) : VL := fun vs H1 => ∃ v, vs = [v] ∧ ∀ d, H1 d = none → Q (.ref C) (some d) (upd H1 d (.xd [(fl, v)]))
theorem e_raise {fl : Str} {C : Addr} {W : WX} {ta : TA} {D : Ends} {σ : St} {H : Hp} : tRaiseErr fl C W ta D σ H = ta σ H (fMkErr fl C fun c d H' => W c d σ H') := rfl
theorem e_mkErr {fl : Str} {C : Addr} {Q : XK} {v : V} {H : Hp} : fMkErr fl C Q [v] H = ∀ d, H d = none → Q (.ref C) (some d) (upd H d (.xd [(fl, v)])) :=
  propext ⟨fun ⟨w, e, q⟩ => by cases e; exact q, fun q => ⟨v, rfl, q⟩⟩
theorem k_isErr {K : PySem.W.Frag} {D a dd : Addr} {fs : List (Str × V)} {c : V} {cv : Value} {b : Bool} {H : Hp} {Q : VK} (h : H dd = some (.xd fs)) (hcv : ∀ u, RelV c u → u = cv) (hk : PySem.W.kitOne K (.ref D) cv = some b) (q : Q (.bl b) H) : fCB (rIsErr K D a (.ref D) (some dd)) Q [.ref a, c] H :=
  ⟨c, cv, b, dd, fs, rfl, h, rfl, rfl, hcv, hk, q⟩
theorem b_ValueError : bootBuiltins "ValueError" = some (.type "ValueError") := by decide +kernel
theorem e_asg1 {g : TG} {σ : St} {nx : St → Hp → Prop} {v : V} {H : Hp} : fAsg g σ nx v H = g v σ H nx := rfl
theorem e_opS {r : St → R2} {ta tb : TE} {σ : St} {H : Hp} {Q : VK} : tOpS r ta tb σ H Q = tOp (r σ) ta tb σ H Q := rfl
def fFldErr (fl : Str) (C a : Addr) (cls : Value) (d : Option Addr) (Q : VK) : VK := fun x H1 => x = .ref a ∧ cls = .ref C ∧ ∃ (dd : Addr) (v : V), d = some dd ∧ H1 dd = some (.xd [(fl, v)]) ∧ Q v H1
theorem e_fldErr {fl : Str} {C a : Addr} {cls : Value} {d : Option Addr} {te : TE} {σ : St} {H : Hp} {Q : VK} : tFldErr fl C a cls d te σ H Q = te σ H (fFldErr fl C a cls d Q) := rfl
theorem k_fldErr {fl : Str} {C a dd : Addr} {v : V} {H : Hp} {Q : VK} (h : H dd = some (.xd [(fl, v)])) (q : Q v H) : fFldErr fl C a (.ref C) (some dd) Q (.ref a) H := ⟨rfl, rfl, dd, v, rfl, h, q⟩
theorem k_we {K : PySem.W.Frag} {c cls : Value} {i : Nat} {ts : Addr → Value → Option Addr → TS} {Wout : WX} {D : Ends} {σ : St} {d : Option Addr} {H : Hp} (h : PySem.W.exmOne K cls c = some true)
    (q : ∀ a, H a = none → ts a cls d { nx := fun σ' H' => D.nx (σ'.set i none) H', rt := D.rt, bk := fun σ' H' => D.bk (σ'.set i none) H', ct := fun σ' H' => D.ct (σ'.set i none) H' } (σ.set i (some (.ref a))) H) : WE (wAs K c i ts Wout D) σ cls d H :=
  ⟨true, h, fun _ => q, fun z => nomatch z⟩
theorem k_catT {K : PySem.W.Frag} {H : Hp} {a b : Addr} {xs ys : List V} {Q : VK} (h1 : SqT K H a xs) (h2 : SqT K H b ys) (hl : xs.length + ys.length ≤ 100000) (q : ∀ (r : Addr) (H' : Hp), Same H H' → SqT K H' r (xs ++ ys) → Q (.ref r) H') : fOp2 (rAddU K) (.ref a) Q (.ref b) H := by
  refine .inl ⟨a, b, xs, ys, rfl, rfl, h1, h2, Nat.le_trans hl (by decide), fun e => ?_, fun _ e => ?_, fun _ _ p n => ?_⟩
  · subst e
    exact q b H (Same.refl H) h2
  · subst e
    rw [List.append_nil] at q
    exact q a H (Same.refl H) h1
  · exact q p _ (fun c o e => lk_new e n) (SqT.of upd_same)
/-- a def with defaults, from which nothing is raised -/
theorem FunD_ok {P : Program} {w : World} {K : PySem.W.Frag} {mg : Str → Option Value} {base : Heap} {x qual : Str} {params : Arguments} {body : List Stmt} {scope : Scope} {dvs : List V} {kws : List (Str × V)} {f : Addr} {fd : FuncData} {N ps : List Str} {k : Nat} {sp : Sp}
    (F : FunD K x qual params body scope dvs kws f fd) (S : FnScope N ps scope) (len : ∀ vs H Q E, sp vs H Q E → vs.length = ps.length)
    (hbody : ∀ (cdv : Value) (A : Around) (outer : List Env) (s : Shared) (H : Hp) (vs : List V) (Q : VK) (E : XK), Room k (A.deeper (PyProof.Rows.envOfC qual scope s.heap.objs.size f cdv)) → sp vs H Q E →
      ∃ t, PSs (cxOf CX0 P w K mg base N qual scope f cdv A outer s H E).nox body t ∧ t { nx := fun _ H' => Q .non H', rt := Q } (start N vs) H) : FnOk P w K mg base CX0 (k + 1) f fd ps sp :=
  F.ok S len fun cdv A outer s H vs Q E hr h => by
    obtain ⟨t, h1, q⟩ := hbody cdv A outer s H vs Q E hr h
    exact ⟨t, h1.nox, q⟩
/-! ### facts carried from an older heap -/
section
variable {K : PySem.W.Frag} {H H' : Hp} {p a b : Addr} {o u : HO} {xs : List V}
theorem Same.get (s : Same H H') (h : H p = some o) : H' p = some o := s _ _ h
theorem But.get (s : But a H H') (h : H p = some o) (n : p ≠ a) : H' p = some o := s _ _ h n
theorem lk_new2 (n : H p = none) (h : H a = some o) : upd H p u a = some o := lk_new h n
theorem lk_ne2 (n : a ≠ p) (h : H a = some o) : upd H p u a = some o := lk_ne h n
theorem But.get2 (s : But a H H') (n : p ≠ a) (h : H p = some o) : H' p = some o := s _ _ h n
theorem sqL_new2 (n : H p = none) (h : SqL K H a xs) : SqL K (upd H p o) a xs := sqL_new h n
theorem sqT_new2 (n : H p = none) (h : SqT K H a xs) : SqT K (upd H p o) a xs := sqT_new h n
theorem ne_new (n : H p = none) (h : H b = some o) : b ≠ p := ne_of_none h n
theorem ne_new' (n : H p = none) (h : H b = some o) : p ≠ b := (ne_of_none h n).symm
theorem Same.link {H1 : Hp} (k : Same H1 H') (s : Same H H1) : Same H H' := s.trans k
theorem Same.linkN {H1 : Hp} (n : H1 p = none) (s : Same H H1) : Same H (upd H1 p o) := s.trans (Same.new n)
theorem But.link {H1 : Hp} (k : But a H1 H') (s : But a H H1) : But a H H' := But.trans s k
theorem But.linkS {H1 : Hp} (k : Same H1 H') (s : But a H H1) : But a H H' := But.trans s (But.of k)
theorem But.linkN {H1 : Hp} (n : H1 p = none) (s : But a H H1) : But a H (upd H1 p o) := But.trans s (But.of (Same.new n))
theorem But.linkA {H1 : Hp} (s : But a H H1) : But a H (upd H1 a o) := fun b u e n => lk_ne (s b u e n) n
/-- the object at p, which was not there at first, is changed -/
theorem Same.linkU {H1 : Hp} (n : H p = none) (s : Same H H1) : Same H (upd H1 p o) := Same.upd_new s n
theorem But.linkU {H1 : Hp} (n : H p = none) (s : But a H H1) : But a H (upd H1 p o) := But.upd_new s n
theorem sqL_link {H1 : Hp} (k : Same H1 H') (s : SqL K H1 a xs) : SqL K H' a xs := sqL_same k s
theorem sqT_link {H1 : Hp} (k : Same H1 H') (s : SqT K H1 a xs) : SqT K H' a xs := by
  rcases s with (h | ⟨o, h⟩) | h
  · exact .inl (.inl (k _ _ h))
  · exact .inl (.inr ⟨o, k _ _ h⟩)
  · exact .inr h
end
/-! ### [k for k in .. if ..] -/
theorem filter_range_succ (p : Nat → Bool) (n : Nat) : (List.range (n + 1)).filter p = (List.range n).filter p ++ (if p n then [n] else []) := by
  rw [List.range_succ, List.filter_append]
  congr 1
  simp [List.filter]
  split <;> simp_all
theorem k_lcFil {J : It} {n j : Nat} {G : Hp → Prop} {Yd : Nat → Hp → V → Hp → Prop} {tt : TT} {σ : St} {H : Hp} {Q : VK} (w : Walk J n G Yd) (f : Nat → V) (p : Nat → Bool) (hn : n ≤ 10000) (hj : j < σ.length) (hG : ∀ H', Same H H' → G H')
    (hY : ∀ i H1 x H2, i < n → G H1 → Yd i H1 x H2 → H2 = H1 ∧ x = f i) (ht : ∀ i H1 (Qb : Bool → Hp → Prop), i < n → Same H H1 → (∀ H2, Same H1 H2 → Qb (p i) H2) → tt (σ.set j (some (f i))) H1 Qb)
    (q : ∀ l H', H l = none → Same H H' → H' l = some (.lst (((List.range n).filter p).map f)) → Q (.ref l) H') : fLc (gName j) tt (tVar j) [j] σ Q J H := by
  refine k_lc w fun l nl => ⟨fun i H' => Same H H' ∧ H' l = some (.lst (((List.range i).filter p).map f)), ⟨Same.new nl, upd_same⟩, fun i H' _ h => hG H' h.1, ?_, fun H' h => q l H' nl h.1 h.2⟩
  rintro i x H1 H2 hi ⟨s1, h1⟩ y
  obtain ⟨rfl, rfl⟩ := hY i H1 x H2 hi (hG _ s1) y
  have ew : ∀ v : Option V, ((wipe σ [j]).set j v) = σ.set j v := fun v => by
    show (σ.set j none).set j v = _
    rw [List.set_set]
  show (fun σ2 H2 => wipe σ2 [j] = wipe σ [j] ∧ tt σ2 H2 _) ((wipe σ [j]).set j (some (f i))) H2
  rw [ew]
  refine ⟨?_, ht i H2 _ hi s1 fun H3 s3 => ?_⟩
  · show (σ.set j (some (f i))).set j none = σ.set j none
    rw [List.set_set]
  · have h3 := s3 _ _ h1
    have hlen : (((List.range i).filter p).map f).length ≤ i := by
      rw [List.length_map]
      have := List.length_filter_le p (List.range i)
      rwa [List.length_range] at this
    show if p i = true then _ else _
    split
    · rename_i hp
      show tVar j (σ.set j (some (f i))) H3 _
      refine ⟨f i, by rw [List.getElem?_set_self hj], ?_⟩
      refine k_acc h3 (by omega) ⟨Same.upd_new (s1.trans s3) nl, ?_⟩
      rw [upd_same, filter_range_succ, if_pos hp, List.map_append]
      rfl
    · rename_i hp
      refine ⟨s1.trans s3, ?_⟩
      rw [filter_range_succ, if_neg hp, List.append_nil]
      exact h3
/-! ### not in -/
def rNotInT (K : PySem.W.Frag) : R2 := fun x y H Q => ∃ d ds, Dp K H x d ∧ Dp K H y (.tuple ds) ∧ SeqAt.shaped d = true ∧ SeqAt.shaped (.tuple ds) = true ∧ Q (.bl (!ds.any fun z => PyData.eqv z d)) H
theorem op_notInT {X : Cx} (hu : X.A.units + 65 < cLine) : OpR X (compareOp .NotIn) (rNotInT X.K) := by
  intro pins s σ H x y v u Q I rx ry h
  obtain ⟨d, ds, hd, he, sd, se, q⟩ := h
  obtain ⟨as, r1⟩ := Dp.reads I d x v hd rx
  obtain ⟨bs, r2⟩ := Dp.reads I (.tuple ds) y u he ry
  exact SeqAt.notIn_tuple_reads r2 r1 (SeqAt.canLay_of_shaped se) (SeqAt.canLay_of_shaped sd) (PyProof.Rows.room_in_shaped sd hu) ⟨.bl _, H, I, rfl, q⟩
def rNotInU (K : PySem.W.Frag) : R2 := fun x y H Q => rNotInT K x y H Q ∨ rNotInD K x y H Q
theorem op_notInU {X : Cx} (hu : X.A.units + 65 < cLine) : OpR X (compareOp .NotIn) (rNotInU X.K) := by
  intro pins s σ H x y v u Q I rx ry h
  rcases h with h | h
  · exact op_notInT hu pins s σ H _ _ v u Q I rx ry h
  · exact op_notInD hu pins s σ H _ _ v u Q I rx ry h
theorem op_notInUk {X : Cx} (K : PySem.W.Frag) (hu : X.A.units + 65 < cLine) (h : X.K = K := by rfl) : OpR X (compareOp .NotIn) (rNotInU K) := by subst h; exact op_notInU hu
theorem k_ninT {K : PySem.W.Frag} {H : Hp} {Q : VK} {x y : V} {d : PyData} {ds : List PyData} (h1 : Dp K H x d) (h2 : Dp K H y (.tuple ds)) (s1 : SeqAt.shaped d = true) (s2 : SeqAt.shaped (.tuple ds) = true) (q : Q (.bl (!ds.any fun z => PyData.eqv z d)) H) : fOp2 (rNotInU K) x Q y H :=
  .inl ⟨d, ds, h1, h2, s1, s2, q⟩
theorem k_ninL {K : PySem.W.Frag} {H : Hp} {Q : VK} {x y : V} {d : PyData} {ds : List PyData} (h1 : Dp K H x d) (h2 : Dp K H y (.list ds)) (s1 : SeqAt.shaped d = true) (s2 : SeqAt.shaped (.list ds) = true) (q : Q (.bl (!ds.any fun z => PyData.eqv z d)) H) : fOp2 (rNotInU K) x Q y H :=
  .inr ⟨d, ds, h1, h2, s1, s2, q⟩
/-! ### s.join(x) -/
def fM1 (r : V → List V → Hp → VK → Prop) (te : TE) (σ : St) (Q : VK) : VK := fun x H1 => (∃ a, x = .str a) ∧ te σ H1 fun y H2 => r x [y] H2 Q
def fM1b (r : V → List V → Hp → VK → Prop) (x : V) (Q : VK) : VK := fun y H2 => r x [y] H2 Q
theorem e_m1 {r : V → List V → Hp → VK → Prop} {to te : TE} {σ : St} {H : Hp} {Q : VK} : tM1 r to te σ H Q = to σ H (fM1 r te σ Q) := rfl
theorem e_m1a {r : V → List V → Hp → VK → Prop} {te : TE} {σ : St} {H : Hp} {Q : VK} {a : Str} : fM1 r te σ Q (.str a) H = te σ H (fM1b r (.str a) Q) := propext ⟨fun h => h.2, fun h => ⟨⟨a, rfl⟩, h⟩⟩
theorem e_m1b {r : V → List V → Hp → VK → Prop} {H : Hp} {Q : VK} {x y : V} : fM1b r x Q y H = r x [y] H Q := rfl
def rJoin (K : PySem.W.Frag) : V → List V → Hp → VK → Prop := fun x xs H Q => ∃ a p, ∃ ys : List Str, x = .str a ∧ xs = [.ref p] ∧ (SqL K H p (ys.map V.str) ∨ SqT K H p (ys.map V.str)) ∧ (ys.map (·.length)).sum + ys.length * a.length ≤ 16777216 ∧ Q (.str (Txt.join a ys)) H
theorem pe_joink {X : Cx} (K : PySem.W.Frag) {o e : Expr} {to te : TE} {apos pos : Pos} (ho : PE X o to) (he : PE X e te) (h : X.K = K := by rfl) (hbase : attributeBase o "join" X.env (eval o X.env) = eval o X.env := by rfl) (hline : (apos.endLine == pos.line) = true := by rfl)
    (hs : starEach [e] X.env = [(false, eval e X.env)] := by rfl) : PE X (.Call (.Attribute o "join" apos) [e] [] pos) (tM1 (rJoin K) to te) := by
  subst h
  exact pe_join ho he hs hbase hline
theorem k_join {K : PySem.W.Frag} {H : Hp} {Q : VK} {a : Str} {p : Addr} {ys : List Str} (h : SqL K H p (ys.map V.str) ∨ SqT K H p (ys.map V.str)) (hl : (ys.map (·.length)).sum + ys.length * a.length ≤ 16777216) (q : Q (.str (Txt.join a ys)) H) : rJoin K (.str a) [.ref p] H Q :=
  ⟨a, p, ys, rfl, rfl, h, hl, q⟩
end Y

set_option Elab.async false
set_option linter.all false
set_option maxRecDepth 100000
namespace Y
open PySem L2 PySem.Spec PyProof.Rows
/-! ### tuples whose object is known: their methods -/
def tTupZ (t : TA) : TE := fun σ H Q => t σ H fun xs H1 => xs.length ≤ sizeLine ∧ ∀ p o, H1 p = none → o.cls = .type "tuple" → o.dict = none → Q (.ref p) (upd H1 p (.frz o (.tup xs)))
theorem pe_tupZ {X : Cx} {es : List Expr} {t : TA} {x1 : Nat} {pos : Pos} (h : PA X es t) : PE X (.Tuple es x1 pos) (tTupZ t) := by
  refine ⟨fun pins s σ H Q I hq => ?_⟩
  refine wpAny_Tuple_spliced (thn (h.run pos pins s σ H _ I hq) fun us s1 ⟨xs, H1, I1, r, z, q⟩ => ⟨by rw [← r.length]; exact z, ?_⟩)
  have hf : H1 s1.heap.objs.size = none := I1.hok.fresh (Nat.le_refl _)
  refine ⟨.ref s1.heap.objs.size, upd H1 s1.heap.objs.size (.frz { cls := .type "tuple", data := .seq us.toArray } (.tup xs)), I1.laid (t' := s1.toks) (fun b u e => Heap.get?_push_of_some _ e) (Nat.le_refl _) ?_, rfl, q _ _ hf rfl rfl⟩
  exact ⟨Heap.get?_push_size _ rfl, z, us, r, ⟨_, Heap.get?_push_size _ rfl, rfl, _, rfl⟩⟩
def fTupZ (Q : VK) : List V → Hp → Prop := fun xs H1 => xs.length ≤ sizeLine ∧ ∀ p o, H1 p = none → o.cls = .type "tuple" → o.dict = none → Q (.ref p) (upd H1 p (.frz o (.tup xs)))
theorem e_tupZ {tl : TA} {σ : L2.St} {H : Hp} {Q : VK} : tTupZ tl σ H Q = tl σ H (fTupZ Q) := rfl
theorem k_tupZ {H : Hp} {Q : VK} {xs : List V} (hl : xs.length ≤ 100000) (q : ∀ p o, H p = none → o.cls = .type "tuple" → o.dict = none → Q (.ref p) (upd H p (.frz o (.tup xs)))) : fTupZ Q xs H := ⟨Nat.le_trans hl (by decide), q⟩
theorem SqT.ofZ {K : PySem.W.Frag} {H : Hp} {a : Addr} {xs : List V} {o : Obj} (h : H a = some (.frz o (.tup xs))) : SqT K H a xs := .inl (.inr ⟨o, h⟩)
def TupZ (K : PySem.W.Frag) (H : Hp) (a : Addr) (xs : List V) : Prop := (∃ o, H a = some (.frz o (.tup xs)) ∧ o.cls = .type "tuple" ∧ o.dict = none) ∨
  ∃ (o : Obj) (its : Array Value) (n : Nat), K.lookup a = some o ∧ o.cls = .type "tuple" ∧ o.dict = none ∧ o.data = .seq its n ∧ its.size ≤ sizeLine ∧ Vals xs its.toList
theorem TupZ.sq {K : PySem.W.Frag} {H : Hp} {a : Addr} {xs : List V} : TupZ K H a xs → SqT K H a xs
  | .inl ⟨o, h, _⟩ => .inl (.inr ⟨o, h⟩)
  | .inr ⟨o, its, n, h1, h2, _, h3, h4, h5⟩ => .inr ⟨o, its, n, h1, h2, h3, h4, h5⟩
theorem TupZ.mono {K : PySem.W.Frag} {H H' : Hp} {a : Addr} {xs : List V} (e : Same H H') : TupZ K H a xs → TupZ K H' a xs
  | .inl ⟨o, h, r⟩ => .inl ⟨o, e _ _ h, r⟩
  | .inr h => .inr h
theorem tupZ_K {K : PySem.W.Frag} {H : Hp} {a : Addr} {xs : List V} {its : List Value} {n : Nat} {sl : Array (Option Value)} (h : K.lookup a = some ⟨.type "tuple", none, .seq its.toArray n, sl⟩) (hl : its.length ≤ 1000) (hv : Vals xs its) : TupZ K H a xs :=
  .inr ⟨_, _, n, h, rfl, rfl, rfl, by rw [List.size_toArray]; exact Nat.le_trans hl (by decide), by simpa using hv⟩
/-- t.count(y), data -/
def rCntT (K : PySem.W.Frag) : V → List V → Hp → VK → Prop := fun x vs H Q => ∃ p ds d y, x = .ref p ∧ vs = [y] ∧ Dp K H (.ref p) (.tuple ds) ∧ Dp K H y d ∧ SeqAt.shaped (.tuple ds) = true ∧ SeqAt.shaped d = true ∧ Q (.int ((ds.countP fun z => PyData.eqv z d : Nat) : Int)) H
theorem mt_cntTk {X : Cx} (K : PySem.W.Frag) (hu : X.A.units + 65 < cLine) (h : X.K = K := by rfl) : MtR X "tuple.count" (rCntT K) := by
  subst h
  intro pins s σ H x xs v us Q I rx rxs h
  obtain ⟨p, ds, d, y, rfl, rfl, h1, h2, s1, s2, q⟩ := h
  cases rx
  obtain ⟨u, rfl, ru⟩ := rxs.one
  cases h1 with
  | tup hs ha =>
    obtain ⟨its, rv, ⟨o, ho, hc, n, hd⟩, hlen⟩ := I.tuple hs
    obtain ⟨as, r1⟩ := Dp.readsAll I ds _ its ha rv
    obtain ⟨bs, r2⟩ := Dp.reads I d y u h2 ru
    have c1 := SeqAt.canLay_of_shaped s1
    have c2 := SeqAt.canLay_of_shaped s2
    have c1' : PyData.canLayAll0 ds = true := by simpa [PyData.canLay0] using c1
    have dd := SeqAt.depth_of_shaped s2
    refine SeqAt.count_tuple_data (xs := ds) (d := d) (vs := its.toArray) ⟨o, ho, hc, n, hd⟩ (by simpa using r1) r2 (PyData.plainAll_of_canLay0 _ c1') (PyData.plain_of_canLay0 _ c2) ?_ ⟨.int _, H, I.tok _, ⟨_, rfl⟩, q⟩
    have := Nat.min_le_right (PyData.depthAll ds) d.depth
    omega
def tTC (K : PySem.W.Frag) (to : TE) (t : TA) : TE := fun σ H Q => to σ H fun x H1 => (∃ a xs, x = .ref a ∧ TupZ K H1 a xs) ∧ t σ H1 fun vs H2 => rCntT K x vs H2 Q
theorem pe_tcount {X : Cx} (K : PySem.W.Frag) {o e : Expr} {to : TE} {t : TA} {apos cpos : Pos} (hu : X.A.units + 65 < cLine) (ho : PE X o to) (ha : PA X [e] t) (hK : X.K = K := by rfl)
    (hbase : attributeBase o "count" X.env (eval o X.env) = eval o X.env := by rfl)
    (hfew : ((backTo cpos (starEach [e] X.env)).all (fun x => !x.1) && (backToKw cpos (keywordEach [] X.env)).all (fun x => x.1.isSome)
      && decide ([e].length + ([] : List Keyword).length + (if ([] : List Keyword).isEmpty then 0 else 1) < 30)) = true := by rfl)
    (hline : (apos.endLine == cpos.line) = true := by rfl) (hs : starEach [e] X.env = (false, eval e X.env) :: starEach [] X.env := by rfl) (hplain : (backTo cpos (starEach [] X.env)).any (·.1) = false := by rfl) :
    PE X (.Call (.Attribute o "count" apos) [e] [] cpos) (tTC K to t) := by
  subst hK
  refine ⟨fun pins s σ H Q I h => ?_⟩
  refine wpAny_Call_method_late hbase hfew hline rfl (thn (ho.run pins s σ H _ I h) fun v s1 ⟨x, H1, I1, r1, ⟨a, xs, ex, hz⟩, q1⟩ => ?_)
  subst ex
  obtain rfl : v = Value.ref a := r1
  have tz : ∃ ob, s1.heap.get? a = some ob ∧ ob.cls = .type "tuple" ∧ ob.dict = none := by
    rcases hz with ⟨o, h, hc, hd⟩ | ⟨o, its, n, h, hc, hd, _⟩
    · obtain ⟨e, _⟩ := I1.hok a _ h
      exact ⟨o, e, hc, hd⟩
    · exact ⟨o, I1.kIn a o h, hc, hd⟩
  obtain ⟨ob, eo, ec, ed⟩ := tz
  refine ⟨"tuple", "tuple.count", PySem.F.plainAttrs_tuple, PySem.F.slot_tuple_count, PySem.F.type_tuple_count, ⟨ob, eo, ec⟩, fun c e => by cases e; exact ⟨ob, eo, ed⟩, ?_⟩
  have hA := ha.run cpos pins s1 σ H1 _ I1 q1
  rw [hs] at hA ⊢
  refine Calls.callWith_builtin (by show (false || (backTo cpos (starEach [] X.env)).any (·.1)) = false; rw [hplain] <;> rfl) (Calls.evalArgs_plain ?_)
  exact thn hA fun us s2 ⟨vs, H2, I2, r2, q2⟩ => mt_cntTk X.K hu rfl pins s2 σ H2 (.ref a) vs (.ref a) us Q I2 rfl r2 q2
def fTC (K : PySem.W.Frag) (t : TA) (σ : L2.St) (Q : VK) : VK := fun x H1 => (∃ a xs, x = .ref a ∧ TupZ K H1 a xs) ∧ t σ H1 fun vs H2 => rCntT K x vs H2 Q
def fTC2 (K : PySem.W.Frag) (x : V) (Q : VK) : List V → Hp → Prop := fun vs H2 => rCntT K x vs H2 Q
theorem e_tC {K : PySem.W.Frag} {to : TE} {t : TA} {σ : L2.St} {H : Hp} {Q : VK} : tTC K to t σ H Q = to σ H (fTC K t σ Q) := rfl
theorem k_tC {K : PySem.W.Frag} {t : TA} {σ : L2.St} {H : Hp} {Q : VK} {a : Addr} {xs : List V} (h : TupZ K H a xs) (q : t σ H (fTC2 K (.ref a) Q)) : fTC K t σ Q (.ref a) H := ⟨⟨a, xs, rfl, h⟩, q⟩
theorem k_countT {K : PySem.W.Frag} {H : Hp} {Q : VK} {a : Addr} {y : V} {ds : List PyData} {d : PyData} (h1 : Dp K H (.ref a) (.tuple ds)) (h2 : Dp K H y d) (s1 : SeqAt.shaped (.tuple ds) = true) (s2 : SeqAt.shaped d = true) (q : Q (.int ((ds.countP fun z => PyData.eqv z d : Nat) : Int)) H) : fTC2 K (.ref a) Q [y] H :=
  ⟨a, ds, d, y, rfl, rfl, h1, h2, s1, s2, q⟩
/-- a new object is changed: it was new at some heap behind the first one -/
theorem Same.linkV {H H1 H2 : Hp} {p : Addr} {o : HO} (n : H2 p = none) (s2 : Same H H2) (s : Same H H1) : Same H (upd H1 p o) := Same.upd_new s (Same.none_of s2 n)
theorem But.linkV {a : Addr} {H H1 H2 : Hp} {p : Addr} {o : HO} (n : H2 p = none) (s2 : Same H H2) (s : But a H H1) : But a H (upd H1 p o) := But.upd_new s (Same.none_of s2 n)
theorem sqT_other {K : PySem.W.Frag} {H : Hp} {p a : Addr} {xs : List V} {o u : HO} (h : H p = some u) (n1 : ∀ ys, u ≠ .tup ys) (n2 : ∀ o ys, u ≠ .frz o (.tup ys)) (s : SqT K H a xs) : SqT K (upd H p o) a xs := by
  have ne : ∀ v, H a = some v → (∃ ys, v = .tup ys) ∨ (∃ o ys, v = .frz o (.tup ys)) → a ≠ p := fun v e k z => by
    subst z
    rw [h] at e
    cases e
    rcases k with ⟨ys, e⟩ | ⟨o, ys, e⟩
    · exact n1 ys e
    · exact n2 o ys e
  rcases s with (h | ⟨o, h⟩) | h
  · exact .inl (.inl (lk_ne h (ne _ h (.inl ⟨_, rfl⟩))))
  · exact .inl (.inr ⟨o, lk_ne h (ne _ h (.inr ⟨_, _, rfl⟩))⟩)
  · exact .inr h
theorem sqT_lst {K : PySem.W.Frag} {H : Hp} {p a : Addr} {xs ys : List V} {o : HO} (h : H p = some (.lst ys)) (s : SqT K H a xs) : SqT K (upd H p o) a xs := sqT_other h (fun _ e => nomatch e) (fun _ _ e => nomatch e) s
theorem sqT_ins {K : PySem.W.Frag} {H : Hp} {p a C dx : Addr} {xs : List V} {fs : List (Str × V)} {o : HO} (h : H p = some (.ins C dx fs)) (s : SqT K H a xs) : SqT K (upd H p o) a xs := sqT_other h (fun _ e => nomatch e) (fun _ _ e => nomatch e) s
/-! ### what follows, kept apart -/
theorem k_opq1 {s1 s2 : TS} {D : Ends} {σ : L2.St} {H : Hp} (h : ∀ R : TS, R = s2 → tSeq s1 R D σ H) : tSeq s1 s2 D σ H := h s2 rfl
theorem k_opq2 {s1 s2 s3 : TS} {D : Ends} {σ : L2.St} {H : Hp} (h : ∀ R : TS, R = s3 → tSeq s1 (tSeq s2 R) D σ H) : tSeq s1 (tSeq s2 s3) D σ H := h s3 rfl
theorem k_opq3 {s1 s2 s3 s4 : TS} {D : Ends} {σ : L2.St} {H : Hp} (h : ∀ R : TS, R = s4 → tSeq s1 (tSeq s2 (tSeq s3 R)) D σ H) : tSeq s1 (tSeq s2 (tSeq s3 s4)) D σ H := h s4 rfl
theorem k_opq4 {s1 s2 s3 s4 s5 : TS} {D : Ends} {σ : L2.St} {H : Hp} (h : ∀ R : TS, R = s5 → tSeq s1 (tSeq s2 (tSeq s3 (tSeq s4 R))) D σ H) : tSeq s1 (tSeq s2 (tSeq s3 (tSeq s4 s5))) D σ H := h s5 rfl
theorem k_opq5 {s1 s2 s3 s4 s5 s6 : TS} {D : Ends} {σ : L2.St} {H : Hp} (h : ∀ R : TS, R = s6 → tSeq s1 (tSeq s2 (tSeq s3 (tSeq s4 (tSeq s5 R)))) D σ H) : tSeq s1 (tSeq s2 (tSeq s3 (tSeq s4 (tSeq s5 s6)))) D σ H := h s6 rfl
theorem k_dnew {σ : L2.St} {H : Hp} {Q : VK} (q : ∀ p, H p = none → Q (.ref p) (upd H p (.dK []))) : tDNewK σ H Q := q
theorem op_repTk {X : Cx} (K : PySem.W.Frag) (h : X.K = K := by rfl) : OpR X (binaryOp .Mult) (rRepT K) := by subst h; exact op_repT
theorem k_repT {K : PySem.W.Frag} {H : Hp} {Q : VK} {a : Addr} {xs : List V} {k : Int} (h : SqT K H a xs) (hn : xs ≠ []) (h2 : 2 ≤ k) (h3 : k ≤ 1000) (hl : xs.length ≤ 1000) (q : ∀ p, H p = none → Q (.ref p) (upd H p (.tup (List.replicate k.toNat xs).flatten))) : fOp2 (rRepT K) (.ref a) Q (.int k) H :=
  ⟨a, k, xs, rfl, rfl, h, hn, h2, h3, hl, q⟩
/-- ==, dicts too -/
def rEqV (K : PySem.W.Frag) : R2 := fun x y H Q => rEqU K x y H Q ∨ rEqDA x y H Q
theorem op_eqV {X : Cx} (K : PySem.W.Frag) (hu : X.A.units + 65 < cLine) (h : X.K = K := by rfl) : OpR X (compareOp .Eq) (rEqV K) := by
  subst h
  intro pins s σ H x y v u Q I rx ry h
  rcases h with h | h
  · exact op_eqU hu pins s σ H _ _ v u Q I rx ry h
  · exact op_eq_dictA (by omega) pins s σ H _ _ v u Q I rx ry h
theorem e_makeS {C : Addr} {sp : Sp} {E : L2.St → XK} {tl : TA} {σ : L2.St} {H : Hp} {Q : VK} : tMakeS C sp E tl σ H Q = tl σ H (fMake C sp [] (E σ) Q) := by
  unfold tMakeS fMake
  congr 1
  funext vs H1
  rw [List.append_nil]
theorem e_callS {sp : Sp} {E : L2.St → XK} {tl : TA} {σ : L2.St} {H : Hp} {Q : VK} : tCallS sp E tl σ H Q = tl σ H (fCall sp [] (E σ) Q) := by
  unfold tCallS fCall
  congr 1
  funext vs H1
  rw [List.append_nil]
theorem e_methS {C : Addr} {m : Str} {sp : Sp} {E : L2.St → XK} {ta : TE} {tl : TA} {σ : L2.St} {H : Hp} {Q : VK} : tMethS C m sp E ta tl σ H Q = ta σ H (fMeth C m sp [] (E σ) tl σ Q) := by
  unfold tMethS fMeth
  congr 1
  funext x H1
  simp only [List.append_nil]
  apply propext
  constructor
  · rintro ⟨a, dx, fs, rfl, h1, h2, h3⟩
    exact ⟨a, dx, fs, rfl, h1, h2, h3⟩
  · rintro ⟨a, dx, fs, rfl, h1, h2, h3⟩
    exact ⟨a, dx, fs, rfl, h1, h2, h3⟩
theorem k_opJ1 {s1 s2 : TS} {D : Ends} {σ : L2.St} {H : Hp} (I : L2.St → Hp → Prop) (h1 : ∀ R : TS, (∀ σ H, I σ H → R D σ H) → tSeq s1 R D σ H) (h2 : ∀ σ H, I σ H → s2 D σ H) : tSeq s1 s2 D σ H := h1 s2 h2
theorem k_opJ2 {s1 s2 s3 : TS} {D : Ends} {σ : L2.St} {H : Hp} (I : L2.St → Hp → Prop) (h1 : ∀ R : TS, (∀ σ H, I σ H → R D σ H) → tSeq s1 (tSeq s2 R) D σ H) (h2 : ∀ σ H, I σ H → s3 D σ H) : tSeq s1 (tSeq s2 s3) D σ H := h1 s3 h2
theorem k_opJ3 {s1 s2 s3 s4 : TS} {D : Ends} {σ : L2.St} {H : Hp} (I : L2.St → Hp → Prop) (h1 : ∀ R : TS, (∀ σ H, I σ H → R D σ H) → tSeq s1 (tSeq s2 (tSeq s3 R)) D σ H) (h2 : ∀ σ H, I σ H → s4 D σ H) : tSeq s1 (tSeq s2 (tSeq s3 s4)) D σ H := h1 s4 h2
theorem k_opJ4 {s1 s2 s3 s4 s5 : TS} {D : Ends} {σ : L2.St} {H : Hp} (I : L2.St → Hp → Prop) (h1 : ∀ R : TS, (∀ σ H, I σ H → R D σ H) → tSeq s1 (tSeq s2 (tSeq s3 (tSeq s4 R))) D σ H) (h2 : ∀ σ H, I σ H → s5 D σ H) : tSeq s1 (tSeq s2 (tSeq s3 (tSeq s4 s5))) D σ H := h1 s5 h2
end Y

set_option Elab.async false
set_option linter.all false
set_option maxRecDepth 100000
set_option maxHeartbeats 4000000
namespace Y
open PySem L2 PySem.Spec PyProof.Rows
/-! ### list(d.values()) -/
theorem kv_snd {κ : Type} : ∀ {kvs : List (κ × V)} {vs : List (κ × Value)}, KV kvs vs → Vals (kvs.map (·.2)) (vs.map (·.2))
  | _, _, .nil => .nil
  | _, _, .cons h t => .cons h.2 (kv_snd t)
def tLVals (td : TE) : TE := fun σ H Q => td σ H fun x H1 => ∃ a kvs, x = .ref a ∧ H1 a = some (.dK kvs) ∧ kvs.length ≤ 1000000 ∧ ∀ p, H1 p = none → Q (.ref p) (upd H1 p (.lst (kvs.map (·.2))))
theorem pe_lvals {X : Cx} {o : Expr} {td : TE} {p apos mpos pos : Pos} (hcalm : X.calm = true) (hglob : Gl X "list") (hnone : X.mg "list" = none) (ho : PE X o td) (hb0 : attributeBase o "values" X.env (eval o X.env) = eval o X.env := by rfl) (hln : (apos.endLine == mpos.line) = true := by rfl)
    (hst : starEach [Expr.Call (.Attribute o "values" apos) [] [] mpos] X.env = [(false, eval (Expr.Call (.Attribute o "values" apos) [] [] mpos) X.env)] := by rfl) :
    PE X (.Call (.Name "list" p) [.Call (.Attribute o "values" apos) [] [] mpos] [] pos) (tLVals td) := by
  refine ⟨fun pins s σ H Q I hq => ?_⟩
  refine wpAny_Call_Name_kw (ld_blt I hglob hnone b_list ?_ (by decide) (by decide))
  rw [hst]
  refine PySem.callWith_type1 (wpAny_Call_method0_late hb0 hln (thn (ho.run pins s σ H _ I hq) fun v s1 hv => ?_))
  obtain ⟨x, H1, I1, rx, a, kvs, ex, ea, hlen, q⟩ := hv
  subst ex
  obtain rfl : v = Value.ref a := rx
  obtain ⟨hsize, hsys, vs, rel, dof⟩ := dk_of I1.hok ea
  obtain ⟨ep, dat⟩ := dof.dictAt
  obtain ⟨ob, es, eo, exact_, erest⟩ := id dat
  refine ⟨"dict", "dict.values", PySem.F.plainAttrs_dict, PySem.F.slot_dict_values, PySem.F.type_dict_values, ⟨ob, eo, exact_.1⟩, fun b e => by cases e; exact ⟨ob, eo, exact_.2.1⟩, Calls.callWith_builtin rfl (PySem.evalArgs_none ?_)⟩
  refine call_meetsIn PySem.F.slot_dict_values ⟨ob, eo, exact_.1⟩ PySem.F.entry_dict_values (PySem.F.args_dict_values_1 _) (meets_dict_values (mixKind X.prog X.w) a hsys) ⟨⟨vs, dof⟩, ?_⟩
  have grow : ∀ b u, s1.heap.get? b = some u → (s1.heap.push { cls := .type "dict_values", data := .fields #[.ref a] }).get? b = some u := fun b u e => Heap.get?_push_of_some _ e
  have sz : (s1.heap.push { cls := .type "dict_values", data := .fields #[.ref a] }).objs.size = s1.heap.objs.size + 1 := Heap.size_push _ _
  have lenv : vs.length = kvs.length := (Paired.length rel).symm
  refine PySem.W.kdl_call (PySem.W.kdl_values (knd := mixKind X.prog X.w) (r := s1.heap.objs.size) (d := a) (kvs := vs) (ep := ep)) (I1.ok.hd hcalm) ⟨⟨_, Heap.get?_push_size _ rfl, rfl, rfl⟩, dat.keep grow⟩ (by rw [lenv]; exact hsize) fun h' tk acc c hk hnew hacc => ?_
  have evs : acc.toList = vs.map (·.2) := PySem.W.kdl_vals_eq _ (by rw [Array.length_toList]; exact hacc.1) fun j w e => hacc.2 j w (by rw [← Array.getElem?_toList]; exact e)
  have free : H1 (s1.heap.push { cls := .type "dict_values", data := .fields #[.ref a] }).objs.size = none := I1.hok.fresh (by rw [sz]; exact Nat.le_succ _)
  refine ⟨.ref _, upd H1 _ (.lst (kvs.map (·.2))), I1.laid (a := (s1.heap.push { cls := .type "dict_values", data := .fields #[.ref a] }).objs.size) (fun b u e => hk b u (grow b u e)) (by rw [sz]; exact Nat.le_succ _) ?_, rfl, q _ free⟩
  refine ⟨?_, acc.toList, c, ?_, ?_⟩
  · rw [List.length_map]
    exact hsize
  · rw [evs]
    exact kv_snd rel
  · rw [hnew]
/-! ### dicts, read -/
def fPut3 (x v : V) (nx : L2.St → Hp → Prop) (σ : L2.St) : VK := fun y H3 => ∃ a H4, x = .ref a ∧ DPut H3 a y v H4 ∧ nx σ H4
def fPut2 (ty : TE) (v : V) (nx : L2.St → Hp → Prop) (σ : L2.St) : VK := fun x H2 => ty σ H2 (fPut3 x v nx σ)
def fPut1 (td ty : TE) (nx : L2.St → Hp → Prop) (σ : L2.St) : VK := fun v H1 => td σ H1 (fPut2 ty v nx σ)
def fDel2 (x : V) (nx : L2.St → Hp → Prop) (σ : L2.St) : VK := fun y H2 => ∃ a kvs k, x = .ref a ∧ H2 a = some (.dK kvs) ∧ y = kV k ∧ (valV kvs k).isSome = true ∧ nx σ (upd H2 a (.dK (dropK kvs k)))
def fDel1 (ty : TE) (nx : L2.St → Hp → Prop) (σ : L2.St) : VK := fun x H1 => ty σ H1 (fDel2 x nx σ)
def fGet2 (x : V) (Q : VK) : VK := fun y H2 => ∃ a v, x = .ref a ∧ DGet H2 a y (some v) ∧ Q v H2
def fGet1 (ty : TE) (σ : L2.St) (Q : VK) : VK := fun x H1 => ty σ H1 (fGet2 x Q)
def fIn2 (neg : Bool) (y : V) (Q : VK) : VK := fun x H2 => ∃ a o, x = .ref a ∧ DGet H2 a y o ∧ Q (.bl (if neg then !o.isSome else o.isSome)) H2
def fIn1 (neg : Bool) (td : TE) (σ : L2.St) (Q : VK) : VK := fun y H1 => td σ H1 (fIn2 neg y Q)
def fNin2 (y : V) (Q : VK) : VK := fun x H2 => (∃ a o, x = .ref a ∧ DGet H2 a y o ∧ Q (.bl (!o.isSome)) H2) ∨ ∃ a kvs, x = .ref a ∧ y = .non ∧ Rd H2 a (.dK kvs) ∧ Q (.bl true) H2
def fNin1 (td : TE) (σ : L2.St) (Q : VK) : VK := fun y H1 => td σ H1 (fNin2 y Q)
section
variable {td ty tv : TE} {nx : L2.St → Hp → Prop} {rt Q : VK} {bk ct : L2.St → Hp → Prop} {σ : L2.St} {H : Hp} {x y v : V} {a : Addr} {kvs : List (Key × V)} {i : Int} {z : Str}
theorem e_dput : sDPut td ty tv ⟨nx, rt, bk, ct⟩ σ H = tv σ H (fPut1 td ty nx σ) := rfl
theorem e_dput1 : fPut1 td ty nx σ v H = td σ H (fPut2 ty v nx σ) := rfl
theorem e_dput2 : fPut2 ty v nx σ x H = ty σ H (fPut3 x v nx σ) := rfl
theorem e_ddel : sDDel td ty ⟨nx, rt, bk, ct⟩ σ H = td σ H (fDel1 ty nx σ) := rfl
theorem e_ddel1 : fDel1 ty nx σ x H = ty σ H (fDel2 x nx σ) := rfl
theorem e_dget : tDGet td ty σ H Q = td σ H (fGet1 ty σ Q) := rfl
theorem e_dget1 : fGet1 ty σ Q x H = ty σ H (fGet2 x Q) := rfl
theorem e_din : tDIn ty td σ H Q = ty σ H (fIn1 false td σ Q) := rfl
theorem e_dnin : tDNotIn ty td σ H Q = ty σ H (fIn1 true td σ Q) := rfl
theorem e_din1 {b : Bool} : fIn1 b td σ Q y H = td σ H (fIn2 b y Q) := rfl
theorem e_dninN : tDNotInN ty td σ H Q = ty σ H (fNin1 td σ Q) := rfl
theorem e_dninN1 : fNin1 td σ Q y H = td σ H (fNin2 y Q) := rfl
theorem k_dputI (e : H a = some (.dK kvs)) (hl : kvs.length < 1000000) (q : nx σ (upd H a (.dK (putK kvs (Sum.inl i) v)))) : fPut3 (.ref a) v nx σ (.int i) H := ⟨a, _, rfl, DPut.k (k := Sum.inl i) e (Nat.lt_of_lt_of_le hl (by decide)), q⟩
theorem k_dputS (e : H a = some (.dK kvs)) (hl : kvs.length < 1000000) (q : nx σ (upd H a (.dK (putK kvs (Sum.inr z) v)))) : fPut3 (.ref a) v nx σ (.str z) H := ⟨a, _, rfl, DPut.k (k := Sum.inr z) e (Nat.lt_of_lt_of_le hl (by decide)), q⟩
theorem k_ddelI (e : H a = some (.dK kvs)) (h : (valV kvs (Sum.inl i)).isSome = true) (q : nx σ (upd H a (.dK (dropK kvs (Sum.inl i))))) : fDel2 (.ref a) nx σ (.int i) H := ⟨a, kvs, Sum.inl i, rfl, e, rfl, h, q⟩
theorem k_dgetI (e : Rd H a (.dK kvs)) (h : valV kvs (Sum.inl i) = some v) (q : Q v H) : fGet2 (.ref a) Q (.int i) H := ⟨a, v, rfl, .inl ⟨kvs, Sum.inl i, e, rfl, h.symm⟩, q⟩
theorem k_dinI {b : Bool} (e : Rd H a (.dK kvs)) (q : Q (.bl (if b then !(valV kvs (Sum.inl i)).isSome else (valV kvs (Sum.inl i)).isSome)) H) : fIn2 b (.int i) Q (.ref a) H := ⟨a, _, rfl, .inl ⟨kvs, Sum.inl i, e, rfl, rfl⟩, q⟩
theorem k_dinS {b : Bool} (e : Rd H a (.dK kvs)) (q : Q (.bl (if b then !(valV kvs (Sum.inr z)).isSome else (valV kvs (Sum.inr z)).isSome)) H) : fIn2 b (.str z) Q (.ref a) H := ⟨a, _, rfl, .inl ⟨kvs, Sum.inr z, e, rfl, rfl⟩, q⟩
theorem k_dninI (e : Rd H a (.dK kvs)) (q : Q (.bl (!(valV kvs (Sum.inl i)).isSome)) H) : fNin2 (.int i) Q (.ref a) H := .inl ⟨a, _, rfl, .inl ⟨kvs, Sum.inl i, e, rfl, rfl⟩, q⟩
theorem k_dninN (e : Rd H a (.dK kvs)) (q : Q (.bl true) H) : fNin2 .non Q (.ref a) H := .inr ⟨a, kvs, rfl, rfl, e, q⟩
end
theorem putK_new {κ : Type} [DecidableEq κ] {kvs : List (κ × V)} {k : κ} {v : V} (h : ∀ p ∈ kvs, p.1 ≠ k) : putK kvs k v = kvs ++ [(k, v)] := by
  unfold putK
  rw [if_neg]
  simp only [List.any_eq_true, decide_eq_true_eq, not_exists, not_and]
  exact h
theorem valV_none {κ : Type} [DecidableEq κ] {kvs : List (κ × V)} {k : κ} (h : ∀ p ∈ kvs, p.1 ≠ k) : valV kvs k = none := by
  unfold valV
  rw [List.find?_eq_none.mpr (fun p hp => by simpa using h p hp)]
  rfl
theorem valV_some {κ : Type} [DecidableEq κ] : ∀ {kvs : List (κ × V)} {k : κ} {v : V}, (k, v) ∈ kvs → (∀ p ∈ kvs, p.1 = k → p.2 = v) → valV kvs k = some v
  | [], _, _, h, _ => absurd h List.not_mem_nil
  | p :: r, k, v, h, u => by
    by_cases e : p.1 = k
    · rw [valV_pos e, u p List.mem_cons_self e]
    · rw [valV_neg e]
      refine valV_some ?_ fun q hq => u q (List.mem_cons_of_mem _ hq)
      rcases List.mem_cons.mp h with h | h
      · rw [← h] at e
        exact absurd rfl e
      · exact h
/-! ### the values of a dict that is held -/
def fVals (R : It → Hp → Prop) : VK := fun x H1 => ∃ d o kvs, x = .ref d ∧ H1 d = some (.frz o (.dK kvs)) ∧ R (Itd d o kvs) H1
theorem e_vals {td : TE} {R : It → Hp → Prop} {σ : L2.St} {H : Hp} : iVals td σ H R = td σ H (fVals R) := rfl
theorem k_vals {R : It → Hp → Prop} {d : Addr} {o : Obj} {kvs : List (Key × V)} {H : Hp} (h : H d = some (.frz o (.dK kvs))) (q : R (Itd d o kvs) H) : fVals R (.ref d) H := ⟨d, o, kvs, rfl, h, q⟩
def fLVals (Q : VK) : VK := fun x H1 => ∃ a kvs, x = .ref a ∧ H1 a = some (.dK kvs) ∧ kvs.length ≤ 1000000 ∧ ∀ p, H1 p = none → Q (.ref p) (upd H1 p (.lst (kvs.map (·.2))))
theorem e_lvals {td : TE} {Q : VK} {σ : L2.St} {H : Hp} : tLVals td σ H Q = td σ H (fLVals Q) := rfl
end Y

set_option Elab.async false
set_option linter.all false
set_option maxRecDepth 100000
set_option maxHeartbeats 2000000
namespace Y
open PySem L2
/-! ### for i, x in enumerate(xs, start=k), xs a list -/
def IteS (K : PySem.W.Frag) (a : Addr) (k : Int) : It :=
  ⟨fun i H => ∃ (xs : List V) (x : V), SqL K H a xs ∧ xs[i]? = some x, fun i H v H' => ∃ T x, v = .ref T ∧ H T = none ∧ H' = upd H T (.tup [.int (k + (i : Nat)), x]) ∧ ∀ xs, SqL K H a xs → xs[i]? = some x,
    fun i H => ∃ xs : List V, SqL K H a xs ∧ xs.length ≤ i⟩
theorem turn_enumS {P : Program} {w : World} {K : PySem.W.Frag} {elts : List Expr} {kk : Nat} {tpos : Pos} (k : Int) (a e it : Addr) :
    Turn P w K (.Tuple elts kk tpos) (IteS K a k) [e, it] e (fun i h => (∃ old, IsEnum h e it (k + (i : Nat)) old) ∧ h.IsListIter it a i ∧ e ≠ it ∧ a ≠ it ∧ a ≠ e) where
  mem := by simp
  obj := fun i h st b hb => by
    rcases st with ⟨⟨old, he⟩, ⟨o, ho, hc, hd⟩, _⟩
    rcases List.mem_cons.mp hb with z | z
    · subst z
      exact ⟨_, he, fun v q => nomatch q⟩
    · have z' := List.mem_singleton.mp z
      subst z'
      exact ⟨o, ho, fun v q => by rw [hd] at q; cases q⟩
  keep := fun i h h' st k => by
    rcases st with ⟨⟨old, he⟩, hi, ne⟩
    exact ⟨⟨old, k e (by simp) _ he⟩, hi.at fun o q => k it (by simp) o q, ne⟩
  item := by
    rintro X rfl rfl rfl hc i pins s σ H E I hf st ⟨xs, x, hq, hx⟩
    rcases st with ⟨⟨old, he⟩, hit, hne, hai, hae⟩
    obtain ⟨its, rv, p, hz⟩ := I.list hq
    obtain ⟨u, hu, ru⟩ := rv.get hx
    have hel : e < s.heap.objs.size := Heap.lt_size he
    have hil : it < s.heap.objs.size := by
      obtain ⟨_, q, _⟩ := hit
      exact Heap.lt_size q
    have hlt : i < its.toArray.size := by
      have := (List.getElem?_eq_some_iff.mp hu).1
      simpa using this
    have D := Draws.list (prog := X.prog) (w := X.w) (A := X.A.in1) (I.ok.hd hc) it a hai its.toArray
    refine wpAny_pyNext_enum_itemC D he ⟨hit, p.isList⟩ hlt hne (by simp [hne, Ne.symm hae]) fun y h' tk hy ho hst' hT hsz hk => ?_
    have hy' : y = u := by
      have e1 : its.toArray[i]? = its[i]? := by simp
      rw [e1, hu] at hy
      exact (Option.some.inj hy).symm
    subst hy'
    refine ⟨_, rfl, wpAny_letOwnedTupleGo_enum (s := { s with heap := h', toks := tk + 1 }) ho fun h2 he' sb => ?_⟩
    have hT2 : h2.get? s.heap.objs.size = some { cls := .type "tuple", data := .seq #[.int (k + (i : Nat)) tk, y] } := (sb.2 _ (Nat.ne_of_gt hel)).trans hT
    have new : ObjOk X.prog X.w (upd H s.heap.objs.size (.tup [.int (k + (i : Nat)), x])) h2 s.heap.objs.size (.tup [.int (k + (i : Nat)), x]) :=
      ⟨(by decide : 2 ≤ sizeLine), [.int (k + (i : Nat)) tk, y], .cons ⟨_, rfl⟩ (.cons ru .nil), ⟨_, hT2, rfl, _, rfl⟩⟩
    have I1 : Inv X pins σ (upd H s.heap.objs.size (.tup [.int (k + (i : Nat)), x])) { s with heap := h2, toks := tk + 1 } := by
      refine I.turnedNew (ch := [e, it]) (fun b ob hb q => ?_) hf (Nat.le_refl _) new
      have h1 : b ≠ e := fun z => hb (by simp [z])
      have h3 : b ≠ it := fun z => hb (by simp [z])
      exact (sb.2 b h1).trans (hk b ob h1 h3 q)
    refine ⟨.ref s.heap.objs.size, _, I1, rfl, ⟨_, x, rfl, I.hok.fresh (Nat.le_refl _), rfl, fun ys hy => by rw [I.list_inj hy hq]; exact hx⟩, ⟨⟨y, ?_⟩, hst'.1.at fun o q => (sb.2 it (Ne.symm hne)).trans q, hne, hai, hae⟩, fun b hb => ?_⟩
    · rw [show k + ((i + 1 : Nat) : Int) = k + (i : Int) + 1 by omega]
      exact he'
    · have hb' : b < s.heap.objs.size := by
        rcases List.mem_cons.mp hb with z | z
        · rw [z]
          exact hel
        · rw [List.mem_singleton.mp z]
          exact hil
      rw [upd_ne (Nat.ne_of_lt hb')]
      exact (hf b hb).1
  done := by
    rintro X rfl rfl rfl hc i pins s σ H E I hf st ⟨xs, hq, hx⟩
    rcases st with ⟨⟨old, he⟩, hit, hne, hai, hae⟩
    obtain ⟨its, rv, p, hz⟩ := I.list hq
    obtain ⟨f0, f1, f2, f3, f4, f5⟩ := hf it (by simp)
    have hl := rv.length
    have D := Draws.list (prog := X.prog) (w := X.w) (A := X.A.in1) (I.ok.hd hc) it a hai its.toArray
    have D' : Draws X.prog X.w X.A.in1 it [it, a] 0 (fun _ _ => True) (fun j h => h.IsListIter it a (i + j) ∧ h.IsList a its.toArray) := {
      live := fun j h st => D.live _ h st
      frame := fun j h h' st k => D.frame _ h h' st k
      item := fun j s Q E hj => absurd hj (Nat.not_lt_zero _)
      done := fun s Q E st hE => wpAny_nextOf_list_end (I.ok.hd hc) st.1 st.2 (by simp; omega) hE }
    exact wpAny_pyNext_enum_endD D' he ⟨hit, p.isList⟩ fun h' eb => ⟨rfl, I.turned (t' := s.toks) (fun b o hb q => eb b o hb q) f0 f1 f3 f4 f5⟩
  self := fun A i s Q E st h => by
    rcases st with ⟨⟨_, he⟩, _⟩
    exact wpAny_pyIter_enum he h
def iEnumS (K : PySem.W.Frag) (ta tk : TA) : TI := fun σ H R => ta σ H fun vs H1 => tk σ H1 fun ws H2 => ∃ a xs k, vs = [.ref a] ∧ ws = [.int k] ∧ SqL K H2 a xs ∧ -(2 ^ 62) ≤ k ∧ k < 2 ^ 62 ∧ R (IteS K a k) H2
theorem callWith_tyKw {M : Model} {A : Around} {E : Value → Shared → Prop} {s : Shared} {env : Env} {pos : Pos} {T : String} {e : Expr} {rest : List Expr} {kws : List Keyword} {Q : Value → Shared → Prop}
    (h : wpAny M A (spliced (backTo pos (starEach (e :: rest) env))) (fun vs s1 => wpAny M A (evalAll ((backToKw pos (keywordEach kws env)).map (·.2)))
      (fun kvs s2 => wpAny M A (call (.type T) vs (((backToKw pos (keywordEach kws env)).filterMap (·.1)).zip kvs)) Q E s2) E s1) E s)
    (he : backTo pos (starEach (e :: rest) env) = (false, eval e env) :: backTo pos (starEach rest env))
    (hplain : (backTo pos (starEach (e :: rest) env)).any (·.1) = false) (hall : (backToKw pos (keywordEach kws env)).all (·.1.isSome) = true) (hkw : (backToKw pos (keywordEach kws env)).any (·.1.isNone) = false) :
    wpAny M A (callWith pos (.type T) [] (backTo pos (starEach (e :: rest) env)) (backToKw pos (keywordEach kws env))) Q E s := by
  have g : wpAny M A (evalArgs (.type T) true (backTo pos (starEach (e :: rest) env)) (backToKw pos (keywordEach kws env))) (fun a s1 => wpAny M A (call (.type T) ([] ++ a.pos) a.kw) Q E s1) E s := by
    rw [he] at h ⊢
    exact PyProof.Rows.evalArgs_kwB hall h
  unfold callWith
  refine wpAny_bind (wpAny_holding (wpAny_mono g (fun a s1 h1 => wpAny_bind (wpAny_standAt ?_)) fun _ _ x => x))
  simp only [hplain, hkw, Bool.or_false]
  exact wpAny_bind (wpAny_pure (wpAny_bind (wpAny_mono h1 (fun r s2 hr => wpAny_bind (wpAny_holding (wpAny_point (wpAny_pure hr)))) fun _ _ x => x)))
theorem pi_enumS {X : Cx} {e : Expr} {kws : List Keyword} {ta tk : TA} {p pos tpos : Pos} {elts : List Expr} {kk : Nat} (hg : Gl X "enumerate") (hm : X.mg "enumerate" = none) (ha : PA X [e] ta) (hk : PK X kws tk)
    (he : backTo pos (starEach [e] X.env) = (false, eval e X.env) :: backTo pos (starEach [] X.env) := by rfl) (hpl : (backTo pos (starEach [e] X.env)).any (·.1) = false := by rfl)
    (hall : (backToKw pos (keywordEach kws X.env)).all (·.1.isSome) = true := by rfl) (hnone : (backToKw pos (keywordEach kws X.env)).any (·.1.isNone) = false := by rfl) (hks : (backToKw pos (keywordEach kws X.env)).filterMap (·.1) = [Str.ofString "start"] := by rfl) :
    PI X (.Tuple elts kk tpos) (.Call (.Name "enumerate" p) [e] kws pos) (iEnumS X.K ta tk) := by
  refine ⟨fun pins s σ H R I h => wpAny_Call_Name_kw (ld_blt I hg hm PyProof.Rows.boot_enumerate (callWith_tyKw (thn (ha.run pos pins s σ H _ I h) fun us s1 ⟨vs, H1, I1, r1, q1⟩ => thn (hk.run pos pins s1 σ H1 _ I1 q1) fun ws s2 ⟨zs, H2, I2, r2, q2⟩ => ?_) he hpl hall hnone))⟩
  rw [hks]
  rcases q2 with ⟨a, xs, k, rfl, rfl, hq, hk1, hk2, q⟩
  obtain ⟨u, rfl, ru⟩ := vals1 r1
  obtain ⟨v, rfl, ⟨t, rfl⟩⟩ := vals1 r2
  obtain rfl : u = Value.ref a := ru
  obtain ⟨its, rv, p', hz⟩ := I2.list hq
  refine enum_begins_start (begins_list a its.toArray) p'.isList (by omega) (by omega) fun h' he' hit hsz hkeep => wpAny_pyIter_enum he' ?_
  have I3 : Inv X pins σ H2 { s2 with heap := h' } := I2.kept (t' := s2.toks) hkeep
  have hal : a < s2.heap.objs.size := p'.lt
  refine ⟨s2.heap.objs.size + 1, [s2.heap.objs.size + 1, s2.heap.objs.size], _, _, H2, rfl, I3, turn_enumS k a (s2.heap.objs.size + 1) s2.heap.objs.size, ⟨⟨.none, by rw [show k + ((0 : Nat) : Int) = k by omega]; exact he'⟩, ⟨_, hit, rfl, rfl⟩, Nat.succ_ne_self _, Nat.ne_of_lt hal, Nat.ne_of_lt (Nat.lt_succ_of_lt hal)⟩, fun b hb => ?_, q⟩
  have hle : s2.heap.objs.size ≤ b := by
    rcases List.mem_cons.mp hb with z | z
    · rw [z]
      exact Nat.le_succ _
    · rw [List.mem_singleton.mp z]
      exact Nat.le_refl _
  exact I2.fpOk hle (I2.hok.fresh hle)
theorem walk_enumS {K : PySem.W.Frag} {a : Addr} {k : Int} {xs : List V} : Walk (IteS K a k) xs.length (fun H => SqL K H a xs) (YPair (fun i => some (.int (k + (i : Nat)))) (fun i => xs[i]?)) := by
  refine ⟨fun i _ hi q => ⟨xs, xs[i], q, by simp [hi]⟩, fun _ q => ⟨xs, q, Nat.le_refl _⟩, fun i H v H' _ q y => ?_⟩
  rcases y with ⟨T, x, h1, h2, h3, h4⟩
  exact ⟨T, .int (k + (i : Nat)), x, h1, h2, h3, rfl, h4 xs q⟩
def fEnumS (K : PySem.W.Frag) (tk : TA) (R : It → Hp → Prop) (σ : L2.St) : List V → Hp → Prop := fun vs H1 => tk σ H1 fun ws H2 => ∃ a xs k, vs = [.ref a] ∧ ws = [.int k] ∧ SqL K H2 a xs ∧ -(2 ^ 62) ≤ k ∧ k < 2 ^ 62 ∧ R (IteS K a k) H2
def fEnumS2 (K : PySem.W.Frag) (vs : List V) (R : It → Hp → Prop) : List V → Hp → Prop := fun ws H2 => ∃ a xs k, vs = [.ref a] ∧ ws = [.int k] ∧ SqL K H2 a xs ∧ -(2 ^ 62) ≤ k ∧ k < 2 ^ 62 ∧ R (IteS K a k) H2
section
variable {K : PySem.W.Frag} {ta tk : TA} {σ : L2.St} {H : Hp} {R : It → Hp → Prop} {vs : List V} {a : Addr} {xs : List V} {k : Int}
theorem e_enumS : iEnumS K ta tk σ H R = ta σ H (fEnumS K tk R σ) := rfl
theorem e_enumS1 : fEnumS K tk R σ vs H = tk σ H (fEnumS2 K vs R) := rfl
theorem k_enumS (h : SqL K H a xs) (h1 : -(2 ^ 62) ≤ k) (h2 : k < 2 ^ 62) (q : R (IteS K a k) H) : fEnumS2 K [.ref a] R [.int k] H := ⟨a, xs, k, rfl, rfl, h, h1, h2, q⟩
end
/-! ### zip of two tuples -/
def fZipA (K : PySem.W.Frag) (R : It → Hp → Prop) : List V → Hp → Prop := fun vs H1 => ∃ a b xs ys, vs = [.ref a, .ref b] ∧ ((SqL K H1 a xs ∧ SqL K H1 b ys ∧ R (Itz K a b) H1) ∨ (SqT K H1 a xs ∧ SqT K H1 b ys ∧ R (RZ.ItzT K a b) H1))
theorem pi_zipAk {X : Cx} (K : PySem.W.Frag) {e e2 : Expr} {ta : TA} {p pos tpos : Pos} {elts : List Expr} {kk : Nat} (hg : Gl X "zip") (hm : X.mg "zip" = none) (ha : PA X [e, e2] ta) (hK : X.K = K := by rfl)
    (hs : starEach [e, e2] X.env = (false, eval e X.env) :: starEach [e2] X.env := by rfl) (hpl : (backTo pos (starEach [e2] X.env)).any (·.1) = false := by rfl) :
    PI X (.Tuple elts kk tpos) (.Call (.Name "zip" p) [e, e2] [] pos) (RZ.iZipA K ta) := by
  subst hK
  exact RZ.pi_zipA hg hm ha hs hpl
section
variable {K : PySem.W.Frag} {ta : TA} {σ : L2.St} {H : Hp} {R : It → Hp → Prop} {a b : Addr} {xs ys : List V}
theorem e_zipA : RZ.iZipA K ta σ H R = ta σ H (fZipA K R) := rfl
theorem k_zipT (h1 : SqT K H a xs) (h2 : SqT K H b ys) (q : R (RZ.ItzT K a b) H) : fZipA K R [.ref a, .ref b] H := ⟨a, b, xs, ys, rfl, .inr ⟨h1, h2, q⟩⟩
theorem k_zipL (h1 : SqL K H a xs) (h2 : SqL K H b ys) (q : R (Itz K a b) H) : fZipA K R [.ref a, .ref b] H := ⟨a, b, xs, ys, rfl, .inl ⟨h1, h2, q⟩⟩
theorem walk_zipT {n : Nat} (hn : n = min xs.length ys.length) : Walk (RZ.ItzT K a b) n (fun H => SqT K H a xs ∧ SqT K H b ys) (YPair (fun i => xs[i]?) (fun i => ys[i]?)) := by
  subst hn
  refine ⟨fun i _ hi q => ?_, fun _ q => ⟨xs, ys, q.1, q.2, Nat.le_total xs.length ys.length |>.elim (fun h => .inl (by omega)) fun h => .inr (by omega)⟩, fun i H v H' _ q y => ?_⟩
  · have l1 : i < xs.length := by omega
    have l2 : i < ys.length := by omega
    exact ⟨xs, ys, xs[i], ys[i], q.1, q.2, List.getElem?_eq_getElem l1, List.getElem?_eq_getElem l2⟩
  · rcases y with ⟨T, x, z, h1, h2, h3, h4, h5⟩
    exact ⟨T, x, z, h1, h2, h3, h4 _ q.1, h5 _ q.2⟩
end
/-! ### a dict that the top has written -/
def rInKd (K : PySem.W.Frag) (w : World) (neg : Bool) : R2 := fun x y H Q => ∃ (z : Str) (d : Addr) (es : Array DictEntry) (n : Nat) (r : Option Value), x = .str z ∧ y = .ref d ∧ KDict K w d es n ∧ PySem.W.nsIn K d z = some r ∧ Q (.bl (if neg then !r.isSome else r.isSome)) H
theorem op_inKd {X : Cx} (K : PySem.W.Frag) (w : World) (hK : X.K = K := by rfl) (hw : X.w = w := by rfl) : OpR X (compareOp .In) (rInKd K w false) := by
  subst hK hw
  intro pins s σ H x y v u Q I rx ry h
  obtain ⟨z, d, es, n, r, rfl, rfl, D, e, q⟩ := h
  exact op_in_kd D pins s σ H _ _ v u Q I rx ry ⟨z, r, rfl, rfl, e, q⟩
theorem op_ninKd {X : Cx} (K : PySem.W.Frag) (w : World) (hK : X.K = K := by rfl) (hw : X.w = w := by rfl) : OpR X (compareOp .NotIn) (rInKd K w true) := by
  subst hK hw
  intro pins s σ H x y v u Q I rx ry h
  obtain ⟨z, d, es, n, r, rfl, rfl, D, e, q⟩ := h
  exact op_notIn_kd D pins s σ H _ _ v u Q I rx ry ⟨z, r, rfl, rfl, e, q⟩
theorem ix_kd {X : Cx} (K : PySem.W.Frag) (w : World) (hK : X.K = K := by rfl) (hw : X.w = w := by rfl) : IxR X (rIxD K w) := by
  subst hK hw
  exact ix_kdict
section
variable {K : PySem.W.Frag} {w : World} {H : Hp} {Q : VK} {z : Str} {d t : Addr} {es : Array DictEntry} {n : Nat} {r : Option Value} {neg : Bool}
theorem k_inKd (D : KDict K w d es n) (e : PySem.W.nsIn K d z = some r) (q : Q (.bl (if neg then !r.isSome else r.isSome)) H) : fOp2 (rInKd K w neg) (.str z) Q (.ref d) H := ⟨z, d, es, n, r, rfl, rfl, D, e, q⟩
theorem k_ixKd (D : KDict K w d es n) (e : PySem.W.nsIn K d z = some (some (.ref t))) (q : Q (.ref t) H) : fOp2 (rIxD K w) (.ref d) Q (.str z) H := ⟨d, z, .ref t, rfl, rfl, ⟨es, n, .ref t, D.at_, D.lit, e, rfl⟩, q⟩
end
structure DictW (K : PySem.W.Frag) (w : World) (a : Addr) (rows : List (Str × List Str)) : Prop where
  dict : ∃ es n, KDict K w a es n
  row : ∀ p ∈ rows, ∃ t, PySem.W.nsIn K a p.1 = some (some (.ref t)) ∧ ∀ H, SqT K H t (p.2.map V.str)
theorem fm_nil {α : Type} {R : α → Prop} : ∀ p ∈ ([] : List α), R p := fun _ h => absurd h List.not_mem_nil
theorem fm_cons {α : Type} {R : α → Prop} {x : α} {r : List α} (h : R x) (t : ∀ p ∈ r, R p) : ∀ p ∈ x :: r, R p := fun p m => (List.mem_cons.mp m).elim (fun e => by rw [e]; exact h) (t p)
/-! ### texts -/
theorem k_starts {H : Hp} {Q : VK} {a b : Str} (q : Q (.bl (Txt.startswith a b)) H) : fBM2 (fun x xs H Q => ∃ a b, x = V.str a ∧ xs = [V.str b] ∧ Q (.bl (Txt.startswith a b)) H) (.str a) Q [.str b] H := ⟨a, b, rfl, rfl, q⟩
theorem k_rmpre {H : Hp} {Q : VK} {a b : Str} (hl : a.length ≤ 100000) (q : Q (.str (Txt.removeprefix a b)) H) : fBM2 (fun x xs H Q => ∃ a b, x = V.str a ∧ xs = [V.str b] ∧ a.length ≤ sizeLine ∧ Q (.str (Txt.removeprefix a b)) H) (.str a) Q [.str b] H := ⟨a, b, rfl, rfl, Nat.le_trans hl (by decide), q⟩
theorem k_accM {Nx : Hp → Prop} {l : Addr} {v : V} {H : Hp} {acc : List V} (h : H l = some (.lst acc)) (hl : acc.length < 1000000) (q : Nx (upd H l (.lst (acc ++ [v])))) : fAcc l Nx v H := ⟨acc, h, Nat.lt_of_lt_of_le hl (by decide), q⟩
theorem e_lc2 {wi : TI} {g : TG} {tt : TT} {te : TE} {n m : Nat} {σ : L2.St} {H : Hp} {Q : VK} : tLc wi g tt te ((n : Nat) :: (m : Nat) :: []) σ H Q = wi σ H (fLc g tt te [n, m] σ Q) := rfl
theorem k_slT1 {K : PySem.W.Frag} {H : Hp} {Q : VK} {a : Addr} {xs : List V} {lo hi : Option Int} (h : SqT K H a xs) (q : ∀ (p : Addr) (H' : Hp), Same H H' → SqT K H' p (cutV xs lo hi) → Q (.ref p) H') : rSlU K (.ref a) lo hi H Q := k_slT h q
/-! ### a call with keywords -/
def fCallK (sp : Sp) (gV : List V → List V → List V) (E : XK) (tk : TA) (σ : L2.St) (Q : VK) : List V → Hp → Prop := fun vs H1 => tk σ H1 fun zs H2 => sp (gV vs zs) H2 Q E
def fCallK2 (sp : Sp) (gV : List V → List V → List V) (E : XK) (vs : List V) (Q : VK) : List V → Hp → Prop := fun zs H2 => sp (gV vs zs) H2 Q E
theorem e_callK {sp : Sp} {gV : List V → List V → List V} {E : XK} {t tk : TA} {σ : L2.St} {H : Hp} {Q : VK} : tCallK sp gV E t tk σ H Q = t σ H (fCallK sp gV E tk σ Q) := rfl
theorem e_callK1 {sp : Sp} {gV : List V → List V → List V} {E : XK} {tk : TA} {σ : L2.St} {H : Hp} {Q : VK} {vs : List V} : fCallK sp gV E tk σ Q vs H = tk σ H (fCallK2 sp gV E vs Q) := rfl
theorem e_callK2 {sp : Sp} {gV : List V → List V → List V} {E : XK} {H : Hp} {Q : VK} {vs zs : List V} : fCallK2 sp gV E vs Q zs H = sp (gV vs zs) H Q E := rfl
/-- one value by its place, one by its name -/
def kb2 {α : Type} : List α → List α → List α
  | [a], [b] => [a, b]
  | _, _ => []
theorem kb2_rel {vs : List V} {us : List Value} {zs : List V} {ws : List Value} (h : Vals vs us) (k : Vals zs ws) : Vals (kb2 vs zs) (kb2 us ws) := by
  cases h with
  | nil => cases k <;> exact .nil
  | cons a t =>
    cases t with
    | cons b t => cases k <;> exact .nil
    | nil =>
      cases k with
      | nil => exact .nil
      | cons c t =>
        cases t with
        | nil => exact .cons a (.cons c .nil)
        | cons d t => exact .nil
theorem k_dgetS {H : Hp} {Q : VK} {a : Addr} {kvs : List (Key × V)} {z : Str} {v : V} (e : Rd H a (.dK kvs)) (h : valV kvs (Sum.inr z) = some v) (q : Q v H) : fGet2 (.ref a) Q (.str z) H := ⟨a, v, rfl, .inl ⟨kvs, Sum.inr z, e, rfl, h.symm⟩, q⟩
end Y

set_option Elab.async false
set_option linter.all false
set_option maxRecDepth 100000
set_option maxHeartbeats 2000000
namespace Y
open PySem L2 PySem.Spec PyProof.Rows
/-! ### d.get(k, x), where k may be None -/
theorem d_getNone {X : Cx} {pins : List (Addr × Obj)} {σ : L2.St} {H : Hp} {s : Shared} {a : Addr} {kvs : List (Key × V)} {A : Around} {E : Value → Shared → Prop} {z : V} {r : Value} {Q : Value → Shared → Prop} (I : Inv X pins σ H s) (e : Rd H a (.dK kvs)) (rd : RelV z r) (h : ∀ w' s', Inv X pins σ H s' → RelV z w' → Q w' s') :
    wpAny (model X.prog X.w) A (call (.builtin "dict.get") [.ref a, .none, r]) Q E s := by
  obtain ⟨_, hd, vs, _, dd⟩ := dk_rd I.hok e
  obtain ⟨f, hm, hf⟩ := none_map dd
  refine call_meetsIn PySem.F.slot_dict_get dd.typeIs PySem.F.entry_dict_get (PySem.F.args_dict_get_3 _ _ _) (meets_dict_get_default (noneKind X.prog X.w) a (show (noneKind X.prog X.w).is none .none = true from rfl) hd r) ⟨_, hm, ?_⟩
  rw [hf]
  exact h _ _ (I.tok _) rd
def rGetN (H3 : Hp) (a : Addr) (y z : V) (Q : VK) : Prop := (∃ o, DGet H3 a y o ∧ Q (o.getD z) H3) ∨ ∃ kvs, y = .non ∧ Rd H3 a (.dK kvs) ∧ Q z H3
def tGetN (td ty tx : TE) : TE := fun σ H Q => td σ H fun x H1 => ∃ a, x = .ref a ∧ IsD H1 a ∧ ty σ H1 fun y H2 => tx σ H2 fun z H3 => rGetN H3 a y z Q
theorem pe_getN {X : Cx} {o e f : Expr} {apos cpos : Pos} {td ty tx : TE} (hu : X.A.units + 1 < cLine) (ho : PE X o td) (he : PE X e ty) (hf : PE X f tx) (m : M2 X o "get" apos e f cpos) : PE X (.Call (.Attribute o "get" apos) [e, f] [] cpos) (tGetN td ty tx) := by
  refine ⟨fun pins s σ H Q I h => ?_⟩
  refine wpAny_Call_method m.base m.few m.line PySem.F.plainAttrs_dict PySem.F.slot_dict_get PySem.F.type_dict_get (thn (ho.run pins s σ H _ I h) fun u s1 ⟨x, H1, I1, rx, a, ex, d, q1⟩ => ?_)
  subst ex
  obtain rfl : u = Value.ref a := rx
  obtain ⟨t1, t2, _⟩ := isD_at I1 d
  refine ⟨t1, t2, ?_⟩
  rw [m.trees]
  refine Calls.callWith_builtin rfl (Calls.evalArgs_plain (Calls.spliced_cons (thn (he.run pins s1 σ H1 _ I1 q1) fun iv s2 ⟨y, H2, I2, ry, q2⟩ =>
    Calls.spliced_cons (thn (hf.run pins s2 σ H2 _ I2 q2) fun fv s3 ⟨z, H3, I3, rz, g⟩ => Calls.spliced_nil ?_))))
  rcases g with ⟨ov, g, q3⟩ | ⟨kvs, ey, g, q3⟩
  · exact d_get2 hu I3 g ry rz fun w' s4 I4 rw' => ⟨_, H3, I4, rw', q3⟩
  · subst ey
    obtain rfl : iv = Value.none := ry
    exact d_getNone I3 g rz fun w' s4 I4 rw' => ⟨z, H3, I4, rw', q3⟩
section
variable {td ty tx : TE} {σ : L2.St} {H : Hp} {Q : VK} {a : Addr} {y z : V} {kvs : List (Key × V)} {i : Int}
def fGetN (ty tx : TE) (σ : L2.St) (Q : VK) : VK := fun x H1 => ∃ a, x = .ref a ∧ IsD H1 a ∧ ty σ H1 fun y H2 => tx σ H2 fun z H3 => rGetN H3 a y z Q
def fGetN2 (a : Addr) (tx : TE) (σ : L2.St) (Q : VK) : VK := fun y H2 => tx σ H2 fun z H3 => rGetN H3 a y z Q
def fGetN3 (a : Addr) (y : V) (Q : VK) : VK := fun z H3 => rGetN H3 a y z Q
theorem e_getN : tGetN td ty tx σ H Q = td σ H (fGetN ty tx σ Q) := rfl
theorem k_getN (e : Rd H a (.dK kvs)) (q : ty σ H (fGetN2 a tx σ Q)) : fGetN ty tx σ Q (.ref a) H := ⟨a, rfl, .inl ⟨kvs, e⟩, q⟩
theorem e_getN2 : fGetN2 a tx σ Q y H = tx σ H (fGetN3 a y Q) := rfl
theorem k_getN3I (e : Rd H a (.dK kvs)) (q : Q ((valV kvs (Sum.inl i)).getD z) H) : fGetN3 a (.int i) Q z H := .inl ⟨_, .inl ⟨kvs, Sum.inl i, e, rfl, rfl⟩, q⟩
theorem k_getN3N (e : Rd H a (.dK kvs)) (q : Q z H) : fGetN3 a .non Q z H := .inr ⟨kvs, rfl, e, q⟩
/-! ### d.pop(k), k there -/
def fPop1 (ty : TE) (σ : L2.St) (Q : VK) : VK := fun x H1 => ∃ a, x = .ref a ∧ IsD H1 a ∧ ty σ H1 fun y H2 => ∃ kvs k v, H2 a = some (.dK kvs) ∧ y = kV k ∧ valV kvs k = some v ∧ Q v (upd H2 a (.dK (dropK kvs k)))
def fPop2 (a : Addr) (Q : VK) : VK := fun y H2 => ∃ kvs k v, H2 a = some (.dK kvs) ∧ y = kV k ∧ valV kvs k = some v ∧ Q v (upd H2 a (.dK (dropK kvs k)))
theorem e_pop1 : tDPop1 td ty σ H Q = td σ H (fPop1 ty σ Q) := rfl
theorem k_pop1 (e : Rd H a (.dK kvs)) (q : ty σ H (fPop2 a Q)) : fPop1 ty σ Q (.ref a) H := ⟨a, rfl, .inl ⟨kvs, e⟩, q⟩
theorem k_pop2I {v : V} (e : H a = some (.dK kvs)) (h : valV kvs (Sum.inl i) = some v) (q : Q v (upd H a (.dK (dropK kvs (Sum.inl i))))) : fPop2 a Q (.int i) H := ⟨kvs, Sum.inl i, v, e, rfl, h, q⟩
/-! ### list(d): its keys -/
def rListD : List V → Hp → VK → Prop := fun xs H Q => ∃ (a : Addr) (kvs : List (Key × V)), xs = [.ref a] ∧ Rd H a (.dK kvs) ∧ ∀ p, H p = none → Q (.ref p) (upd H p (.lst (kvs.map fun kv => kV kv.1)))
theorem call_listDk {X : Cx} (hcalm : X.calm = true := by rfl) : CallR X (.type "list") rListD := call_listD hcalm
theorem k_listD (e : Rd H a (.dK kvs)) (q : ∀ p, H p = none → Q (.ref p) (upd H p (.lst (kvs.map fun kv => kV kv.1)))) : fCB rListD Q [.ref a] H := ⟨a, kvs, rfl, e, q⟩
/-! ### the keys of a dict that is held -/
def fKeys (R : It → Hp → Prop) : VK := fun x H1 => ∃ d o, x = .ref d ∧ ((∃ kvs, H1 d = some (.frz o (.dK kvs)) ∧ R (Itk d o kvs) H1) ∨ ∃ kvs, H1 d = some (.frz o (.dT kvs)) ∧ R (Itkt d o kvs) H1)
theorem e_keys {R : It → Hp → Prop} : iKeys td σ H R = td σ H (fKeys R) := rfl
theorem k_keys {R : It → Hp → Prop} {o : Obj} (h : H a = some (.frz o (.dK kvs))) (q : R (Itk a o kvs) H) : fKeys R (.ref a) H := ⟨a, o, rfl, .inl ⟨kvs, h, q⟩⟩
end
/-! ### a cut of a text -/
theorem sl_txtk {X : Cx} : SlR X C8.rSlX := C8.sl_txt
theorem k_slX {z : Str} {lo hi : Option Int} {H : Hp} {Q : VK} (hl : z.length ≤ 100000) (q : Q (.str (Txt.slice z lo hi)) H) : C8.rSlX (.str z) lo hi H Q := ⟨z, rfl, Nat.le_trans hl (by decide), q⟩
/-! ### a dict display -/
def fDP (tv : TE) (r : List (TE × TE)) (σ : L2.St) (Q : List (V × V) → Hp → Prop) : VK := fun x H1 => tv σ H1 fun y H2 => tPairs r σ H2 fun ps H3 => Q ((x, y) :: ps) H3
def fDP2 (x : V) (r : List (TE × TE)) (σ : L2.St) (Q : List (V × V) → Hp → Prop) : VK := fun y H2 => tPairs r σ H2 fun ps H3 => Q ((x, y) :: ps) H3
theorem e_dp {tk tv : TE} {r : List (TE × TE)} {σ : L2.St} {H : Hp} {Q : List (V × V) → Hp → Prop} : tPairs ((tk, tv) :: r) σ H Q = tk σ H (fDP tv r σ Q) := rfl
theorem e_dp1 {tv : TE} {r : List (TE × TE)} {σ : L2.St} {H : Hp} {Q : List (V × V) → Hp → Prop} {x : V} : fDP tv r σ Q x H = tv σ H (fDP2 x r σ Q) := rfl
theorem e_dp2 {r : List (TE × TE)} {σ : L2.St} {H : Hp} {Q : List (V × V) → Hp → Prop} {x y : V} : fDP2 x r σ Q y H = tPairs r σ H (fun ps H3 => Q ((x, y) :: ps) H3) := rfl
theorem e_dp0 {σ : L2.St} {H : Hp} {Q : List (V × V) → Hp → Prop} : tPairs [] σ H Q = Q [] H := rfl
def fDisp (p : Addr) (Q : VK) : List (V × V) → Hp → Prop := fun ps H2 => H2 p = some (.dK []) ∧ ∃ kvs : List (Key × V), ps = kvs.map (fun kv => (kV kv.1, kv.2)) ∧ kvs.length ≤ 15 ∧ Q (.ref p) (upd H2 p (.dK (mergeK [] kvs)))
theorem k_disp {trs : List (TE × TE)} {σ : L2.St} {H : Hp} {Q : VK} (q : ∀ p, H p = none → tPairs trs σ (upd H p (.dK [])) (fDisp p Q)) : tDisp trs σ H Q := q
end Y

set_option Elab.async false
set_option linter.all false
set_option maxRecDepth 100000
set_option maxHeartbeats 2000000
namespace Y
open PySem L2 PySem.Spec PyProof.Rows
/-! ### a call of a function that a name of one's own holds -/
def tCallV (i : Nat) (f : Addr) (sp : Sp) (E : XK) (t : TA) : TE := fun σ H Q => σ[i]? = some (some (.ref f)) ∧ t σ H fun vs H1 => sp vs H1 Q E
theorem pe_callV {X : Cx} {CX : CXT} {k i : Nat} {f : Addr} {fd : FuncData} {ps : List Str} {sp : Sp} {E : XK} {x : Str} {p pos : Pos} {e : Expr} {es : List Expr} {t : TA} (F : FnOk X.prog X.w X.K X.mg X.base CX k f fd ps sp) (hr : Room k X.A) (hN : X.N[i]? = some x) (hv : Vis X.env.scope x) (hk : PySem.W.keepIn X.K (.ref f) = true) (hb : Binds X.K fd ps []) (hx : Passes CX X E)
    (ha : PA X (e :: es) t) (hdb : (x == ("__debug__" : Str)) = false := by decide) (hcd : (x == ("__classdict__" : Str)) = false := by decide) (he : starEach (e :: es) X.env = (false, eval e X.env) :: starEach es X.env := by rfl) (hpl : (backTo pos (starEach es X.env)).any (·.1) = false := by rfl) :
    PE X (.Call (.Name x p) (e :: es) [] pos) (tCallV i f sp E t) := by
  refine ⟨fun pins s σ H Q I h => ?_⟩
  obtain ⟨e1, h⟩ := h
  refine wpAny_Call_Name_kw (thn ((pe_var hN hv hdb hcd).run pins s σ H (fun v H' => v = .ref f ∧ t σ H' fun vs H1 => sp vs H1 Q E) I ⟨_, e1, rfl, h⟩) fun u s1 ⟨v, H1, I1, r, ev, q⟩ => ?_)
  subst ev
  obtain rfl : u = Value.ref f := r
  refine PySem.W.callWith_K (h₀ := X.base) I1.ok.mod.kin hk (thn (ha.run pos pins s1 σ H1 _ I1 q) fun us s2 ⟨vs, H2, I2, r2, q2⟩ => ⟨I2.kIn, ?_⟩) he hpl
  exact run_fn F hr hb .nil hx I2 r2 (by rw [List.append_nil]; exact q2)
theorem e_callV {i : Nat} {f : Addr} {sp : Sp} {E : XK} {t : TA} {σ : L2.St} {H : Hp} {Q : VK} (h : σ[i]? = some (some (.ref f))) (q : t σ H (fCall sp [] E Q)) : tCallV i f sp E t σ H Q := ⟨h, by
  have e : fCall sp [] E Q = fun vs H1 => sp vs H1 Q E := by
    funext vs H1
    unfold fCall
    rw [List.append_nil]
  rw [← e]
  exact q⟩
/-! ### s.split(x) -/
def rSplitK : V → List V → Hp → VK → Prop := fun x xs H Q => ∃ a b, x = .str a ∧ xs = [.str b] ∧ (b.length == 0) = false ∧ a.length + 2 ≤ sizeLine ∧ rNewStrs (Txt.split a b) H Q
theorem pe_splitk {X : Cx} {o e : Expr} {to te : TE} {apos pos : Pos} (ho : PE X o to) (he : PE X e te) (hs : starEach [e] X.env = [(false, eval e X.env)] := by rfl) (hbase : attributeBase o "split" X.env (eval o X.env) = eval o X.env := by rfl) (hline : (apos.endLine == pos.line) = true := by rfl) :
    PE X (.Call (.Attribute o "split" apos) [e] [] pos) (tM1 rSplitK to te) := pe_split ho he hs hbase hline
theorem k_split {a b : Str} {H : Hp} {Q : VK} (hb : (b.length == 0) = false) (hl : a.length ≤ 100000) (q : ∀ p, H p = none → Q (.ref p) (upd H p (.lst ((Txt.split a b).map V.str)))) : rSplitK (.str a) [.str b] H Q :=
  ⟨a, b, rfl, rfl, hb, Nat.le_trans (Nat.add_le_add_right hl 2) (by decide), q⟩
/-! ### xs.reverse() -/
theorem e_bm0 {K : PySem.W.Frag} {T : String} {r : V → List V → Hp → VK → Prop} {to : TE} {σ : L2.St} {H : Hp} {Q : VK} : tBM0 K T r to σ H Q = to σ H (fBM0 K T r Q) := rfl
theorem k_bm0L {K : PySem.W.Frag} {r : V → List V → Hp → VK → Prop} {a : Addr} {xs : List V} {H : Hp} {Q : VK} (h : H a = some (.lst xs)) (q : r (.ref a) [] H Q) : fBM0 K "list" r Q (.ref a) H := ⟨.inl ⟨rfl, xs, SqL.of h⟩, q⟩
theorem k_rev {a : Addr} {xs : List V} {H : Hp} {Q : VK} (h : H a = some (.lst xs)) (q : Q .non (upd H a (.lst xs.reverse))) : rReverse (.ref a) [] H Q := ⟨a, xs, rfl, rfl, h, q⟩
end Y

set_option Elab.async false
set_option linter.all false
set_option maxRecDepth 100000
set_option maxHeartbeats 2000000
namespace Y
open PySem L2 PySem.Spec PyProof.Rows
/-! ### o.f as a target among others -/
def gFld (K : PySem.W.Frag) (to : TE) (f : Str) : TG := fun v σ H Q => to σ H fun x H1 => ∃ (a C dx : Addr) (fs : List (Str × V)), x = .ref a ∧ H1 a = some (.ins C dx fs) ∧ Cls K C ∧ NoAttr K C f ∧ fs.length < 1000 ∧ Q σ (upd H1 a (.ins C dx (putF f v fs)))
theorem pg_fld {X : Cx} {o : Expr} {to : TE} {f : Str} {pos : Pos} (ho : PE X o to) (ha : ∀ v, assign (.Attribute o f pos) X.env v = (do
      let ov ← holding [v] (eval o X.env)
      standAt pos.atName
      holding [v, ov] (setAttr ov f v)
      release [v, ov] []) := by intro _; rfl) : PG X (.Attribute o f pos) (gFld X.K to f) := by
  refine ⟨fun pins s σ H v u Q I r h => ?_⟩
  rw [ha]
  refine wpAny_bind (wpAny_holding (thn (ho.run pins s σ H _ I h) fun ov s1 ⟨x, H1, I1, r1, a, C, dx, fs, ex, ea, c, n, l, q⟩ => ?_))
  subst ex
  obtain rfl : ov = Value.ref a := r1
  refine wpAny_bind (wpAny_standAt (wpAny_bind (wpAny_holding ?_)))
  exact setattr_ok I1 ea c n l r fun s3 I3 => wpAny_release ⟨σ, _, I3, q⟩
end Y
namespace Y
open PySem L2 PySem.Spec PyProof.Rows
def fGF (K : PySem.W.Frag) (f : Str) (v : V) (σ : L2.St) (Q : L2.St → Hp → Prop) : VK := fun x H1 => ∃ (a C dx : Addr) (fs : List (Str × V)), x = .ref a ∧ H1 a = some (.ins C dx fs) ∧ Cls K C ∧ NoAttr K C f ∧ fs.length < 1000 ∧ Q σ (upd H1 a (.ins C dx (putF f v fs)))
theorem e_gfld {K : PySem.W.Frag} {to : TE} {f : Str} {v : V} {σ : L2.St} {H : Hp} {Q : L2.St → Hp → Prop} : gFld K to f v σ H Q = to σ H (fGF K f v σ Q) := rfl
theorem k_gfld {K : PySem.W.Frag} {f : Str} {v : V} {a C dx : Addr} {fs : List (Str × V)} {σ : L2.St} {H : Hp} {Q : L2.St → Hp → Prop} (h : H a = some (.ins C dx fs)) (c : Cls K C) (n : NoAttr K C f) (l : fs.length < 1000) (q : Q σ (upd H a (.ins C dx (putF f v fs)))) : fGF K f v σ Q (.ref a) H := ⟨a, C, dx, fs, rfl, h, c, n, l, q⟩
/-! ### del xs[a:] -/
theorem keep_take (its : List Value) (a : Nat) : ∀ (k : Nat), (its.zipIdx k).filterMap (fun (p : Value × Nat) => if (if (1 : Int) > 0 then decide ((a : Int) ≤ (p.2 : Int)) && decide ((p.2 : Int) < ((k + its.length : Nat) : Int)) && (((p.2 : Int) - a) % 1 == 0) else decide (((k + its.length : Nat) : Int) < (p.2 : Int)) && decide ((p.2 : Int) ≤ a) && (((a : Int) - p.2) % (-1) == 0)) = true then none else some p.1) = its.take (a - k) := by
  induction its with
  | nil => intro k; simp
  | cons x its ih =>
    intro k
    rw [List.zipIdx_cons]
    have e : k + (x :: its).length = (k + 1) + its.length := by rw [List.length_cons]; omega
    rw [e]
    by_cases h : a ≤ k
    · rw [List.filterMap_cons_none]
      · rw [ih (k + 1), show a - (k + 1) = 0 by omega, show a - k = 0 by omega]
        rfl
      · rw [if_pos]
        rw [if_pos (by decide)]
        simp only [Int.emod_one, beq_self_eq_true, Bool.and_true, Bool.and_eq_true, decide_eq_true_eq]
        omega
    · rw [List.filterMap_cons_some (b := x)]
      · rw [ih (k + 1), show a - k = (a - (k + 1)) + 1 by omega]
        rfl
      · rw [if_neg]
        rw [if_pos (by decide)]
        simp only [Int.emod_one, beq_self_eq_true, Bool.and_true, Bool.and_eq_true, decide_eq_true_eq]
        omega
theorem bounds_from {a n : Nat} (ha : a ≤ n) : sliceBounds (some (a : Int)) none none n = ((a : Int), (n : Int), 1) := by
  simp only [sliceBounds, Option.getD_none]
  have h1 : ¬ ((a : Int) < 0) := by omega
  simp only [h1, if_false, show (1 : Int) > 0 by decide, if_true]
  congr 1
  omega
section
variable {prog : Program} {w : World} {A : Around} {E : Value → Shared → Prop} {s : Shared}
set_option maxRecDepth 100000 in
theorem delItem_from {l sl : Addr} {its : List Value} {n : Nat} {vl : Value} {a : Nat} {Q : Unit → Shared → Prop}
    (e : s.heap.get? l = some { cls := .type "list", data := .seq its.toArray n }) (hs : s.heap.IsSliceOf sl vl .none .none) (pl : IsPart vl (some (a : Int))) (ha : a ≤ its.length) (hsz : its.length ≤ sizeLine)
    (h : ∀ f : Array Value → Array Value, f its.toArray = (its.take a).toArray → Q () { s with heap := s.heap.update l (Obj.mapSeq f) }) :
    wpAny (model prog w) A (delItem (.ref l) (.ref sl)) Q E s := by
  have hl : s.heap.IsList l its.toArray := PySem.IsL.isList e
  obtain ⟨os, hos, hcs, hds⟩ := id hs
  have hTs : s.TypeIs (.ref sl) "slice" := ⟨os, hos, hcs⟩
  have hstep : ¬ ((rawPart none == rawInt 0) = true) := Bool.false_ne_true
  unfold delItem
  refine wpAny_holding ?_
  refine wpAny_bind (wpAny_sequenceKey hl.typeIs (by decide) ?_)
  refine wpAny_bind (wpAny_callSpecial?_slot (name := Str.ofString "__delitem__") hl.typeIs F.slot_list_delitem
    (wpAny_call_entry F.slot_list_delitem hl.typeIs F.entry_list_delitem ?_ (F.args_list_delitem_2 _ _)))
  show wpAny _ _ (Builtin.List.listSubscript? (.ref sl) >>= _) _ _ s
  refine wpAny_bind ?_
  unfold Builtin.List.listSubscript?
  refine wpAny_bind (wpAny_specialOf hTs slice_no_index ?_)
  simp only [Option.isNone_none, if_true]
  refine wpAny_pure ?_
  show wpAny _ _ (typeOf (.ref sl) >>= _) _ _ s
  refine wpAny_bind (wpAny_typeOf hTs ?_)
  first
    | rw [if_neg (by decide)]
    | refine PySem.W.KFB.if_not (by decide) ?_
  rw [listSliceParts_eq]
  refine wpAny_bind (wpAny_bind (wpAny_field hos hds (x := .none) rfl (wpAny_bind (wpAny_listPart .none ?_))))
  rw [if_neg hstep]
  refine wpAny_bind (wpAny_field hos hds (x := vl) rfl (wpAny_bind (wpAny_listPart pl ?_)))
  refine wpAny_bind (wpAny_field hos hds (x := .none) rfl (wpAny_bind (wpAny_listPart .none (wpAny_pure ?_))))
  refine wpAny_bind (m := Builtin.List.listItems (.ref l)) ?_
  unfold Builtin.List.listItems
  refine wpAny_bind (wpAny_seqItems e rfl (wpAny_pure ?_))
  refine wpAny_bind (wpAny_of_eq ((sliceIndices_raw (some (a : Int)) none none its.toArray.size (by simp)).trans (congrArg (pure : Int × Int × Int → Sem (Int × Int × Int)) (bounds_from (by rw [List.size_toArray]; exact ha)))) ?_)
  refine wpAny_bind (wpAny_rule ?_)
  have key : (fun xs : Array Value => (xs.toList.zipIdx.filterMap fun (p : Value × Nat) => if (if (1 : Int) > 0 then decide ((a : Int) ≤ (p.2 : Int)) && decide ((p.2 : Int) < ((its.toArray.size : Nat) : Int)) && (((p.2 : Int) - a) % 1 == 0) else decide (((its.toArray.size : Nat) : Int) < (p.2 : Int)) && decide ((p.2 : Int) ≤ a) && (((a : Int) - p.2) % (-1) == 0)) = true then none else some p.1).toArray) its.toArray = (its.take a).toArray := by
    have := keep_take its a 0
    rw [Nat.zero_add, Nat.sub_zero] at this
    show (List.filterMap _ its.zipIdx).toArray = _
    rw [List.size_toArray]
    exact congrArg _ this
  refine wpAny_bind (m := updateSeq l _) (wpAny_updateSeq (f := fun xs : Array Value => (xs.toList.zipIdx.filterMap fun (p : Value × Nat) => if (if (1 : Int) > 0 then decide ((a : Int) ≤ (p.2 : Int)) && decide ((p.2 : Int) < ((its.toArray.size : Nat) : Int)) && (((p.2 : Int) - a) % 1 == 0) else decide (((its.toArray.size : Nat) : Int) < (p.2 : Int)) && decide ((p.2 : Int) ≤ a) && (((a : Int) - p.2) % (-1) == 0)) = true then none else some p.1).toArray) (hz := by rw [List.size_toArray]; exact hsz) (_hz' := Nat.le_trans (Nat.le_of_eq (congrArg Array.size key)) (by
    rw [List.size_toArray, List.length_take]
    omega)) e rfl ?_)
  refine wpAny_bind (wpAny_letGo ?_)
  first
    | exact wpAny_bind (wpAny_pure (wpAny_pure ⟨.none, rfl, wpAny_pure (h _ key)⟩))
    | exact wpAny_pure ⟨.none, rfl, wpAny_pure (h _ key)⟩
end
def tDelFrom (to : TE) (tl : TO) : TS := fun D σ H => to σ H fun x H1 => tl σ H1 fun o H2 => ∃ (l : Addr) (xs : List V) (a : Nat), x = .ref l ∧ o = some (a : Int) ∧ H2 l = some (.lst xs) ∧ a ≤ xs.length ∧ D.nx σ (upd H2 l (.lst (xs.take a)))
theorem ps_delFrom {X : Cx} {o : Expr} {lo : Option Expr} {to : TE} {tl : TO} {p2 tpos pos : Pos} (ho : PE X o to) (hl : PO X lo tl) : PS X (.Delete [.Subscript o (.Slice lo none none p2) tpos] pos) (tDelFrom to tl) := by
  refine ⟨fun pins s σ H D I h => ?_⟩
  refine wpAny_Delete (wpAny_deleteEach_cons (wpAny_delete_Subscript (thn (ho.run pins s σ H _ I h) fun u s1 ⟨x, H1, I1, rx, q1⟩ => wpAny_Slice (thn (hl.run pins s1 σ H1 _ I1 q1) fun vl s2 ⟨k, H2, I2, pl, q2⟩ => ?_))))
  rw [evalPart_none]
  refine wpAny_pure (wpAny_pure ?_)
  obtain ⟨l, xs, a, ex, ek, hH, ha, q⟩ := q2
  subst ex
  subst ek
  obtain rfl : u = Value.ref l := rx
  have I3 : Inv X pins σ H2 { s2 with heap := s2.heap.push { cls := .type "slice", data := .fields #[vl, .none, .none] } } := I2.kept (t' := s2.toks) fun b ob q => Heap.get?_push_of_some _ q
  obtain ⟨z, its, n, r, hz, e⟩ := I3.lstM hH
  have hlen := r.length
  refine delItem_from e (Heap.IsSliceOf.new ..) pl (by omega) (by omega) fun f hf => wpAny_deleteEach_nil ⟨σ, _, ?_, q⟩
  exact I3.lset (its' := its.take a) (t' := s2.toks) hH e hf (r.take a) (by rw [List.length_take]; omega)
def fDF (tl : TO) (D : Ends) (σ : L2.St) : VK := fun x H1 => tl σ H1 fun o H2 => ∃ (l : Addr) (xs : List V) (a : Nat), x = .ref l ∧ o = some (a : Int) ∧ H2 l = some (.lst xs) ∧ a ≤ xs.length ∧ D.nx σ (upd H2 l (.lst (xs.take a)))
theorem e_delF {to : TE} {tl : TO} {D : Ends} {σ : L2.St} {H : Hp} : tDelFrom to tl D σ H = to σ H (fDF tl D σ) := rfl
/-! ### o.f, f a property -/
theorem pe_propk {X : Cx} {CX : CXT} {k : Nat} {C p g : Addr} {f : Str} {fd : FuncData} {ps : List Str} {sp : Sp} {e : Expr} {pos : Pos} {ta : TE} (he : PE X e ta) (c : Cls X.K C) (hp : PropOf X.K C f p g) (F : FnOk X.prog X.w X.K X.mg X.base CX k g fd ps sp) (hr : Room (k + 1) X.A) (hb : Binds X.K fd ps []) (hx : Passes CX X.nox E0)
    (hab : attributeBase e f X.env (eval e X.env) = eval e X.env := by rfl) : PE X (.Attribute e f pos) (tProp C sp [] E0 ta) := pe_prop he c hp F hr hb .nil hx hab
def fProp (C : Addr) (sp : Sp) (Q : VK) : VK := fun x H1 => ∃ a dx fs, x = .ref a ∧ H1 a = some (.ins C dx fs) ∧ sp [.ref a] H1 Q E0
theorem e_prop {C : Addr} {sp : Sp} {ta : TE} {σ : L2.St} {H : Hp} {Q : VK} : tProp C sp [] E0 ta σ H Q = ta σ H (fProp C sp Q) := rfl
theorem k_prop {C a dx : Addr} {sp : Sp} {fs : List (Str × V)} {H : Hp} {Q : VK} (h : H a = some (.ins C dx fs)) (q : sp [.ref a] H Q E0) : fProp C sp Q (.ref a) H := ⟨a, dx, fs, rfl, h, q⟩
/-! ### dict(d) -/
def rDictD : List V → Hp → VK → Prop := fun xs H Q => ∃ (a : Addr) (kvs : List (Key × V)), xs = [.ref a] ∧ Rd H a (.dK kvs) ∧ ∀ p, H p = none → Q (.ref p) (upd H p (.dK kvs))
theorem call_dictDk {X : Cx} (hcalm : X.calm = true := by rfl) : CallR X (.type "dict") rDictD := call_dictD
theorem k_dictD {a : Addr} {kvs : List (Key × V)} {H : Hp} {Q : VK} (e : Rd H a (.dK kvs)) (q : ∀ p, H p = none → Q (.ref p) (upd H p (.dK kvs))) : fCB rDictD Q [.ref a] H := ⟨a, kvs, rfl, e, q⟩
/-! ### o.m(k = v) -/
def tMethK (C : Addr) (m : Str) (sp : Sp) (E : XK) (ta : TE) (tk : TA) : TE := fun σ H Q => ta σ H fun x H1 => ∃ a dx fs, x = .ref a ∧ H1 a = some (.ins C dx fs) ∧ fs.lookup m = none ∧ tk σ H1 fun zs H2 => sp (kb2 [.ref a] zs) H2 Q E
theorem pe_methK1 {X : Cx} {CX : CXT} {k : Nat} {C f : Addr} {fd : FuncData} {ps ks : List Str} {sp : Sp} {E : XK} {o : Expr} {m : Str} {apos pos : Pos} {kws : List Keyword} {ta : TE} {tk : TA} {pl : Sem Bool} (he : PE X o ta) (c : Cls X.K C) (hm : Meth X.K C m f) (F : FnOk X.prog X.w X.K X.mg X.base CX k f fd ps sp) (hr : Room k X.A) (hb : KBinds X.K fd ps ks kb2 kb2) (hx : Passes CX X E) (hkw : PK X kws tk)
    (hall : (backToKw pos (keywordEach kws X.env)).all (·.1.isSome) = true := by rfl) (hks : (backToKw pos (keywordEach kws X.env)).filterMap (·.1) = ks := by rfl)
    (hpl : ((backTo pos (starEach [] X.env)).any (·.1) || (backToKw pos (keywordEach kws X.env)).any (·.1.isNone)) = false := by rfl)
    (ht : eval (.Call (.Attribute o m apos) [] kws pos) X.env = (do
      let ov ← eval o X.env
      standAt apos.atName
      let (f, first) ← holding [ov] (getMethod ov m pl)
      callWith pos f first (backTo pos (starEach [] X.env)) (backToKw pos (keywordEach kws X.env))) := by rfl) :
    PE X (.Call (.Attribute o m apos) [] kws pos) (tMethK C m sp E ta tk) := by
  refine ⟨fun pins s σ H Q I h => ?_⟩
  refine PySem.W.methodCall_KW (pl := pl) (thn (he.run pins s σ H _ I h) fun u s1 ⟨x, H1, I1, rx, a, dx, fs, ex, ea, l, q⟩ => ?_) ht
  subst ex
  obtain rfl : u = Value.ref a := rx
  refine getmeth_ok I1 ea c hm l ?_
  refine PySem.W.callWith_KW0 (first := [.ref a]) (h₀ := X.base) I.ok.mod.kin hm.kp hall ?_ hpl
  refine thn (hkw.run pos pins s1 σ H1 _ I1 q) fun ws s2 ⟨zs, H2, I2, rz, q2⟩ => ⟨I2.kIn, ?_⟩
  rw [hks]
  exact run_fnk (us := [.ref a]) (vs := [.ref a]) F hr hb hx I2 (.cons rfl .nil) rz q2
def fMethK (C : Addr) (m : Str) (sp : Sp) (E : XK) (tk : TA) (σ : L2.St) (Q : VK) : VK := fun x H1 => ∃ a dx fs, x = .ref a ∧ H1 a = some (.ins C dx fs) ∧ fs.lookup m = none ∧ tk σ H1 (fCallK2 sp kb2 E [.ref a] Q)
theorem e_methK {C : Addr} {m : Str} {sp : Sp} {E : XK} {ta : TE} {tk : TA} {σ : L2.St} {H : Hp} {Q : VK} : tMethK C m sp E ta tk σ H Q = ta σ H (fMethK C m sp E tk σ Q) := rfl
theorem k_methK {C a dx : Addr} {m : Str} {sp : Sp} {E : XK} {tk : TA} {σ : L2.St} {fs : List (Str × V)} {H : Hp} {Q : VK} (h : H a = some (.ins C dx fs)) (l : fs.lookup m = none) (q : tk σ H (fCallK2 sp kb2 E [.ref a] Q)) : fMethK C m sp E tk σ Q (.ref a) H := ⟨a, dx, fs, rfl, h, l, q⟩
/-! ### a dict comprehension over items -/
def fItems (R : It → Hp → Prop) : VK := fun x H1 => ∃ d o kvs, x = .ref d ∧ H1 d = some (.frz o (.dK kvs)) ∧ R (Iti d o kvs) H1
theorem e_items {td : TE} {R : It → Hp → Prop} {σ : L2.St} {H : Hp} : iItems td σ H R = td σ H (fItems R) := rfl
theorem k_items {R : It → Hp → Prop} {d : Addr} {o : Obj} {kvs : List (Key × V)} {H : Hp} (h : H d = some (.frz o (.dK kvs))) (q : R (Iti d o kvs) H) : fItems R (.ref d) H := ⟨d, o, kvs, rfl, h, q⟩
def fDV (D : Addr) (Nx : Hp → Prop) (y : V) : VK := fun z H5 => ∃ kvs k, y = kV k ∧ H5 D = some (.dK kvs) ∧ kvs.length < sizeLine ∧ Nx (upd H5 D (.dK (putK kvs k z)))
def fDK (tv : TE) (σ2 : L2.St) (D : Addr) (Nx : Hp → Prop) : VK := fun y H4 => tv σ2 H4 (fDV D Nx y)
def fDT (tk tv : TE) (σ2 : L2.St) (D : Addr) (Nx : Hp → Prop) : Bool → Hp → Prop := fun b H3 => if b = true then tk σ2 H3 (fDK tv σ2 D Nx) else Nx H3
def fDc (g : TG) (tt : TT) (tk tv : TE) (vs : List Nat) (σ : L2.St) (Q : VK) : It → Hp → Prop := fun J H1 => ∀ D, H1 D = none → ∃ W : Nat → Nat → Hp → Prop, (∃ m, W 0 m (upd H1 D (.dK []))) ∧ ∀ i m H, W i m H →
  (J.stop i H ∧ Q (.ref D) H) ∨ (J.go i H ∧ ∃ Nx : Hp → Prop, (∀ H', Nx H' → ∃ m', m' < m ∧ W (i + 1) m' H') ∧ ∀ x H', J.yld i H x H' → g x (wipe σ vs) H' fun σ2 H2 => wipe σ2 vs = wipe σ vs ∧ tt σ2 H2 (fDT tk tv σ2 D Nx))
theorem e_dcm {wi : TI} {g : TG} {tt : TT} {tk tv : TE} {vs : List Nat} {σ : L2.St} {H : Hp} {Q : VK} : tDc wi g tt tk tv vs σ H Q = wi σ H (fDc g tt tk tv vs σ Q) := rfl
theorem e_dct {tk tv : TE} {σ2 : L2.St} {D : Addr} {Nx : Hp → Prop} {H : Hp} : fDT tk tv σ2 D Nx true H = tk σ2 H (fDK tv σ2 D Nx) := if_pos rfl
theorem e_dck {tv : TE} {σ2 : L2.St} {D : Addr} {Nx : Hp → Prop} {y : V} {H : Hp} : fDK tv σ2 D Nx y H = tv σ2 H (fDV D Nx y) := rfl
theorem k_dcv {D : Addr} {Nx : Hp → Prop} {i : Int} {z : V} {kvs : List (Key × V)} {H : Hp} (h : H D = some (.dK kvs)) (hl : kvs.length ≤ 1000000) (q : Nx (upd H D (.dK (putK kvs (Sum.inl i) z)))) : fDV D Nx (.int i) z H := ⟨kvs, Sum.inl i, rfl, h, Nat.lt_of_le_of_lt hl (by decide), q⟩
theorem k_dc {J : It} {n : Nat} {G : Hp → Prop} {Yd : Nat → Hp → V → Hp → Prop} {g : TG} {tt : TT} {tk tv : TE} {vs : List Nat} {σ : L2.St} {H : Hp} {Q : VK} (w : Walk J n G Yd) (q : ∀ D, H D = none → ∃ Pv : Nat → Hp → Prop, Pv 0 (upd H D (.dK [])) ∧ (∀ i H, i ≤ n → Pv i H → G H) ∧
    (∀ i x H H', i < n → Pv i H → Yd i H x H' → g x (wipe σ vs) H' fun σ2 H2 => wipe σ2 vs = wipe σ vs ∧ tt σ2 H2 (fDT tk tv σ2 D (Pv (i + 1)))) ∧ ∀ H, Pv n H → Q (.ref D) H) : fDc g tt tk tv vs σ Q J H := by
  intro D hD
  obtain ⟨Pv, h0, hG, hs, hd⟩ := q D hD
  refine ⟨fun i m H' => i + m = n ∧ Pv i H', ⟨n, Nat.zero_add n, h0⟩, ?_⟩
  rintro i m H' ⟨him, hp⟩
  by_cases hi : i = n
  · subst hi
    exact .inl ⟨w.stops H' (hG _ _ (Nat.le_refl _) hp), hd H' hp⟩
  · have hlt : i < n := by omega
    refine .inr ⟨w.goes i H' hlt (hG _ _ (Nat.le_of_lt hlt) hp), Pv (i + 1), fun H2 h2 => ⟨m - 1, by omega, by omega, h2⟩, fun x H2 y => ?_⟩
    exact hs i x H' H2 hlt hp (w.yields i H' x H2 hlt (hG _ _ (Nat.le_of_lt hlt) hp) y)
end Y

set_option Elab.async false
set_option linter.all false
set_option maxRecDepth 100000
set_option maxHeartbeats 2000000
namespace Y
open PySem L2
section
variable {X : Cx} {CX : CXT} {k : Nat} {f C : Addr} {fd : FuncData} {ps : List Str} {sp : Sp}
/-- o.m(), which may raise -/
theorem pe_meth0S {m : Str} {E : St → XK} {o : Expr} {ta : TE} {apos pos : Pos} {pl : Sem Bool} (ho : PE X o ta) (c : Cls X.K C) (hm : Meth X.K C m f) (F : FnOk X.prog X.w X.K X.mg X.base CX k f fd ps sp) (hr : Room k X.A) (hb : Binds X.K fd ps []) (hx : ∀ σ, PassesAt CX X σ (E σ))
    (ht : eval (.Call (.Attribute o m apos) [] [] pos) X.env = (do
      let ov ← eval o X.env
      standAt apos.atName
      let (g, first) ← holding [ov] (getMethod ov m pl)
      callWith pos g first (backTo pos (starEach [] X.env)) (backToKw pos (keywordEach [] X.env))) := by rfl) :
    PE X (.Call (.Attribute o m apos) [] [] pos) (tMethS C m sp E ta tNil) := by
  refine ⟨fun pins s σ H Q I h => PySem.W.methodCall_KW (pl := pl) (thn (ho.run pins s σ H _ I h) fun z s1 hz => ?_) ht⟩
  obtain ⟨x, H1, I1, rx, a, dx, fs, rfl, ea, l, q⟩ := hz
  obtain rfl : z = Value.ref a := rx
  have q2 : sp ([.ref a] ++ []) H1 Q (E σ) := q
  refine getmeth_ok I1 ea c hm l ?_
  exact PySem.W.callWith_K0 (first := [.ref a]) I1.kIn hm.kp (run_fnT (us := [.ref a]) (vs := [.ref a]) (dvs := []) (ds := []) rfl F hr hb .nil (hx σ) I1 (.cons rfl .nil) q2)
/-- sorted, of integers -/
theorem cr_sortedIk {K : PySem.W.Frag} (h : X.K = K := by rfl) : CallR X (.builtin "sorted") (rSortedI K) := by
  subst h
  exact cr_sortedI
end
end Y

set_option Elab.async false
set_option linter.all false
set_option maxRecDepth 100000
namespace PySem.W
open PySem PySem.Spec PyProof.Rows
/-! ### != of one's own class, by its own == -/
section
variable {prog : Program} {w : World} {A A₀ : Around} {E : Value → Shared → Prop} {s : Shared} {K : Frag} {x C L f : Addr} {h₀ : Heap} {m : Str → Option Value} {ox : Obj} {od : Option Obj} {name : Str} {b tb : Value}
theorem ifBoundNe_K {M : Model} {args : List Value} {Q : Option Value → Shared → Prop} (X : K.In s.heap) (I : InstAt s.heap x ox C od) (hs : findIn K (.ref C) "__ne__" = some (some (.builtin "object.__ne__")))
    (h : wpAny M A (call (.builtin "object.__ne__") (.ref x :: args)) (fun v => Q (some v)) E s) : wpAny M A (callSpecialIfBound? (.ref x) "__ne__" args) Q E s := by
  simp only [callSpecialIfBound?, bindSpecialIfBound?]
  refine wpAny_holding (wpAny_bind (wpAny_bind (wpAny_bind (I.type.here ((looks_findIn X hs).here ?_)))))
  simp only [PySem.F.cmp_object.ne.bind]
  refine wpAny_bind (wpAny_askSetting (wpAny_ite ?_))
  have fin : wpAny M A (call (.builtin "object.__ne__") ([.ref x] ++ args) >>= fun v => pure (some v)) Q E s := wpAny_bind (wpAny_mono h (fun v s' h' => wpAny_pure h') fun _ _ h' => h')
  split
  · exact wpAny_bind (wpAny_pure (wpAny_pure fin))
  · exact wpAny_tryCatch (wpAny_bind (wpAny_pure (wpAny_pure fin)))
theorem checkNe_K {M : Model} {rest : List Value} {Q : Unit → Shared → Prop} (X : K.In s.heap) (I : InstAt s.heap x ox C od) (hsub : subIn K (.ref C) (.type "object") = some true) (ha : argsOk "object.__ne__" ⟨.ref x :: rest, []⟩) (hq : Q () s) :
    wpAny M A (checkBuiltinCall "object.__ne__" ⟨.ref x :: rest, []⟩) Q E s := by
  simp only [checkBuiltinCall, PySem.F.cmpKind_ne, PySem.F.cmpSplit_ne]
  refine wpAny_bind ?_
  unfold isInstance
  refine wpAny_bind (I.type.here ((looks_subIn X hsub).here ?_))
  rw [if_neg (by decide)]
  cases hsig : Manifest.signature? "object.__ne__" with
  | none => exact wpAny_pure hq
  | some sig =>
    simp only [argsOk, hsig] at ha
    have h2 : Bind.checkArgs "object.__ne__" sig ⟨.ref x :: rest, []⟩ = pure () := ha
    show wpAny M A (Bind.checkArgs "object.__ne__" sig ⟨.ref x :: rest, []⟩) Q E s
    rw [h2]
    exact wpAny_pure hq
/-- object.__ne__ of an instance whose own == gives a truth -/
theorem objNe_K {Q : Fin → Shared → Prop} (hu : A.units < cLine) (X : K.In s.heap) (I : InstAt s.heap x ox C od) (hs : findIn K (.ref C) "__eq__" = some (some (.ref f))) (hf : isFn K (.ref f) = true)
    (h : wpAny (model prog w) A (call (.ref f) [.ref x, b]) (fun v s' => ∃ t, v = .bool t ∧ Q (.done (.ret (.bool (!t)))) s') E s) :
    wpAny (model prog w) A (Builtin.«object.__ne__» ⟨[.ref x, b], []⟩) Q E s := by
  unfold Builtin.«object.__ne__»
  have one : wpAny (model prog w) A (callSpecialIfBound? (.ref x) "__eq__" [b]) (fun r s' => ∃ t, r = some (.bool t) ∧ Q (.done (.ret (.bool (!t)))) s') E s :=
    ifBound_K X I hs hf (wpAny_mono h (fun v s' ⟨t, e, q⟩ => ⟨t, by rw [e], q⟩) fun _ _ e => e)
  repeat (first | with_reducible refine wpAny_cRoomFor hu ?_ | (with_reducible refine wpAny_bind (wpAny_mono one (fun r s' z => ?_) fun _ _ e => e)) | wp_step)
  obtain ⟨t, rfl, hq⟩ := z
  show wpAny (model prog w) A (truthy (.bool t) >>= fun t => ret (.bool !t)) Q E s'
  refine wpAny_bind (wpAny_truthy_bool ?_)
  repeat wp_step
  exact hq
/-- x != b, by one's own == -/
theorem cmpNe_K {Q : Value → Shared → Prop} (hu : A.units + 1 < cLine) (F : Fr h₀ L s.heap m) (X₀ : K.In h₀) (I : InstAt s.heap x ox C od) (hb : Looks (model prog w) s.heap (typeOf b) tb) (hn : notFirst K C tb = true)
    (hne : findIn K (.ref C) "__ne__" = some (some (.builtin "object.__ne__"))) (hsub : subIn K (.ref C) (.type "object") = some true) (hs : findIn K (.ref C) "__eq__" = some (some (.ref f))) (hf : isFn K (.ref f) = true)
    (h : wpAny (model prog w) A.in1 (call (.ref f) [.ref x, b]) (fun v s' => ∃ t, v = .bool t ∧ Q (.bool (!t)) s') E s) : wpAny (model prog w) A (richCompare .NotEq (.ref x) b) Q E s := by
  have X := X₀.keeps F.keep
  have hu0 : A.units < cLine := Nat.lt_of_succ_lt hu
  have hcall : wpAny (model prog w) A (call (.builtin "object.__ne__") [.ref x, b]) (fun v s' => ∃ t, v = .bool t ∧ Q (.bool t) s') E s := by
    refine wpAny_call (codeAny_call_builtin PySem.F.cmp_object.ne.plain PySem.F.cmpEntry_ne (checkNe_K X I hsub (PySem.F.cmpArgs_ne _ _) ?_))
    refine objNe_K (A := A.in1) ?_ X I hs hf ?_
    · exact hu
    · exact wpAny_mono h (fun v s' ⟨t, e, q⟩ => ⟨t, e, _, rfl, q⟩) fun _ _ e => e
  have one : wpAny (model prog w) A (tryCompare (.ref x) (cmpInfo .NotEq).2.1 b) (fun r s' => ∃ v, r = some v ∧ Q v s') E s := by
    unfold tryCompare
    refine wpAny_bind (ifBoundNe_K X I hne (wpAny_mono hcall (fun v s' hv => ?_) fun _ _ e => e))
    obtain ⟨t, rfl, hv⟩ := hv
    exact wpAny_pure ⟨_, rfl, hv⟩
  unfold richCompare
  simp only [oneThing_ref]
  refine wpAny_holding (wpAny_bind (wpAny_cRoomFor hu0 ?_))
  refine wpAny_bind (I.type.here (wpAny_bind (hb.here ?_)))
  split
  · rename_i q
    have e : subIn K tb (.ref C) = some false := by
      rcases Bool.or_eq_true_iff.mp hn with e | e
      · rw [beq_iff_eq.mp e] at q; simp at q
      · exact beq_iff_eq.mp e
    refine wpAny_bind ((looks_subIn X e).here ?_)
    simp only [Bool.false_eq_true, if_false]
    refine wpAny_bind (wpAny_mono one (fun r s' z => ?_) fun _ _ e => e)
    obtain ⟨v, rfl, hq⟩ := z
    exact wpAny_pure hq
  · refine wpAny_bind (wpAny_pure ?_)
    simp only [Bool.false_eq_true, if_false]
    refine wpAny_bind (wpAny_mono one (fun r s' z => ?_) fun _ _ e => e)
    obtain ⟨v, rfl, hq⟩ := z
    exact wpAny_pure hq
end
end PySem.W
namespace Y
open PySem L2
section
variable {X : Cx} {CX : CXT} {k : Nat} {f C : Addr} {fd : FuncData} {ps : List Str} {sp : Sp} {E : XK}
/-- a != b of two instances, by their class's own __eq__ -/
def rNeO (C : Addr) (sp : Sp) (E : XK) : R2 := fun x y H Q => ∃ a b dx dy fs gs, x = .ref a ∧ y = .ref b ∧ H a = some (.ins C dx fs) ∧ H b = some (.ins C dy gs) ∧ sp [.ref a, .ref b] H (fun v H' => ∃ t, v = .bl t ∧ Q (.bl (!t)) H') E
theorem op_neO (hne : PySem.W.findIn X.K (.ref C) "__ne__" = some (some (.builtin "object.__ne__"))) (hsub : PySem.W.subIn X.K (.ref C) (.type "object") = some true) (hs : PySem.W.findIn X.K (.ref C) "__eq__" = some (some (.ref f))) (hf : PySem.W.isFn X.K (.ref f) = true) (F : FnOk X.prog X.w X.K X.mg X.base CX k f fd ps sp) (hr : Room (k + 1) X.A) (hb : Binds X.K fd ps []) (hx : Passes CX X E) :
    OpR X (compareOp .NotEq) (rNeO C sp E) := by
  intro pins s σ H x y v u Q I rx ry h
  obtain ⟨a, b, dx, dy, fs, gs, rfl, rfl, ha, hb', q⟩ := h
  obtain rfl : v = Value.ref a := rx
  obtain rfl : u = Value.ref b := ry
  obtain ⟨_, O, _⟩ := ins_get I.hok ha
  obtain ⟨_, J, _⟩ := O.look
  obtain ⟨_, O', _⟩ := ins_get I.hok hb'
  obtain ⟨_, J', _⟩ := O'.look
  obtain ⟨m, fr⟩ := I.fr
  show wpAny (model X.prog X.w) X.A (richCompare .NotEq (.ref a) (.ref b)) _ _ _
  refine PySem.W.cmpNe_K (tb := .ref C) (Room.in1 hr).units0 fr I.ok.mod.kin J J'.type (by simp [PySem.W.notFirst]) hne hsub hs hf (thn (run_fnA (A := X.A.in1) (vs := [.ref a, .ref b]) rfl F (Room.in1 hr) hb hx I (.cons rfl (.cons rfl .nil)) q) fun w s1 hw => ?_)
  obtain ⟨z, H1, I1, rz, t, rfl, q1⟩ := hw
  obtain rfl : w = Value.bool t := rz
  exact ⟨t, rfl, .bl (!t), H1, I1, rfl, q1⟩
end
end Y

set_option Elab.async false
set_option linter.all false
set_option maxRecDepth 100000
namespace PySem.W
open PySem PySem.Spec PyProof.Rows PySem.SeqAt
/-! ### a value of Python's own kinds beside an instance: == and != are declined -/
section
variable {prog : Program} {w : World} {A : Around} {E : Value → Shared → Prop} {s : Shared} {K : Frag} {x C dx : Addr} {od : Option Obj}
theorem isInst_own {M : Model} {T : String} {Q : Bool → Shared → Prop} (X : K.In s.heap) (J : InstAt s.heap x (instObj C dx) C od) (hs : subIn K (.ref C) (.type T) = some false) (q : Q false s) : wpAny M A (isInstance (.ref x) (.type T)) Q E s := by
  unfold isInstance
  exact wpAny_bind (J.type.here ((looks_subIn X hs).here q))
variable {Q : Value → Shared → Prop}
abbrev FinT (Q : Value → Shared → Prop) : Fin → Shared → Prop := fun fin s' => ∃ v, fin = Fin.done (Flow.ret v) ∧ Q v s'
theorem list_eq_own {l : Addr} (X : K.In s.heap) (J : InstAt s.heap x (instObj C dx) C od) (hs : subIn K (.ref C) (.type "list") = some false) (h : Q .notImplemented s) : wpAny (model prog w) A (Builtin.«list.__eq__» ⟨[.ref l, .ref x], []⟩) (FinT Q) E s := by
  obtain ⟨hp, g, d, tk, os⟩ := s
  wp_walk using isInst_own X J hs
  exact ⟨_, rfl, h⟩
theorem list_ne_own {l : Addr} (X : K.In s.heap) (J : InstAt s.heap x (instObj C dx) C od) (hs : subIn K (.ref C) (.type "list") = some false) (h : Q .notImplemented s) : wpAny (model prog w) A (Builtin.«list.__ne__» ⟨[.ref l, .ref x], []⟩) (FinT Q) E s := by
  obtain ⟨hp, g, d, tk, os⟩ := s
  wp_walk using isInst_own X J hs
  exact ⟨_, rfl, h⟩
theorem tuple_eq_own {l : Addr} (X : K.In s.heap) (J : InstAt s.heap x (instObj C dx) C od) (hs : subIn K (.ref C) (.type "tuple") = some false) (h : Q .notImplemented s) : wpAny (model prog w) A (Builtin.«tuple.__eq__» ⟨[.ref l, .ref x], []⟩) (FinT Q) E s := by
  obtain ⟨hp, g, d, tk, os⟩ := s
  wp_walk using isInst_own X J hs
  exact ⟨_, rfl, h⟩
theorem tuple_ne_own {l : Addr} (X : K.In s.heap) (J : InstAt s.heap x (instObj C dx) C od) (hs : subIn K (.ref C) (.type "tuple") = some false) (h : Q .notImplemented s) : wpAny (model prog w) A (Builtin.«tuple.__ne__» ⟨[.ref l, .ref x], []⟩) (FinT Q) E s := by
  obtain ⟨hp, g, d, tk, os⟩ := s
  wp_walk using isInst_own X J hs
  exact ⟨_, rfl, h⟩
theorem dict_eq_own {l : Addr} (X : K.In s.heap) (J : InstAt s.heap x (instObj C dx) C od) (hs : subIn K (.ref C) (.type "dict") = some false) (h : Q .notImplemented s) : wpAny (model prog w) A (Builtin.«dict.__eq__» ⟨[.ref l, .ref x], []⟩) (FinT Q) E s := by
  obtain ⟨hp, g, d, tk, os⟩ := s
  wp_walk using isInst_own X J hs
  exact ⟨_, rfl, h⟩
theorem dict_ne_own {l : Addr} (X : K.In s.heap) (J : InstAt s.heap x (instObj C dx) C od) (hs : subIn K (.ref C) (.type "dict") = some false) (h : Q .notImplemented s) : wpAny (model prog w) A (Builtin.«dict.__ne__» ⟨[.ref l, .ref x], []⟩) (FinT Q) E s := by
  obtain ⟨hp, g, d, tk, os⟩ := s
  wp_walk using isInst_own X J hs
  exact ⟨_, rfl, h⟩
theorem int_eq_own {b : Int} {u : Tok} (J : InstAt s.heap x (instObj C dx) C od) (h : Q .notImplemented s) : wpAny (model prog w) A (Builtin.«int.__eq__» ⟨[.int b u, .ref x], []⟩) (FinT Q) E s := by
  obtain ⟨hp, g, d, tk, os⟩ := s
  have hl := J.at_
  wp_walk using wpAny_load hl
  exact ⟨_, rfl, h⟩
theorem int_ne_own {b : Int} {u : Tok} (J : InstAt s.heap x (instObj C dx) C od) (h : Q .notImplemented s) : wpAny (model prog w) A (Builtin.«int.__ne__» ⟨[.int b u, .ref x], []⟩) (FinT Q) E s := by
  obtain ⟨hp, g, d, tk, os⟩ := s
  have hl := J.at_
  wp_walk using wpAny_load hl
  exact ⟨_, rfl, h⟩
theorem bool_eq_own {b : Bool} (J : InstAt s.heap x (instObj C dx) C od) (h : Q .notImplemented s) : wpAny (model prog w) A (Builtin.«int.__eq__» ⟨[.bool b, .ref x], []⟩) (FinT Q) E s := by
  obtain ⟨hp, g, d, tk, os⟩ := s
  have hl := J.at_
  wp_walk using wpAny_load hl
  exact ⟨_, rfl, h⟩
theorem bool_ne_own {b : Bool} (J : InstAt s.heap x (instObj C dx) C od) (h : Q .notImplemented s) : wpAny (model prog w) A (Builtin.«int.__ne__» ⟨[.bool b, .ref x], []⟩) (FinT Q) E s := by
  obtain ⟨hp, g, d, tk, os⟩ := s
  have hl := J.at_
  wp_walk using wpAny_load hl
  exact ⟨_, rfl, h⟩
theorem str_eq_own {b : Str} {u : Tok} (J : InstAt s.heap x (instObj C dx) C od) (h : Q .notImplemented s) : wpAny (model prog w) A (Builtin.«str.__eq__» ⟨[.str b u, .ref x], []⟩) (FinT Q) E s := by
  obtain ⟨hp, g, d, tk, os⟩ := s
  have hl := J.at_
  wp_walk using wpAny_load hl
  exact ⟨_, rfl, h⟩
theorem str_ne_own {b : Str} {u : Tok} (J : InstAt s.heap x (instObj C dx) C od) (h : Q .notImplemented s) : wpAny (model prog w) A (Builtin.«str.__ne__» ⟨[.str b u, .ref x], []⟩) (FinT Q) E s := by
  obtain ⟨hp, g, d, tk, os⟩ := s
  have hl := J.at_
  wp_walk using wpAny_load hl
  exact ⟨_, rfl, h⟩
theorem non_eq_own (h : Q .notImplemented s) : wpAny (model prog w) A (Builtin.«NoneType.__eq__» ⟨[.none, .ref x], []⟩) (FinT Q) E s := by
  obtain ⟨hp, g, d, tk, os⟩ := s
  wp_walk
  exact ⟨_, rfl, h⟩
theorem non_ne_own (h : Q .notImplemented s) : wpAny (model prog w) A (Builtin.«NoneType.__ne__» ⟨[.none, .ref x], []⟩) (FinT Q) E s := by
  obtain ⟨hp, g, d, tk, os⟩ := s
  wp_walk
  exact ⟨_, rfl, h⟩
end
/-- a's own slot of op declines the instance x -/
def DeclAt (prog : Program) (w : World) (A : Around) (s : Shared) (x : Addr) (op : CmpOp) (T : String) (a : Value) : Prop :=
  ∃ id, Slot T (cmpInfo op).2.1 id ∧ ∀ (E : Value → Shared → Prop) (Q : Value → Shared → Prop), Q .notImplemented s → wpAny (model prog w) A (call (.builtin id) [a, .ref x]) Q E s
section
variable {prog : Program} {w : World} {A A₀ : Around} {E : Value → Shared → Prop} {s : Shared} {K : Frag} {x C L f : Addr} {h₀ : Heap} {m : Str → Option Value} {ox : Obj} {od : Option Obj} {a : Value} {T : String}
/-- a == x, by x's own == -/
theorem rcEq_own {Q : Value → Shared → Prop} (hu : A.units < cLine) (F : Fr h₀ L s.heap m) (X₀ : K.In h₀) (I : InstAt s.heap x ox C od) (ha : s.TypeIs a T) (hsub : subIn K (.ref C) (.type T) = some false) (hd : DeclAt prog w A s x .Eq T a)
    (hs : findIn K (.ref C) "__eq__" = some (some (.ref f))) (hf : isFn K (.ref f) = true)
    (h : wpAny (model prog w) A (call (.ref f) [.ref x, a]) (fun v s' => ∃ t, v = .bool t ∧ Q (.bool t) s') E s) : wpAny (model prog w) A (richCompare .Eq a (.ref x)) Q E s := by
  have X := X₀.keeps F.keep
  obtain ⟨id, h1, hc⟩ := hd
  have one : wpAny (model prog w) A (tryCompare (.ref x) (cmpInfo .Eq).2.2 a) (fun r s' => ∃ v, r = some v ∧ Q v s') E s := by
    unfold tryCompare
    refine wpAny_bind (ifBound_K X I hs hf (wpAny_mono h (fun v s' hv => ?_) fun _ _ e => e))
    obtain ⟨t, rfl, hv⟩ := hv
    exact wpAny_pure ⟨_, rfl, hv⟩
  rcases hi : cmpInfo CmpOp.Eq with ⟨sym, fn, r⟩
  rw [hi] at h1 one
  simp only [richCompare, hi, ha.oneThing_none]
  try with_reducible refine wpAny_holding ?_
  refine wpAny_bind (wpAny_cRoomFor_or (.inr hu) ?_)
  refine wpAny_bind (wpAny_typeOf ha (wpAny_bind (I.type.here ?_)))
  have hne : (Value.type T != Value.ref C) = true := rfl
  simp only [hne, if_true]
  refine wpAny_bind ((looks_subIn X hsub).here ?_)
  simp only [Bool.false_eq_true, if_false, Bool.not_false, if_true]
  refine wpAny_bind (m := tryCompare a _ (.ref x)) (wpAny_tryCompare_declines ha h1 (hc _ _ ⟨rfl, ?_⟩))
  refine wpAny_bind (wpAny_mono one (fun r s' z => ?_) fun _ _ e => e)
  obtain ⟨v, rfl, hq⟩ := z
  exact wpAny_pure hq
/-- a != x, by x's own == -/
theorem rcNe_own {Q : Value → Shared → Prop} (hu : A.units + 1 < cLine) (F : Fr h₀ L s.heap m) (X₀ : K.In h₀) (I : InstAt s.heap x ox C od) (ha : s.TypeIs a T) (hsub : subIn K (.ref C) (.type T) = some false) (hd : DeclAt prog w A s x .NotEq T a)
    (hne : findIn K (.ref C) "__ne__" = some (some (.builtin "object.__ne__"))) (hob : subIn K (.ref C) (.type "object") = some true) (hs : findIn K (.ref C) "__eq__" = some (some (.ref f))) (hf : isFn K (.ref f) = true)
    (h : wpAny (model prog w) A.in1 (call (.ref f) [.ref x, a]) (fun v s' => ∃ t, v = .bool t ∧ Q (.bool (!t)) s') E s) : wpAny (model prog w) A (richCompare .NotEq a (.ref x)) Q E s := by
  have X := X₀.keeps F.keep
  have hu0 : A.units < cLine := Nat.lt_of_succ_lt hu
  obtain ⟨id, h1, hc⟩ := hd
  have hcall : wpAny (model prog w) A (call (.builtin "object.__ne__") [.ref x, a]) (fun v s' => ∃ t, v = .bool t ∧ Q (.bool t) s') E s := by
    refine wpAny_call (codeAny_call_builtin PySem.F.cmp_object.ne.plain PySem.F.cmpEntry_ne (checkNe_K X I hob (PySem.F.cmpArgs_ne _ _) ?_))
    refine objNe_K (A := A.in1) ?_ X I hs hf ?_
    · exact hu
    · exact wpAny_mono h (fun v s' ⟨t, e, q⟩ => ⟨t, e, _, rfl, q⟩) fun _ _ e => e
  have one : wpAny (model prog w) A (tryCompare (.ref x) (cmpInfo .NotEq).2.2 a) (fun r s' => ∃ v, r = some v ∧ Q v s') E s := by
    unfold tryCompare
    refine wpAny_bind (ifBoundNe_K X I hne (wpAny_mono hcall (fun v s' hv => ?_) fun _ _ e => e))
    obtain ⟨t, rfl, hv⟩ := hv
    exact wpAny_pure ⟨_, rfl, hv⟩
  rcases hi : cmpInfo CmpOp.NotEq with ⟨sym, fn, r⟩
  rw [hi] at h1 one
  simp only [richCompare, hi, ha.oneThing_none]
  try with_reducible refine wpAny_holding ?_
  refine wpAny_bind (wpAny_cRoomFor_or (.inr hu0) ?_)
  refine wpAny_bind (wpAny_typeOf ha (wpAny_bind (I.type.here ?_)))
  have hne2 : (Value.type T != Value.ref C) = true := rfl
  simp only [hne2, if_true]
  refine wpAny_bind ((looks_subIn X hsub).here ?_)
  simp only [Bool.false_eq_true, if_false, Bool.not_false, if_true]
  refine wpAny_bind (m := tryCompare a _ (.ref x)) (wpAny_tryCompare_declines ha h1 (hc _ _ ⟨rfl, ?_⟩))
  refine wpAny_bind (wpAny_mono one (fun r s' z => ?_) fun _ _ e => e)
  obtain ⟨v, rfl, hq⟩ := z
  exact wpAny_pure hq
end
end PySem.W
namespace PySem.W
open PySem PySem.Spec PyProof.Rows PySem.SeqAt
def kinds7 : List String := ["NoneType", "bool", "int", "str", "tuple", "list", "dict"]
/-- all that the class C must have to stand beside values of Python's own kinds -/
structure Apart7 (K : Frag) (C : Addr) : Prop where
  up : ∀ T ∈ kinds7, subIn K (.ref C) (.type T) = some false
  dn : ∀ T ∈ kinds7, subIn K (.type T) (.ref C) = some false
theorem seven {p : String → Prop} {T : String} (h : T ∈ kinds7) (a : p "NoneType") (b : p "bool") (c : p "int") (d : p "str") (e : p "tuple") (f : p "list") (g : p "dict") : p T := by
  simp only [kinds7, List.mem_cons, List.not_mem_nil, or_false] at h
  rcases h with rfl | rfl | rfl | rfl | rfl | rfl | rfl <;> assumption
end PySem.W
namespace Y
open PySem L2
section
variable {X : Cx} {pins : List (Addr × Obj)} {σ : L2.St} {H : Hp} {s : Shared}
/-- the type of a value of Python's own kinds -/
theorem typeIs_of {y : V} {u : Value} {T : String} (I : Inv X pins σ H s) (ry : RelV y u) (hT : T ∈ PySem.W.kinds7) (ty : TyX X.K H y (.type T)) : s.TypeIs u T := by
  cases ty with
  | base b =>
    cases b with
    | non => cases (show u = Value.none from ry); exact rfl
    | bl y => cases (show u = Value.bool y from ry); exact rfl
    | int i => obtain ⟨t, q⟩ := (show ∃ t, u = Value.int i t from ry); cases q; exact typeIs_int _ _ _
    | str y => obtain ⟨t, q⟩ := (show ∃ t, u = Value.str y t from ry); cases q; exact typeIs_str _ _ _
    | flt y => exact absurd hT (by decide)
    | @lst a xs ea =>
      cases (show u = Value.ref a from ry)
      obtain ⟨_, _, n, _, h1⟩ := (show ObjOk X.prog X.w H s.heap a (.lst xs) from I.hok a _ ea)
      exact ⟨_, h1, rfl⟩
    | @frz a ob xs ea =>
      cases (show u = Value.ref a from ry)
      obtain ⟨_, _, _, n, _, h1⟩ := (show ObjOk X.prog X.w H s.heap a (.frz ob (.lst xs)) from I.hok a _ ea)
      exact ⟨_, h1, rfl⟩
    | @tup a xs ea =>
      cases (show u = Value.ref a from ry)
      obtain ⟨_, _, _, o, h1, h2, _⟩ := (show ObjOk X.prog X.w H s.heap a (.tup xs) from I.hok a _ ea)
      exact ⟨o, h1, h2⟩
    | @dK a kvs ea =>
      cases (show u = Value.ref a from ry)
      obtain ⟨_, _, vs, _, o, es, ep, h1, h2, _⟩ := (show ObjOk X.prog X.w H s.heap a (.dK kvs) from I.hok a _ ea)
      exact ⟨o, h1, h2.1⟩
    | @dT a kvs ea =>
      cases (show u = Value.ref a from ry)
      obtain ⟨_, _, xs, _, o, es, ep, h1, h2, _⟩ := (show ObjOk X.prog X.w H s.heap a (.dT kvs) from I.hok a _ ea)
      exact ⟨o, h1, h2.1⟩
  | byt y => exact absurd hT (by decide)
  | set ea => exact absurd hT (by decide)
  | @kList a o e c =>
    cases (show u = Value.ref a from ry)
    exact ⟨o, I.kIn a o e, c⟩
  | @kTuple a o e c =>
    cases (show u = Value.ref a from ry)
    exact ⟨o, I.kIn a o e, c⟩
  | @kDict a o e c =>
    cases (show u = Value.ref a from ry)
    exact ⟨o, I.kIn a o e, c⟩
  | @fTuple a ob xs ea =>
    cases (show u = Value.ref a from ry)
    obtain ⟨_, _, _, _, o, h1, h2, _⟩ := (show ObjOk X.prog X.w H s.heap a (.frz ob (.tup xs)) from I.hok a _ ea)
    exact ⟨o, h1, h2⟩
  | @fDict a ob kvs ea =>
    cases (show u = Value.ref a from ry)
    obtain ⟨_, _, _, vs, _, o, es, ep, h1, h2, _⟩ := (show ObjOk X.prog X.w H s.heap a (.frz ob (.dK kvs)) from I.hok a _ ea)
    exact ⟨o, h1, h2.1⟩
theorem shape_of {y : V} {u : Value} {T : String} (ry : RelV y u) (hT : T ∈ PySem.W.kinds7) (ty : TyX X.K H y (.type T)) :
    (T = "NoneType" ∧ u = .none) ∨ (T = "bool" ∧ ∃ b, u = .bool b) ∨ (T = "int" ∧ ∃ b t, u = .int b t) ∨ (T = "str" ∧ ∃ b t, u = .str b t) ∨ ((T = "tuple" ∨ T = "list" ∨ T = "dict") ∧ ∃ l, u = .ref l) := by
  cases ty with
  | base b =>
    cases b with
    | non => exact .inl ⟨rfl, ry⟩
    | bl y => exact .inr (.inl ⟨rfl, _, ry⟩)
    | int i =>
      obtain ⟨t, q⟩ := (show ∃ t, u = Value.int i t from ry)
      exact .inr (.inr (.inl ⟨rfl, _, t, q⟩))
    | str y =>
      obtain ⟨t, q⟩ := (show ∃ t, u = Value.str y t from ry)
      exact .inr (.inr (.inr (.inl ⟨rfl, _, t, q⟩)))
    | flt y => exact absurd hT (by decide)
    | lst ea => exact .inr (.inr (.inr (.inr ⟨.inr (.inl rfl), _, ry⟩)))
    | frz ea => exact .inr (.inr (.inr (.inr ⟨.inr (.inl rfl), _, ry⟩)))
    | tup ea => exact .inr (.inr (.inr (.inr ⟨.inl rfl, _, ry⟩)))
    | dK ea => exact .inr (.inr (.inr (.inr ⟨.inr (.inr rfl), _, ry⟩)))
    | dT ea => exact .inr (.inr (.inr (.inr ⟨.inr (.inr rfl), _, ry⟩)))
  | byt y => exact absurd hT (by decide)
  | set ea => exact absurd hT (by decide)
  | kList e c => exact .inr (.inr (.inr (.inr ⟨.inr (.inl rfl), _, ry⟩)))
  | kTuple e c => exact .inr (.inr (.inr (.inr ⟨.inl rfl, _, ry⟩)))
  | kDict e c => exact .inr (.inr (.inr (.inr ⟨.inr (.inr rfl), _, ry⟩)))
  | fTuple e => exact .inr (.inr (.inr (.inr ⟨.inl rfl, _, ry⟩)))
  | fDict e => exact .inr (.inr (.inr (.inr ⟨.inr (.inr rfl), _, ry⟩)))
end
section
open PySem.Spec PyProof.Rows PySem.SeqAt
variable {X : Cx} {pins : List (Addr × Obj)} {σ : L2.St} {H : Hp} {s : Shared}
theorem decl_eq {A : Around} {y : V} {u : Value} {T : String} {x C dx : Addr} {od : Option Obj} (I : Inv X pins σ H s) (ry : RelV y u) (hT : T ∈ PySem.W.kinds7) (ty : TyX X.K H y (.type T)) (J : PySem.W.InstAt s.heap x (PySem.W.instObj C dx) C od) (A7 : PySem.W.Apart7 X.K C) : PySem.W.DeclAt X.prog X.w A s x .Eq T u := by
  have hs := typeIs_of I ry hT ty
  rcases shape_of ry hT ty with ⟨rfl, rfl⟩ | ⟨rfl, b, rfl⟩ | ⟨rfl, b, t, rfl⟩ | ⟨rfl, b, t, rfl⟩ | ⟨rfl | rfl | rfl, l, rfl⟩
  · exact ⟨_, PySem.F.slot_NoneType_eq, fun E Q h => wpAny_call_entry PySem.F.slot_NoneType_eq hs PySem.F.entry_NoneType_eq (PySem.W.non_eq_own h) (PySem.F.args_NoneType_eq_2 _ _)⟩
  · exact ⟨_, PySem.F.slot_bool_eq, fun E Q h => wpAny_call_entry PySem.F.slot_bool_eq hs PySem.F.entry_int_eq (PySem.W.bool_eq_own J h) (PySem.F.args_int_eq_2 _ _)⟩
  · exact ⟨_, PySem.F.slot_int_eq, fun E Q h => wpAny_call_entry PySem.F.slot_int_eq hs PySem.F.entry_int_eq (PySem.W.int_eq_own J h) (PySem.F.args_int_eq_2 _ _)⟩
  · exact ⟨_, PySem.F.slot_str_eq, fun E Q h => wpAny_call_entry PySem.F.slot_str_eq hs PySem.F.entry_str_eq (PySem.W.str_eq_own J h) (PySem.F.args_str_eq_2 _ _)⟩
  · exact ⟨_, PySem.F.slot_tuple_eq, fun E Q h => wpAny_call_entry PySem.F.slot_tuple_eq hs PySem.F.entry_tuple_eq (PySem.W.tuple_eq_own I.kIn J (A7.up _ hT) h) (PySem.F.args_tuple_eq_2 _ _)⟩
  · exact ⟨_, PySem.F.slot_list_eq, fun E Q h => wpAny_call_entry PySem.F.slot_list_eq hs PySem.F.entry_list_eq (PySem.W.list_eq_own I.kIn J (A7.up _ hT) h) (PySem.F.args_list_eq_2 _ _)⟩
  · exact ⟨_, PySem.F.slot_dict_eq, fun E Q h => wpAny_call_entry PySem.F.slot_dict_eq hs PySem.F.entry_dict_eq (PySem.W.dict_eq_own I.kIn J (A7.up _ hT) h) (PySem.F.args_dict_eq_2 _ _)⟩
theorem decl_ne {A : Around} {y : V} {u : Value} {T : String} {x C dx : Addr} {od : Option Obj} (I : Inv X pins σ H s) (ry : RelV y u) (hT : T ∈ PySem.W.kinds7) (ty : TyX X.K H y (.type T)) (J : PySem.W.InstAt s.heap x (PySem.W.instObj C dx) C od) (A7 : PySem.W.Apart7 X.K C) : PySem.W.DeclAt X.prog X.w A s x .NotEq T u := by
  have hs := typeIs_of I ry hT ty
  rcases shape_of ry hT ty with ⟨rfl, rfl⟩ | ⟨rfl, b, rfl⟩ | ⟨rfl, b, t, rfl⟩ | ⟨rfl, b, t, rfl⟩ | ⟨rfl | rfl | rfl, l, rfl⟩
  · exact ⟨_, PySem.F.slot_NoneType_ne, fun E Q h => wpAny_call_entry PySem.F.slot_NoneType_ne hs PySem.F.entry_NoneType_ne (PySem.W.non_ne_own h) (PySem.F.args_NoneType_ne_2 _ _)⟩
  · exact ⟨_, PySem.F.slot_bool_ne, fun E Q h => wpAny_call_entry PySem.F.slot_bool_ne hs PySem.F.entry_int_ne (PySem.W.bool_ne_own J h) (PySem.F.args_int_ne_2 _ _)⟩
  · exact ⟨_, PySem.F.slot_int_ne, fun E Q h => wpAny_call_entry PySem.F.slot_int_ne hs PySem.F.entry_int_ne (PySem.W.int_ne_own J h) (PySem.F.args_int_ne_2 _ _)⟩
  · exact ⟨_, PySem.F.slot_str_ne, fun E Q h => wpAny_call_entry PySem.F.slot_str_ne hs PySem.F.entry_str_ne (PySem.W.str_ne_own J h) (PySem.F.args_str_ne_2 _ _)⟩
  · exact ⟨_, PySem.F.slot_tuple_ne, fun E Q h => wpAny_call_entry PySem.F.slot_tuple_ne hs PySem.F.entry_tuple_ne (PySem.W.tuple_ne_own I.kIn J (A7.up _ hT) h) (PySem.F.args_tuple_ne_2 _ _)⟩
  · exact ⟨_, PySem.F.slot_list_ne, fun E Q h => wpAny_call_entry PySem.F.slot_list_ne hs PySem.F.entry_list_ne (PySem.W.list_ne_own I.kIn J (A7.up _ hT) h) (PySem.F.args_list_ne_2 _ _)⟩
  · exact ⟨_, PySem.F.slot_dict_ne, fun E Q h => wpAny_call_entry PySem.F.slot_dict_ne hs PySem.F.entry_dict_ne (PySem.W.dict_ne_own I.kIn J (A7.up _ hT) h) (PySem.F.args_dict_ne_2 _ _)⟩
end
/-! ### == and != of an instance and of any value, from both sides -/
section
variable {X : Cx} {CX : CXT} {k : Nat} {f C : Addr} {fd : FuncData} {ps : List Str} {sp : Sp} {E : XK}
/-- an instance of C, or a value of Python's own kinds -/
def Oth (K : PySem.W.Frag) (C : Addr) (H : Hp) (y : V) : Prop := (∃ b dy gs, y = .ref b ∧ H b = some (.ins C dy gs)) ∨ ∃ T, T ∈ PySem.W.kinds7 ∧ TyX K H y (.type T)
theorem oth_look {pins : List (Addr × Obj)} {σ : L2.St} {H : Hp} {s : Shared} {y : V} {u : Value} (A7 : PySem.W.Apart7 X.K C) (I : Inv X pins σ H s) (ry : RelV y u) (h : Oth X.K C H y) : ∃ tb, PySem.W.Looks (model X.prog X.w) s.heap (typeOf u) tb ∧ PySem.W.notFirst X.K C tb = true := by
  rcases h with ⟨b, dy, gs, rfl, hb'⟩ | ⟨T, hT, ty⟩
  · obtain rfl : u = Value.ref b := ry
    obtain ⟨_, O', _⟩ := ins_get I.hok hb'
    obtain ⟨_, J', _⟩ := O'.look
    exact ⟨_, J'.type, by simp [PySem.W.notFirst]⟩
  · obtain ⟨P, Z, p, _⟩ := kit_of I ry ty
    exact ⟨_, Z.ty _ _ I.kIn p, by simp [PySem.W.notFirst, A7.dn T hT]⟩
def rEqA (K : PySem.W.Frag) (C : Addr) (sp : Sp) (E : XK) : R2 := fun x y H Q =>
  (∃ a dx fs, x = .ref a ∧ H a = some (.ins C dx fs) ∧ Oth K C H y ∧ sp [.ref a, y] H (fun v H' => ∃ t, v = .bl t ∧ Q v H') E) ∨
  (∃ b dy gs T, y = .ref b ∧ H b = some (.ins C dy gs) ∧ T ∈ PySem.W.kinds7 ∧ TyX K H x (.type T) ∧ sp [.ref b, x] H (fun v H' => ∃ t, v = .bl t ∧ Q v H') E)
def rNeA (K : PySem.W.Frag) (C : Addr) (sp : Sp) (E : XK) : R2 := fun x y H Q =>
  (∃ a dx fs, x = .ref a ∧ H a = some (.ins C dx fs) ∧ Oth K C H y ∧ sp [.ref a, y] H (fun v H' => ∃ t, v = .bl t ∧ Q (.bl (!t)) H') E) ∨
  (∃ b dy gs T, y = .ref b ∧ H b = some (.ins C dy gs) ∧ T ∈ PySem.W.kinds7 ∧ TyX K H x (.type T) ∧ sp [.ref b, x] H (fun v H' => ∃ t, v = .bl t ∧ Q (.bl (!t)) H') E)
theorem op_eqA (A7 : PySem.W.Apart7 X.K C) (hs : PySem.W.findIn X.K (.ref C) "__eq__" = some (some (.ref f))) (hf : PySem.W.isFn X.K (.ref f) = true) (F : FnOk X.prog X.w X.K X.mg X.base CX k f fd ps sp) (hr : Room k X.A) (hb : Binds X.K fd ps []) (hx : Passes CX X E) :
    OpR X (compareOp .Eq) (rEqA X.K C sp E) := by
  intro pins s σ H x y v u Q I rx ry h
  obtain ⟨m, fr⟩ := I.fr
  show wpAny (model X.prog X.w) X.A (richCompare .Eq v u) _ _ _
  rcases h with ⟨a, dx, fs, rfl, ha, hy, q⟩ | ⟨b, dy, gs, T, rfl, hb', hT, tx, q⟩
  · obtain rfl : v = Value.ref a := rx
    obtain ⟨_, O, _⟩ := ins_get I.hok ha
    obtain ⟨_, J, _⟩ := O.look
    obtain ⟨tb, lk, nf⟩ := oth_look A7 I ry hy
    refine PySem.W.cmp_K (op := .Eq) (tb := tb) hr.units0 fr I.ok.mod.kin J lk nf hs hf (thn (run_fnA (A := X.A) (vs := [.ref a, y]) rfl F hr hb hx I (.cons rfl (.cons ry .nil)) q) fun w s1 hw => ?_)
    obtain ⟨z, H1, I1, rz, t, rfl, q1⟩ := hw
    obtain rfl : w = Value.bool t := rz
    exact ⟨.bl t, H1, I1, rfl, q1⟩
  · obtain rfl : u = Value.ref b := ry
    obtain ⟨_, O, _⟩ := ins_get I.hok hb'
    obtain ⟨_, J, _⟩ := O.look
    refine PySem.W.rcEq_own hr.units0 fr I.ok.mod.kin J (typeIs_of I rx hT tx) (A7.up T hT) (decl_eq I rx hT tx J A7) hs hf (thn (run_fnA (A := X.A) (vs := [.ref b, x]) rfl F hr hb hx I (.cons rfl (.cons rx .nil)) q) fun w s1 hw => ?_)
    obtain ⟨z, H1, I1, rz, t, rfl, q1⟩ := hw
    obtain rfl : w = Value.bool t := rz
    exact ⟨t, rfl, .bl t, H1, I1, rfl, q1⟩
theorem op_neA (A7 : PySem.W.Apart7 X.K C) (hne : PySem.W.findIn X.K (.ref C) "__ne__" = some (some (.builtin "object.__ne__"))) (hsub : PySem.W.subIn X.K (.ref C) (.type "object") = some true) (hs : PySem.W.findIn X.K (.ref C) "__eq__" = some (some (.ref f))) (hf : PySem.W.isFn X.K (.ref f) = true) (F : FnOk X.prog X.w X.K X.mg X.base CX k f fd ps sp) (hr : Room (k + 1) X.A) (hb : Binds X.K fd ps []) (hx : Passes CX X E) :
    OpR X (compareOp .NotEq) (rNeA X.K C sp E) := by
  intro pins s σ H x y v u Q I rx ry h
  obtain ⟨m, fr⟩ := I.fr
  show wpAny (model X.prog X.w) X.A (richCompare .NotEq v u) _ _ _
  rcases h with ⟨a, dx, fs, rfl, ha, hy, q⟩ | ⟨b, dy, gs, T, rfl, hb', hT, tx, q⟩
  · obtain rfl : v = Value.ref a := rx
    obtain ⟨_, O, _⟩ := ins_get I.hok ha
    obtain ⟨_, J, _⟩ := O.look
    obtain ⟨tb, lk, nf⟩ := oth_look A7 I ry hy
    refine PySem.W.cmpNe_K (tb := tb) (Room.in1 hr).units0 fr I.ok.mod.kin J lk nf hne hsub hs hf (thn (run_fnA (A := X.A.in1) (vs := [.ref a, y]) rfl F (Room.in1 hr) hb hx I (.cons rfl (.cons ry .nil)) q) fun w s1 hw => ?_)
    obtain ⟨z, H1, I1, rz, t, rfl, q1⟩ := hw
    obtain rfl : w = Value.bool t := rz
    exact ⟨t, rfl, .bl (!t), H1, I1, rfl, q1⟩
  · obtain rfl : u = Value.ref b := ry
    obtain ⟨_, O, _⟩ := ins_get I.hok hb'
    obtain ⟨_, J, _⟩ := O.look
    refine PySem.W.rcNe_own (Room.in1 hr).units0 fr I.ok.mod.kin J (typeIs_of I rx hT tx) (A7.up T hT) (decl_ne I rx hT tx J A7) hne hsub hs hf (thn (run_fnA (A := X.A.in1) (vs := [.ref b, x]) rfl F (Room.in1 hr) hb hx I (.cons rfl (.cons rx .nil)) q) fun w s1 hw => ?_)
    obtain ⟨z, H1, I1, rz, t, rfl, q1⟩ := hw
    obtain rfl : w = Value.bool t := rz
    exact ⟨t, rfl, .bl (!t), H1, I1, rfl, q1⟩
end
end Y
namespace Y
open PySem L2
theorem mt_popAtk {X : Cx} : MtR X "list.pop" rPopAt := mt_popAt
theorem k_popAt {a : Addr} {xs : List V} {y : V} {i : Int} {Q : VK} {H : Hp} {k : Nat} (h : H a = some (.lst xs)) (hi : i = (k : Int)) (hk : k < 2 ^ 62) (hy : xs[k]? = some y) (q : Q y (upd H a (.lst (xs.eraseIdx k)))) : fBM2 rPopAt (.ref a) Q [.int i] H := by
  have hl := (List.getElem?_eq_some_iff.mp hy).1
  refine ⟨a, xs, i, k, y, rfl, rfl, h, by omega, by omega, ?_, hy, q⟩
  subst hi
  unfold seqIndex?
  have e : (if (k : Int) < 0 then (k : Int) + (xs.length : Int) else (k : Int)) = (k : Int) := if_neg (by omega)
  simp only [e]
  rw [if_pos (by simp [hl])]
  rfl
end Y

set_option Elab.async false
set_option linter.all false
set_option maxRecDepth 100000
set_option maxHeartbeats 4000000
namespace Y
open PySem L2
/-- tuples are as they were -/
def SameT (H H' : Hp) : Prop := ∀ b xs, (H b = some (.tup xs) → H' b = some (.tup xs)) ∧ ∀ o, H b = some (.frz o (.tup xs)) → H' b = some (.frz o (.tup xs))
theorem SameT.refl (H : Hp) : SameT H H := fun _ _ => ⟨id, fun _ => id⟩
theorem SameT.trans {H H1 H2 : Hp} (a : SameT H H1) (b : SameT H1 H2) : SameT H H2 := fun c xs => ⟨fun h => (b c xs).1 ((a c xs).1 h), fun o h => (b c xs).2 o ((a c xs).2 o h)⟩
theorem SameT.new {H : Hp} {p : Addr} {o : HO} (h : H p = none) : SameT H (upd H p o) := fun c xs => ⟨fun e => by rw [upd_ne (ne_of_none e h)]; exact e, fun _ e => by rw [upd_ne (ne_of_none e h)]; exact e⟩
theorem SameT.lst {H : Hp} {p : Addr} {o : HO} {xs : List V} (h : H p = some (.lst xs)) : SameT H (upd H p o) := fun c ys =>
  ⟨fun e => by rw [upd_ne (fun z => by subst z; rw [h] at e; cases e)]; exact e, fun _ e => by rw [upd_ne (fun z => by subst z; rw [h] at e; cases e)]; exact e⟩
theorem SameT.ins {H : Hp} {p C dx : Addr} {o : HO} {fs : List (Str × V)} (h : H p = some (.ins C dx fs)) : SameT H (upd H p o) := fun c ys =>
  ⟨fun e => by rw [upd_ne (fun z => by subst z; rw [h] at e; cases e)]; exact e, fun _ e => by rw [upd_ne (fun z => by subst z; rw [h] at e; cases e)]; exact e⟩
theorem SameT.of {H H' : Hp} (e : Same H H') : SameT H H' := fun b xs => ⟨fun h => e b _ h, fun o h => e b _ h⟩
theorem SameT.but {H H' : Hp} {a : Addr} {xs : List V} (h : H a = some (.lst xs)) (k : ∀ b o, H b = some o → b ≠ a → H' b = some o) : SameT H H' := fun b ys =>
  ⟨fun e => k b _ e fun z => (by rw [z, h] at e; cases e), fun _ e => k b _ e fun z => (by rw [z, h] at e; cases e)⟩
theorem sqT_mono {K : PySem.W.Frag} {H H' : Hp} {a : Addr} {xs : List V} (e : SameT H H') (h : SqT K H a xs) : SqT K H' a xs := by
  rcases h with (h | ⟨o, h⟩) | h
  · exact .inl (.inl ((e _ _).1 h))
  · exact .inl (.inr ⟨o, (e _ _).2 _ h⟩)
  · exact .inr h
/-- steps: tuples of texts; a row: a tuple of steps -/
def Steps (K : PySem.W.Frag) (H : Hp) (xs : List V) (ws : List (List Str)) : Prop := Paired (fun (x : V) (w : List Str) => ∃ a, x = .ref a ∧ SqT K H a (w.map V.str)) xs ws
def Row (K : PySem.W.Frag) (H : Hp) (r : Addr) (ws : List (List Str)) : Prop := ∃ xs, SqT K H r xs ∧ Steps K H xs ws
theorem Steps.mono {K : PySem.W.Frag} {H H' : Hp} {xs : List V} {ws : List (List Str)} (e : SameT H H') (h : Steps K H xs ws) : Steps K H' xs ws := Paired.mapP h fun _ _ ⟨a, h1, h2⟩ => ⟨a, h1, sqT_mono e h2⟩
theorem Row.mono {K : PySem.W.Frag} {H H' : Hp} {r : Addr} {ws : List (List Str)} (e : SameT H H') : Row K H r ws → Row K H' r ws := fun ⟨xs, h1, h2⟩ => ⟨xs, sqT_mono e h1, h2.mono e⟩
theorem Steps.append {K : PySem.W.Frag} {H : Hp} : ∀ {xs ys : List V} {ws vs : List (List Str)}, Steps K H xs ws → Steps K H ys vs → Steps K H (xs ++ ys) (ws ++ vs)
  | _, _, _, _, .nil, h => h
  | _, _, _, _, .cons a t, h => .cons a (Steps.append t h)
def menu12 : List (List Str) := [["make", "all"], ["make", "standing"], ["drop"], ["start", "new"], ["start", "all"], ["start", "free"], ["label", "new"], ["label", "all"], ["label", "free"], ["tie", "new"], ["tie", "all"], ["tie", "free"]]
def steps12 : List (List Str) := [["make", "all"], ["make", "standing"], ["start", "new"], ["start", "all"], ["start", "free"], ["label", "new"], ["label", "all"], ["label", "free"], ["tie", "new"], ["tie", "all"], ["tie", "free"], ["drop"]]
theorem sqT_K2 {K : PySem.W.Frag} {H : Hp} {a : Addr} {x y : Str} {t u : Tok} {d : Option Addr} {n : Nat} {sl : Array (Option Value)} (h : K.lookup a = some ⟨.type "tuple", d, .seq #[.str x t, .str y u] n, sl⟩) : SqT K H a (([x, y] : List Str).map V.str) :=
  .inr ⟨_, _, n, h, rfl, rfl, (by decide : 2 ≤ sizeLine), .cons ⟨t, rfl⟩ (.cons ⟨u, rfl⟩ .nil)⟩
theorem sqT_K1 {K : PySem.W.Frag} {H : Hp} {a : Addr} {x : Str} {t : Tok} {d : Option Addr} {n : Nat} {sl : Array (Option Value)} (h : K.lookup a = some ⟨.type "tuple", d, .seq #[.str x t] n, sl⟩) : SqT K H a (([x] : List Str).map V.str) :=
  .inr ⟨_, _, n, h, rfl, rfl, (by decide : 1 ≤ sizeLine), .cons ⟨t, rfl⟩ .nil⟩
theorem steps_row {K : PySem.W.Frag} {H : Hp} {a : Addr} {xs : List Addr} {ws : List (List Str)} (h : ∃ (o : Obj), K.lookup a = some o ∧ o.cls = .type "tuple" ∧ ∃ n, o.data = .seq (xs.map Value.ref).toArray n) (hl : xs.length ≤ 1000)
    (hs : Steps K H (xs.map V.ref) ws) : Row K H a ws := by
  obtain ⟨o, h1, h2, n, h3⟩ := h
  refine ⟨_, .inr ⟨o, _, n, h1, h2, h3, ?_, ?_⟩, hs⟩
  · simp only [List.size_toArray, List.length_map]
    exact Nat.le_trans hl (by decide)
  · have : ∀ l : List Addr, Vals (l.map V.ref) (l.map Value.ref) := fun l => by
      induction l with
      | nil => exact .nil
      | cons a l ih => exact .cons rfl ih
    simpa using this xs
theorem Steps.at_ {K : PySem.W.Frag} {H : Hp} : ∀ {xs : List V} {ws : List (List Str)} {j : Nat}, Steps K H xs ws → j < ws.length → ∃ a w, xs[j]? = some (.ref a) ∧ ws[j]? = some w ∧ SqT K H a (w.map V.str)
  | _, _, _, .nil, h => absurd h (Nat.not_lt_zero _)
  | _, _, 0, .cons ⟨a, e, s⟩ _, _ => ⟨a, _, by rw [e]; rfl, rfl, s⟩
  | _, _, j + 1, .cons _ t, h => by
    obtain ⟨a, w, h1, h2, h3⟩ := Steps.at_ (j := j) t (Nat.lt_of_succ_lt_succ h)
    exact ⟨a, w, by simpa using h1, by simpa using h2, h3⟩
def stepD (w : List Str) : PyData := .tuple (w.map PyData.str)
theorem dpa_strs {K : PySem.W.Frag} {H : Hp} : ∀ {w : List Str}, DpAll K H (w.map V.str) (w.map PyData.str)
  | [] => .nil
  | _ :: _ => .cons (.str _) dpa_strs
theorem dp_step {K : PySem.W.Frag} {H : Hp} {a : Addr} {w : List Str} (h : SqT K H a (w.map V.str)) : Dp K H (.ref a) (stepD w) := .tup h dpa_strs
theorem Steps.dpa {K : PySem.W.Frag} {H : Hp} : ∀ {xs : List V} {ws : List (List Str)}, Steps K H xs ws → DpAll K H xs (ws.map stepD)
  | _, _, .nil => .nil
  | _, _, .cons ⟨a, e, s⟩ t => by
    subst e
    exact .cons (dp_step s) (Steps.dpa t)
theorem Row.dp {K : PySem.W.Frag} {H : Hp} {r : Addr} {ws : List (List Str)} : Row K H r ws → Dp K H (.ref r) (.tuple (ws.map stepD)) := fun ⟨_, h1, h2⟩ => .tup h1 h2.dpa
theorem step_shaped : ∀ w ∈ menu12, SeqAt.shaped (stepD w) = true ∧ (steps12.map stepD).any (fun z => PyData.eqv z (stepD w)) = true := by decide +kernel
theorem steps12_shaped : SeqAt.shaped (.tuple (steps12.map stepD)) = true := by decide +kernel

theorem Row.of_dp {K : PySem.W.Frag} {H : Hp} {r : Addr} {ws : List (List Str)} (h : Dp K H (.ref r) (.tuple (ws.map stepD))) : Row K H r ws := by
  obtain ⟨a, xs, e, h1, h2⟩ := Dp.tupS h
  cases e
  refine ⟨xs, h1, ?_⟩
  clear h h1
  induction ws generalizing xs with
  | nil =>
    cases h2
    exact .nil
  | cons w ws ih =>
    cases h2 with
    | cons hd tl =>
      refine .cons ?_ (ih _ tl)
      obtain ⟨b, ys, rfl, g1, g2⟩ := Dp.tupS hd
      refine ⟨b, rfl, ?_⟩
      have e : ys = w.map V.str := by
        clear g1 hd
        induction w generalizing ys with
        | nil =>
          cases g2
          rfl
        | cons z w ih2 =>
          cases g2 with
          | cons gh gt =>
            cases gh
            rw [ih2 _ gt]
            rfl
      rw [← e]
      exact g1
theorem Steps.cut {K : PySem.W.Frag} {H : Hp} {xs : List V} {ws : List (List Str)} {lo hi : Option Int} (h : Steps K H xs ws) : Steps K H (cutG xs lo hi) (cutG ws lo hi) := Paired.cut h
theorem Steps.take {K : PySem.W.Frag} {H : Hp} {xs : List V} {ws : List (List Str)} (n : Nat) (h : Steps K H xs ws) : Steps K H (xs.take n) (ws.take n) := Paired.take n h
theorem Steps.drop {K : PySem.W.Frag} {H : Hp} {xs : List V} {ws : List (List Str)} (n : Nat) (h : Steps K H xs ws) : Steps K H (xs.drop n) (ws.drop n) := Paired.drop n h
theorem Steps.len {K : PySem.W.Frag} {H : Hp} {xs : List V} {ws : List (List Str)} (h : Steps K H xs ws) : xs.length = ws.length := Paired.length h
theorem Steps.one {K : PySem.W.Frag} {H : Hp} {a : Addr} {w : List Str} (h : SqT K H a (w.map V.str)) : Steps K H [.ref a] [w] := .cons ⟨a, rfl, h⟩ .nil

def topS (i : Nat) : Stmt := PySem.Challenge.pw_yearturned_k05_equal_scripts_and_steps_i.main.body.getD i (.Pass ⟨0, 0, 0, 0⟩)
abbrev s_is_integer : Stmt := (topS 5)
abbrev N_is_integer : List Str := ["value", "low", "high"]
theorem sc_is_integer : FnScope N_is_integer ["value", "low", "high"] (defScope s_is_integer) := ⟨rfl, rfl, rfl, by decide +kernel, rfl, by decide +kernel, by decide +kernel⟩
abbrev s_is_step : Stmt := (topS 9)
abbrev N_is_step : List Str := ["value", "word"]
theorem sc_is_step : FnScope N_is_step ["value"] (defScope s_is_step) := ⟨rfl, rfl, rfl, by decide +kernel, rfl, by decide +kernel, by decide +kernel⟩
abbrev s_Script___init__ : Stmt := (inClass (topS 10) 0)
abbrev N_Script___init__ : List Str := ["self", "steps", "index", "step"]
theorem sc_Script___init__ : FnScope N_Script___init__ ["self", "steps"] (defScope s_Script___init__) := ⟨rfl, rfl, rfl, by decide +kernel, rfl, by decide +kernel, by decide +kernel⟩
abbrev s_Script___len__ : Stmt := (inClass (topS 10) 1)
abbrev N_Script___len__ : List Str := ["self"]
theorem sc_Script___len__ : FnScope N_Script___len__ ["self"] (defScope s_Script___len__) := ⟨rfl, rfl, rfl, by decide +kernel, rfl, by decide +kernel, by decide +kernel⟩
abbrev s_Script___eq__ : Stmt := (inClass (topS 10) 2)
abbrev N_Script___eq__ : List Str := ["self", "other"]
theorem sc_Script___eq__ : FnScope N_Script___eq__ ["self", "other"] (defScope s_Script___eq__) := ⟨rfl, rfl, rfl, by decide +kernel, rfl, by decide +kernel, by decide +kernel⟩
abbrev s_Script___getitem__ : Stmt := (inClass (topS 10) 3)
abbrev N_Script___getitem__ : List Str := ["self", "at"]
theorem sc_Script___getitem__ : FnScope N_Script___getitem__ ["self", "at"] (defScope s_Script___getitem__) := ⟨rfl, rfl, rfl, by decide +kernel, rfl, by decide +kernel, by decide +kernel⟩
abbrev s_Script___contains__ : Stmt := (inClass (topS 10) 5)
abbrev N_Script___contains__ : List Str := ["self", "x"]
theorem sc_Script___contains__ : FnScope N_Script___contains__ ["self", "x"] (defScope s_Script___contains__) := ⟨rfl, rfl, rfl, by decide +kernel, rfl, by decide +kernel, by decide +kernel⟩
abbrev s_Script___add__ : Stmt := (inClass (topS 10) 6)
abbrev N_Script___add__ : List Str := ["self", "other"]
theorem sc_Script___add__ : FnScope N_Script___add__ ["self", "other"] (defScope s_Script___add__) := ⟨rfl, rfl, rfl, by decide +kernel, rfl, by decide +kernel, by decide +kernel⟩
abbrev s_Script_steps : Stmt := (inClass (topS 10) 7)
abbrev N_Script_steps : List Str := ["self"]
theorem sc_Script_steps : FnScope N_Script_steps ["self"] (defScope s_Script_steps) := ⟨rfl, rfl, rfl, by decide +kernel, rfl, by decide +kernel, by decide +kernel⟩
abbrev s_Script_without : Stmt := (inClass (topS 10) 8)
abbrev N_Script_without : List Str := ["self", "index", "steps"]
theorem sc_Script_without : FnScope N_Script_without ["self", "index"] (defScope s_Script_without) := ⟨rfl, rfl, rfl, by decide +kernel, rfl, by decide +kernel, by decide +kernel⟩
abbrev s_Script_with_step : Stmt := (inClass (topS 10) 9)
abbrev N_Script_with_step : List Str := ["self", "index", "step", "steps"]
theorem sc_Script_with_step : FnScope N_Script_with_step ["self", "index", "step"] (defScope s_Script_with_step) := ⟨rfl, rfl, rfl, by decide +kernel, rfl, by decide +kernel, by decide +kernel⟩
abbrev s_Script__has : Stmt := (inClass (topS 10) 10)
abbrev N_Script__has : List Str := ["self", "index"]
theorem sc_Script__has : FnScope N_Script__has ["self", "index"] (defScope s_Script__has) := ⟨rfl, rfl, rfl, by decide +kernel, rfl, by decide +kernel, by decide +kernel⟩
abbrev s__law_well : Stmt := (topS 12)
abbrev N__law_well : List Str := ["script", "k", "cell", "deep"]
theorem sc__law_well : FnScope N__law_well ["script", "k"] (defScope s__law_well) := ⟨rfl, rfl, rfl, by decide +kernel, rfl, by decide +kernel, by decide +kernel⟩
abbrev s__law_draw : Stmt := (topS 13)
abbrev N__law_draw : List Str := ["well", "many", "found", "turn", "mixed"]
theorem sc__law_draw : FnScope N__law_draw ["well", "many"] (defScope s__law_draw) := ⟨rfl, rfl, rfl, by decide +kernel, rfl, by decide +kernel, by decide +kernel⟩
abbrev s__law_menu : Stmt := (topS 14)
abbrev N__law_menu : List Str := ["found", "word"]
theorem sc__law_menu : FnScope N__law_menu [] (defScope s__law_menu) := ⟨rfl, rfl, rfl, by decide +kernel, rfl, by decide +kernel, by decide +kernel⟩
abbrev s__law_row : Stmt := (topS 15)
abbrev N__law_row : List Str := ["well", "most", "menu", "few", "found", "turn"]
theorem sc__law_row : FnScope N__law_row ["well", "most"] (defScope s__law_row) := ⟨rfl, rfl, rfl, by decide +kernel, rfl, by decide +kernel, by decide +kernel⟩
abbrev s__law_same : Stmt := (topS 16)
abbrev N__law_same : List Str := ["actual", "expected", "k"]
theorem sc__law_same : FnScope N__law_same ["actual", "expected"] (defScope s__law_same) := ⟨rfl, rfl, rfl, by decide +kernel, rfl, by decide +kernel, by decide +kernel⟩
abbrev s__law_told : Stmt := (topS 17)
abbrev N__law_told : List Str := ["work", "row", "k"]
theorem sc__law_told : FnScope N__law_told ["work", "row"] (defScope s__law_told) := ⟨rfl, rfl, rfl, by decide +kernel, rfl, by decide +kernel, by decide +kernel⟩
abbrev s__law_no_step : Stmt := (topS 18)
abbrev N__law_no_step : List Str := ["way", "found"]
theorem sc__law_no_step : FnScope N__law_no_step ["way"] (defScope s__law_no_step) := ⟨rfl, rfl, rfl, by decide +kernel, rfl, by decide +kernel, by decide +kernel⟩
abbrev s__law_equal : Stmt := (topS 19)
abbrev N__law_equal : List Str := ["one", "other", "due", "told", "word"]
theorem sc__law_equal : FnScope N__law_equal ["one", "other", "due"] (defScope s__law_equal) := ⟨rfl, rfl, rfl, by decide +kernel, rfl, by decide +kernel, by decide +kernel⟩
abbrev s__law_other : Stmt := (topS 20)
abbrev N__law_other : List Str := ["well", "row", "way", "spot", "place", "step", "found"]
theorem sc__law_other : FnScope N__law_other ["well", "row"] (defScope s__law_other) := ⟨rfl, rfl, rfl, by decide +kernel, rfl, by decide +kernel, by decide +kernel⟩
abbrev s__law_holds : Stmt := (topS 21)
abbrev N__law_holds : List Str := ["work", "row", "way", "step"]
theorem sc__law_holds : FnScope N__law_holds ["work", "row", "way"] (defScope s__law_holds) := ⟨rfl, rfl, rfl, by decide +kernel, rfl, by decide +kernel, by decide +kernel⟩
abbrev s__law_made : Stmt := (topS 22)
abbrev N__law_made : List Str := ["work", "row", "lesser"]
theorem sc__law_made : FnScope N__law_made ["work", "row"] (defScope s__law_made) := ⟨rfl, rfl, rfl, by decide +kernel, rfl, by decide +kernel, by decide +kernel⟩
abbrev s_law : Stmt := (topS 23)
abbrev N_law : List Str := ["script", "k", "well", "row", "other", "way", "work", "near", "thing"]
theorem sc_law : FnScope N_law ["script"] (defScope s_law) := ⟨rfl, rfl, rfl, by decide +kernel, rfl, by decide +kernel, by decide +kernel⟩
set_option genInjectivity false in
set_option genSizeOf false in
/-- what the top has written -/
structure Txt (P : Program) (K : PySem.W.Frag) (mg : Str → Option Value) where
  a_STEPS : Addr
  dp_STEPS : ∀ H, Dp K H (.ref a_STEPS) (.tuple [(.tuple [(.str "make"), (.str "all")]), (.tuple [(.str "make"), (.str "standing")]), (.tuple [(.str "start"), (.str "new")]), (.tuple [(.str "start"), (.str "all")]), (.tuple [(.str "start"), (.str "free")]), (.tuple [(.str "label"), (.str "new")]), (.tuple [(.str "label"), (.str "all")]), (.tuple [(.str "label"), (.str "free")]), (.tuple [(.str "tie"), (.str "new")]), (.tuple [(.str "tie"), (.str "all")]), (.tuple [(.str "tie"), (.str "free")]), (.tuple [(.str "drop")])])
  a_Script : Addr
  m_Script : mg "Script" = some (.ref a_Script)
  cl_Script : Cls K a_Script
  na_Script__steps : NoAttr K a_Script "_steps"
  f_is_integer : Addr
  d_is_integer : FuncData
  F_is_integer : Fun K "is_integer" "is_integer" s_is_integer f_is_integer d_is_integer
  b_is_integer : Binds K d_is_integer ["value", "low", "high"] []
  m_is_integer : mg "is_integer" = some (.ref f_is_integer)
  f_is_step : Addr
  d_is_step : FuncData
  F_is_step : Fun K "is_step" "is_step" s_is_step f_is_step d_is_step
  b_is_step : Binds K d_is_step ["value"] []
  m_is_step : mg "is_step" = some (.ref f_is_step)
  f_Script___init__ : Addr
  d_Script___init__ : FuncData
  F_Script___init__ : Fun K "__init__" "Script.__init__" s_Script___init__ f_Script___init__ d_Script___init__
  b_Script___init__ : Binds K d_Script___init__ ["self", "steps"] []
  M_Script : Mk K a_Script f_Script___init__
  f_Script___len__ : Addr
  d_Script___len__ : FuncData
  F_Script___len__ : Fun K "__len__" "Script.__len__" s_Script___len__ f_Script___len__ d_Script___len__
  b_Script___len__ : Binds K d_Script___len__ ["self"] []
  me_Script___len__ : Meth K a_Script "__len__" f_Script___len__
  f_Script___eq__ : Addr
  d_Script___eq__ : FuncData
  F_Script___eq__ : Fun K "__eq__" "Script.__eq__" s_Script___eq__ f_Script___eq__ d_Script___eq__
  b_Script___eq__ : Binds K d_Script___eq__ ["self", "other"] []
  me_Script___eq__ : Meth K a_Script "__eq__" f_Script___eq__
  f_Script___getitem__ : Addr
  d_Script___getitem__ : FuncData
  F_Script___getitem__ : Fun K "__getitem__" "Script.__getitem__" s_Script___getitem__ f_Script___getitem__ d_Script___getitem__
  b_Script___getitem__ : Binds K d_Script___getitem__ ["self", "at"] []
  me_Script___getitem__ : Meth K a_Script "__getitem__" f_Script___getitem__
  fi_Script___getitem__ : PySem.W.fnIn K f_Script___getitem__ = true
  f_Script___contains__ : Addr
  d_Script___contains__ : FuncData
  F_Script___contains__ : Fun K "__contains__" "Script.__contains__" s_Script___contains__ f_Script___contains__ d_Script___contains__
  b_Script___contains__ : Binds K d_Script___contains__ ["self", "x"] []
  me_Script___contains__ : Meth K a_Script "__contains__" f_Script___contains__
  f_Script___add__ : Addr
  d_Script___add__ : FuncData
  F_Script___add__ : Fun K "__add__" "Script.__add__" s_Script___add__ f_Script___add__ d_Script___add__
  b_Script___add__ : Binds K d_Script___add__ ["self", "other"] []
  me_Script___add__ : Meth K a_Script "__add__" f_Script___add__
  sf_Script : PySem.W.selfFirst K a_Script = true
  f_Script_steps : Addr
  d_Script_steps : FuncData
  F_Script_steps : Fun K "steps" "Script.steps" s_Script_steps f_Script_steps d_Script_steps
  b_Script_steps : Binds K d_Script_steps ["self"] []
  me_Script_steps : Meth K a_Script "steps" f_Script_steps
  f_Script_without : Addr
  d_Script_without : FuncData
  F_Script_without : Fun K "without" "Script.without" s_Script_without f_Script_without d_Script_without
  b_Script_without : Binds K d_Script_without ["self", "index"] []
  me_Script_without : Meth K a_Script "without" f_Script_without
  f_Script_with_step : Addr
  d_Script_with_step : FuncData
  F_Script_with_step : Fun K "with_step" "Script.with_step" s_Script_with_step f_Script_with_step d_Script_with_step
  b_Script_with_step : Binds K d_Script_with_step ["self", "index", "step"] []
  me_Script_with_step : Meth K a_Script "with_step" f_Script_with_step
  f_Script__has : Addr
  d_Script__has : FuncData
  F_Script__has : Fun K "_has" "Script._has" s_Script__has f_Script__has d_Script__has
  b_Script__has : Binds K d_Script__has ["self", "index"] []
  me_Script__has : Meth K a_Script "_has" f_Script__has
  f__law_well : Addr
  d__law_well : FuncData
  F__law_well : Fun K "_law_well" "_law_well" s__law_well f__law_well d__law_well
  b__law_well : Binds K d__law_well ["script", "k"] []
  m__law_well : mg "_law_well" = some (.ref f__law_well)
  f__law_draw : Addr
  d__law_draw : FuncData
  F__law_draw : Fun K "_law_draw" "_law_draw" s__law_draw f__law_draw d__law_draw
  b__law_draw : Binds K d__law_draw ["well", "many"] []
  m__law_draw : mg "_law_draw" = some (.ref f__law_draw)
  f__law_menu : Addr
  d__law_menu : FuncData
  F__law_menu : Fun K "_law_menu" "_law_menu" s__law_menu f__law_menu d__law_menu
  b__law_menu : Binds K d__law_menu [] []
  m__law_menu : mg "_law_menu" = some (.ref f__law_menu)
  f__law_row : Addr
  d__law_row : FuncData
  F__law_row : Fun K "_law_row" "_law_row" s__law_row f__law_row d__law_row
  b__law_row : Binds K d__law_row ["well", "most"] []
  m__law_row : mg "_law_row" = some (.ref f__law_row)
  f__law_same : Addr
  d__law_same : FuncData
  F__law_same : Fun K "_law_same" "_law_same" s__law_same f__law_same d__law_same
  b__law_same : Binds K d__law_same ["actual", "expected"] []
  m__law_same : mg "_law_same" = some (.ref f__law_same)
  f__law_told : Addr
  d__law_told : FuncData
  F__law_told : Fun K "_law_told" "_law_told" s__law_told f__law_told d__law_told
  b__law_told : Binds K d__law_told ["work", "row"] []
  m__law_told : mg "_law_told" = some (.ref f__law_told)
  f__law_no_step : Addr
  d__law_no_step : FuncData
  F__law_no_step : Fun K "_law_no_step" "_law_no_step" s__law_no_step f__law_no_step d__law_no_step
  b__law_no_step : Binds K d__law_no_step ["way"] []
  m__law_no_step : mg "_law_no_step" = some (.ref f__law_no_step)
  f__law_equal : Addr
  d__law_equal : FuncData
  F__law_equal : Fun K "_law_equal" "_law_equal" s__law_equal f__law_equal d__law_equal
  b__law_equal : Binds K d__law_equal ["one", "other", "due"] []
  m__law_equal : mg "_law_equal" = some (.ref f__law_equal)
  f__law_other : Addr
  d__law_other : FuncData
  F__law_other : Fun K "_law_other" "_law_other" s__law_other f__law_other d__law_other
  b__law_other : Binds K d__law_other ["well", "row"] []
  m__law_other : mg "_law_other" = some (.ref f__law_other)
  f__law_holds : Addr
  d__law_holds : FuncData
  F__law_holds : Fun K "_law_holds" "_law_holds" s__law_holds f__law_holds d__law_holds
  b__law_holds : Binds K d__law_holds ["work", "row", "way"] []
  m__law_holds : mg "_law_holds" = some (.ref f__law_holds)
  f__law_made : Addr
  d__law_made : FuncData
  F__law_made : Fun K "_law_made" "_law_made" s__law_made f__law_made d__law_made
  b__law_made : Binds K d__law_made ["work", "row"] []
  m__law_made : mg "_law_made" = some (.ref f__law_made)
  f_law : Addr
  d_law : FuncData
  F_law : Fun K "law" "law" s_law f_law d_law
  b_law : Binds K d_law ["script"] []
  m_law : mg "law" = some (.ref f_law)
  a_NoStep : Addr
  f_NoStep : Addr
  ec_NoStep : ExcC K a_NoStep
  er_NoStep : PySem.ErrX.ErrTxt P K mg "NoStep" "index" "there is no step at this index" a_NoStep f_NoStep
  a_NoIndex : Addr
  f_NoIndex : Addr
  ec_NoIndex : ExcC K a_NoIndex
  er_NoIndex : PySem.ErrX.ErrTxt P K mg "NoIndex" "index" "no step can be put in at this index" a_NoIndex f_NoIndex
  m_MOST_STEPS : ∃ t, mg "MOST_STEPS" = some (.int 12 t)
  m_STEPS : mg "STEPS" = some (.ref a_STEPS)
  m_all : mg "all" = none
  m_bool : mg "bool" = none
  m_enumerate : mg "enumerate" = none
  m_int : mg "int" = none
  m_isinstance : mg "isinstance" = none
  m_len : mg "len" = none
  m_list : mg "list" = none
  m_max : mg "max" = none
  m_range : mg "range" = none
  m_str : mg "str" = none
  m_tuple : mg "tuple" = none
  ty_Script : ∀ (H : Hp) (a dx : Addr) (fs : List (Str × V)), H a = some (.ins a_Script dx fs) → TyX K H (.ref a) (.ref a_Script)
  fe_Script : PySem.W.findIn K (.ref a_Script) "__eq__" = some (some (.ref f_Script___eq__))
  fn_Script : PySem.W.isFn K (.ref f_Script___eq__) = true
  ne_Script : PySem.W.findIn K (.ref a_Script) "__ne__" = some (some (.builtin "object.__ne__"))
  so_Script : PySem.W.subIn K (.ref a_Script) (.type "object") = some true
  ap_Script : PySem.W.Apart7 K a_Script
  kx_Script : ∀ T ∈ PySem.W.kinds7, PySem.W.kitOne K (.type T) (.ref a_Script) = some false
end Y


set_option Elab.async false
set_option linter.all false
set_option maxRecDepth 100000
namespace Y
open PySem L2
local macro_rules | `(tactic| walk_at "ne") => `(tactic| first
  | with_reducible assumption
  | ((with_reducible apply Ne.symm); (focus with_reducible assumption))
  | ((with_reducible apply ne_new); (focus with_reducible assumption); (focus walk_at "hp"))
  | ((with_reducible apply ne_new'); (focus with_reducible assumption); (focus walk_at "hp")))
local macro_rules | `(tactic| walk_at "hp1") => `(tactic| first
  | ((with_reducible apply lk_new2); (focus with_reducible assumption))
  | ((with_reducible apply lk_ne2); (focus walk_at "ne"))
  | ((with_reducible apply Same.get); (focus with_reducible assumption))
  | ((with_reducible apply But.get2); (focus with_reducible assumption); (focus walk_at "ne")))
local macro_rules | `(tactic| walk_at "hp") => `(tactic| first
  | with_reducible assumption
  | with_reducible exact upd_same
  | ((walk_at "hp1"); (walk_at "hp")))
local macro_rules | `(tactic| walk_at "sm1") => `(tactic| first
  | ((with_reducible apply Same.linkN); (focus with_reducible assumption))
  | ((with_reducible apply Same.linkU); (focus with_reducible assumption))
  | ((with_reducible apply Same.link); (focus with_reducible assumption))
  | ((with_reducible apply Same.linkV); (focus with_reducible assumption); (focus walk_at "sm")))
local macro_rules | `(tactic| walk_at "sm") => `(tactic| first
  | with_reducible assumption
  | with_reducible exact Same.refl _
  | ((walk_at "sm1"); (walk_at "sm")))
local macro_rules | `(tactic| walk_at "bt1") => `(tactic| first
  | ((with_reducible apply But.linkN); (focus with_reducible assumption))
  | ((with_reducible apply But.linkU); (focus with_reducible assumption))
  | (with_reducible apply But.linkA)
  | ((with_reducible apply But.link); (focus with_reducible assumption))
  | ((with_reducible apply But.linkS); (focus with_reducible assumption)))
local macro_rules | `(tactic| walk_at "bt") => `(tactic| first
  | with_reducible assumption
  | with_reducible exact But.refl _ _
  | ((walk_at "bt1"); (walk_at "bt")))
local macro_rules | `(tactic| walk_at "rs") => `(tactic| simp only [e_C, e_var0, e_varS, e_op, e_op1, e_un, e_fld, e_tup, e_lst, e_cons, e_cons1, e_cons2, e_nil, e_call, e_call1, e_CB, e_meth, e_make, e_B, e_test, e_B1, e_if, e_if1, e_ifS, e_ifS1, e_and, e_andc, e_or, e_orc, e_not, e_not1, e_andV, e_andVc, e_orV, e_orVc, e_notV, e_notV1, e_seq, e_next, e_break, e_cont, e_drop, e_drop1, e_ret, e_retN, e_asg, e_name, e_part, e_part1, e_noPart, e_sl, e_sl1, e_sl2, e_sl3, o_add_int, o_I0, o_un, c_int, c_intB, c_abs, c_max, c_min, k_isN, k_notN, k_isB, k_notB, e_sub, e_sub1, cx_K, cx_noxK, e_for, e_rng1, e_rng2, e_seqI, e_enumT, e_enum, e_gname, e_lc, e_lcT, e_yes, e_bm, e_par, e_par1, e_par3, e_par31, e_chain, e_chain1, e_chain2, e_chain3, e_sfld, e_sfld1, List.set, ite_true, ite_false, eq_self, Bool.false_eq_true, decide_eq_true_eq, L2.start, List.map, List.length_cons, List.length_nil, List.replicate, Nat.add_one_sub_one, Nat.sub_self, List.nil_append, List.cons_append, Int.reduceToNat, Int.reducePow, Int.reduceMul, Int.reduceAdd, Int.reduceSub, Int.reduceNeg, Int.reduceLT, Int.reduceLE, Int.reduceEq, Bool.not_false, Bool.not_true, L2.wipe, e_never, e_makeS, e_callS, e_methS, e_tupZ, e_tC, e_m1, e_m1a, e_m1b, e_asgT, e_gcons, e_gnil, e_callD, e_opS, e_raise, e_mkErr, e_fldErr, decide_true, decide_false, not_true_eq_false, not_false_eq_true, reduceCtorEq])
local macro_rules | `(tactic| walk_at "sd") => `(tactic| first
  | assumption
  | decide
  | omega
  | (dsimp only; omega)
  | exact wide_div (b := 450) (by omega) (by omega) (by decide) (by decide)
  | exact mulX (a := 450) (b := 450) (by omega) (by omega) (by decide) (by decide) (by decide)
  | exact powW (b := 450) (by omega) (by omega) (by decide) (by decide))
local macro_rules | `(tactic| walk_at "sl") => `(tactic| first | omega | (simp only [List.length_cons, List.length_nil, List.length_append]; omega) | exact Nat.le_of_ble_eq_true rfl)
local macro_rules | `(tactic| walk_at "sqL1") => `(tactic| first
  | ((with_reducible apply sqL_new2); (focus with_reducible assumption))
  | ((with_reducible apply sqL_link); (focus with_reducible assumption)))
local macro_rules | `(tactic| walk_at "sqL") => `(tactic| first
  | with_reducible assumption
  | ((with_reducible apply SqL.of); focus walk_at "hp")
  | ((walk_at "sqL1"); (walk_at "sqL")))
local macro_rules | `(tactic| walk_at "sqT1") => `(tactic| first
  | ((with_reducible apply sqT_new2); (focus with_reducible assumption))
  | ((with_reducible apply sqT_link); (focus with_reducible assumption))
  | ((with_reducible apply sqT_lst); (focus walk_at "hp"))
  | ((with_reducible apply sqT_ins); (focus walk_at "hp")))
local macro_rules | `(tactic| walk_at "sqT") => `(tactic| first
  | with_reducible assumption
  | ((with_reducible apply SqT.of); focus walk_at "hp")
  | ((with_reducible apply SqT.ofZ); focus walk_at "hp")
  | ((walk_at "sqT1"); (walk_at "sqT")))
local macro_rules | `(tactic| walk_at "kt") => `(tactic| first
  | with_reducible exact kt_self
  | with_reducible exact kt_int_bool
  | with_reducible exact kt_int_str
  | with_reducible exact kt_int_list
  | with_reducible exact kt_int_tuple
  | with_reducible exact kt_bool_int
  | with_reducible exact kt_bool_str
  | with_reducible exact kt_bool_list
  | with_reducible exact kt_bool_tuple
  | with_reducible exact kt_str_int
  | with_reducible exact kt_str_bool
  | with_reducible exact kt_str_list
  | with_reducible exact kt_str_tuple
  | with_reducible exact kt_non_int
  | with_reducible exact kt_non_bool
  | with_reducible exact kt_non_str
  | with_reducible exact kt_non_list
  | with_reducible exact kt_non_tuple
  | with_reducible exact kt_tuple_int
  | with_reducible exact kt_tuple_bool
  | with_reducible exact kt_tuple_str
  | with_reducible exact kt_tuple_list
  | with_reducible exact kt_list_int
  | with_reducible exact kt_list_bool
  | with_reducible exact kt_list_str
  | with_reducible exact kt_list_tuple
  | with_reducible exact kt_dict_int
  | with_reducible exact kt_dict_bool
  | with_reducible exact kt_dict_str
  | with_reducible exact kt_dict_list
  | with_reducible exact kt_dict_tuple)
local macro_rules | `(tactic| walk_at "tyx") => `(tactic| first
  | with_reducible exact .base (.int _)
  | with_reducible exact .base (.str _)
  | with_reducible exact .base (.bl _)
  | with_reducible exact .base .non
  | ((with_reducible apply tyx_tup); focus walk_at "sqT")
  | ((with_reducible apply tyx_lst); focus walk_at "sqL")
  | ((with_reducible apply TyX.base); (focus ((with_reducible apply TyOf.dK); focus walk_at "hp"))))
local macro_rules | `(tactic| walk_at "isi") => `(tactic| first
  | ((with_reducible apply k_isi); (focus (with_reducible exact (ClsV.ty _))); (focus (walk_at "tyx")); (focus (walk_at "kt")))
  | ((with_reducible apply k_isiT); (focus (walk_at "hp")); (focus (with_reducible exact (.cons (.ty _) (.cons (.ty _) .nil)))); (focus (walk_at "tyx")); (focus (first | with_reducible exact ka_tuple | with_reducible exact ka_list | ((with_reducible apply ka_no); (focus walk_at "kt"); (focus walk_at "kt"))))))
local macro_rules | `(tactic| walk_at "lk") => `(tactic| rfl)
local macro_rules | `(tactic| walk_at "rd1") => `(tactic| first
  | walk_at "rs"
  | ((with_reducible apply k_ixL); (focus (walk_at "sqL")); (focus rfl))
  | ((with_reducible apply k_ixT); (focus (walk_at "sqT")); (focus rfl))
  | ((with_reducible apply k_fld); (focus (walk_at "hp")); (focus (assumption)); (focus (assumption)); (focus (walk_at "lk")))
  | ((with_reducible apply k_sfld); (focus (walk_at "hp")); (focus (assumption)); (focus (assumption)); (focus (walk_at "sl")))
  | ((with_reducible apply k_meth); (focus (walk_at "hp")); (focus (walk_at "lk")))
  | ((with_reducible apply k_I); (focus (walk_at "sd")))
  | ((with_reducible apply k_unp); (focus (walk_at "sqT")); (focus rfl))
  | ((with_reducible apply k_mul); (focus (walk_at "sd")))
  | ((with_reducible apply k_setL); (focus (walk_at "hp")); (focus rfl))
  | ((with_reducible apply k_bmL); (focus (walk_at "hp")))
  | ((with_reducible apply k_append); (focus (walk_at "hp")); (focus (walk_at "sd")))
  | ((with_reducible apply k_extend); (focus (walk_at "hp")); (focus (walk_at "hp")); (focus (walk_at "sl")))
  | ((with_reducible apply k_tup); (focus (walk_at "sl")); intro _ _)
  | ((with_reducible apply k_dnew); intro _ _)
  | ((with_reducible apply k_tupZ); (focus (walk_at "sl")); intro _ _ _ _ _)
  | ((with_reducible apply k_lst); (focus (walk_at "sl")); intro _ _)
  | ((with_reducible apply k_lenS); (focus ((with_reducible apply Or.inl); walk_at "sqL")))
  | ((with_reducible apply k_lenS); (focus ((with_reducible apply Or.inr); walk_at "sqT")))
  | ((with_reducible apply k_seqL); (focus (walk_at "sqL")))
  | ((with_reducible apply k_seqT); (focus (walk_at "sqT")))
  | ((with_reducible apply k_enumT); (focus (walk_at "sqT")))
  | walk_at "isi"
  | ((with_reducible apply k_tupOfL); (focus (walk_at "sqL")); intro _ _)
  | ((with_reducible apply k_tupOfT); (focus (walk_at "sqT")))
  | ((with_reducible apply k_listOf); (focus ((with_reducible apply Or.inl); walk_at "sqL")); intro _ _)
  | ((with_reducible apply k_listOf); (focus ((with_reducible apply Or.inr); walk_at "sqT")); intro _ _)
  | (with_reducible apply k_eq_int)
  | (with_reducible apply k_ne_int)
  | (with_reducible apply k_eq_str)
  | (with_reducible apply k_ne_str)
  | (with_reducible apply k_eq_bl)
  | (with_reducible apply k_ne_bl))
local macro_rules | `(tactic| walk_at "rd") => `(tactic| repeat walk_at "rd1")

/-- a well at a: what is left of the cell, the stirring, the turns (at most n) -/
def WellAt (H : Hp) (a : Addr) (n : Nat) : Prop := ∃ x y z : Int, H a = some (.lst [.int x, .int y, .int z]) ∧ 0 ≤ y ∧ y < 2 ^ 200 ∧ 0 ≤ z ∧ z ≤ n
def spDraw : Sp := fun vs H Q _ => ∃ (a : Addr) (many : Int) (n : Nat), vs = [.ref a, .int many] ∧ WellAt H a n ∧ n ≤ 1000000 ∧ 0 < many ∧ many < 2 ^ 250 ∧
  ∀ (k : Int) (H' : Hp), 0 ≤ k → k < many → WellAt H' a (n + 1) → (∀ b o, H b = some o → b ≠ a → H' b = some o) → Q (.int k) H'
section
variable {P : Program} {w : World} {K : PySem.W.Frag} {mg : Str → Option Value} {base : Heap}
theorem ok__law_draw (T : Txt P K mg) : FnOk P w K mg base CX0 1 T.f__law_draw T.d__law_draw ["well", "many"] spDraw := by
  refine T.F__law_draw.ok sc__law_draw (fun vs H Q E h => ?_) (fun cdv A outer s H vs Q E hr h => ?_)
  · obtain ⟨a, m, n, rfl, _⟩ := h
    rfl
  · obtain ⟨a, many, n, rfl, ⟨x, y, z, ha, hy0, hy1, hz0, hz1⟩, hn, hm0, hm1, k⟩ := h
    refine ⟨_, (pss_cons (ps_if (pt_cmpR op_gt (pe_ix (ix_seqk K) (pv 0) pe_int (fun _ _ => rfl)) pe_int (nomark _)) (pss_cons (ps_set (i := 2) sc__law_draw.nd rfl (Or.inl rfl) (pe_op op_mod (pe_callTy call_int1 (by rfl) T.m_int b_int (pa_cons (pe_ix (ix_seqk K) (pv 0) pe_int (fun _ _ => rfl)) pa_nil)) (pv 1)))
  (pss_cons (ps_asg (pe_op op_fdivW (pe_ix (ix_seqk K) (pv 0) pe_int (fun _ _ => rfl)) (pv 1)) (pg_sub (pv 0) pe_int set_list))
  (pss_one (ps_ret (pv 2))))) pss_nil)
  (pss_cons (ps_set (i := 3) sc__law_draw.nd rfl (Or.inl rfl) (pe_op (op_addUk K) (pe_ix (ix_seqk K) (pv 0) pe_int (fun _ _ => rfl)) pe_int))
  (pss_cons (ps_asg (pv 3) (pg_sub (pv 0) pe_int set_list))
  (pss_cons (ps_set (i := 4) sc__law_draw.nd rfl (Or.inl rfl) (pe_op op_mod (pe_callTy call_int1 (by rfl) T.m_int b_int (pa_cons (pe_op (op_addUk K) (pe_op op_powW (pe_op (op_addUk K) (pe_ix (ix_seqk K) (pv 0) pe_int (fun _ _ => rfl)) (pe_op op_mulU pe_int (pv 3))) pe_int) (pe_op op_mulU pe_int (pv 3))) pa_nil)) (pe_op (op_addUk K) (pe_op op_powW pe_int pe_int) pe_int)))
  (pss_cons (ps_set (i := 4) sc__law_draw.nd rfl (Or.inl rfl) (pe_op op_mod (pe_callTy call_int1 (by rfl) T.m_int b_int (pa_cons (pe_op op_powW (pe_op (op_addUk K) (pv 4) (pe_op op_mulU pe_int (pv 3))) pe_int) pa_nil)) (pe_op (op_addUk K) (pe_op op_powW pe_int pe_int) pe_int)))
  (pss_one (ps_ret (pe_op op_mod (pe_callTy call_int1 (by rfl) T.m_int b_int (pa_cons (pe_op op_fdivW (pv 4) (pe_op op_powW pe_int pe_int)) pa_nil)) (pv 1))))))))), ?_⟩
    walk_at "rd"
    refine ite2 (fun hx => ?_) (fun hx => ?_)
    · walk_at "rd"
      exact k _ _ (Int.emod_nonneg _ (by omega)) (Int.emod_lt_of_pos _ hm0) ⟨_, _, _, upd_same, hy0, hy1, hz0, by omega⟩ fun b o e hb => by rw [upd_ne hb]; exact e
    · walk_at "rd"
      refine k _ _ (Int.emod_nonneg _ (by omega)) (Int.emod_lt_of_pos _ hm0) ⟨_, _, _, upd_same, hy0, hy1, by omega, by omega⟩ fun b o e hb => by rw [upd_ne hb]; exact e
end

set_option Elab.async false
set_option linter.all false
set_option maxRecDepth 100000


theorem WellAt.sameT {H H' : Hp} {a : Addr} {n : Nat} (h : WellAt H a n) (k : ∀ b o, H b = some o → b ≠ a → H' b = some o) : SameT H H' := by
  obtain ⟨x, y, z, e, _⟩ := h
  exact SameT.but e k
theorem WellAt.same {H H' : Hp} {a : Addr} {n : Nat} (h : WellAt H a n) (k : Same H H') : WellAt H' a n := by
  obtain ⟨x, y, z, e, r⟩ := h
  exact ⟨x, y, z, k _ _ e, r⟩
theorem WellAt.ne {H : Hp} {a p : Addr} {n : Nat} (h : WellAt H a n) (k : H p = none) : p ≠ a := by
  obtain ⟨x, y, z, e, r⟩ := h
  exact (ne_of_none e k).symm
theorem WellAt.new {H : Hp} {a p : Addr} {n : Nat} {o : HO} (h : WellAt H a n) (k : H p = none) : WellAt (upd H p o) a n := by
  obtain ⟨x, y, z, e, r⟩ := h
  exact ⟨x, y, z, lk_new e k, r⟩
theorem WellAt.lst {H : Hp} {a p : Addr} {n : Nat} {o : HO} (h : WellAt H a n) (k : a ≠ p) : WellAt (upd H p o) a n := by
  obtain ⟨x, y, z, e, r⟩ := h
  exact ⟨x, y, z, lk_ne e k, r⟩
theorem WellAt.le {H : Hp} {a : Addr} {n m : Nat} (h : WellAt H a n) (k : n ≤ m) : WellAt H a m := by
  obtain ⟨x, y, z, e, r1, r2, r3, r4⟩ := h
  exact ⟨x, y, z, e, r1, r2, r3, by omega⟩
theorem menu_len : ∀ w ∈ menu12, w.length ≤ 2 := by decide
def spMenu (K : PySem.W.Frag) : Sp := fun vs H Q _ => vs = [] ∧ ∀ (p : Addr) (xs : List V) (H' : Hp), H p = none → Same H H' → H' p = some (.lst xs) → Steps K H' xs menu12 → Q (.ref p) H'
def spWell (K : PySem.W.Frag) : Sp := fun vs H Q _ => ∃ (a : Addr) (ns : List Int) (k : Nat), vs = [.ref a, .int k] ∧ SqL K H a (ns.map V.int) ∧ (∀ z ∈ ns, Builtin.Int.intBits z ≤ 1048576) ∧ ns.length ≤ 63 ∧ k < 1000 ∧ ∀ (p : Addr) (H' : Hp), H p = none → Same H H' → WellAt H' p 0 → Q (.ref p) H'
set_option maxHeartbeats 2000000
section
variable {P : Program} {w : World} {K : PySem.W.Frag} {mg : Str → Option Value} {base : Heap}
theorem ok__law_menu (T : Txt P K mg) : FnOk P w K mg base CX0 1 T.f__law_menu T.d__law_menu [] (spMenu K) := by
  refine T.F__law_menu.ok sc__law_menu (fun vs H Q E h => ?_) (fun cdv A outer s H vs Q E hr h => ?_)
  · obtain ⟨rfl, _⟩ := h
    rfl
  · obtain ⟨rfl, k⟩ := h
    refine ⟨_, (pss_cons (ps_set (i := 0) sc__law_menu.nd rfl (Or.inl rfl) (pe_lst (pa_cons (pe_tup (pa_cons pe_str (pa_cons pe_str pa_nil))) (pa_cons (pe_tup (pa_cons pe_str (pa_cons pe_str pa_nil))) (pa_cons (pe_tup (pa_cons pe_str pa_nil)) pa_nil)))))
  (pss_cons (ps_for PassesOwn.never rfl (pi_seqk K (pe_lst (pa_cons pe_str (pa_cons pe_str (pa_cons pe_str pa_nil))))) (pg_name (i := 1) sc__law_menu.nd rfl (Or.inl rfl))
  (pss_one (ps_expr (pe_bm PySem.F.plainAttrs_list PySem.F.slot_list_extend PySem.F.type_list_extend mt_extend (pv 0) (pa_cons (pe_lst (pa_cons (pe_tup (pa_cons (pv 1) (pa_cons pe_str pa_nil))) (pa_cons (pe_tup (pa_cons (pv 1) (pa_cons pe_str pa_nil))) (pa_cons (pe_tup (pa_cons (pv 1) (pa_cons pe_str pa_nil))) pa_nil)))) pa_nil)))))
  (pss_one (ps_ret (pv 0))))), ?_⟩
    walk_at "rd"
    rename_i p1 n1 p2 n2 p3 n3 l nl q nq
    have s0 : Same H (upd (upd (upd H p1 (.tup [.str "make", .str "all"])) p2 (.tup [.str "make", .str "standing"])) p3 (.tup [.str "drop"])) := fun b o e => lk_new (lk_new (lk_new e n1) n2) n3
    have hl : H l = none := s0.free nl
    refine k_for walk_list (fun i σ H' => ∃ (xs : List V) (v : Option V), σ = [some (.ref l), v] ∧ Same H H' ∧ q ≠ l ∧ H' q = some (.lst [.str "start", .str "label", .str "tie"]) ∧ H' l = some (.lst xs) ∧ Steps K H' xs (menu12.take (3 + 3 * i)))
      ⟨_, none, rfl, fun b o e => lk_new (lk_new (s0 b o e) nl) nq, (ne_of_none upd_same nq).symm, upd_same, lk_new upd_same nq, ?_⟩ (fun i σ H' _ ⟨_, _, _, _, _, h, _⟩ => SqL.of h) ?_ ?_
    · show Steps K _ [.ref p1, .ref p2, .ref p3] [["make", "all"], ["make", "standing"], ["drop"]]
      exact .cons ⟨_, rfl, SqT.of (show _ = some (HO.tup [.str "make", .str "all"]) by walk_at "hp")⟩ (.cons ⟨_, rfl, SqT.of (show _ = some (HO.tup [.str "make", .str "standing"]) by walk_at "hp")⟩
        (.cons ⟨_, rfl, SqT.of (show _ = some (HO.tup [.str "drop"]) by walk_at "hp")⟩ .nil))
    · rintro i x σ H1 H2 hi ⟨xs, v, rfl, s1, hql, hq, hL, hS⟩ ⟨rfl, hx⟩
      have hlen : xs.length ≤ 12 := by
        have e := Paired.length hS
        rw [e, List.length_take]
        exact Nat.le_trans (Nat.min_le_right _ _) (by decide)
      obtain ⟨wd, rfl, hw⟩ : ∃ wd : Str, x = .str wd ∧ menu12.take (3 + 3 * (i + 1)) = menu12.take (3 + 3 * i) ++ [[wd, "new"], [wd, "all"], [wd, "free"]] := by
        match i, hi, hx with
        | 0, _, hx => exact ⟨"start", (Option.some.inj hx).symm, rfl⟩
        | 1, _, hx => exact ⟨"label", (Option.some.inj hx).symm, rfl⟩
        | 2, _, hx => exact ⟨"tie", (Option.some.inj hx).symm, rfl⟩
      walk_at "rd"
      rename_i p1 n1 p2 n2 p3 n3 p4 n4
      have e1 : Same H2 (upd (upd (upd (upd H2 p1 (.tup [.str wd, .str "new"])) p2 (.tup [.str wd, .str "all"])) p3 (.tup [.str wd, .str "free"])) p4 (.lst [.ref p1, .ref p2, .ref p3])) :=
        fun b o e => lk_new (lk_new (lk_new (lk_new e n1) n2) n3) n4
      have hL' := e1 _ _ hL
      refine ⟨_, _, rfl, fun b o e => lk_ne (e1 b o (s1 b o e)) (ne_of_none e hl), hql, lk_ne (e1 _ _ hq) hql, upd_same, ?_⟩
      · rw [hw]
        refine Steps.append ((hS.mono (SameT.of e1)).mono (SameT.lst hL')) ?_
        exact .cons ⟨_, rfl, sqT_mono (SameT.lst hL') (SqT.of (show _ = some (HO.tup [.str wd, .str "new"]) by walk_at "hp"))⟩ (.cons ⟨_, rfl, sqT_mono (SameT.lst hL') (SqT.of (show _ = some (HO.tup [.str wd, .str "all"]) by walk_at "hp"))⟩
          (.cons ⟨_, rfl, sqT_mono (SameT.lst hL') (SqT.of (show _ = some (HO.tup [.str wd, .str "free"]) by walk_at "hp"))⟩ .nil))
    · rintro σ H1 ⟨xs, v, rfl, s1, hql, hq, hL, hS⟩
      walk_at "rd"
      exact k l xs H1 hl s1 hL hS
theorem ok__law_well (T : Txt P K mg) : FnOk P w K mg base CX0 1 T.f__law_well T.d__law_well ["script", "k"] (spWell K) := by
  refine T.F__law_well.ok sc__law_well (fun vs H Q E h => ?_) (fun cdv A outer s H vs Q E hr h => ?_)
  · obtain ⟨a, ns, k, rfl, _⟩ := h
    rfl
  · obtain ⟨a, ns, k, rfl, ha, hb, hl, hk, q⟩ := h
    refine ⟨_, (pss_cons (ps_set (i := 2) sc__law_well.nd rfl (Or.inl rfl) pe_int)
  (pss_cons (ps_if (pt_cmpR op_lt (pv 1) (pe_callB (call_lenUk K) (by rfl) T.m_len b_len (pa_cons (pv 0) pa_nil)) (nomark _)) (pss_one (ps_set (i := 2) sc__law_well.nd rfl (Or.inl rfl) (pe_callTy call_int1 (by rfl) T.m_int b_int (pa_cons (pe_ix (ix_seqk K) (pv 0) (pv 1) (fun _ _ => rfl)) pa_nil)))) pss_nil)
  (pss_cons (ps_set (i := 3) sc__law_well.nd rfl (Or.inl rfl) (pe_op op_mulU pe_int (pv 2)))
  (pss_cons (ps_if (pt_cmpR op_lt (pv 2) pe_int (nomark _)) (pss_one (ps_set (i := 3) sc__law_well.nd rfl (Or.inl rfl) (pe_op op_sub (pe_op op_mulU (pe_un un_neg pe_int) (pv 2)) pe_int))) pss_nil)
  (pss_one (ps_ret (pe_lst (pa_cons (pe_callB (call_max2 rfl) (by rfl) T.m_max b_max (pa_cons pe_int (pa_cons (pe_op op_sub (pv 3) (pe_op op_powW pe_int pe_int)) pa_nil))) (pa_cons (pe_op (op_addUk K) (pe_op op_mod (pe_callTy call_int1 (by rfl) T.m_int b_int (pa_cons (pv 3) pa_nil)) (pe_op (op_addUk K) (pe_op op_powW pe_int pe_int) pe_int)) (pe_op op_mulU pe_int (pv 1))) (pa_cons pe_int pa_nil)))))))))), ?_⟩
    walk_at "rd"
    have b2 : Builtin.Int.intBits 2 ≤ 2 := by decide
    have bn : Builtin.Int.intBits (-2) ≤ 2 := by decide
    -- what follows the first if, for any cell
    have key : ∀ cell : Int, Builtin.Int.intBits cell ≤ 1048576 → CMulX 2 cell ∧ CMulX (-2) cell := fun cell hc => by
      unfold CMulX
      omega
    refine ite2 (fun hlt => ?_) (fun hge => ?_)
    · rw [List.length_map] at hlt
      have hk' : k < ns.length := by omega
      obtain ⟨z, hz⟩ : ∃ z, ns[k]? = some z := ⟨ns[k], List.getElem?_eq_getElem hk'⟩
      obtain ⟨m1, m2⟩ := key z (hb z (List.mem_of_getElem? hz))
      refine k_ixL ha (at_of (j := k) rfl (by rw [List.getElem?_map, hz]; rfl)) ?_
      walk_at "rd"
      refine ite2 (fun hneg => ?_) (fun hpos => ?_)
      all_goals
        walk_at "rd"
        rename_i p np
        exact q p _ np (fun b o e => lk_new e np) ⟨_, _, _, upd_same, by omega, by omega, by decide, by decide⟩
    · obtain ⟨m1, m2⟩ := key 0 (by decide)
      walk_at "rd"
      rename_i p np
      exact q p _ np (fun b o e => lk_new e np) ⟨_, _, _, upd_same, by omega, by omega, by decide, by decide⟩
end

set_option Elab.async false
set_option linter.all false
set_option maxRecDepth 100000


/-! ### values of any kind -/
def types7 : List String := ["NoneType", "bool", "int", "str", "tuple", "list", "dict"]
def kitB (T C : String) : Bool := decide (T = C) || (decide (T = "bool") && decide (C = "int"))
theorem kt_dict_self {K : PySem.W.Frag} : PySem.W.kitOne K (.type "dict") (.type "dict") = some true := kt_self
set_option maxHeartbeats 0 in
theorem kitB_ok {K : PySem.W.Frag} : ∀ T ∈ types7, ∀ C ∈ (["int", "bool", "str", "tuple", "list"] : List String), PySem.W.kitOne K (.type T) (.type C) = some (kitB T C) := by
  intro T hT C hC
  simp only [types7, List.mem_cons, List.not_mem_nil, or_false] at hT hC
  rcases hT with rfl | rfl | rfl | rfl | rfl | rfl | rfl <;> rcases hC with rfl | rfl | rfl | rfl | rfl <;> first
    | (show PySem.W.kitOne K _ _ = some true
       first | with_reducible exact kt_self | with_reducible exact kt_bool_int)
    | (show PySem.W.kitOne K _ _ = some false
       first
         | with_reducible exact kt_int_bool | with_reducible exact kt_int_str | with_reducible exact kt_int_list | with_reducible exact kt_int_tuple
         | with_reducible exact kt_bool_str | with_reducible exact kt_bool_list | with_reducible exact kt_bool_tuple
         | with_reducible exact kt_str_int | with_reducible exact kt_str_bool | with_reducible exact kt_str_list | with_reducible exact kt_str_tuple
         | with_reducible exact kt_non_int | with_reducible exact kt_non_bool | with_reducible exact kt_non_str | with_reducible exact kt_non_list | with_reducible exact kt_non_tuple
         | with_reducible exact kt_tuple_int | with_reducible exact kt_tuple_bool | with_reducible exact kt_tuple_str | with_reducible exact kt_tuple_list
         | with_reducible exact kt_list_int | with_reducible exact kt_list_bool | with_reducible exact kt_list_str | with_reducible exact kt_list_tuple
         | with_reducible exact kt_dict_int | with_reducible exact kt_dict_bool | with_reducible exact kt_dict_str | with_reducible exact kt_dict_list | with_reducible exact kt_dict_tuple)
theorem TyX.same {K : PySem.W.Frag} {H H' : Hp} {x : V} {t : Value} (s : Same H H') (h : TyX K H x t) : TyX K H' x t := by
  cases h with
  | base h =>
    cases h with
    | non => exact .base .non
    | bl x => exact .base (.bl x)
    | int i => exact .base (.int i)
    | str x => exact .base (.str x)
    | flt x => exact .base (.flt x)
    | lst e => exact .base (.lst (s _ _ e))
    | frz e => exact .base (.frz (s _ _ e))
    | tup e => exact .base (.tup (s _ _ e))
    | dK e => exact .base (.dK (s _ _ e))
    | dT e => exact .base (.dT (s _ _ e))
    | ins e a b c d f => exact .base (.ins (s _ _ e) a b c d f)
  | byt b => exact .byt b
  | set e => exact .set (s _ _ e)
  | kList e c => exact .kList e c
  | kTuple e c => exact .kTuple e c
  | kDict e c => exact .kDict e c
  | fTuple e => exact .fTuple (s _ _ e)
  | fDict e => exact .fDict (s _ _ e)
/-- the value's own type is T -/
def Ty (K : PySem.W.Frag) (H : Hp) (v : V) (T : String) : Prop := T ∈ types7 ∧ TyX K H v (.type T)
theorem Ty.same {K : PySem.W.Frag} {H H' : Hp} {v : V} {T : String} (s : Same H H') (h : Ty K H v T) : Ty K H' v T := ⟨h.1, TyX.same s h.2⟩
theorem ty_non {K : PySem.W.Frag} {H : Hp} : Ty K H .non "NoneType" := ⟨by decide, .base .non⟩
theorem ty_bl {K : PySem.W.Frag} {H : Hp} {b : Bool} : Ty K H (.bl b) "bool" := ⟨by decide, .base (.bl b)⟩
theorem ty_int {K : PySem.W.Frag} {H : Hp} {i : Int} : Ty K H (.int i) "int" := ⟨by decide, .base (.int i)⟩
theorem ty_str {K : PySem.W.Frag} {H : Hp} {x : Str} : Ty K H (.str x) "str" := ⟨by decide, .base (.str x)⟩
theorem ty_tup {K : PySem.W.Frag} {H : Hp} {a : Addr} {xs : List V} (h : SqT K H a xs) : Ty K H (.ref a) "tuple" := ⟨by decide, tyx_tup h⟩
theorem ty_lst {K : PySem.W.Frag} {H : Hp} {a : Addr} {xs : List V} (h : SqL K H a xs) : Ty K H (.ref a) "list" := ⟨by decide, tyx_lst h⟩
theorem ty_dK {K : PySem.W.Frag} {H : Hp} {a : Addr} {kvs : List (Key × V)} (h : H a = some (.dK kvs)) : Ty K H (.ref a) "dict" := ⟨by decide, .base (.dK h)⟩
theorem k_isT {K : PySem.W.Frag} {H : Hp} {v : V} {T C : String} {Q : VK} (h : Ty K H v T) (hC : C ∈ (["int", "bool", "str", "tuple", "list"] : List String)) (q : Q (.bl (kitB T C)) H) : fCB (rIsiU K) Q [v, .ty C] H := k_isi (ClsV.ty _) h.2 (kitB_ok T h.1 C hC) q
def NotInt (K : PySem.W.Frag) (H : Hp) (v : V) : Prop := ∃ T, Ty K H v T ∧ T ≠ "int"
def ItS (K : PySem.W.Frag) (H : Hp) (x : V) (b : Bool) : Prop := ∃ T, Ty K H x T ∧ b = kitB T "str"
def StepV (K : PySem.W.Frag) (H : Hp) (v : V) (x : List Str) : Prop := ∃ a, v = .ref a ∧ SqT K H a (x.map V.str) ∧ x ∈ menu12
/-- what is no step -/
def NoStepV (K : PySem.W.Frag) (H : Hp) (v : V) : Prop := (∃ T, Ty K H v T ∧ T ≠ "tuple") ∨
  ∃ a xs bs, v = .ref a ∧ SqT K H a xs ∧ xs.length ≤ 100 ∧ Paired (ItS K H) xs bs ∧ (bs.all id = true → ∃ w : List Str, xs = w.map V.str ∧ w ∉ menu12 ∧ SeqAt.shaped (stepD w) = true)
theorem NotInt.same {K : PySem.W.Frag} {H H' : Hp} {v : V} (s : Same H H') : NotInt K H v → NotInt K H' v := fun ⟨T, h, n⟩ => ⟨T, h.same s, n⟩
theorem StepV.same {K : PySem.W.Frag} {H H' : Hp} {v : V} {x : List Str} (s : Same H H') : StepV K H v x → StepV K H' v x := fun ⟨a, e, h, m⟩ => ⟨a, e, sqT_mono (SameT.of s) h, m⟩
theorem NoStepV.same {K : PySem.W.Frag} {H H' : Hp} {v : V} (s : Same H H') : NoStepV K H v → NoStepV K H' v
  | .inl ⟨T, h, n⟩ => .inl ⟨T, h.same s, n⟩
  | .inr ⟨a, xs, bs, e, h, l, p, k⟩ => .inr ⟨a, xs, bs, e, sqT_mono (SameT.of s) h, l, Paired.mapP p fun _ _ ⟨T, h, n⟩ => ⟨T, h.same s, n⟩, k⟩
/-- an item of a row: a step, or none -/
def ItemV (K : PySem.W.Frag) (H : Hp) (v : V) : Option (List Str) → Prop
  | some x => StepV K H v x
  | none => NoStepV K H v
theorem ItemV.same {K : PySem.W.Frag} {H H' : Hp} {v : V} {o : Option (List Str)} (s : Same H H') (h : ItemV K H v o) : ItemV K H' v o := by
  cases o with
  | none => exact NoStepV.same s h
  | some x => exact StepV.same s h
theorem Steps.items {K : PySem.W.Frag} {H : Hp} : ∀ {xs : List V} {ws : List (List Str)}, Steps K H xs ws → (∀ x ∈ ws, x ∈ menu12) → Paired (ItemV K H) xs (ws.map some)
  | _, _, .nil, _ => .nil
  | _, _, .cons ⟨a, e, h⟩ t, m => .cons ⟨a, e, h, m _ List.mem_cons_self⟩ (Steps.items t fun x hx => m x (List.mem_cons_of_mem _ hx))
/-- the first item that is no step or stands behind twelve others -/
def badAt (os : List (Option (List Str))) : Option Nat := (List.range os.length).find? fun i => decide (12 ≤ i) || (os.getD i none).isNone

theorem eqvAll_strs : ∀ w v : List Str, PyData.eqvAll (w.map PyData.str) (v.map PyData.str) = decide (w = v)
  | [], [] => rfl
  | [], _ :: _ => by simp [PyData.eqvAll]
  | _ :: _, [] => by simp [PyData.eqvAll]
  | x :: w, y :: v => by
    have h := eqvAll_strs w v
    simp only [List.map_cons, PyData.eqvAll, PyData.eqv, h, List.cons.injEq, Bool.decide_and]
    rfl
theorem eqv_step (w v : List Str) : PyData.eqv (stepD w) (stepD v) = decide (w = v) := by
  unfold stepD
  simp only [PyData.eqv]
  exact eqvAll_strs w v
theorem eqvAll_rows : ∀ ws us : List (List Str), PyData.eqvAll (ws.map stepD) (us.map stepD) = decide (ws = us)
  | [], [] => rfl
  | [], _ :: _ => by simp [PyData.eqvAll]
  | _ :: _, [] => by simp [PyData.eqvAll]
  | x :: w, y :: v => by
    have h := eqvAll_rows w v
    simp only [List.map_cons, PyData.eqvAll, h, eqv_step, List.cons.injEq, Bool.decide_and]

theorem steps12_menu2 : ∀ x ∈ steps12, x ∈ menu12 := by decide
theorem menu12_steps : ∀ x ∈ menu12, x ∈ steps12 := by decide
theorem paired_strs {K : PySem.W.Frag} {H : Hp} : ∀ x : List Str, Paired (ItS K H) (x.map V.str) (x.map fun _ => true)
  | [] => .nil
  | _ :: x => .cons ⟨"str", ty_str, rfl⟩ (paired_strs x)
theorem any_step (us : List (List Str)) (w : List Str) : ((us.map stepD).any fun z => PyData.eqv z (stepD w)) = decide (w ∈ us) := by
  rw [Bool.eq_iff_iff, List.any_eq_true, decide_eq_true_iff]
  constructor
  · rintro ⟨z, hz, e⟩
    obtain ⟨u, hu, rfl⟩ := List.mem_map.mp hz
    rw [eqv_step, decide_eq_true_iff] at e
    rw [← e]
    exact hu
  · intro h
    exact ⟨stepD w, List.mem_map.mpr ⟨w, h, rfl⟩, by rw [eqv_step]; exact decide_eq_true rfl⟩
theorem paired_at {α β : Type} {F : α → β → Prop} : ∀ {l₁ : List α} {l₂ : List β} {i : Nat} {x : α}, Paired F l₁ l₂ → l₁[i]? = some x → ∃ y, l₂[i]? = some y ∧ F x y
  | _, _, _, _, .nil, h => by simp at h
  | _, _, 0, _, .cons f _, h => by
    simp at h
    subst h
    exact ⟨_, rfl, f⟩
  | _, _, i + 1, _, .cons _ p, h => by
    simp at h
    obtain ⟨y, h1, h2⟩ := paired_at p h
    exact ⟨y, by simpa using h1, h2⟩
def sf (l : Addr) : List (Str × V) := [("_steps", .ref l)]
theorem sf_at (l : Addr) : (sf l).lookup ("_steps" : Str) = some (.ref l) := by
  unfold sf
  simp [List.lookup]
theorem sf_no (l : Addr) {m : Str} (h : ¬ m = "_steps") : (sf l).lookup m = none := by
  have q : (m == ("_steps" : Str)) = false := by simpa using h
  unfold sf
  simp [List.lookup, q]
local macro_rules | `(tactic| walk_at "lk") => `(tactic| first
  | exact sf_at _
  | exact sf_no _ (by decide +kernel))
/-- a Script of the steps ws stands at p -/
structure ScrAt (K : PySem.W.Frag) (C : Addr) (H : Hp) (p : Addr) (ws : List (List Str)) : Prop where
  ex : ∃ (dx l : Addr) (xs : List V), H p = some (.ins C dx (sf l)) ∧ H l = some (.lst xs) ∧ Steps K H xs ws
  len : ws.length ≤ 12
  menu : ∀ x ∈ ws, x ∈ menu12
theorem ScrAt.same {K : PySem.W.Frag} {C p : Addr} {H H' : Hp} {ws : List (List Str)} (h : ScrAt K C H p ws) (e : Same H H') : ScrAt K C H' p ws := by
  obtain ⟨⟨dx, l, xs, h1, h2, h3⟩, h4, h5⟩ := h
  exact ⟨⟨dx, l, xs, e _ _ h1, e _ _ h2, h3.mono (SameT.of e)⟩, h4, h5⟩
/-- the same, its list named -/
def ScrL (K : PySem.W.Frag) (C : Addr) (H : Hp) (p l : Addr) (ws : List (List Str)) : Prop := ∃ (dx : Addr) (xs : List V), H p = some (.ins C dx (sf l)) ∧ H l = some (.lst xs) ∧ Steps K H xs ws ∧ ws.length ≤ 12 ∧ ∀ x ∈ ws, x ∈ menu12
theorem ScrL.at_ {K : PySem.W.Frag} {C p l : Addr} {H : Hp} {ws : List (List Str)} : ScrL K C H p l ws → ScrAt K C H p ws := fun ⟨dx, xs, h1, h2, h3, h4, h5⟩ => ⟨⟨dx, l, xs, h1, h2, h3⟩, h4, h5⟩
theorem ScrL.same {K : PySem.W.Frag} {C p l : Addr} {H H' : Hp} {ws : List (List Str)} (e : Same H H') : ScrL K C H p l ws → ScrL K C H' p l ws := fun ⟨dx, xs, h1, h2, h3, h4, h5⟩ => ⟨dx, xs, e _ _ h1, e _ _ h2, h3.mono (SameT.of e), h4, h5⟩
def spIntG (K : PySem.W.Frag) : Sp := fun vs H Q _ => ∃ (v : V) (lo hi : Int), vs = [v, .int lo, .int hi] ∧ ((∃ i, v = .int i ∧ Q (.bl (decide (lo ≤ i) && decide (i ≤ hi))) H) ∨ (NotInt K H v ∧ Q (.bl false) H))
def spStepG (K : PySem.W.Frag) : Sp := fun vs H Q _ => ∃ (v : V) (o : Option (List Str)), vs = [v] ∧ ItemV K H v o ∧ ∀ H', Same H H' → Q (.bl o.isSome) H'
def spSLen (K : PySem.W.Frag) (C : Addr) : Sp := fun vs H Q _ => ∃ (p : Addr) (ws : List (List Str)), vs = [.ref p] ∧ ScrAt K C H p ws ∧ Q (.int (ws.length : Nat)) H
def spSteps (K : PySem.W.Frag) (C : Addr) : Sp := fun vs H Q _ => ∃ (p : Addr) (ws : List (List Str)), vs = [.ref p] ∧ ScrAt K C H p ws ∧ ∀ (r : Addr) (H' : Hp), H r = none → Same H H' → Row K H' r ws → Q (.ref r) H'
def spHasG (K : PySem.W.Frag) (C : Addr) : Sp := fun vs H Q _ => ∃ (p : Addr) (v : V) (ws : List (List Str)), vs = [.ref p, v] ∧ ScrAt K C H p ws ∧ ((∃ i, v = .int i ∧ Q (.bl (decide (0 ≤ i) && decide (i ≤ (ws.length : Int) - 1))) H) ∨ (NotInt K H v ∧ Q (.bl false) H))
/-- Script(v): v a tuple of any values, or none -/
def spInitG (K : PySem.W.Frag) (C CE : Addr) : Sp := fun vs H Q E => ∃ (p dx : Addr) (v : V), vs = [.ref p, v] ∧ H p = some (.ins C dx []) ∧
  (((∃ T, Ty K H v T ∧ T ≠ "tuple") ∧ ∀ (H' : Hp) (d : Addr), Same H H' → H' d = none → E (.ref CE) (some d) (upd H' d (.xd [("index", .int 0)]))) ∨
   ∃ (r : Addr) (xs : List V) (os : List (Option (List Str))), v = .ref r ∧ SqT K H r xs ∧ xs.length ≤ 1000 ∧ Paired (ItemV K H) xs os ∧
     (∀ i, badAt os = some i → ∀ (H' : Hp) (d : Addr), Same H H' → H' d = none → E (.ref CE) (some d) (upd H' d (.xd [("index", .int (i : Nat))]))) ∧
     (badAt os = none → ∀ (ws : List (List Str)) (H' : Hp) (l : Addr), os = ws.map some → H l = none → ScrL K C H' p l ws → (∀ b o, H b = some o → b ≠ p → H' b = some o) → Q .non H'))
theorem bad_none {os : List (Option (List Str))} (h : badAt os = none) : os.length ≤ 12 ∧ ∃ ws : List (List Str), os = ws.map some := by
  unfold badAt at h
  rw [List.find?_eq_none] at h
  have h1 : ∀ i, i < os.length → i < 12 ∧ (os.getD i none).isSome = true := fun i hi => by
    have := h i (List.mem_range.mpr hi)
    simp only [Bool.or_eq_true, decide_eq_true_eq, not_or, Bool.not_eq_true, Nat.not_le] at this
    refine ⟨this.1, ?_⟩
    cases q : os.getD i none with
    | none =>
      rw [q] at this
      exact absurd this.2 (by simp)
    | some x => rfl
  refine ⟨Nat.le_of_not_lt fun hl => absurd (h1 12 hl).1 (by omega), ?_⟩
  have h2 : ∀ x ∈ os, x.isSome = true := fun x hx => by
    obtain ⟨i, hi⟩ := List.mem_iff_getElem?.mp hx
    have := (h1 i (List.getElem?_eq_some_iff.mp hi).1).2
    rw [List.getD_eq_getElem?_getD, hi] at this
    exact this
  clear h h1
  induction os with
  | nil => exact ⟨[], rfl⟩
  | cons x os ih =>
    obtain ⟨ws, e⟩ := ih fun y hy => h2 y (List.mem_cons_of_mem _ hy)
    have hx := h2 x List.mem_cons_self
    cases x with
    | none => cases hx
    | some w => exact ⟨w :: ws, by rw [e]; rfl⟩
theorem bad_of {os : List (Option (List Str))} {i : Nat} (hi : i < os.length) (hb : 12 ≤ i ∨ os.getD i none = none) (hn : ∀ j, j < i → j < 12 ∧ (os.getD j none).isSome = true) : badAt os = some i := by
  unfold badAt
  rw [List.find?_range_eq_some]
  refine ⟨?_, List.mem_range.mpr hi, fun j hj => ?_⟩
  · rcases hb with h | h
    · simp [h]
    · rw [h]
      simp
  · obtain ⟨h1, h2⟩ := hn j hj
    cases q : os.getD j none with
    | none =>
      rw [q] at h2
      cases h2
    | some x =>
      simp
      omega
theorem Paired.steps {K : PySem.W.Frag} {H : Hp} : ∀ {xs : List V} {ws : List (List Str)}, Paired (ItemV K H) xs (ws.map some) → Steps K H xs ws ∧ ∀ x ∈ ws, x ∈ menu12
  | _, [], .nil => ⟨.nil, fun _ h => absurd h List.not_mem_nil⟩
  | _, _ :: _, .cons ⟨a, e, h, m⟩ t => by
    obtain ⟨h1, h2⟩ := Paired.steps t
    exact ⟨.cons ⟨a, e, h⟩ h1, fun x hx => (List.mem_cons.mp hx).elim (fun e => by rw [e]; exact m) (h2 x)⟩
set_option maxHeartbeats 4000000
section
variable {P : Program} {w : World} {K : PySem.W.Frag} {mg : Str → Option Value} {base : Heap}
theorem ok_is_integer (T : Txt P K mg) : FnOk P w K mg base CX0 1 T.f_is_integer T.d_is_integer ["value", "low", "high"] (spIntG K) := by
  refine T.F_is_integer.ok sc_is_integer (fun vs H Q E h => ?_) (fun cdv A outer s H vs Q E hr h => ?_)
  · obtain ⟨i, lo, hi, rfl, _⟩ := h
    rfl
  · obtain ⟨v, lo, hi, rfl, h⟩ := h
    refine ⟨_, (pss_one (ps_ret (pe_and (pe_callB (call_isiUk K) (by rfl) T.m_isinstance b_isinstance (pa_cons (pv 0) (pa_cons (pe_bty (by rfl) T.m_int b_int) pa_nil))) (pe_and (pe_not (pe_callB (call_isiUk K) (by rfl) T.m_isinstance b_isinstance (pa_cons (pv 0) (pa_cons (pe_bty (by rfl) T.m_bool b_bool) pa_nil)))) (pe_one (pe_chain op_le op_le (pv 1) (pv 0) (pv 2))))))), ?_⟩
    rcases h with ⟨i, rfl, k⟩ | ⟨⟨T0, ht, hn⟩, k⟩
    · walk_at "rd"
      refine ite2 (fun h => ?_) (fun h => ?_)
      · rw [decide_eq_true h, Bool.true_and] at k
        exact k
      · rw [decide_eq_false h, Bool.false_and] at k
        exact k
    · walk_at "rd"
      refine k_isT ht (by decide) ?_
      walk_at "rd"
      cases hi' : kitB T0 "int" with
      | false =>
        walk_at "rd"
        exact k
      | true =>
        have hb : T0 = "bool" := by
          have := ht.1
          simp only [types7, List.mem_cons, List.not_mem_nil, or_false] at this
          rcases this with rfl | rfl | rfl | rfl | rfl | rfl | rfl <;> first
            | rfl
            | exact absurd rfl hn
            | exact absurd hi' (by decide)
        walk_at "rd"
        refine k_isT ht (by decide) ?_
        rw [hb]
        walk_at "rd"
        have e : kitB "bool" "bool" = true := by decide
        rw [e]
        walk_at "rd"
        exact k
theorem ok_is_step (T : Txt P K mg) : FnOk P w K mg base CX0 1 T.f_is_step T.d_is_step ["value"] (spStepG K) := by
  refine T.F_is_step.ok sc_is_step (fun vs H Q E h => ?_) (fun cdv A outer s H vs Q E hr h => ?_)
  · obtain ⟨a, x, rfl, _⟩ := h
    rfl
  · obtain ⟨v, o, rfl, hv, k⟩ := h
    refine ⟨_, (pss_one (ps_ret (pe_and (pe_callB (call_isiUk K) (by rfl) T.m_isinstance b_isinstance (pa_cons (pv 0) (pa_cons (pe_bty (by rfl) T.m_tuple b_tuple) pa_nil))) (pe_and (pe_callB (cr_allk K rfl) (by rfl) T.m_all b_all (pa_cons (pe_lc (own := [("word", 1)]) (g := (gName 1)) (tt := tYes) rfl sc_is_step.nd (pi_seqk K (pv 0)) (blkOk_by (own := [("word", 1)]) (N := N_is_step) (sc := defScope s_is_step) (by decide +kernel)) (fun _ _ _ _ _ => (pg_name (i := 1) sc_is_step.nd rfl (Or.inl rfl))) (fun _ _ _ _ _ => pts_nil) (fun _ _ _ _ _ => (pe_callB (call_isiUk K) (by rfl) T.m_isinstance b_isinstance (pa_cons (pv 1) (pa_cons (pe_bty (by rfl) T.m_str b_str) pa_nil))))) pa_nil)) (pe_one (pe_cmpR (op_inUk K (hu65 hr)) (pv 0) (pe_glob (by rfl) T.m_STEPS (show RelV (.ref _) (.ref _) from rfl)) (by rfl))))))), ?_⟩
    have notT : ∀ T0, Ty K H v T0 → T0 ≠ "tuple" → kitB T0 "tuple" = false := fun T0 ht hn => by
      have := ht.1
      simp only [types7, List.mem_cons, List.not_mem_nil, or_false] at this
      rcases this with rfl | rfl | rfl | rfl | rfl | rfl | rfl <;> first
        | rfl
        | decide
        | exact absurd rfl hn
    -- a tuple, its words told one by one
    have tup : ∀ (a : Addr) (xs : List V) (bs : List Bool), v = .ref a → SqT K H a xs → xs.length ≤ 100 → Paired (ItS K H) xs bs → (bs.all id = true → ∃ x : List Str, xs = x.map V.str ∧ SeqAt.shaped (stepD x) = true ∧ o.isSome = decide (x ∈ steps12)) → (bs.all id = false → o.isSome = false) →
        ∃ a xs bs, v = .ref a ∧ SqT K H a xs ∧ xs.length ≤ 100 ∧ Paired (ItS K H) xs bs ∧ (bs.all id = true → ∃ x : List Str, xs = x.map V.str ∧ SeqAt.shaped (stepD x) = true ∧ o.isSome = decide (x ∈ steps12)) ∧ (bs.all id = false → o.isSome = false) :=
      fun a xs bs e h l p q r => ⟨a, xs, bs, e, h, l, p, q, r⟩
    have key : (∃ T0, Ty K H v T0 ∧ T0 ≠ "tuple" ∧ o.isSome = false) ∨ ∃ a xs bs, v = .ref a ∧ SqT K H a xs ∧ xs.length ≤ 100 ∧ Paired (ItS K H) xs bs ∧ (bs.all id = true → ∃ x : List Str, xs = x.map V.str ∧ SeqAt.shaped (stepD x) = true ∧ o.isSome = decide (x ∈ steps12)) ∧ (bs.all id = false → o.isSome = false) := by
      cases o with
      | none =>
        rcases hv with ⟨T0, ht, hn⟩ | ⟨a, xs, bs, e, h, l, p, q⟩
        · exact .inl ⟨T0, ht, hn, rfl⟩
        · refine .inr (tup a xs bs e h l p (fun h => ?_) fun _ => rfl)
          obtain ⟨x, e1, e2, e3⟩ := q h
          exact ⟨x, e1, e3, (decide_eq_false fun h => e2 (steps12_menu2 x h)).symm⟩
      | some x =>
        obtain ⟨a, e, h, m⟩ := hv
        have hl := menu_len x m
        refine .inr (tup a (x.map V.str) (x.map fun _ => true) e h (by rw [List.length_map]; omega) (paired_strs x) (fun _ => ⟨x, rfl, (step_shaped x m).1, (decide_eq_true (menu12_steps x m)).symm⟩) fun h => ?_)
        simp at h
    rcases key with ⟨T0, ht, hn, ho⟩ | ⟨a, xs, bs, rfl, ha, hl, hp, hq, hr'⟩
    · rw [ho] at k
      walk_at "rd"
      refine k_isT (C := "tuple") ht (by decide) ?_
      rw [notT T0 ht hn]
      walk_at "rd"
      exact k H (Same.refl H)
    · have eb : xs.length = bs.length := hp.length
      walk_at "rd"
      refine k_lc walk_tup fun l nl => ⟨fun i H' => Same H H' ∧ H' l = some (.lst ((bs.take i).map V.bl)), ⟨Same.new nl, upd_same⟩, fun i H' _ h => sqT_mono (SameT.of h.1) ha, ?_, ?_⟩
      · rintro i y H1 H2 hi ⟨s1, h1⟩ ⟨rfl, hy⟩
        obtain ⟨b, hb, T0, ht, eb'⟩ := paired_at hp hy
        walk_at "rs"
        refine ⟨trivial, ?_⟩
        walk_at "rd"
        refine k_isT (C := "str") (ht.same s1) (by decide) ?_
        refine k_acc h1 (by rw [List.length_map, List.length_take]; omega) ⟨Same.upd_new s1 nl, ?_⟩
        rw [upd_same, List.take_add_one, hb, ← eb']
        simp
      · rintro H1 ⟨s1, h1⟩
        rw [eb, List.take_length] at h1
        walk_at "rd"
        refine k_all (SqL.of h1) ?_
        cases hall : bs.all id with
        | false =>
          rw [hr' hall] at k
          walk_at "rd"
          exact k H1 s1
        | true =>
          obtain ⟨x, rfl, hs, ho⟩ := hq hall
          rw [ho] at k
          walk_at "rd"
          refine k_inT (dp_step (sqT_mono (SameT.of s1) ha)) (show Dp K H1 (.ref T.a_STEPS) (.tuple (steps12.map stepD)) from T.dp_STEPS H1) hs steps12_shaped ?_
          rw [any_step]
          exact k H1 s1
theorem menu_lay : ∀ x ∈ menu12, (stepD x).canLay0 = true ∧ (stepD x).depth ≤ 2 := by decide +kernel
theorem lay_all : ∀ {ws : List (List Str)}, (∀ x ∈ ws, x ∈ menu12) → PyData.canLayAll0 (ws.map stepD) = true ∧ PyData.depthAll (ws.map stepD) ≤ 2
  | [], _ => ⟨by simp [PyData.canLayAll0], by simp [PyData.depthAll]⟩
  | x :: ws, h => by
    obtain ⟨h1, h2⟩ := lay_all (ws := ws) fun y hy => h y (List.mem_cons_of_mem _ hy)
    obtain ⟨h3, h4⟩ := menu_lay x (h x List.mem_cons_self)
    refine ⟨by simp [PyData.canLayAll0, h1, h3], ?_⟩
    simp only [List.map_cons, PyData.depthAll]
    omega
theorem steps_shaped {ws : List (List Str)} (h : ∀ x ∈ ws, x ∈ menu12) : SeqAt.shaped (.list (ws.map stepD)) = true ∧ SeqAt.shaped (.tuple (ws.map stepD)) = true := by
  obtain ⟨h1, h2⟩ := lay_all h
  have d1 : PyData.depth (.list (ws.map stepD)) ≤ 64 := by
    simp only [PyData.depth]
    omega
  have d2 : PyData.depth (.tuple (ws.map stepD)) ≤ 64 := by
    simp only [PyData.depth]
    omega
  exact ⟨by unfold SeqAt.shaped; rw [Bool.and_eq_true]; exact ⟨by simp only [PyData.canLay0]; exact h1, decide_eq_true d1⟩, by unfold SeqAt.shaped; rw [Bool.and_eq_true]; exact ⟨by simp only [PyData.canLay0]; exact h1, decide_eq_true d2⟩⟩
theorem ok_Script___len__ (T : Txt P K mg) : FnOk P w K mg base CX0 1 T.f_Script___len__ T.d_Script___len__ ["self"] (spSLen K T.a_Script) := by
  refine T.F_Script___len__.ok sc_Script___len__ (fun vs H Q E h => ?_) (fun cdv A outer s H vs Q E hr h => ?_)
  · obtain ⟨p, ws, rfl, _⟩ := h
    rfl
  · obtain ⟨p, ws, rfl, ⟨⟨dx, l, xs, h1, h2, h3⟩, h4, h5⟩, k⟩ := h
    refine ⟨_, (pss_one (ps_ret (pe_callB (call_lenUk K) (by rfl) T.m_len b_len (pa_cons (pe_fldk K (pv 0) rfl) pa_nil)))), ?_⟩
    have c1 := T.cl_Script
    have c2 := T.na_Script__steps
    walk_at "rd"
    rw [← Paired.length h3] at k
    exact k
theorem ok_Script_steps (T : Txt P K mg) : FnOk P w K mg base CX0 1 T.f_Script_steps T.d_Script_steps ["self"] (spSteps K T.a_Script) := by
  refine T.F_Script_steps.ok sc_Script_steps (fun vs H Q E h => ?_) (fun cdv A outer s H vs Q E hr h => ?_)
  · obtain ⟨p, ws, rfl, _⟩ := h
    rfl
  · obtain ⟨p, ws, rfl, ⟨⟨dx, l, xs, h1, h2, h3⟩, h4, h5⟩, k⟩ := h
    refine ⟨_, (pss_one (ps_ret (pe_callTy (call_tuple_ofk K) (by rfl) T.m_tuple b_tuple (pa_cons (pe_fldk K (pv 0) rfl) pa_nil)))), ?_⟩
    have c1 := T.cl_Script
    have c2 := T.na_Script__steps
    walk_at "rd"
    rename_i r nr
    exact k r _ nr (fun b o e => lk_new e nr) ⟨xs, SqT.of upd_same, h3.mono (SameT.new nr)⟩
theorem ok_Script__has (T : Txt P K mg) : FnOk P w K mg base CX0 2 T.f_Script__has T.d_Script__has ["self", "index"] (spHasG K T.a_Script) := by
  refine T.F_Script__has.ok sc_Script__has (fun vs H Q E h => ?_) (fun cdv A outer s H vs Q E hr h => ?_)
  · obtain ⟨p, i, ws, rfl, _⟩ := h
    rfl
  · obtain ⟨p, v, ws, rfl, ⟨⟨dx, l, xs, h1, h2, h3⟩, h4, h5⟩, k⟩ := h
    refine ⟨_, (pss_one (ps_ret (pe_call (ok_is_integer T) (hr.mono (by decide)) (by rfl) T.m_is_integer T.F_is_integer.kp T.b_is_integer .nil pass0 (pa_cons (pv 1) (pa_cons pe_int (pa_cons (pe_op op_sub (pe_callB (call_lenUk K) (by rfl) T.m_len b_len (pa_cons (pe_fldk K (pv 0) rfl) pa_nil)) pe_int) pa_nil)))))), ?_⟩
    have c1 := T.cl_Script
    have c2 := T.na_Script__steps
    walk_at "rd"
    rw [← Paired.length h3] at k
    exact ⟨v, 0, _, rfl, k⟩
theorem ok_Script___init__ (T : Txt P K mg) : FnOk P w K mg base (L2.CX P w) 2 T.f_Script___init__ T.d_Script___init__ ["self", "steps"] (spInitG K T.a_Script T.a_NoStep) := by
  refine T.F_Script___init__.okX sc_Script___init__ (fun vs H Q E h => ?_) (fun cdv A outer s H vs Q E hr h => ?_)
  · obtain ⟨p, r, v, rfl, _⟩ := h
    rfl
  · obtain ⟨p, dx, v, rfl, hp, h⟩ := h
    refine ⟨_, (pss_cons (ps_if (pt_not (pt_val (pe_callB (call_isiUk K) (by rfl) T.m_isinstance b_isinstance (pa_cons (pv 1) (pa_cons (pe_bty (by rfl) T.m_tuple b_tuple) pa_nil))))) (pss_one (ps_raiseErr rfl T.er_NoStep (by simp) hr (takes_of rfl rfl rfl rfl) (pa_cons pe_int pa_nil) (by rfl) (by decide))) pss_nil)
  (pss_cons (ps_for (passes_of rfl) rfl (pi_enumT (by rfl) T.m_enumerate (pa_cons (pv 1) pa_nil)) (pg_tup (n := 2) rfl (pgs_cons (pg_name (i := 2) sc_Script___init__.nd rfl (Or.inl rfl)) (pgs_cons (pg_name (i := 3) sc_Script___init__.nd rfl (Or.inl rfl)) pgs_nil)))
  (pss_one (ps_if (PW.pt (pw_or (pt_cmpR op_ge (pv 2) (pe_gint (by rfl) T.m_MOST_STEPS) (nomark _)) (pw_or1 (pt_not (pt_val (pe_call (ok_is_step T) (hr.mono (by decide)) (by rfl) T.m_is_step T.F_is_step.kp T.b_is_step .nil pass0 (pa_cons (pv 3) pa_nil))))))) (pss_one (ps_raiseErr rfl T.er_NoStep (by simp) hr (takes_of rfl rfl rfl rfl) (pa_cons (pv 2) pa_nil) (by rfl) (by decide))) pss_nil)))
  (pss_one (ps_fld (pv 0) (pe_callTy (call_list_ofk K) (by rfl) T.m_list b_list (pa_cons (pv 1) pa_nil)) rfl)))), ?_⟩
    have c1 := T.cl_Script
    have c2 := T.na_Script__steps
    rcases h with ⟨⟨T0, ht, hn⟩, kE⟩ | ⟨r, xs, os, rfl, hr1, hl, ho, kE, k⟩
    · walk_at "rd"
      refine k_isT (C := "tuple") ht (by decide) ?_
      have e : kitB T0 "tuple" = false := by
        have := ht.1
        simp only [types7, List.mem_cons, List.not_mem_nil, or_false] at this
        rcases this with rfl | rfl | rfl | rfl | rfl | rfl | rfl <;> first
          | rfl
          | decide
          | exact absurd rfl hn
      rw [e]
      walk_at "rd"
      exact fun d hd => kE H d (Same.refl H) hd
    · walk_at "rd"
      have hlen : xs.length = os.length := Paired.length ho
      refine k_for walk_enumT (fun i σ H' => (∀ j, j < i → j < 12 ∧ (os.getD j none).isSome = true) ∧ ∃ v1 v2 : Option V, σ = [some (.ref p), some (.ref r), v1, v2] ∧ Same H H') ⟨fun j hj => absurd hj (by omega), none, none, rfl, Same.refl H⟩ (fun i σ H' _ ⟨_, _, _, _, e⟩ => sqT_mono (SameT.of e) hr1) ?_ ?_
      · rintro i x σ H1 H2 hi ⟨hgood, v1, v2, rfl, s1⟩ ⟨q, x0, x1, rfl, nq, rfl, e0, e1⟩
        cases e0
        obtain ⟨o, ho1, ho2⟩ := paired_at ho e1
        refine k_pair upd_same ?_
        have s2 : Same H (upd H1 q (.tup [.int (i : Nat), x1])) := fun c o e => lk_new (s1 c o e) nq
        have eo : os.getD i none = o := by rw [List.getD_eq_getElem?_getD, ho1]; rfl
        by_cases h13 : 12 ≤ i
        · have h13' : (12 : Int) ≤ (i : Int) := by omega
          walk_at "rd"
          simp only [if_pos h13']
          walk_at "rd"
          exact fun d hd => kE i (bad_of (by omega) (.inl h13) hgood) _ d s2 hd
        · have hi12 : ¬ (12 : Int) ≤ (i : Int) := by omega
          walk_at "rd"
          simp only [if_neg hi12]
          walk_at "rd"
          refine ⟨x1, o, rfl, ho2.same s2, fun H3 s3 => ?_⟩
          cases o with
          | none =>
            walk_at "rd"
            exact fun d hd => kE i (bad_of (by omega) (.inr eo) hgood) _ d (s2.trans s3) hd
          | some y =>
            walk_at "rd"
            refine ⟨fun j hj => ?_, _, _, rfl, s2.trans s3⟩
            by_cases h : j < i
            · exact hgood j h
            · obtain rfl : j = i := by omega
              exact ⟨by omega, by rw [eo]; rfl⟩
      · rintro σ H1 ⟨hgood, v1, v2, rfl, s1⟩
        have hr3 := sqT_mono (SameT.of s1) hr1
        have hp1 := s1 _ _ hp
        walk_at "rd"
        rename_i l nl
        have npl : p ≠ l := ne_of_none hp1 nl
        have hbn : badAt os = none := by
          unfold badAt
          rw [List.find?_eq_none]
          intro j hj
          obtain ⟨h1, h2⟩ := hgood j (by rw [hlen]; exact List.mem_range.mp hj)
          cases q : os.getD j none with
          | none =>
            rw [q] at h2
            cases h2
          | some x =>
            simp
            omega
        obtain ⟨hl12, ws, rfl⟩ := bad_none hbn
        obtain ⟨hS, hm⟩ := Paired.steps ho
        refine k hbn ws _ l rfl (Same.none_of s1 nl) ⟨dx, xs, upd_same, lk_ne upd_same npl.symm, ?_, by rw [List.length_map] at hl12; exact hl12, hm⟩ fun b o e hb => lk_ne (lk_new (s1 b o e) nl) hb
        exact ((hS.mono (SameT.of s1)).mono (SameT.new nl)).mono (SameT.ins (lk_new hp1 nl))
end

set_option Elab.async false
set_option linter.all false
set_option maxRecDepth 100000


local macro_rules | `(tactic| walk_at "lk") => `(tactic| first
  | exact sf_at _
  | exact sf_no _ (by decide +kernel))
/-- the same data twice: ints, texts, tuples of such, at most n deep -/
inductive TDat (K : PySem.W.Frag) (H : Hp) : Nat → V → V → Prop where
  | int (n : Nat) (i : Int) : TDat K H n (.int i) (.int i)
  | str (n : Nat) (i : Str) : TDat K H n (.str i) (.str i)
  | tup {n : Nat} {a b : Addr} {xs ys : List V} (h1 : SqT K H a xs) (h2 : SqT K H b ys) (hl : xs.length = ys.length) (hz : ys.length ≤ 1000) (h : ∀ (i : Nat) x y, xs[i]? = some x → ys[i]? = some y → TDat K H n x y) : TDat K H (n + 1) (.ref a) (.ref b)
theorem TDat.mono {K : PySem.W.Frag} {H H' : Hp} (e : SameT H H') : ∀ {n : Nat} {x y : V}, TDat K H n x y → TDat K H' n x y
  | _, _, _, .int n i => .int n i
  | _, _, _, .str n i => .str n i
  | _, _, _, .tup h1 h2 hl hz h => .tup (sqT_mono e h1) (sqT_mono e h2) hl hz fun i x y hx hy => TDat.mono e (h i x y hx hy)
theorem tdat_step {n : Nat} {K : PySem.W.Frag} {H : Hp} {a b : Addr} {w : List Str} (h1 : SqT K H a (w.map V.str)) (h2 : SqT K H b (w.map V.str)) (hl : w.length ≤ 1000) : TDat K H (n + 1) (.ref a) (.ref b) :=
  .tup h1 h2 rfl (by rw [List.length_map]; exact hl) fun i x y hx hy => by
    rw [hx] at hy
    cases hy
    rw [List.getElem?_map] at hx
    cases e : w[i]? with
    | none =>
      rw [e] at hx
      cases hx
    | some z =>
      rw [e] at hx
      cases hx
      exact .str _ _
theorem tdat_row {K : PySem.W.Frag} {H : Hp} {a b : Addr} {ws : List (List Str)} (h1 : Row K H a ws) (h2 : Row K H b ws) (hl : ws.length ≤ 1000) (hm : ∀ x ∈ ws, x ∈ menu12) : TDat K H 2 (.ref a) (.ref b) := by
  obtain ⟨xs, a1, a2⟩ := h1
  obtain ⟨ys, b1, b2⟩ := h2
  have e1 : xs.length = ws.length := Paired.length a2
  have e2 : ys.length = ws.length := Paired.length b2
  refine .tup a1 b1 (by omega) (by omega) fun i x y hx hy => ?_
  have hi : i < ws.length := by
    have := (List.getElem?_eq_some_iff.mp hx).1
    omega
  obtain ⟨c, w, c1, c2, c3⟩ := Steps.at_ (j := i) a2 hi
  obtain ⟨d, w', d1, d2, d3⟩ := Steps.at_ (j := i) b2 hi
  rw [c2] at d2
  cases d2
  rw [c1] at hx
  rw [d1] at hy
  cases hx
  cases hy
  exact tdat_step c3 d3 (Nat.le_trans (menu_len w (hm w (List.mem_of_getElem? c2))) (by decide))
theorem menu_eqv : ∀ x ∈ menu12, PyData.eqv (stepD x) (stepD x) = true := by decide +kernel
theorem any_self {x : List Str} {ws : List (List Str)} (hm : x ∈ menu12) (h : x ∈ ws) : ((ws.map stepD).any fun z => PyData.eqv z (stepD x)) = true :=
  List.any_eq_true.mpr ⟨stepD x, List.mem_map.mpr ⟨x, h, rfl⟩, menu_eqv x hm⟩
def spSame (K : PySem.W.Frag) (n : Nat) : Sp := fun vs H Q _ => ∃ x y, vs = [x, y] ∧ TDat K H n x y ∧ ∀ H', Same H H' → Q (.bl true) H'
def spGetG (K : PySem.W.Frag) (C CE : Addr) : Sp := fun vs H Q E => ∃ (p : Addr) (v : V) (ws : List (List Str)), vs = [.ref p, v] ∧ ScrAt K C H p ws ∧
  ((∃ i : Nat, v = .int i ∧ i < ws.length ∧ ∀ a x, ws[i]? = some x → SqT K H a (x.map V.str) → Q (.ref a) H) ∨
   ((NotInt K H v ∨ ∃ i : Int, v = .int i ∧ ¬ (0 ≤ i ∧ i < ws.length)) ∧ ∀ (H' : Hp) (d : Addr), Same H H' → H' d = none → E (.ref CE) (some d) (upd H' d (.xd [("index", v)]))))
def spIn (K : PySem.W.Frag) (C : Addr) : Sp := fun vs H Q _ => ∃ (p a : Addr) (x : List Str) (ws : List (List Str)), vs = [.ref p, .ref a] ∧ ScrAt K C H p ws ∧ SqT K H a (x.map V.str) ∧ x ∈ menu12 ∧
  ∀ H', Same H H' → Q (.bl ((ws.map stepD).any fun z => PyData.eqv z (stepD x))) H'
def spTold (K : PySem.W.Frag) (C : Addr) : Sp := fun vs H Q _ => ∃ (p r : Addr) (ws : List (List Str)), vs = [.ref p, .ref r] ∧ ScrAt K C H p ws ∧ Row K H r ws ∧ ∀ H', Same H H' → Q (.bl true) H'
set_option maxHeartbeats 4000000
section
variable {P : Program} {w : World} {K : PySem.W.Frag} {mg : Str → Option Value} {base : Heap}
theorem same_step (T : Txt P K mg) {n : Nat} {sp' : Sp} (G : FnOk P w K mg base CX0 n T.f__law_same T.d__law_same ["actual", "expected"] sp')
    (hG : ∀ (m : Nat) (H : Hp) (x y : V) (Q : VK) (E : XK), n = m + 1 → TDat K H m x y → (∀ H', Same H H' → Q (.bl true) H') → sp' [x, y] H Q E) :
    FnOk P w K mg base CX0 (n + 1) T.f__law_same T.d__law_same ["actual", "expected"] (spSame K n) := by
  refine T.F__law_same.ok sc__law_same (fun vs H Q E h => ?_) (fun cdv A outer s H vs Q E hr h => ?_)
  · obtain ⟨x, y, rfl, _⟩ := h
    rfl
  · obtain ⟨x, y, rfl, h, k⟩ := h
    refine ⟨_, (pss_cons (ps_if (pt_val (pe_callB (call_isiUk K) (by rfl) T.m_isinstance b_isinstance (pa_cons (pv 1) (pa_cons (pe_tup (pa_cons (pe_bty (by rfl) T.m_list b_list) (pa_cons (pe_bty (by rfl) T.m_tuple b_tuple) pa_nil))) pa_nil)))) (pss_cons (ps_if (pt_cmpR (op_neUk K (hu65 hr)) (pe_callB (call_isiUk K) (by rfl) T.m_isinstance b_isinstance (pa_cons (pv 0) (pa_cons (pe_bty (by rfl) T.m_list b_list) pa_nil))) (pe_callB (call_isiUk K) (by rfl) T.m_isinstance b_isinstance (pa_cons (pv 1) (pa_cons (pe_bty (by rfl) T.m_list b_list) pa_nil))) (nomark _)) (pss_one (ps_ret pe_bl)) pss_nil)
  (pss_cons (ps_if (PW.pt (pw_or (pt_cmpR (op_neUk K (hu65 hr)) (pe_callB (call_isiUk K) (by rfl) T.m_isinstance b_isinstance (pa_cons (pv 0) (pa_cons (pe_bty (by rfl) T.m_tuple b_tuple) pa_nil))) (pe_callB (call_isiUk K) (by rfl) T.m_isinstance b_isinstance (pa_cons (pv 1) (pa_cons (pe_bty (by rfl) T.m_tuple b_tuple) pa_nil))) (nomark _)) (pw_or1 (pt_cmpR (op_neUk K (hu65 hr)) (pe_callB (call_lenUk K) (by rfl) T.m_len b_len (pa_cons (pv 0) pa_nil)) (pe_callB (call_lenUk K) (by rfl) T.m_len b_len (pa_cons (pv 1) pa_nil)) (nomark _))))) (pss_one (ps_ret pe_bl)) pss_nil)
  (pss_cons (ps_for PassesOwn.never rfl (pi_range1 (by rfl) T.m_range (pa_cons (pe_callB (call_lenUk K) (by rfl) T.m_len b_len (pa_cons (pv 1) pa_nil)) pa_nil)) (pg_name (i := 2) sc__law_same.nd rfl (Or.inl rfl))
  (pss_one (ps_if (pt_not (pt_val (pe_call G hr (by rfl) T.m__law_same T.F__law_same.kp T.b__law_same .nil pass0 (pa_cons (pe_ix (ix_seqk K) (pv 0) (pv 2) (fun _ _ => rfl)) (pa_cons (pe_ix (ix_seqk K) (pv 1) (pv 2) (fun _ _ => rfl)) pa_nil))))) (pss_one (ps_ret pe_bl)) pss_nil)))
  (pss_one (ps_ret pe_bl))))) pss_nil)
  (pss_cons (ps_if (pt_val (pe_callB (call_isiUk K) (by rfl) T.m_isinstance b_isinstance (pa_cons (pv 1) (pa_cons (pe_bty (by rfl) T.m_str b_str) pa_nil)))) (pss_one (ps_ret (pe_and (pe_callB (call_isiUk K) (by rfl) T.m_isinstance b_isinstance (pa_cons (pv 0) (pa_cons (pe_bty (by rfl) T.m_str b_str) pa_nil))) (pe_one (pe_cmpR (op_eqUk K (hu65 hr)) (pv 0) (pv 1) (nomark _)))))) pss_nil)
  (pss_cons (ps_if (pt_val (pe_callB (call_isiUk K) (by rfl) T.m_isinstance b_isinstance (pa_cons (pv 1) (pa_cons (pe_bty (by rfl) T.m_bool b_bool) pa_nil)))) (pss_one (ps_ret (pe_and (pe_callB (call_isiUk K) (by rfl) T.m_isinstance b_isinstance (pa_cons (pv 0) (pa_cons (pe_bty (by rfl) T.m_bool b_bool) pa_nil))) (pe_one (pe_cmpR (op_eqUk K (hu65 hr)) (pv 0) (pv 1) (nomark _)))))) pss_nil)
  (pss_one (ps_ret (pe_and (pe_callB (call_isiUk K) (by rfl) T.m_isinstance b_isinstance (pa_cons (pv 0) (pa_cons (pe_bty (by rfl) T.m_int b_int) pa_nil))) (pe_and (pe_not (pe_callB (call_isiUk K) (by rfl) T.m_isinstance b_isinstance (pa_cons (pv 0) (pa_cons (pe_bty (by rfl) T.m_bool b_bool) pa_nil)))) (pe_one (pe_cmpR (op_eqUk K (hu65 hr)) (pv 0) (pv 1) (nomark _)))))))))), ?_⟩
    cases h with
    | int n i =>
      walk_at "rd"
      rename_i p np
      exact k _ (fun b o e => lk_new e np)
    | str n i =>
      walk_at "rd"
      rename_i p np
      exact k _ (fun b o e => lk_new e np)
    | @tup m a b xs ys h1 h2 hl hz hd =>
      walk_at "rd"
      have e1 : (!decide ((xs.length : Int) = (ys.length : Int))) = false := by
        rw [hl]
        simp
      rw [e1]
      simp only [Bool.false_eq_true, if_false]
      walk_at "rd"
      refine k_rng1 (by omega) (by omega) ?_
      refine k_for walk_range (fun i σ H' => ∃ v : Option V, σ = [some (.ref a), some (.ref b), v] ∧ Same H H') ⟨none, rfl, fun c o e => lk_new e (by assumption)⟩ (fun _ _ _ _ _ => True.intro) ?_ ?_
      · rintro i x σ H1 H2 hi ⟨v, rfl, s1⟩ ⟨rfl, rfl⟩
        have hi' : i < ys.length := by omega
        have g1 := sqT_mono (SameT.of s1) h1
        have g2 := sqT_mono (SameT.of s1) h2
        have x1 := List.getElem?_eq_getElem (l := xs) (i := i) (by omega)
        have x2 := List.getElem?_eq_getElem hi'
        walk_at "rd"
        refine k_ixT g1 (at_of (j := i) (by omega) x1) ?_
        walk_at "rd"
        refine k_ixT g2 (at_of (j := i) (by omega) x2) ?_
        walk_at "rd"
        refine hG m _ _ _ _ _ rfl ((hd i _ _ x1 x2).mono (SameT.of s1)) fun H3 s3 => ?_
        walk_at "rd"
        exact ⟨_, rfl, fun c o e => s3 c o (s1 c o e)⟩
      · rintro σ H1 ⟨v, rfl, s1⟩
        walk_at "rd"
        exact k _ s1
theorem ok__law_same (T : Txt P K mg) : ∀ n : Nat, FnOk P w K mg base CX0 (n + 1) T.f__law_same T.d__law_same ["actual", "expected"] (spSame K n)
  | 0 => same_step T (sp' := fun _ _ _ _ => False) ⟨fun _ _ _ _ h => h.elim, fun _ _ _ _ _ _ _ _ _ _ _ _ _ h => h.elim⟩ fun _ _ _ _ _ _ e => nomatch e
  | n + 1 => same_step T (ok__law_same T n) fun m H x y Q E e h k => ⟨x, y, rfl, by cases e; exact h, k⟩
theorem ok_Script___getitem__ (T : Txt P K mg) : FnOk P w K mg base (L2.CX P w) 3 T.f_Script___getitem__ T.d_Script___getitem__ ["self", "at"] (spGetG K T.a_Script T.a_NoStep) := by
  refine T.F_Script___getitem__.okX sc_Script___getitem__ (fun vs H Q E h => ?_) (fun cdv A outer s H vs Q E hr h => ?_)
  · obtain ⟨p, i, ws, rfl, _⟩ := h
    rfl
  · obtain ⟨p, v, ws, rfl, S, h⟩ := h
    obtain ⟨⟨dx, l, xs, h1, h2, h3⟩, h4, h5⟩ := id S
    refine ⟨_, (pss_cons (ps_if (pt_not (pt_val (pe_meth (pv 0) T.cl_Script T.me_Script__has (ok_Script__has T) (hr.mono (by decide)) T.b_Script__has .nil pass0 (pa_cons (pv 1) pa_nil)))) (pss_one (ps_raiseErr rfl T.er_NoStep (by simp) hr (takes_of rfl rfl rfl rfl) (pa_cons (pv 1) pa_nil) (by rfl) (by decide))) pss_nil)
  (pss_one (ps_ret (pe_ix (ix_seqk K) (pe_fldk K (pv 0) rfl) (pv 1) (fun _ _ => rfl))))), ?_⟩
    have c1 := T.cl_Script
    have c2 := T.na_Script__steps
    walk_at "rd"
    rcases h with ⟨i, rfl, hi, k⟩ | ⟨hv, kE⟩
    · refine ⟨p, _, ws, rfl, S, .inl ⟨i, rfl, ?_⟩⟩
      have e : (decide ((0 : Int) ≤ i) && decide ((i : Int) ≤ (ws.length : Int) - 1)) = true := by
        rw [decide_eq_true (by omega), decide_eq_true (by omega)]
        rfl
      rw [e]
      walk_at "rd"
      obtain ⟨a, x, ha, hx, hs⟩ := Steps.at_ (j := i) h3 hi
      refine k_ixL (SqL.of h2) (at_of (j := i) rfl ha) (k a x hx hs)
    · rcases hv with hv | ⟨i, rfl, hi⟩
      · refine ⟨p, v, ws, rfl, S, .inr ⟨hv, ?_⟩⟩
        walk_at "rd"
        exact fun d hd => kE H d (Same.refl H) hd
      · refine ⟨p, _, ws, rfl, S, .inl ⟨i, rfl, ?_⟩⟩
        have e : (decide ((0 : Int) ≤ i) && decide ((i : Int) ≤ (ws.length : Int) - 1)) = false := by
          rw [Bool.and_eq_false_iff]
          by_cases h0 : 0 ≤ i
          · exact .inr (decide_eq_false (by omega))
          · exact .inl (decide_eq_false h0)
        rw [e]
        walk_at "rd"
        exact fun d hd => kE H d (Same.refl H) hd
theorem ok_Script___contains__ (T : Txt P K mg) : FnOk P w K mg base CX0 2 T.f_Script___contains__ T.d_Script___contains__ ["self", "x"] (spIn K T.a_Script) := by
  refine T.F_Script___contains__.ok sc_Script___contains__ (fun vs H Q E h => ?_) (fun cdv A outer s H vs Q E hr h => ?_)
  · obtain ⟨p, a, x, ws, rfl, _⟩ := h
    rfl
  · obtain ⟨p, a, x, ws, rfl, S, ha, hx, k⟩ := h
    refine ⟨_, (pss_one (ps_ret (pe_and (pe_call (ok_is_step T) (hr.mono (by decide)) (by rfl) T.m_is_step T.F_is_step.kp T.b_is_step .nil pass0 (pa_cons (pv 1) pa_nil)) (pe_one (pe_cmpR (op_inUk K (hu65 hr)) (pv 1) (pe_fldk K (pv 0) rfl) (by rfl)))))), ?_⟩
    have c1 := T.cl_Script
    have c2 := T.na_Script__steps
    walk_at "rd"
    refine ⟨_, some x, rfl, ⟨a, rfl, ha, hx⟩, fun H1 s1 => ?_⟩
    obtain ⟨⟨dx, l, xs, h1, h2, h3⟩, h4, h5⟩ := S.same s1
    simp only [Option.isSome_some, if_true]
    walk_at "rd"
    exact k_inL (dp_step (sqT_mono (SameT.of s1) ha)) (.lst (SqL.of h2) h3.dpa) (step_shaped x hx).1 (steps_shaped h5).1 (k H1 s1)
theorem ok__law_told (T : Txt P K mg) : FnOk P w K mg base CX0 6 T.f__law_told T.d__law_told ["work", "row"] (spTold K T.a_Script) := by
  refine T.F__law_told.ok sc__law_told (fun vs H Q E h => ?_) (fun cdv A outer s H vs Q E hr h => ?_)
  · obtain ⟨p, r, ws, rfl, _⟩ := h
    rfl
  · obtain ⟨p, r, ws, rfl, S, R, k⟩ := h
    refine ⟨_, (pss_cons (ps_if (PW.pt (pw_or (pt_not (pt_val (pe_callB (call_isiUk K) (by rfl) T.m_isinstance b_isinstance (pa_cons (pv 0) (pa_cons (pe_glob (by rfl) T.m_Script (show RelV (.ref _) (.ref _) from rfl)) pa_nil))))) (pw_or (pt_not (pt_val (pe_call (ok__law_same T 2) (hr.mono (by decide)) (by rfl) T.m__law_same T.F__law_same.kp T.b__law_same .nil pass0 (pa_cons (pe_meth0 (pv 0) T.cl_Script T.me_Script_steps (ok_Script_steps T) (hr.mono (by decide)) T.b_Script_steps .nil pass0) (pa_cons (pv 1) pa_nil))))) (pw_or1 (pt_not (pt_val (pe_call (ok__law_same T 2) (hr.mono (by decide)) (by rfl) T.m__law_same T.F__law_same.kp T.b__law_same .nil pass0 (pa_cons (pe_callB (call_lenO T.me_Script___len__.at_ T.me_Script___len__.fn (ok_Script___len__ T) (hr.mono (by decide)) T.b_Script___len__ pass0) (by rfl) T.m_len b_len (pa_cons (pv 0) pa_nil)) (pa_cons (pe_callB (call_lenUk K) (by rfl) T.m_len b_len (pa_cons (pv 1) pa_nil)) pa_nil))))))))) (pss_one (ps_ret pe_bl)) pss_nil)
  (pss_cons (ps_for PassesOwn.never rfl (pi_range1 (by rfl) T.m_range (pa_cons (pe_callB (call_lenUk K) (by rfl) T.m_len b_len (pa_cons (pv 1) pa_nil)) pa_nil)) (pg_name (i := 2) sc__law_told.nd rfl (Or.inl rfl))
  (pss_one (ps_if (PW.pt (pw_or (pt_not (pt_val (pe_call (ok__law_same T 2) (hr.mono (by decide)) (by rfl) T.m__law_same T.F__law_same.kp T.b__law_same .nil pass0 (pa_cons (pe_ixO T.me_Script___getitem__.at_ T.me_Script___getitem__.fn T.fi_Script___getitem__ (ok_Script___getitem__ T) (hr.mono (by decide)) T.b_Script___getitem__ passX0 (pv 0) (pv 2)) (pa_cons (pe_ix (ix_seqk K) (pv 1) (pv 2) (fun _ _ => rfl)) pa_nil))))) (pw_or1 (pt_cmpR op_isNotU (pe_cmpR (op_inO T.me_Script___contains__.at_ T.me_Script___contains__.fn (ok_Script___contains__ T) (hr.mono (by decide)) T.b_Script___contains__ pass0) (pe_ix (ix_seqk K) (pv 1) (pv 2) (fun _ _ => rfl)) (pv 0) (by rfl)) pe_bl (nomark _))))) (pss_one (ps_ret pe_bl)) pss_nil)))
  (pss_one (ps_ret pe_bl)))), ?_⟩
    have c1 := T.cl_Script
    have c2 := T.na_Script__steps
    obtain ⟨⟨dx, l, xs, h1, h2, h3⟩, h4, h5⟩ := id S
    obtain ⟨ys, r1, r2⟩ := id R
    have hly : ys.length = ws.length := Paired.length r2
    walk_at "rd"
    refine k_isi (ClsV.own _) (T.ty_Script _ _ _ _ h1) kt_self ?_
    walk_at "rd"
    refine ⟨p, ws, rfl, S, fun q H1 nq s1 R1 => ?_⟩
    walk_at "rd"
    refine ⟨_, _, rfl, tdat_row R1 (R.mono (SameT.of s1)) (by omega) h5, fun H2 s2 => ?_⟩
    have s3 : Same H H2 := fun c o e => s2 c o (s1 c o e)
    have r3 := sqT_mono (SameT.of s3) r1
    walk_at "rd"
    refine ⟨p, dx, _, rfl, s3 _ _ h1, ⟨p, ws, rfl, S.same s3, ⟨ws.length, rfl, by omega, ?_⟩⟩⟩
    walk_at "rd"
    refine ⟨_, _, rfl, by rw [hly]; exact .int _ _, fun H4 s4 => ?_⟩
    have s5 : Same H H4 := fun c o e => s4 c o (s3 c o e)
    have r5 := sqT_mono (SameT.of s5) r1
    walk_at "rd"
    refine k_rng1 (by omega) (by omega) ?_
    refine k_for walk_range (fun i σ H' => ∃ v : Option V, σ = [some (.ref p), some (.ref r), v] ∧ Same H H') ⟨none, rfl, s5⟩ (fun _ _ _ _ _ => True.intro) ?_ ?_
    · rintro i x σ H6 H7 hi ⟨v, rfl, s6⟩ ⟨rfl, rfl⟩
      have hi' : i < ws.length := by omega
      have r6 := sqT_mono (SameT.of s6) r1
      have S6 := S.same s6
      walk_at "rd"
      simp only [Int.zero_add]
      refine ⟨p, dx, _, rfl, s6 _ _ h1, p, .int (i : Nat), ws, rfl, S6, .inl ⟨i, rfl, hi', fun a x hx ha => ?_⟩⟩
      obtain ⟨b, wd, hb1, hb2, hb3⟩ := Steps.at_ (j := i) (r2.mono (SameT.of s6)) hi'
      rw [hx] at hb2
      cases hb2
      have hm := h5 x (List.mem_of_getElem? hx)
      walk_at "rd"
      refine k_ixT r6 (at_of (j := i) rfl hb1) ?_
      walk_at "rd"
      refine ⟨_, _, rfl, tdat_step ha hb3 (Nat.le_trans (menu_len x hm) (by decide)), fun H8 s8 => ?_⟩
      have s68 : Same H H8 := fun c o e => s8 c o (s6 c o e)
      walk_at "rd"
      refine k_ixT (sqT_mono (SameT.of s8) r6) (at_of (j := i) rfl hb1) ?_
      walk_at "rd"
      refine ⟨p, dx, _, rfl, s68 _ _ h1, p, b, x, ws, rfl, S.same s68, sqT_mono (SameT.of s8) hb3, hm, fun H9 s9 => ?_⟩
      rw [any_self hm (List.mem_of_getElem? hx)]
      refine ⟨true, rfl, ?_⟩
      walk_at "rd"
      exact ⟨_, rfl, fun c o e => s9 c o (s68 c o e)⟩
    · rintro σ H1 ⟨v, rfl, s1⟩
      walk_at "rd"
      exact k _ s1
end

set_option Elab.async false
set_option linter.all false
set_option maxRecDepth 100000


def flatTy : V → Option String
  | .non => some "NoneType"
  | .bl _ => some "bool"
  | .int _ => some "int"
  | .str _ => some "str"
  | _ => none
def strsOf : List V → Option (List Str)
  | [] => some []
  | .str x :: xs => (strsOf xs).map (x :: ·)
  | _ :: _ => none
theorem strsOf_eq : ∀ {xs : List V} {w : List Str}, strsOf xs = some w → xs = w.map V.str
  | [], w, h => by cases h; rfl
  | .str x :: xs, w, h => by
    unfold strsOf at h
    cases e : strsOf xs with
    | none => rw [e] at h; cases h
    | some u =>
      rw [e] at h
      cases h
      rw [strsOf_eq e]
      rfl
  | .non :: _, _, h => by cases h
  | .bl _ :: _, _, h => by cases h
  | .int _ :: _, _, h => by cases h
  | .ref _ :: _, _, h => by cases h
  | .ty _ :: _, _, h => by cases h
  | .byt _ :: _, _, h => by cases h
  | .flt _ :: _, _, h => by cases h
def nsOk (xs : List V) : Bool := decide (xs.length ≤ 100) && xs.all (fun x => (flatTy x).isSome) && (match strsOf xs with | some w => decide (w ∉ menu12) && SeqAt.shaped (stepD w) | none => true)
theorem flat_all {K : PySem.W.Frag} {H : Hp} : ∀ {xs : List V}, xs.all (fun x => (flatTy x).isSome) = true → ∃ bs, Paired (ItS K H) xs bs ∧ (bs.all id = true → ∃ w, strsOf xs = some w)
  | [], _ => ⟨[], .nil, fun _ => ⟨[], rfl⟩⟩
  | x :: xs, h => by
    rw [List.all_cons, Bool.and_eq_true] at h
    obtain ⟨bs, p, q⟩ := flat_all (K := K) (H := H) h.2
    cases x with
    | str y =>
      refine ⟨true :: bs, .cons ⟨"str", ty_str, rfl⟩ p, fun h => ?_⟩
      obtain ⟨w, e⟩ := q (by simpa using h)
      exact ⟨y :: w, by unfold strsOf; rw [e]; rfl⟩
    | non => exact ⟨false :: bs, .cons ⟨"NoneType", ty_non, by decide⟩ p, fun h => by simp at h⟩
    | bl b => exact ⟨false :: bs, .cons ⟨"bool", ty_bl, by decide⟩ p, fun h => by simp at h⟩
    | int i => exact ⟨false :: bs, .cons ⟨"int", ty_int, by decide⟩ p, fun h => by simp at h⟩
    | _ => exact absurd h.1 (by simp [flatTy])
theorem nsT {K : PySem.W.Frag} {H : Hp} {a : Addr} {xs : List V} (h : SqT K H a xs) (ok : nsOk xs = true) : NoStepV K H (.ref a) := by
  unfold nsOk at ok
  rw [Bool.and_eq_true, Bool.and_eq_true] at ok
  obtain ⟨⟨h1, h2⟩, h3⟩ := ok
  obtain ⟨bs, p, q⟩ := flat_all (K := K) (H := H) h2
  refine .inr ⟨a, xs, bs, rfl, h, of_decide_eq_true h1, p, fun hb => ?_⟩
  obtain ⟨w, e⟩ := q hb
  rw [e] at h3
  rw [Bool.and_eq_true] at h3
  exact ⟨w, strsOf_eq e, of_decide_eq_true h3.1, h3.2⟩
theorem nsNo {K : PySem.W.Frag} {H : Hp} {v : V} {T : String} (h : Ty K H v T) (n : T ≠ "tuple") : NoStepV K H v := .inl ⟨T, h, n⟩
/-- a tuple of one or two with what is no text -/
theorem nsX1 {K : PySem.W.Frag} {H : Hp} {a : Addr} {x : V} {T : String} (h : SqT K H a [x]) (t : Ty K H x T) (n : kitB T "str" = false) : NoStepV K H (.ref a) :=
  .inr ⟨a, [x], [false], rfl, h, by simp, .cons ⟨T, t, n.symm⟩ .nil, fun h => by simp at h⟩
theorem nsX2 {K : PySem.W.Frag} {H : Hp} {a : Addr} {y : Str} {x : V} {T : String} (h : SqT K H a [.str y, x]) (t : Ty K H x T) (n : kitB T "str" = false) : NoStepV K H (.ref a) :=
  .inr ⟨a, [.str y, x], [true, false], rfl, h, by simp, .cons ⟨"str", ty_str, rfl⟩ (.cons ⟨T, t, n.symm⟩ .nil), fun h => by simp at h⟩
local macro_rules | `(tactic| walk_at "ns") => `(tactic| first
  | exact nsNo ty_non (by decide)
  | exact nsNo ty_bl (by decide)
  | exact nsNo ty_int (by decide)
  | exact nsNo ty_str (by decide)
  | ((with_reducible apply nsT); (focus walk_at "sqT"); (focus decide +kernel))
  | ((with_reducible apply nsNo); (focus ((with_reducible apply ty_lst); focus walk_at "sqL")); (focus decide))
  | ((with_reducible apply nsNo); (focus ((with_reducible apply ty_dK); focus walk_at "hp")); (focus decide))
  | ((with_reducible apply nsX1); (focus walk_at "sqT"); (focus ((with_reducible apply ty_tup); focus walk_at "sqT")); (focus decide))
  | ((with_reducible apply nsX2); (focus walk_at "sqT"); (focus ((with_reducible apply ty_tup); focus walk_at "sqT")); (focus decide))
  | ((with_reducible apply nsX2); (focus walk_at "sqT"); (focus ((with_reducible apply ty_lst); focus walk_at "sqL")); (focus decide)))
def AllNo (K : PySem.W.Frag) (H : Hp) (xs : List V) : Prop := ∀ v ∈ xs, NoStepV K H v
theorem AllNo.same {K : PySem.W.Frag} {H H' : Hp} {xs : List V} (s : Same H H') (h : AllNo K H xs) : AllNo K H' xs := fun v hv => NoStepV.same s (h v hv)
theorem AllNo.app {K : PySem.W.Frag} {H : Hp} {xs ys : List V} (h : AllNo K H xs) (k : AllNo K H ys) : AllNo K H (xs ++ ys) := fun v hv => (List.mem_append.mp hv).elim (h v) (k v)
theorem allNo_nil {K : PySem.W.Frag} {H : Hp} : AllNo K H [] := fun v hv => absurd hv List.not_mem_nil
theorem allNo_cons {K : PySem.W.Frag} {H : Hp} {x : V} {xs : List V} (h : NoStepV K H x) (k : AllNo K H xs) : AllNo K H (x :: xs) := fun v hv => (List.mem_cons.mp hv).elim (fun e => by rw [e]; exact h) (k v)
local macro_rules | `(tactic| walk_at "alln") => `(tactic| first
  | with_reducible exact allNo_nil
  | ((with_reducible apply allNo_cons); (focus walk_at "ns"); (focus walk_at "alln")))
def spNoStep (K : PySem.W.Frag) : Sp := fun vs H Q _ => ∃ i : Int, vs = [.int i] ∧ ∀ (v : V) (H' : Hp), Same H H' → NoStepV K H' v → Q v H'
set_option maxHeartbeats 8000000
section
variable {P : Program} {w : World} {K : PySem.W.Frag} {mg : Str → Option Value} {base : Heap}
theorem ok__law_no_step (T : Txt P K mg) : FnOk P w K mg base CX0 1 T.f__law_no_step T.d__law_no_step ["way"] (spNoStep K) := by
  refine T.F__law_no_step.ok sc__law_no_step (fun vs H Q E h => ?_) (fun cdv A outer s H vs Q E hr h => ?_)
  · obtain ⟨i, rfl, _⟩ := h
    rfl
  · obtain ⟨way, rfl, k⟩ := h
    refine ⟨_, (pss_cons (ps_set (i := 1) sc__law_no_step.nd rfl (Or.inl rfl) (pe_lst (pa_cons pe_non (pa_cons pe_int (pa_cons pe_bl (pa_cons pe_str (pa_cons pe_str (pa_cons (pe_tup pa_nil) (pa_cons (pe_tup (pa_cons pe_str pa_nil)) (pa_cons (pe_tup (pa_cons pe_str (pa_cons pe_str pa_nil))) (pa_cons (pe_tup (pa_cons pe_str (pa_cons pe_str pa_nil))) (pa_cons (pe_tup (pa_cons pe_str (pa_cons pe_str pa_nil))) pa_nil))))))))))))
  (pss_cons (ps_set (i := 1) sc__law_no_step.nd rfl (Or.inl rfl) (pe_op (op_addUk K) (pv 1) (pe_lst (pa_cons (pe_tup (pa_cons pe_str (pa_cons pe_str pa_nil))) (pa_cons (pe_tup (pa_cons pe_str pa_nil)) (pa_cons (pe_tup (pa_cons pe_str (pa_cons pe_str pa_nil))) (pa_cons (pe_tup (pa_cons pe_str (pa_cons pe_str pa_nil))) (pa_cons (pe_tup (pa_cons pe_str (pa_cons pe_str pa_nil))) pa_nil))))))))
  (pss_cons (ps_set (i := 1) sc__law_no_step.nd rfl (Or.inl rfl) (pe_op (op_addUk K) (pv 1) (pe_lst (pa_cons (pe_tup (pa_cons pe_str (pa_cons pe_non pa_nil))) (pa_cons (pe_tup (pa_cons pe_str (pa_cons pe_int pa_nil))) (pa_cons (pe_lst (pa_cons pe_str pa_nil)) (pa_cons (pe_lst (pa_cons pe_str (pa_cons pe_str pa_nil))) (pa_cons (pe_tup (pa_cons pe_str (pa_cons (pe_lst (pa_cons pe_str pa_nil)) pa_nil))) (pa_cons (pe_tup (pa_cons (pe_tup (pa_cons pe_str pa_nil)) pa_nil)) pa_nil)))))))))
  (pss_cons (ps_set (i := 1) sc__law_no_step.nd rfl (Or.inl rfl) (pe_op (op_addUk K) (pv 1) (pe_lst (pa_cons (pe_tup (pa_cons pe_str (pa_cons pe_str pa_nil))) (pa_cons (pe_tup (pa_cons pe_str (pa_cons pe_str pa_nil))) (pa_cons (pe_tup (pa_cons pe_str (pa_cons pe_str pa_nil))) (pa_cons (pe_tup (pa_cons pe_str (pa_cons pe_str (pa_cons pe_str pa_nil)))) (pa_cons (pe_tup (pa_cons pe_str (pa_cons (pe_tup pa_nil) pa_nil))) (pa_cons pe_dnewK pa_nil)))))))))
  (pss_cons (ps_set (i := 1) sc__law_no_step.nd rfl (Or.inl rfl) (pe_op (op_addUk K) (pv 1) (pe_lst (pa_cons (pe_tup (pa_cons pe_str (pa_cons pe_str pa_nil))) (pa_cons (pe_tup (pa_cons pe_str pa_nil)) (pa_cons (pe_tup (pa_cons pe_str (pa_cons pe_str pa_nil))) (pa_cons (pe_tup (pa_cons pe_str pa_nil)) (pa_cons (pe_tup (pa_cons pe_str (pa_cons pe_str (pa_cons pe_non pa_nil)))) (pa_cons (pe_tup (pa_cons pe_str (pa_cons pe_str pa_nil))) pa_nil)))))))))
  (pss_cons (ps_set (i := 1) sc__law_no_step.nd rfl (Or.inl rfl) (pe_op (op_addUk K) (pv 1) (pe_lst (pa_cons (pe_tup (pa_cons pe_non pa_nil)) (pa_cons (pe_tup (pa_cons pe_str (pa_cons pe_non pa_nil))) (pa_cons pe_str pa_nil))))))
  (pss_one (ps_ret (pe_ix (ix_seqk K) (pv 1) (pe_op op_mod (pe_callTy call_int1 (by rfl) T.m_int b_int (pa_cons (pv 0) pa_nil)) (pe_callB (call_lenUk K) (by rfl) T.m_len b_len (pa_cons (pv 1) pa_nil))) (fun _ _ => rfl)))))))))), ?_⟩
    walk_at "rd"
    have step : ∀ {H1 H2 : Hp} {a b : Addr} {xs ys : List V} {Qv : VK} (n : Nat), H2 a = some (.lst xs) → H2 b = some (.lst ys) → xs.length + ys.length = n → n ≤ 1000 → Same H1 H2 → AllNo K H2 xs → AllNo K H2 ys →
        (∀ (p : Addr) (H3 : Hp) (L : List V), Same H1 H3 → H3 p = some (.lst L) → L.length = n → AllNo K H3 L → Qv (.ref p) H3) → fOp2 (rAddU K) (.ref a) Qv (.ref b) H2 := fun n h1 h2 e hl s n1 n2 q =>
      k_catL h1 h2 (by omega) fun p np => q p _ _ (s.trans (Same.new np)) upd_same (by rw [List.length_append]; exact e) ((n1.app n2).same (Same.new np))
    refine step (H1 := H) 15 (by walk_at "hp") (by walk_at "hp") (by simp) (by decide) (by walk_at "sm") (by walk_at "alln") (by walk_at "alln") fun p1 H1 L1 s1 h1 l1 n1 => ?_
    walk_at "rd"
    refine step (H1 := H) 21 (by walk_at "hp") (by walk_at "hp") (by rw [l1]; simp) (by decide) (by walk_at "sm") (n1.same (by walk_at "sm")) (by walk_at "alln") fun p2 H2 L2 s2 h2 l2 n2 => ?_
    walk_at "rd"
    refine step (H1 := H) 27 (by walk_at "hp") (by walk_at "hp") (by rw [l2]; simp) (by decide) (by walk_at "sm") (n2.same (by walk_at "sm")) (by walk_at "alln") fun p3 H3 L3 s3 h3 l3 n3 => ?_
    walk_at "rd"
    refine step (H1 := H) 33 (by walk_at "hp") (by walk_at "hp") (by rw [l3]; simp) (by decide) (by walk_at "sm") (n3.same (by walk_at "sm")) (by walk_at "alln") fun p4 H4 L4 s4 h4 l4 n4 => ?_
    walk_at "rd"
    refine step (H1 := H) 36 (by walk_at "hp") (by walk_at "hp") (by rw [l4]; simp) (by decide) (by walk_at "sm") (n4.same (by walk_at "sm")) (by walk_at "alln") fun p5 H5 L5 s5 h5 l5 n5 => ?_
    walk_at "rd"
    rw [l5]
    have hlt : (way % ((36 : Nat) : Int)).toNat < L5.length := by omega
    have hg := List.getElem?_eq_getElem hlt
    refine k_ixL (SqL.of h5) (at_of (j := (way % ((36 : Nat) : Int)).toNat) (by omega) hg) ?_
    exact k _ H5 s5 (n5 _ (List.mem_of_getElem? hg))
end

set_option Elab.async false
set_option linter.all false
set_option maxRecDepth 100000


local macro_rules | `(tactic| walk_at "lk") => `(tactic| first
  | exact sf_at _
  | exact sf_no _ (by decide +kernel))
/-! ### scripts beside any values -/
/-- v beside a script of the steps ws: another script, or a value of Python's own kinds; t: it is equal -/
def EqV (K : PySem.W.Frag) (C : Addr) (H : Hp) (ws : List (List Str)) (v : V) (t : Bool) : Prop :=
  (∃ q us, v = .ref q ∧ ScrAt K C H q us ∧ t = decide (ws = us)) ∨ ∃ T, Ty K H v T ∧ t = false
theorem EqV.same {K : PySem.W.Frag} {C : Addr} {H H' : Hp} {ws : List (List Str)} {v : V} {t : Bool} (s : Same H H') : EqV K C H ws v t → EqV K C H' ws v t
  | .inl ⟨q, us, e, S, h⟩ => .inl ⟨q, us, e, S.same s, h⟩
  | .inr ⟨T, h, e⟩ => .inr ⟨T, h.same s, e⟩
def spEqG (K : PySem.W.Frag) (C : Addr) : Sp := fun vs H Q _ => ∃ (p : Addr) (v : V) (ws : List (List Str)) (t : Bool), vs = [.ref p, v] ∧ ScrAt K C H p ws ∧ EqV K C H ws v t ∧ ∀ H', Same H H' → Q (.bl t) H'
def spInG (K : PySem.W.Frag) (C : Addr) : Sp := fun vs H Q _ => ∃ (p : Addr) (v : V) (o : Option (List Str)) (ws : List (List Str)), vs = [.ref p, v] ∧ ScrAt K C H p ws ∧ ItemV K H v o ∧
  ∀ H', Same H H' → Q (.bl (match o with | some x => decide (x ∈ ws) | none => false)) H'
theorem eq_oth {K : PySem.W.Frag} {C : Addr} {H : Hp} {ws : List (List Str)} {v : V} {t : Bool} (e : EqV K C H ws v t) : Oth K C H v := by
  rcases e with ⟨q, us, rfl, ⟨⟨dx, l, xs, h1, h2, h3⟩, _⟩, h⟩ | ⟨T, h, _⟩
  · exact .inl ⟨q, dx, _, rfl, h1⟩
  · exact .inr ⟨T, h.1, h.2⟩
section
variable {K : PySem.W.Frag} {C p : Addr} {H : Hp} {ws : List (List Str)} {v : V} {t : Bool} {E : XK} {Q : VK}
theorem eq_12 (S : ScrAt K C H p ws) (e : EqV K C H ws v t) (q : ∀ H', Same H H' → Q (.bl t) H') : rEqA K C (spEqG K C) E (.ref p) v H Q := by
  obtain ⟨⟨dx, l, xs, h1, h2, h3⟩, h4, h5⟩ := id S
  exact .inl ⟨p, dx, _, rfl, h1, eq_oth e, p, v, ws, t, rfl, S, e, fun H' s => ⟨t, rfl, q H' s⟩⟩
theorem ne_12 (S : ScrAt K C H p ws) (e : EqV K C H ws v t) (q : ∀ H', Same H H' → Q (.bl (!t)) H') : rNeA K C (spEqG K C) E (.ref p) v H Q := by
  obtain ⟨⟨dx, l, xs, h1, h2, h3⟩, h4, h5⟩ := id S
  exact .inl ⟨p, dx, _, rfl, h1, eq_oth e, p, v, ws, t, rfl, S, e, fun H' s => ⟨t, rfl, q H' s⟩⟩
theorem eq_21 (S : ScrAt K C H p ws) (e : EqV K C H ws v t) (q : ∀ H', Same H H' → Q (.bl t) H') : rEqA K C (spEqG K C) E v (.ref p) H Q := by
  obtain ⟨⟨dx, l, xs, h1, h2, h3⟩, h4, h5⟩ := id S
  rcases id e with ⟨r, us, rfl, S2, rfl⟩ | ⟨T, h, rfl⟩
  · obtain ⟨⟨dy, m, ys, g1, g2, g3⟩, g4, g5⟩ := id S2
    refine .inl ⟨r, dy, _, rfl, g1, .inl ⟨p, dx, _, rfl, h1⟩, r, .ref p, us, _, rfl, S2, .inl ⟨p, ws, rfl, S, rfl⟩, fun H' s => ⟨_, rfl, ?_⟩⟩
    have e' : decide (us = ws) = decide (ws = us) := decide_eq_decide.mpr ⟨Eq.symm, Eq.symm⟩
    rw [e']
    exact q H' s
  · exact .inr ⟨p, dx, _, T, rfl, h1, h.1, h.2, p, v, ws, false, rfl, S, e, fun H' s => ⟨_, rfl, q H' s⟩⟩
theorem ne_21 (S : ScrAt K C H p ws) (e : EqV K C H ws v t) (q : ∀ H', Same H H' → Q (.bl (!t)) H') : rNeA K C (spEqG K C) E v (.ref p) H Q := by
  obtain ⟨⟨dx, l, xs, h1, h2, h3⟩, h4, h5⟩ := id S
  rcases id e with ⟨r, us, rfl, S2, rfl⟩ | ⟨T, h, rfl⟩
  · obtain ⟨⟨dy, m, ys, g1, g2, g3⟩, g4, g5⟩ := id S2
    refine .inl ⟨r, dy, _, rfl, g1, .inl ⟨p, dx, _, rfl, h1⟩, r, .ref p, us, _, rfl, S2, .inl ⟨p, ws, rfl, S, rfl⟩, fun H' s => ⟨_, rfl, ?_⟩⟩
    have e' : decide (us = ws) = decide (ws = us) := decide_eq_decide.mpr ⟨Eq.symm, Eq.symm⟩
    rw [e']
    exact q H' s
  · exact .inr ⟨p, dx, _, T, rfl, h1, h.1, h.2, p, v, ws, false, rfl, S, e, fun H' s => ⟨_, rfl, q H' s⟩⟩
end
/-! ### the methods that give scripts -/
def spAddG (K : PySem.W.Frag) (C : Addr) : Sp := fun vs H Q _ => ∃ (p q : Addr) (ws us : List (List Str)), vs = [.ref p, .ref q] ∧ ScrAt K C H p ws ∧ ScrAt K C H q us ∧ ws.length + us.length ≤ 12 ∧
  ∀ (x l : Addr) (H' : Hp), H x = none → H l = none → Same H H' → ScrL K C H' x l (ws ++ us) → Q (.ref x) H'
def spWithout (K : PySem.W.Frag) (C : Addr) : Sp := fun vs H Q _ => ∃ (p : Addr) (i : Nat) (ws : List (List Str)), vs = [.ref p, .int i] ∧ ScrAt K C H p ws ∧ i < ws.length ∧
  ∀ (x l : Addr) (H' : Hp), H x = none → H l = none → Same H H' → ScrL K C H' x l (ws.take i ++ ws.drop (i + 1)) → Q (.ref x) H'
def spWith (K : PySem.W.Frag) (C : Addr) : Sp := fun vs H Q _ => ∃ (p s : Addr) (i : Nat) (y : List Str) (ws : List (List Str)), vs = [.ref p, .int i, .ref s] ∧ ScrAt K C H p ws ∧ SqT K H s (y.map V.str) ∧ y ∈ menu12 ∧ i ≤ ws.length ∧ ws.length < 12 ∧
  ∀ (x l : Addr) (H' : Hp), H x = none → H l = none → Same H H' → ScrL K C H' x l (ws.take i ++ [y] ++ ws.drop i) → Q (.ref x) H'
theorem bad_good {ws : List (List Str)} (h : ws.length ≤ 12) : badAt (ws.map some) = none := by
  unfold badAt
  rw [List.find?_eq_none]
  intro j hj
  rw [List.mem_range, List.length_map] at hj
  rw [List.getD_eq_getElem?_getD, List.getElem?_map, List.getElem?_eq_getElem hj]
  simp
  omega
set_option maxHeartbeats 8000000
section
variable {P : Program} {w : World} {K : PySem.W.Frag} {mg : Str → Option Value} {base : Heap}
theorem k_newScrG {C CE r : Addr} {ws : List (List Str)} {E : XK} {H : Hp} {Q : VK} (R : Row K H r ws) (hl : ws.length ≤ 12) (hm : ∀ x ∈ ws, x ∈ menu12)
    (k : ∀ (x l : Addr) (H' : Hp), H x = none → H l = none → Same H H' → ScrL K C H' x l ws → Q (.ref x) H') : fMake C (spInitG K C CE) [] E Q [.ref r] H := by
  intro y dz ny nd nyd
  have sm : Same H (upd (upd H dz (.own y)) y (.ins C dz [])) := fun b o e => lk_ne (lk_new e nd) (ne_of_none e ny)
  obtain ⟨xs, h1, h2⟩ := R.mono (SameT.of sm)
  refine ⟨y, dz, _, rfl, upd_same, .inr ⟨r, xs, ws.map some, rfl, h1, by rw [h2.len]; omega, Steps.items h2 hm, fun i hi => ?_, fun _ us H5 lz e nl L4 f4 => ⟨rfl, ?_⟩⟩⟩
  · rw [bad_good hl] at hi
    cases hi
  · have eu : us = ws := by
      exact ((List.map_inj_right (fun x y h => Option.some.inj h)).mp e).symm
    subst eu
    exact k y lz H5 ny (Same.none_of sm nl) (fun b o e => f4 b o (sm b o e) (ne_of_none e ny)) L4
theorem ok_Script___eq__ (T : Txt P K mg) : FnOk P w K mg base CX0 2 T.f_Script___eq__ T.d_Script___eq__ ["self", "other"] (spEqG K T.a_Script) := by
  refine T.F_Script___eq__.ok sc_Script___eq__ (fun vs H Q E h => ?_) (fun cdv A outer s H vs Q E hr h => ?_)
  · obtain ⟨p, v, ws, t, rfl, _⟩ := h
    rfl
  · obtain ⟨p, v, ws, t, rfl, S1, e, k⟩ := h
    refine ⟨_, (pss_one (ps_ret (pe_and (pe_callB (call_isiUk K) (by rfl) T.m_isinstance b_isinstance (pa_cons (pv 1) (pa_cons (pe_glob (by rfl) T.m_Script (show RelV (.ref _) (.ref _) from rfl)) pa_nil))) (pe_one (pe_cmpR (op_eqUk K (hu65 hr)) (pe_fldk K (pv 0) rfl) (pe_fldk K (pv 1) rfl) (nomark _)))))), ?_⟩
    have c1 := T.cl_Script
    have c2 := T.na_Script__steps
    obtain ⟨⟨dx, l, xs, h1, h2, h3⟩, h4, h5⟩ := id S1
    rcases e with ⟨q, us, rfl, S2, rfl⟩ | ⟨T0, ht, rfl⟩
    · obtain ⟨⟨dy, m, ys, g1, g2, g3⟩, g4, g5⟩ := id S2
      walk_at "rd"
      refine k_isi (ClsV.own _) (T.ty_Script _ _ _ _ g1) kt_self ?_
      walk_at "rd"
      refine k_eq_D (.lst (SqL.of h2) h3.dpa) (.lst (SqL.of g2) g3.dpa) (steps_shaped h5).1 (steps_shaped g5).1 ?_
      have e : PyData.eqv (.list (ws.map stepD)) (.list (us.map stepD)) = decide (ws = us) := by
        simp only [PyData.eqv]
        exact eqvAll_rows ws us
      rw [e]
      exact k H (Same.refl H)
    · walk_at "rd"
      refine k_isi (ClsV.own _) ht.2 (T.kx_Script T0 ht.1) ?_
      walk_at "rd"
      exact k H (Same.refl H)
theorem ok_Script___contains__G (T : Txt P K mg) : FnOk P w K mg base CX0 2 T.f_Script___contains__ T.d_Script___contains__ ["self", "x"] (spInG K T.a_Script) := by
  refine T.F_Script___contains__.ok sc_Script___contains__ (fun vs H Q E h => ?_) (fun cdv A outer s H vs Q E hr h => ?_)
  · obtain ⟨p, v, o, ws, rfl, _⟩ := h
    rfl
  · obtain ⟨p, v, o, ws, rfl, S, hv, k⟩ := h
    refine ⟨_, (pss_one (ps_ret (pe_and (pe_call (ok_is_step T) (hr.mono (by decide)) (by rfl) T.m_is_step T.F_is_step.kp T.b_is_step .nil pass0 (pa_cons (pv 1) pa_nil)) (pe_one (pe_cmpR (op_inUk K (hu65 hr)) (pv 1) (pe_fldk K (pv 0) rfl) (by rfl)))))), ?_⟩
    have c1 := T.cl_Script
    have c2 := T.na_Script__steps
    walk_at "rd"
    refine ⟨_, o, rfl, hv, fun H1 s1 => ?_⟩
    obtain ⟨⟨dx, l, xs, h1, h2, h3⟩, h4, h5⟩ := S.same s1
    cases o with
    | none =>
      simp only [Option.isSome_none, Bool.false_eq_true, if_false]
      walk_at "rd"
      exact k H1 s1
    | some x =>
      obtain ⟨a, rfl, ha, hx⟩ := hv
      simp only [Option.isSome_some, if_true]
      walk_at "rd"
      refine k_inL (dp_step (sqT_mono (SameT.of s1) ha)) (.lst (SqL.of h2) h3.dpa) (step_shaped x hx).1 (steps_shaped h5).1 ?_
      rw [any_step]
      exact k H1 s1
theorem ok_Script___add__ (T : Txt P K mg) : FnOk P w K mg base (L2.CX P w) 4 T.f_Script___add__ T.d_Script___add__ ["self", "other"] (spAddG K T.a_Script) := by
  refine T.F_Script___add__.okX sc_Script___add__ (fun vs H Q E h => ?_) (fun cdv A outer s H vs Q E hr h => ?_)
  · obtain ⟨p, q, ws, us, rfl, _⟩ := h
    rfl
  · obtain ⟨p, q, ws, us, rfl, S1, S2, hl, k⟩ := h
    refine ⟨_, (pss_cons (ps_if (pt_not (pt_val (pe_callB (call_isiUk K) (by rfl) T.m_isinstance b_isinstance (pa_cons (pv 1) (pa_cons (pe_glob (by rfl) T.m_Script (show RelV (.ref _) (.ref _) from rfl)) pa_nil))))) (pss_one ps_never) pss_nil)
  (pss_one (ps_ret (pe_make T.M_Script (ok_Script___init__ T) (hr.mono (by decide)) (by rfl) T.m_Script T.b_Script___init__ .nil (passes_call (takes_of rfl rfl rfl rfl) (fun _ _ _ _ z => z)) (pa_cons (pe_op (op_addUk K) (pe_meth0 (pv 0) T.cl_Script T.me_Script_steps (ok_Script_steps T) (hr.mono (by decide)) T.b_Script_steps .nil pass0) (pe_meth0 (pv 1) T.cl_Script T.me_Script_steps (ok_Script_steps T) (hr.mono (by decide)) T.b_Script_steps .nil pass0)) pa_nil))))), ?_⟩
    have c1 := T.cl_Script
    have c2 := T.na_Script__steps
    walk_at "rd"
    obtain ⟨⟨dx, l, xs, h1, h2, h3⟩, h4, h5⟩ := id S1
    obtain ⟨⟨dy, m, ys, g1, g2, g3⟩, g4, g5⟩ := id S2
    refine k_isi (ClsV.own _) (T.ty_Script _ _ _ _ g1) kt_self ?_
    walk_at "rd"
    refine ⟨p, ws, rfl, S1, fun a H1 na s1 R1 => ?_⟩
    have g1' := s1 _ _ g1
    walk_at "rd"
    refine ⟨q, us, rfl, S2.same s1, fun b H2 nb s2 R2 => ?_⟩
    have R1' := R1.mono (SameT.of s2)
    obtain ⟨zs, z1, z2⟩ := id R1'
    obtain ⟨vs, v1, v2⟩ := id R2
    have e1 : zs.length = ws.length := Paired.length z2
    have e2 : vs.length = us.length := Paired.length v2
    have s12 : Same H H2 := s1.trans s2
    refine k_catT z1 v1 (by omega) fun r H3 s3 R3 => ?_
    have s13 : Same H H3 := s12.trans s3
    have RR : Row K H3 r (ws ++ us) := ⟨_, R3, (z2.mono (SameT.of s3)).append (v2.mono (SameT.of s3))⟩
    walk_at "rd"
    refine k_newScrG RR (by rw [List.length_append]; omega) (fun x hx => (List.mem_append.mp hx).elim (h5 x) (g5 x)) fun y lz H4 ny nl s4 L4 => ?_
    exact k y lz H4 (Same.none_of s13 ny) (Same.none_of s13 nl) (s13.trans s4) L4
theorem ok_Script_without (T : Txt P K mg) : FnOk P w K mg base (L2.CX P w) 4 T.f_Script_without T.d_Script_without ["self", "index"] (spWithout K T.a_Script) := by
  refine T.F_Script_without.okX sc_Script_without (fun vs H Q E h => ?_) (fun cdv A outer s H vs Q E hr h => ?_)
  · obtain ⟨p, i, ws, rfl, _⟩ := h
    rfl
  · obtain ⟨p, i, ws, rfl, S, hi, k⟩ := h
    refine ⟨_, (pss_cons (ps_if (pt_not (pt_val (pe_meth (pv 0) T.cl_Script T.me_Script__has (ok_Script__has T) (hr.mono (by decide)) T.b_Script__has .nil pass0 (pa_cons (pv 1) pa_nil)))) (pss_one (ps_raiseErr rfl T.er_NoStep (by simp) hr (takes_of rfl rfl rfl rfl) (pa_cons (pv 1) pa_nil) (by rfl) (by decide))) pss_nil)
  (pss_cons (ps_set (i := 2) sc_Script_without.nd rfl (Or.inl rfl) (pe_meth0 (pv 0) T.cl_Script T.me_Script_steps (ok_Script_steps T) (hr.mono (by decide)) T.b_Script_steps .nil pass0))
  (pss_one (ps_ret (pe_make T.M_Script (ok_Script___init__ T) (hr.mono (by decide)) (by rfl) T.m_Script T.b_Script___init__ .nil (passes_call (takes_of rfl rfl rfl rfl) (fun _ _ _ _ z => z)) (pa_cons (pe_op (op_addUk K) (pe_slice (sl_Uk K) (pv 2) po_none (po_some (pv 1))) (pe_slice (sl_Uk K) (pv 2) (po_some (pe_op (op_addUk K) (pv 1) pe_int)) po_none)) pa_nil)))))), ?_⟩
    have c1 := T.cl_Script
    have c2 := T.na_Script__steps
    obtain ⟨⟨dx, l, xs, h1, h2, h3⟩, h4, h5⟩ := id S
    walk_at "rd"
    refine ⟨p, _, ws, rfl, S, .inl ⟨i, rfl, ?_⟩⟩
    have e : (decide ((0 : Int) ≤ i) && decide ((i : Int) ≤ (ws.length : Int) - 1)) = true := by
      rw [decide_eq_true (by omega), decide_eq_true (by omega)]
      rfl
    rw [e]
    walk_at "rd"
    refine ⟨p, ws, rfl, S, fun a H1 na s1 R1 => ?_⟩
    obtain ⟨ys, y1, y2⟩ := id R1
    have e1 : ys.length = ws.length := y2.len
    walk_at "rd"
    refine k_slT y1 fun b H2 s2 b1 => ?_
    rw [cutV_eq, cutG_to] at b1
    have y3 := sqT_mono (SameT.of s2) y1
    walk_at "rd"
    refine k_slT y3 fun c H3 s3 b2 => ?_
    have ei : (i : Int) + 1 = ((i + 1 : Nat) : Int) := by omega
    rw [ei, cutV_eq, cutG_from] at b2
    refine k_catT (sqT_mono (SameT.of s3) b1) b2 (by rw [List.length_take, List.length_drop]; omega) fun r H4 s4 r1 => ?_
    have s14 : Same H1 H4 := s2.trans (s3.trans s4)
    have s04 : Same H H4 := s1.trans s14
    have RR : Row K H4 r (ws.take i ++ ws.drop (i + 1)) := ⟨_, r1, ((y2.take i).append (y2.drop (i + 1))).mono (SameT.of s14)⟩
    walk_at "rd"
    refine k_newScrG RR (by rw [List.length_append, List.length_take, List.length_drop]; omega) (fun x hx => (List.mem_append.mp hx).elim (fun h => h5 x (List.mem_of_mem_take h)) fun h => h5 x (List.mem_of_mem_drop h)) fun y lz H5 ny nl s5 L5 => ?_
    exact k y lz H5 (Same.none_of s04 ny) (Same.none_of s04 nl) (s04.trans s5) L5
theorem ok_Script_with_step (T : Txt P K mg) : FnOk P w K mg base (L2.CX P w) 4 T.f_Script_with_step T.d_Script_with_step ["self", "index", "step"] (spWith K T.a_Script) := by
  refine T.F_Script_with_step.okX sc_Script_with_step (fun vs H Q E h => ?_) (fun cdv A outer s H vs Q E hr h => ?_)
  · obtain ⟨p, q, i, y, ws, rfl, _⟩ := h
    rfl
  · obtain ⟨p, q, i, w, ws, rfl, S, hq, hw, hi, hlw, k⟩ := h
    refine ⟨_, (pss_cons (ps_if (pt_not (pt_val (pe_call (ok_is_integer T) (hr.mono (by decide)) (by rfl) T.m_is_integer T.F_is_integer.kp T.b_is_integer .nil pass0 (pa_cons (pv 1) (pa_cons pe_int (pa_cons (pe_callB (call_lenUk K) (by rfl) T.m_len b_len (pa_cons (pe_fldk K (pv 0) rfl) pa_nil)) pa_nil)))))) (pss_one (ps_raiseErr rfl T.er_NoIndex (by simp) hr (takes_of rfl rfl rfl rfl) (pa_cons (pv 1) pa_nil) (by rfl) (by decide))) pss_nil)
  (pss_cons (ps_set (i := 3) sc_Script_with_step.nd rfl (Or.inl rfl) (pe_meth0 (pv 0) T.cl_Script T.me_Script_steps (ok_Script_steps T) (hr.mono (by decide)) T.b_Script_steps .nil pass0))
  (pss_one (ps_ret (pe_make T.M_Script (ok_Script___init__ T) (hr.mono (by decide)) (by rfl) T.m_Script T.b_Script___init__ .nil (passes_call (takes_of rfl rfl rfl rfl) (fun _ _ _ _ z => z)) (pa_cons (pe_op (op_addUk K) (pe_op (op_addUk K) (pe_slice (sl_Uk K) (pv 3) po_none (po_some (pv 1))) (pe_tup (pa_cons (pv 2) pa_nil))) (pe_slice (sl_Uk K) (pv 3) (po_some (pv 1)) po_none)) pa_nil)))))), ?_⟩
    have c1 := T.cl_Script
    have c2 := T.na_Script__steps
    obtain ⟨⟨dx, l, xs, h1, h2, h3⟩, h4, h5⟩ := id S
    have e0 : xs.length = ws.length := h3.len
    walk_at "rd"
    refine ⟨_, 0, xs.length, rfl, .inl ⟨i, rfl, ?_⟩⟩
    have e : (decide ((0 : Int) ≤ i) && decide ((i : Int) ≤ (xs.length : Int))) = true := by
      rw [decide_eq_true (by omega), decide_eq_true (by omega)]
      rfl
    rw [e]
    walk_at "rd"
    refine ⟨p, ws, rfl, S, fun a H1 na s1 R1 => ?_⟩
    obtain ⟨ys, y1, y2⟩ := id R1
    have e1 : ys.length = ws.length := y2.len
    walk_at "rd"
    refine k_slT y1 fun b H2 s2 b1 => ?_
    rw [cutV_eq, cutG_to] at b1
    walk_at "rd"
    rename_i t nt
    have st : Same H2 (upd H2 t (.tup [.ref q])) := Same.new nt
    refine k_catT (sqT_mono (SameT.of st) b1) (SqT.of upd_same) (by rw [List.length_take]; simp only [List.length_cons, List.length_nil]; omega) fun g H3 s3 g1 => ?_
    have y3 := sqT_mono (SameT.of (s2.trans (st.trans s3))) y1
    walk_at "rd"
    refine k_slT y3 fun c H4 s4 b2 => ?_
    rw [cutV_eq, cutG_from] at b2
    refine k_catT (sqT_mono (SameT.of s4) g1) b2 (by rw [List.length_append, List.length_take, List.length_drop]; simp only [List.length_cons, List.length_nil]; omega) fun r H5 s5 r1 => ?_
    have s15 : Same H1 H5 := s2.trans (st.trans (s3.trans (s4.trans s5)))
    have s05 : Same H H5 := s1.trans s15
    have RR : Row K H5 r (ws.take i ++ [w] ++ ws.drop i) := ⟨_, r1, (((y2.take i).mono (SameT.of s15)).append (Steps.one (sqT_mono (SameT.of s05) hq))).append ((y2.drop i).mono (SameT.of s15))⟩
    walk_at "rd"
    refine k_newScrG RR (by rw [List.length_append, List.length_append, List.length_take, List.length_drop]; simp only [List.length_cons, List.length_nil]; omega) (fun x hx => ?_) fun y lz H6 ny nl s6 L6 => ?_
    · rcases List.mem_append.mp hx with h | h
      · rcases List.mem_append.mp h with h | h
        · exact h5 x (List.mem_of_mem_take h)
        · rw [List.mem_singleton.mp h]
          exact hw
      · exact h5 x (List.mem_of_mem_drop h)
    · exact k y lz H6 (Same.none_of s05 ny) (Same.none_of s05 nl) (s05.trans s6) L6
end

set_option Elab.async false
set_option linter.all false
set_option maxRecDepth 100000


local macro_rules | `(tactic| walk_at "lk") => `(tactic| first
  | exact sf_at _
  | exact sf_no _ (by decide +kernel))
theorem Same.but {p : Addr} {H H1 H2 : Hp} (s : Same H H1) (b : But p H1 H2) (n : H p = none) : Same H H2 := fun c o e => b c o (s c o e) (ne_of_none e n)
theorem Paired.setN {α β : Type} {F : α → β → Prop} {x : α} {y : β} (f : F x y) : ∀ {xs : List α} {ys : List β} (n : Nat), Paired F xs ys → Paired F (xs.set n x) (ys.set n y)
  | _, _, _, .nil => .nil
  | _, _, 0, .cons _ t => .cons f t
  | _, _, n + 1, .cons h t => .cons h (Paired.setN f n t)
theorem Paired.erase {α β : Type} {F : α → β → Prop} : ∀ {xs : List α} {ys : List β} (n : Nat), Paired F xs ys → Paired F (xs.eraseIdx n) (ys.eraseIdx n)
  | _, _, _, .nil => .nil
  | _, _, 0, .cons _ t => t
  | _, _, n + 1, .cons h t => .cons h (Paired.erase n t)
def spRow (K : PySem.W.Frag) : Sp := fun vs H Q _ => ∃ (a : Addr) (most n : Nat), vs = [.ref a, .int most] ∧ WellAt H a n ∧ n + most ≤ 900000 ∧ most ≤ 100 ∧
  ∀ (r : Addr) (ws : List (List Str)) (H' : Hp), Row K H' r ws → ws.length ≤ most → (∀ x ∈ ws, x ∈ menu12) → WellAt H' a (n + most + 2) → (∀ b o, H b = some o → b ≠ a → H' b = some o) → Q (.ref r) H'
set_option maxHeartbeats 8000000
section
variable {P : Program} {w : World} {K : PySem.W.Frag} {mg : Str → Option Value} {base : Heap}
theorem ok__law_row (T : Txt P K mg) : FnOk P w K mg base CX0 2 T.f__law_row T.d__law_row ["well", "most"] (spRow K) := by
  refine T.F__law_row.ok sc__law_row (fun vs H Q E h => ?_) (fun cdv A outer s H vs Q E hr h => ?_)
  · obtain ⟨a, m, n, rfl, _⟩ := h
    rfl
  · obtain ⟨a, m, n, rfl, hw, hn, hm, k⟩ := h
    refine ⟨_, (pss_cons (ps_par3 (i := 2) (j := 3) (l := 4) rfl sc__law_row.nd rfl rfl rfl (by decide) (by decide) (by decide) rfl rfl rfl (pa_cons (pe_call0 (ok__law_menu T) (hr.mono (by decide)) (by rfl) T.m__law_menu T.F__law_menu.kp T.b__law_menu .nil pass0) (pa_cons (pe_op (op_addUk K) pe_int (pe_call (ok__law_draw T) (hr.mono (by decide)) (by rfl) T.m__law_draw T.F__law_draw.kp T.b__law_draw .nil pass0 (pa_cons (pv 0) (pa_cons pe_int pa_nil)))) (pa_cons (pe_lst pa_nil) pa_nil))) (by rfl))
  (pss_cons (ps_for PassesOwn.never rfl (pi_range1 (by rfl) T.m_range (pa_cons (pe_call (ok__law_draw T) (hr.mono (by decide)) (by rfl) T.m__law_draw T.F__law_draw.kp T.b__law_draw .nil pass0 (pa_cons (pv 0) (pa_cons (pe_op (op_addUk K) (pv 1) pe_int) pa_nil))) pa_nil)) (pg_name (i := 5) sc__law_row.nd rfl (Or.inl rfl))
  (pss_one (ps_expr (pe_bm PySem.F.plainAttrs_list PySem.F.slot_list_append PySem.F.type_list_append mt_append (pv 4) (pa_cons (pe_ix (ix_seqk K) (pv 2) (pe_op op_mod (pe_callTy call_int1 (by rfl) T.m_int b_int (pa_cons (pe_op op_mulU (pe_call (ok__law_draw T) (hr.mono (by decide)) (by rfl) T.m__law_draw T.F__law_draw.kp T.b__law_draw .nil pass0 (pa_cons (pv 0) (pa_cons (pv 3) pa_nil))) pe_int) pa_nil)) pe_int) (fun _ _ => rfl)) pa_nil)))))
  (pss_one (ps_ret (pe_callTy (call_tuple_ofk K) (by rfl) T.m_tuple b_tuple (pa_cons (pv 4) pa_nil)))))), ?_⟩
    walk_at "rd"
    refine ⟨rfl, fun mp xs H1 nm s1 hx hS => ?_⟩
    have hma : mp ≠ a := hw.ne nm
    walk_at "rd"
    refine ⟨a, 12, n, rfl, hw.same s1, by omega, by omega, by omega, fun d H2 d0 d1 w2 k2 => ?_⟩
    have hx2 := k2 mp _ hx hma
    have hS2 := hS.mono ((hw.same s1).sameT k2)
    walk_at "rd"
    rename_i fp nf
    have hfa : fp ≠ a := w2.ne nf
    refine ⟨a, _, n + 1, rfl, w2.new nf, by omega, by omega, by omega, fun c H3 c0 c1 w3 k3 => ?_⟩
    walk_at "rd"
    refine k_rng1 (by omega) (by omega) ?_
    have hl12 : xs.length = 12 := Paired.length hS
    have nfH : H fp = none := by
      cases e : H fp with
      | none => rfl
      | some o =>
        have q := k2 _ _ (s1 _ _ e) hfa
        rw [nf] at q
        cases q
    have f2 : ∀ b o, H b = some o → b ≠ a → H3 b = some o := fun b o e hb => k3 b o (lk_new (k2 b o (s1 b o e) hb) nf) hb
    refine k_for walk_range (fun i σ H' => ∃ (ys : List V) (ws : List (List Str)) (v : Option V), σ = [some (.ref a), some (.int m), some (.ref mp), some (.int (1 + d)), some (.ref fp), v] ∧ H' mp = some (.lst xs) ∧ Steps K H' xs menu12 ∧
        H' fp = some (.lst ys) ∧ Steps K H' ys ws ∧ ws.length = i ∧ (∀ x ∈ ws, x ∈ menu12) ∧ WellAt H' a (n + 2 + i) ∧ ∀ b o, H b = some o → b ≠ a → H' b = some o)
      ⟨[], [], none, rfl, k3 _ _ (lk_new hx2 nf) hma, (hS2.mono (SameT.new nf)).mono ((w2.new nf).sameT k3), k3 _ _ upd_same hfa, .nil, rfl, fun x z => absurd z List.not_mem_nil, w3, f2⟩ (fun _ _ _ _ _ => True.intro) ?_ ?_
    · rintro i x σ H4 H5 hi ⟨ys, ws, v, rfl, hm4, hS4, hf4, hW4, hl4, ha4, w4, f4⟩ ⟨rfl, rfl⟩
      have hi' : i < m + 1 := by omega
      walk_at "rd"
      refine ⟨a, _, n + 2 + i, rfl, w4, by omega, by omega, by omega, fun e H6 e0 e1 w6 k6 => ?_⟩
      have hm6 := k6 _ _ hm4 hma
      walk_at "rd"
      have hj : (e * 5 % 12).toNat < 12 := by omega
      obtain ⟨b, wd, hb1, hb2, hb3⟩ := Steps.at_ (j := (e * 5 % 12).toNat) (hS4.mono (w4.sameT k6)) hj
      refine k_ixL (SqL.of hm6) (at_of (j := (e * 5 % 12).toNat) (by omega) hb1) ?_
      have hf6 := k6 _ _ hf4 hfa
      have hly : ys.length = i := (Paired.length hW4).trans hl4
      walk_at "rd"
      have hmf : mp ≠ fp := (ne_of_none hx2 nf)
      refine ⟨_, ws ++ [wd], _, rfl, lk_ne hm6 hmf, (hS4.mono (w4.sameT k6)).mono (SameT.lst hf6), upd_same, Steps.append ((hW4.mono (w4.sameT k6)).mono (SameT.lst hf6)) (.cons ⟨b, rfl, sqT_mono (SameT.lst hf6) hb3⟩ .nil), by rw [List.length_append, hl4]; rfl, ?_, ?_, ?_⟩
      · intro x hx
        rcases List.mem_append.mp hx with h | h
        · exact ha4 x h
        · rw [List.mem_singleton.mp h]
          exact List.mem_of_getElem? hb2
      · exact w6.lst hfa.symm
      · intro b o hb hba
        exact lk_ne (k6 b o (f4 b o hb hba) hba) (ne_of_none hb nfH)
    · rintro σ H4 ⟨ys, ws, v, rfl, hm4, hS4, hf4, hW4, hl4, ha4, w4, f4⟩
      walk_at "rd"
      rename_i p np
      have hc : c.toNat ≤ m := by omega
      refine k p ws _ ⟨ys, SqT.of upd_same, hW4.mono (SameT.new np)⟩ (by omega) ha4 ((w4.new np).le (by omega)) fun b o e hb => lk_new (f4 b o e hb) np
end

def spEqual (K : PySem.W.Frag) (C : Addr) : Sp := fun vs H Q _ => ∃ (p : Addr) (y : V) (ws : List (List Str)) (t due : Bool), vs = [.ref p, y, .bl due] ∧ ScrAt K C H p ws ∧ EqV K C H ws y t ∧ ∀ H', Same H H' → Q (.bl (decide (t = due))) H'
def spOther (K : PySem.W.Frag) : Sp := fun vs H Q _ => ∃ (a r : Addr) (n : Nat) (ws : List (List Str)), vs = [.ref a, .ref r] ∧ WellAt H a n ∧ n ≤ 800000 ∧ Row K H r ws ∧ ws.length ≤ 12 ∧ (∀ x ∈ ws, x ∈ menu12) ∧
  ∀ (r' : Addr) (us : List (List Str)) (H' : Hp), Row K H' r' us → us.length ≤ 12 → (∀ x ∈ us, x ∈ menu12) → WellAt H' a (n + 20) → But a H H' → Q (.ref r') H'
def spHolds (K : PySem.W.Frag) (C : Addr) : Sp := fun vs H Q _ => ∃ (p r : Addr) (way : Int) (ws : List (List Str)), vs = [.ref p, .ref r, .int way] ∧ ScrAt K C H p ws ∧ Row K H r ws ∧ ∀ H', Same H H' → Q (.bl true) H'
def spMade (K : PySem.W.Frag) (C : Addr) : Sp := fun vs H Q _ => ∃ (p r : Addr) (ws : List (List Str)), vs = [.ref p, .ref r] ∧ ScrAt K C H p ws ∧ Row K H r ws ∧ ∀ H', Same H H' → Q (.bl true) H'
set_option maxHeartbeats 8000000
section
variable {P : Program} {w : World} {K : PySem.W.Frag} {mg : Str → Option Value} {base : Heap}
theorem ok__law_equal (T : Txt P K mg) : FnOk P w K mg base CX0 4 T.f__law_equal T.d__law_equal ["one", "other", "due"] (spEqual K T.a_Script) := by
  refine T.F__law_equal.ok sc__law_equal (fun vs H Q E h => ?_) (fun cdv A outer s H vs Q E hr h => ?_)
  · obtain ⟨p, y, ws, t, due, rfl, _⟩ := h
    rfl
  · obtain ⟨p, y, ws, t, due, rfl, S, e, k⟩ := h
    refine ⟨_, (pss_cons (ps_set (i := 3) sc__law_equal.nd rfl (Or.inl rfl) (pe_lst (pa_cons (pe_cmpR (op_eqA T.ap_Script T.fe_Script T.fn_Script (ok_Script___eq__ T) (hr.mono (by decide)) T.b_Script___eq__ pass0) (pv 0) (pv 1) (nomark _)) (pa_cons (pe_cmpR (op_eqA T.ap_Script T.fe_Script T.fn_Script (ok_Script___eq__ T) (hr.mono (by decide)) T.b_Script___eq__ pass0) (pv 1) (pv 0) (nomark _)) (pa_cons (pe_not (pe_cmpR (op_neA T.ap_Script T.ne_Script T.so_Script T.fe_Script T.fn_Script (ok_Script___eq__ T) (hr.mono (by decide)) T.b_Script___eq__ pass0) (pv 0) (pv 1) (nomark _))) (pa_cons (pe_not (pe_cmpR (op_neA T.ap_Script T.ne_Script T.so_Script T.fe_Script T.fn_Script (ok_Script___eq__ T) (hr.mono (by decide)) T.b_Script___eq__ pass0) (pv 1) (pv 0) (nomark _))) pa_nil))))))
  (pss_one (ps_ret (pe_callB (cr_allk K rfl) (by rfl) T.m_all b_all (pa_cons (pe_lc (own := [("word", 4)]) (g := (gName 4)) (tt := tYes) rfl sc__law_equal.nd (pi_seqk K (pv 3)) (blkOk_by (own := [("word", 4)]) (N := N__law_equal) (sc := defScope s__law_equal) (by decide +kernel)) (fun _ _ _ _ _ => (pg_name (i := 4) sc__law_equal.nd rfl (Or.inl rfl))) (fun _ _ _ _ _ => pts_nil) (fun _ _ _ _ _ => (pe_and (pe_callB (call_isiUk K) (by rfl) T.m_isinstance b_isinstance (pa_cons (pv 4) (pa_cons (pe_bty (by rfl) T.m_bool b_bool) pa_nil))) (pe_one (pe_cmpR (op_eqUk K (hu65 hr)) (pv 4) (pv 2) (nomark _)))))) pa_nil))))), ?_⟩
    walk_at "rd"
    refine eq_12 S e fun H1 s1 => ?_
    walk_at "rd"
    refine eq_21 (S.same s1) (e.same s1) fun H2 s2 => ?_
    walk_at "rd"
    refine ne_12 ((S.same s1).same s2) ((e.same s1).same s2) fun H3 s3 => ?_
    walk_at "rd"
    refine ne_21 (((S.same s1).same s2).same s3) (((e.same s1).same s2).same s3) fun H4 s4 => ?_
    walk_at "rd"
    rename_i p0 np0
    simp only [Bool.not_not]
    have s04 : Same H H4 := s1.trans (s2.trans (s3.trans s4))
    have s05 : Same H (upd H4 p0 (.lst [.bl t, .bl t, .bl t, .bl t])) := s04.trans (Same.new np0)
    have h05 : (upd H4 p0 (.lst [.bl t, .bl t, .bl t, .bl t])) p0 = some (.lst [.bl t, .bl t, .bl t, .bl t]) := upd_same
    generalize upd H4 p0 (.lst [.bl t, .bl t, .bl t, .bl t]) = H5 at s05 h05 ⊢
    refine k_lc walk_list fun l nl => ⟨fun i H' => Same H5 H' ∧ H' l = some (.lst ((List.replicate i (decide (t = due))).map V.bl)), ⟨Same.new nl, upd_same⟩, fun i H' _ h => SqL.of (h.1 _ _ h05), ?_, ?_⟩
    · rintro i y H6 H7 hi ⟨s6, h6⟩ ⟨rfl, hy⟩
      have hi4 : i < 4 := hi
      obtain rfl : y = .bl t := by
        have hy' : ([.bl t, .bl t, .bl t, .bl t] : List V)[i]? = some y := hy
        match i, hi4, hy' with
        | 0, _, h => exact (Option.some.inj h).symm
        | 1, _, h => exact (Option.some.inj h).symm
        | 2, _, h => exact (Option.some.inj h).symm
        | 3, _, h => exact (Option.some.inj h).symm
      walk_at "rs"
      refine ⟨trivial, ?_⟩
      walk_at "rd"
      refine k_acc h6 (by rw [List.length_map, List.length_replicate]; omega) ⟨Same.upd_new s6 nl, ?_⟩
      rw [upd_same, List.map_replicate, ← List.replicate_succ, List.replicate_succ']
    · rintro H6 ⟨s6, h6⟩
      walk_at "rd"
      refine k_all (SqL.of h6) ?_
      have e4 : (List.replicate ([.bl t, .bl t, .bl t, .bl t] : List V).length (decide (t = due))).all id = decide (t = due) := by
        simp
      rw [e4]
      exact k H6 (s05.trans s6)
theorem ok__law_other (T : Txt P K mg) : FnOk P w K mg base CX0 3 T.f__law_other T.d__law_other ["well", "row"] (spOther K) := by
  refine T.F__law_other.ok sc__law_other (fun vs H Q E h => ?_) (fun cdv A outer s H vs Q E hr h => ?_)
  · obtain ⟨a, r, n, ws, rfl, _⟩ := h
    rfl
  · obtain ⟨a, r, n, ws, rfl, W0, hn, R0, hl, hm, k⟩ := h
    refine ⟨_, (pss_cons (ps_par3 (i := 2) (j := 3) (l := 4) rfl sc__law_other.nd rfl rfl rfl (by decide) (by decide) (by decide) rfl rfl rfl (pa_cons (pe_call (ok__law_draw T) (hr.mono (by decide)) (by rfl) T.m__law_draw T.F__law_draw.kp T.b__law_draw .nil pass0 (pa_cons (pv 0) (pa_cons pe_int pa_nil))) (pa_cons (pe_call (ok__law_draw T) (hr.mono (by decide)) (by rfl) T.m__law_draw T.F__law_draw.kp T.b__law_draw .nil pass0 (pa_cons (pv 0) (pa_cons pe_int pa_nil))) (pa_cons (pe_call (ok__law_draw T) (hr.mono (by decide)) (by rfl) T.m__law_draw T.F__law_draw.kp T.b__law_draw .nil pass0 (pa_cons (pv 0) (pa_cons pe_int pa_nil))) pa_nil))) (by rfl))
  (pss_cons (ps_par (i := 5) (j := 6) rfl sc__law_other.nd rfl rfl (by decide) rfl rfl (pa_cons (pe_ix (ix_seqk K) (pe_call0 (ok__law_menu T) (hr.mono (by decide)) (by rfl) T.m__law_menu T.F__law_menu.kp T.b__law_menu .nil pass0) (pe_call (ok__law_draw T) (hr.mono (by decide)) (by rfl) T.m__law_draw T.F__law_draw.kp T.b__law_draw .nil pass0 (pa_cons (pv 0) (pa_cons pe_int pa_nil))) (fun _ _ => rfl)) (pa_cons (pe_callTy (call_list_ofk K) (by rfl) T.m_list b_list (pa_cons (pv 1) pa_nil)) pa_nil)) (by rfl))
  (pss_cons (ps_if (PW.pt (pw_and (pt_cmpR (op_eqUk K (hu65 hr)) (pv 2) pe_int (nomark _)) (pw_and1 (pt_cmpR op_lt (pe_callB (call_lenUk K) (by rfl) T.m_len b_len (pa_cons (pv 1) pa_nil)) pe_int (nomark _))))) (pss_one (ps_expr (pe_bm PySem.F.plainAttrs_list PySem.F.slot_list_insert PySem.F.type_list_insert mt_insertk (pv 6) (pa_cons (pv 3) (pa_cons (pv 5) pa_nil))))) (pss_one (ps_if (PW.pt (pw_and (pt_cmpR (op_eqUk K (hu65 hr)) (pv 2) pe_int (nomark _)) (pw_and1 (pt_cmpR op_lt (pv 3) (pe_callB (call_lenUk K) (by rfl) T.m_len b_len (pa_cons (pv 1) pa_nil)) (nomark _))))) (pss_one (ps_expr (pe_bm PySem.F.plainAttrs_list PySem.F.slot_list_pop PySem.F.type_list_pop mt_popAtk (pv 6) (pa_cons (pv 3) pa_nil)))) (pss_one (ps_if (PW.pt (pw_and (pt_cmpR (op_eqUk K (hu65 hr)) (pv 2) pe_int (nomark _)) (pw_and1 (pt_cmpR op_lt (pv 3) (pe_callB (call_lenUk K) (by rfl) T.m_len b_len (pa_cons (pv 1) pa_nil)) (nomark _))))) (pss_one (ps_asg (pv 5) (pg_sub (pv 6) (pv 3) set_list))) (pss_one (ps_if (PW.pt (pw_and (pt_cmpR (op_eqUk K (hu65 hr)) (pv 2) pe_int (nomark _)) (pw_and (pt_cmpR op_lt (pv 3) (pe_callB (call_lenUk K) (by rfl) T.m_len b_len (pa_cons (pv 1) pa_nil)) (nomark _)) (pw_and1 (pt_cmpR op_lt (pv 4) (pe_callB (call_lenUk K) (by rfl) T.m_len b_len (pa_cons (pv 1) pa_nil)) (nomark _)))))) (pss_cons (ps_asg (pe_ix (ix_seqk K) (pv 1) (pv 4) (fun _ _ => rfl)) (pg_sub (pv 6) (pv 3) set_list))
  (pss_one (ps_asg (pe_ix (ix_seqk K) (pv 1) (pv 3) (fun _ _ => rfl)) (pg_sub (pv 6) (pv 4) set_list)))) (pss_one (ps_if (pt_cmpR (op_eqUk K (hu65 hr)) (pv 2) pe_int (nomark _)) (pss_one (ps_set (i := 6) sc__law_other.nd rfl (Or.inl rfl) (pe_callTy (call_list_ofk K) (by rfl) T.m_list b_list (pa_cons (pe_call (ok__law_row T) (hr.mono (by decide)) (by rfl) T.m__law_row T.F__law_row.kp T.b__law_row .nil pass0 (pa_cons (pv 0) (pa_cons pe_int pa_nil))) pa_nil)))) pss_nil)))))))))
  (pss_one (ps_ret (pe_callTy (call_tuple_ofk K) (by rfl) T.m_tuple b_tuple (pa_cons (pv 6) pa_nil))))))), ?_⟩
    walk_at "rd"
    refine ⟨a, 6, n, rfl, W0, by omega, by omega, by omega, fun way H1 w0 w1 W1 b1 => ?_⟩
    walk_at "rd"
    refine ⟨a, 12, _, rfl, W1, by omega, by omega, by omega, fun spot H2 p0 p1 W2 b2 => ?_⟩
    walk_at "rd"
    refine ⟨a, 12, _, rfl, W2, by omega, by omega, by omega, fun place H3 q0 q1 W3 b3 => ?_⟩
    walk_at "rd"
    refine ⟨rfl, fun mp xs H4 nm s4 hx hS => ?_⟩
    have W4 := W3.same s4
    have hma : mp ≠ a := W3.ne nm
    have hl12 : xs.length = 12 := hS.len
    walk_at "rd"
    refine ⟨a, 12, _, rfl, W4, by omega, by omega, by omega, fun e H5 e0 e1 W5 b5 => ?_⟩
    have hx5 := b5 mp _ hx hma
    have hj : e.toNat < 12 := by omega
    obtain ⟨b, wd, hb1, hb2, hb3⟩ := Steps.at_ (j := e.toNat) (hS.mono (W4.sameT b5)) hj
    have hwd := List.mem_of_getElem? hb2
    walk_at "rd"
    refine k_ixL (SqL.of hx5) (at_of (j := e.toNat) (by omega) hb1) ?_
    have t05 : SameT H H5 := (((W0.sameT b1).trans (W1.sameT b2)).trans (W2.sameT b3)).trans ((SameT.of s4).trans (W4.sameT b5))
    have b05 : But a H H5 := But.trans (But.trans (But.trans (But.trans b1 b2) b3) (But.of s4)) b5
    obtain ⟨zs, z1, z2⟩ := R0.mono t05
    have ez := z2.len
    walk_at "rd"
    rename_i f nf
    have W6 := W5.new (o := .lst zs) nf
    have nfa : f ≠ a := W5.ne nf
    have t6 : SameT H5 (upd H5 f (.lst zs)) := SameT.new nf
    have z16 := sqT_mono t6 z1
    have z26 := z2.mono t6
    have b6 : But a H (upd H5 f (.lst zs)) := But.trans b05 (But.of (Same.new nf))
    have nHf : H f = none := But.free b05 nf nfa
    have hf6 : (upd H5 f (.lst zs)) f = some (.lst zs) := upd_same
    have hb6 := sqT_mono t6 hb3
    revert W6 z16 z26 b6 hf6 hb6
    generalize upd H5 f (.lst zs) = H6
    intro W6 z16 z26 b6 hf6 hb6
    have w0' : way < 6 := w1
    clear W0 W1 W2 W3 W4 W5 b1 b2 b3 b5 s4 hx hx5 hS t6 t05 b05 z1 z2 nf nm R0 hb3
    have sp : ((spot.toNat : Nat) : Int) = spot := by omega
    have pl : ((place.toNat : Nat) : Int) = place := by omega
    refine ite2 (fun hw => ?_) (fun hw0 => ?_)
    · subst hw
      walk_at "rd"
      refine ite2 (fun h12 => ?_) (fun h12 => ?_)
      · walk_at "rd"
        refine k_insert hf6 (by omega) p0 (by omega) ?_
        walk_at "rd"
        rename_i t nt
        refine k t (ws.take spot.toNat ++ [wd] ++ ws.drop spot.toNat) _ ⟨_, SqT.of upd_same, ((((z26.take _).append (Steps.one hb6)).append (z26.drop _)).mono (SameT.lst hf6)).mono (SameT.new nt)⟩ ?_ ?_ (((W6.lst nfa.symm).new nt).le (by omega)) (But.trans (But.upd_new b6 nHf) (But.of (Same.new nt)))
        · rw [List.length_append, List.length_append, List.length_take, List.length_drop]
          simp only [List.length_cons, List.length_nil]
          omega
        · intro x hx
          rcases List.mem_append.mp hx with h | h
          · rcases List.mem_append.mp h with h | h
            · exact hm x (List.mem_of_mem_take h)
            · rw [List.mem_singleton.mp h]
              exact hwd
          · exact hm x (List.mem_of_mem_drop h)
      · walk_at "rd"
        rename_i t nt
        exact k t ws _ ⟨_, SqT.of upd_same, z26.mono (SameT.new nt)⟩ hl hm ((W6.new nt).le (by omega)) (But.trans b6 (But.of (Same.new nt)))
    · walk_at "rd"
      refine ite2 (fun hw => ?_) (fun hw1 => ?_)
      · subst hw
        walk_at "rd"
        refine ite2 (fun h12 => ?_) (fun h12 => ?_)
        · have hlt : spot.toNat < zs.length := by omega
          walk_at "rd"
          refine k_popAt hf6 sp.symm (by omega) (List.getElem?_eq_getElem hlt) ?_
          walk_at "rd"
          rename_i t nt
          refine k t (ws.eraseIdx spot.toNat) _ ⟨_, SqT.of upd_same, Steps.mono (SameT.new nt) (Steps.mono (SameT.lst hf6) (Paired.erase _ z26))⟩ (Nat.le_trans (List.length_eraseIdx_le _ _) hl) (fun x hx => hm x (List.mem_of_mem_eraseIdx hx)) (((W6.lst nfa.symm).new nt).le (by omega)) (But.trans (But.upd_new b6 nHf) (But.of (Same.new nt)))
        · walk_at "rd"
          rename_i t nt
          exact k t ws _ ⟨_, SqT.of upd_same, z26.mono (SameT.new nt)⟩ hl hm ((W6.new nt).le (by omega)) (But.trans b6 (But.of (Same.new nt)))
      · walk_at "rd"
        refine ite2 (fun hw => ?_) (fun hw2 => ?_)
        · subst hw
          walk_at "rd"
          refine ite2 (fun h12 => ?_) (fun h12 => ?_)
          · have hlt : spot.toNat < zs.length := by omega
            walk_at "rd"
            refine k_setL (j := spot.toNat) hf6 (by unfold ixN; rw [if_pos p0, if_pos (by omega)]) ?_
            walk_at "rd"
            rename_i t nt
            refine k t (ws.set spot.toNat wd) _ ⟨_, SqT.of upd_same, Steps.mono (SameT.new nt) (Steps.mono (SameT.lst hf6) (Paired.setN ⟨b, rfl, hb6⟩ _ z26))⟩ (by rw [List.length_set]; exact hl) (fun x hx => (List.mem_or_eq_of_mem_set hx).elim (hm x) fun h => by rw [h]; exact hwd) (((W6.lst nfa.symm).new nt).le (by omega)) (But.trans (But.upd_new b6 nHf) (But.of (Same.new nt)))
          · walk_at "rd"
            rename_i t nt
            exact k t ws _ ⟨_, SqT.of upd_same, z26.mono (SameT.new nt)⟩ hl hm ((W6.new nt).le (by omega)) (But.trans b6 (But.of (Same.new nt)))
        · walk_at "rd"
          refine ite2 (fun hw => ?_) (fun hw3 => ?_)
          · subst hw
            walk_at "rd"
            refine ite2 (fun h12 => ?_) (fun h12 => ?_)
            · walk_at "rd"
              refine ite2 (fun h13 => ?_) (fun h13 => ?_)
              · obtain ⟨c1, u1, x1, y1, q1⟩ := Steps.at_ (j := spot.toNat) z26 (by omega)
                obtain ⟨c2, u2, x2, y2, q2⟩ := Steps.at_ (j := place.toNat) z26 (by omega)
                walk_at "rd"
                refine k_ixT z16 (at_of (j := place.toNat) pl.symm x2) ?_
                walk_at "rd"
                refine k_setL (j := spot.toNat) hf6 (by unfold ixN; rw [if_pos p0, if_pos (by omega)]) ?_
                walk_at "rd"
                refine k_ixT (sqT_lst (h := hf6) z16) (at_of (j := spot.toNat) sp.symm x1) ?_
                walk_at "rd"
                refine k_setL (j := place.toNat) upd_same (by unfold ixN; rw [if_pos q0, if_pos (by rw [List.length_set]; omega)]) ?_
                rw [upd_upd]
                walk_at "rd"
                rename_i t nt
                refine k t ((ws.set spot.toNat u2).set place.toNat u1) _ ⟨_, SqT.of upd_same, Steps.mono (SameT.new nt) (Steps.mono (SameT.lst hf6) (Paired.setN ⟨c1, rfl, q1⟩ _ (Paired.setN ⟨c2, rfl, q2⟩ _ z26)))⟩ (by rw [List.length_set, List.length_set]; exact hl) (fun x hx => (List.mem_or_eq_of_mem_set hx).elim (fun hx => (List.mem_or_eq_of_mem_set hx).elim (hm x) fun h => by rw [h]; exact hm _ (List.mem_of_getElem? y2)) fun h => by rw [h]; exact hm _ (List.mem_of_getElem? y1)) (((W6.lst nfa.symm).new nt).le (by omega)) (But.trans (But.upd_new b6 nHf) (But.of (Same.new nt)))
              · walk_at "rd"
                rename_i t nt
                exact k t ws _ ⟨_, SqT.of upd_same, z26.mono (SameT.new nt)⟩ hl hm ((W6.new nt).le (by omega)) (But.trans b6 (But.of (Same.new nt)))
            · walk_at "rd"
              rename_i t nt
              exact k t ws _ ⟨_, SqT.of upd_same, z26.mono (SameT.new nt)⟩ hl hm ((W6.new nt).le (by omega)) (But.trans b6 (But.of (Same.new nt)))
          · walk_at "rd"
            refine ite2 (fun hw => ?_) (fun hw4 => ?_)
            · walk_at "rd"
              refine ⟨a, 12, _, rfl, W6, by omega, by omega, fun r2 us H7 R7 hl7 hm7 W7 b7 => ?_⟩
              have b7' : But a H6 H7 := b7
              obtain ⟨ys, y1, y2⟩ := id R7
              walk_at "rd"
              rename_i g ng t nt
              exact k t us _ ⟨_, SqT.of upd_same, (y2.mono (SameT.new ng)).mono (SameT.new nt)⟩ hl7 hm7 (((W7.new ng).new nt).le (by omega)) (But.trans (But.trans b6 b7') (But.of ((Same.new ng).trans (Same.new nt))))
            · walk_at "rd"
              rename_i t nt
              exact k t ws _ ⟨_, SqT.of upd_same, z26.mono (SameT.new nt)⟩ hl hm ((W6.new nt).le (by omega)) (But.trans b6 (But.of (Same.new nt)))
theorem ok__law_holds (T : Txt P K mg) : FnOk P w K mg base CX0 3 T.f__law_holds T.d__law_holds ["work", "row", "way"] (spHolds K T.a_Script) := by
  refine T.F__law_holds.ok sc__law_holds (fun vs H Q E h => ?_) (fun cdv A outer s H vs Q E hr h => ?_)
  · obtain ⟨p, r, way, ws, rfl, _⟩ := h
    rfl
  · obtain ⟨p, r, way, ws, rfl, S, R, k⟩ := h
    refine ⟨_, (pss_cons (ps_for PassesOwn.never rfl (pi_seqk K (pe_call0 (ok__law_menu T) (hr.mono (by decide)) (by rfl) T.m__law_menu T.F__law_menu.kp T.b__law_menu .nil pass0)) (pg_name (i := 3) sc__law_holds.nd rfl (Or.inl rfl))
  (pss_one (ps_if (pt_cmpR (op_neUk K (hu65 hr)) (pe_cmpR (op_inO T.me_Script___contains__.at_ T.me_Script___contains__.fn (ok_Script___contains__G T) (hr.mono (by decide)) T.b_Script___contains__ pass0) (pv 3) (pv 0) (by rfl)) (pe_cmpR (op_inUk K (hu65 hr)) (pv 3) (pv 1) (by rfl)) (nomark _)) (pss_one (ps_ret pe_bl)) pss_nil)))
  (pss_one (ps_ret (pe_cmpR op_isU (pe_cmpR (op_inO T.me_Script___contains__.at_ T.me_Script___contains__.fn (ok_Script___contains__G T) (hr.mono (by decide)) T.b_Script___contains__ pass0) (pe_call (ok__law_no_step T) (hr.mono (by decide)) (by rfl) T.m__law_no_step T.F__law_no_step.kp T.b__law_no_step .nil pass0 (pa_cons (pv 2) pa_nil)) (pv 0) (by rfl)) pe_bl (nomark _))))), ?_⟩
    obtain ⟨⟨dx, l, xs, h1, h2, h3⟩, h4, h5⟩ := id S
    walk_at "rd"
    refine ⟨rfl, fun mp zs H1 nm s1 hz hZ => ?_⟩
    have hl12 : zs.length = 12 := hZ.len
    walk_at "rd"
    refine k_for walk_list (fun i σ H' => ∃ v : Option V, σ = [some (.ref p), some (.ref r), some (.int way), v] ∧ Same H1 H') ⟨none, rfl, Same.refl _⟩ (fun i σ H' _ ⟨_, _, e⟩ => SqL.of (e _ _ hz)) ?_ ?_
    · rintro i x σ H2' H3 hi ⟨v, rfl, s2⟩ ⟨rfl, hx⟩
      obtain ⟨b, wd, hb1, hb2, hb3⟩ := Steps.at_ (j := i) (hZ.mono (SameT.of s2)) (by rw [← hZ.len]; exact hi)
      have hx' : zs[i]? = some x := hx
      rw [hb1] at hx'
      cases hx'
      have hwd := List.mem_of_getElem? hb2
      have s02 : Same H H3 := s1.trans s2
      walk_at "rd"
      refine ⟨p, dx, _, rfl, s02 _ _ h1, p, .ref b, some wd, ws, rfl, S.same s02, ⟨b, rfl, hb3, hwd⟩, fun H4 s4 => ⟨_, rfl, ?_⟩⟩
      walk_at "rd"
      have s04 : Same H H4 := s02.trans s4
      refine k_inT (dp_step (sqT_mono (SameT.of s4) hb3)) ((R.mono (SameT.of s04)).dp) (step_shaped wd hwd).1 (steps_shaped h5).2 ?_
      rw [any_step]
      walk_at "rd"
      have e : (!(decide (wd ∈ ws) == decide (wd ∈ ws))) = false := by simp
      try rw [e]
      try simp only [beq_self_eq_true, Bool.not_true, Bool.false_eq_true, if_false]
      walk_at "rd"
      exact ⟨_, rfl, s2.trans s4⟩
    · rintro σ H2 ⟨v, rfl, s2⟩
      have s02 : Same H H2 := s1.trans s2
      walk_at "rd"
      refine ⟨way, rfl, fun v H3 s3 hv => ?_⟩
      have s03 : Same H H3 := s02.trans s3
      walk_at "rd"
      refine ⟨p, dx, _, rfl, s03 _ _ h1, p, v, none, ws, rfl, S.same s03, hv, fun H4 s4 => ⟨_, rfl, ?_⟩⟩
      walk_at "rd"
      exact k _ (s03.trans s4)
theorem ok__law_made (T : Txt P K mg) : FnOk P w K mg base CX0 5 T.f__law_made T.d__law_made ["work", "row"] (spMade K T.a_Script) := by
  refine T.F__law_made.ok sc__law_made (fun vs H Q E h => ?_) (fun cdv A outer s H vs Q E hr h => ?_)
  · obtain ⟨p, r, ws, rfl, _⟩ := h
    rfl
  · obtain ⟨p, r, ws, rfl, S, R, k⟩ := h
    refine ⟨_, (pss_cons (ps_if (pt_not (pt_val (pe_call (ok__law_equal T) (hr.mono (by decide)) (by rfl) T.m__law_equal T.F__law_equal.kp T.b__law_equal .nil pass0 (pa_cons (pe_op (op_addO T.me_Script___add__.at_ T.me_Script___add__.fn T.sf_Script (ok_Script___add__ T) (hr.mono (by decide)) T.b_Script___add__ passX0) (pv 0) (pe_make T.M_Script (ok_Script___init__ T) (hr.mono (by decide)) (by rfl) T.m_Script T.b_Script___init__ .nil passX0 (pa_cons (pe_tup pa_nil) pa_nil))) (pa_cons (pe_make T.M_Script (ok_Script___init__ T) (hr.mono (by decide)) (by rfl) T.m_Script T.b_Script___init__ .nil passX0 (pa_cons (pv 1) pa_nil)) (pa_cons pe_bl pa_nil)))))) (pss_one (ps_ret pe_bl)) pss_nil)
  (pss_cons (ps_if (pt_cmpR (op_eqUk K (hu65 hr)) (pv 1) (pe_tup pa_nil) (nomark _)) (pss_one (ps_ret (pe_call (ok__law_equal T) (hr.mono (by decide)) (by rfl) T.m__law_equal T.F__law_equal.kp T.b__law_equal .nil pass0 (pa_cons (pe_meth (pv 0) T.cl_Script T.me_Script_with_step (ok_Script_with_step T) (hr.mono (by decide)) T.b_Script_with_step .nil passX0 (pa_cons pe_int (pa_cons (pe_tup (pa_cons pe_str pa_nil)) pa_nil))) (pa_cons (pe_make T.M_Script (ok_Script___init__ T) (hr.mono (by decide)) (by rfl) T.m_Script T.b_Script___init__ .nil passX0 (pa_cons (pe_tup (pa_cons (pe_tup (pa_cons pe_str pa_nil)) pa_nil)) pa_nil)) (pa_cons pe_bl pa_nil)))))) pss_nil)
  (pss_cons (ps_set (i := 2) sc__law_made.nd rfl (Or.inl rfl) (pe_meth (pv 0) T.cl_Script T.me_Script_without (ok_Script_without T) (hr.mono (by decide)) T.b_Script_without .nil passX0 (pa_cons pe_int pa_nil)))
  (pss_cons (ps_if (PW.pt (pw_or (pt_not (pt_val (pe_call (ok__law_equal T) (hr.mono (by decide)) (by rfl) T.m__law_equal T.F__law_equal.kp T.b__law_equal .nil pass0 (pa_cons (pv 2) (pa_cons (pe_make T.M_Script (ok_Script___init__ T) (hr.mono (by decide)) (by rfl) T.m_Script T.b_Script___init__ .nil passX0 (pa_cons (pe_slice (sl_Uk K) (pv 1) (po_some pe_int) po_none) pa_nil)) (pa_cons pe_bl pa_nil)))))) (pw_or1 (pt_not (pt_val (pe_call (ok__law_equal T) (hr.mono (by decide)) (by rfl) T.m__law_equal T.F__law_equal.kp T.b__law_equal .nil pass0 (pa_cons (pe_meth (pv 2) T.cl_Script T.me_Script_with_step (ok_Script_with_step T) (hr.mono (by decide)) T.b_Script_with_step .nil passX0 (pa_cons pe_int (pa_cons (pe_ix (ix_seqk K) (pv 1) pe_int (fun _ _ => rfl)) pa_nil))) (pa_cons (pv 0) (pa_cons pe_bl pa_nil))))))))) (pss_one (ps_ret pe_bl)) pss_nil)
  (pss_one (ps_ret (pe_call (ok__law_equal T) (hr.mono (by decide)) (by rfl) T.m__law_equal T.F__law_equal.kp T.b__law_equal .nil pass0 (pa_cons (pv 2) (pa_cons (pv 0) (pa_cons pe_bl pa_nil)))))))))), ?_⟩
    have c1 := T.cl_Script
    obtain ⟨⟨dx, l, xs, h1, h2, h3⟩, h4, h5⟩ := id S
    walk_at "rd"
    rename_i t0 nt0
    refine k_newScrG (ws := []) ⟨[], SqT.of upd_same, .nil⟩ (by decide) (fun x h => absurd h List.not_mem_nil) fun q lq H2 nq nlq s2 Lq => ?_
    have s02 : Same H H2 := (Same.new nt0).trans s2
    obtain ⟨dq, xq, g1, g2, g3, _⟩ := id Lq
    refine ⟨p, q, dx, dq, _, _, rfl, rfl, s02 _ _ h1, g1, p, q, ws, [], rfl, S.same s02, Lq.at_, by simpa using h4, fun x lx H3 nx nlx s3 Lx => ?_⟩
    rw [List.append_nil] at Lx
    have s03 : Same H H3 := s02.trans s3
    walk_at "rd"
    refine k_newScrG (R.mono (SameT.of s03)) h4 h5 fun y ly H4 ny nly s4 Ly => ?_
    walk_at "rd"
    refine ⟨x, .ref y, ws, true, true, rfl, Lx.at_.same s4, .inl ⟨y, ws, rfl, Ly.at_, by simp⟩, fun H5 s5 => ?_⟩
    have s05 : Same H H5 := s03.trans (s4.trans s5)
    have R5 := R.mono (SameT.of s05)
    have S5 := S.same s05
    clear Lx Ly Lq g1 g2 g3
    walk_at "rd"
    rename_i t1 nt1
    have s6 := s05.trans (Same.new nt1 (o := .tup []))
    refine k_eq_D (R.mono (SameT.of s6)).dp (.tup (SqT.of upd_same) .nil) (steps_shaped h5).2 (by decide) ?_
    have e : PyData.eqv (.tuple (ws.map stepD)) (.tuple []) = decide (ws = []) := by
      simp only [PyData.eqv]
      exact eqvAll_rows ws []
    rw [e]
    generalize upd H5 t1 (.tup []) = H6 at s6 ⊢
    have S6 := S.same s6
    have R6 := R.mono (SameT.of s6)
    cases hws : ws with
    | nil =>
      subst hws
      walk_at "rd"
      try simp only [decide_true, if_true]
      walk_at "rd"
      rename_i t2 nt2
      have s7 : Same H6 (upd H6 t2 (.tup [.str "drop"])) := Same.new nt2
      refine ⟨p, t2, 0, ["drop"], [], rfl, S6.same s7, SqT.of upd_same, by decide, by decide, by decide, fun x lx H8 nx nlx s8 Lx => ?_⟩
      walk_at "rd"
      rename_i t3 nt3 t4 nt4
      have s9 : Same H8 (upd (upd H8 t3 (.tup [.str "drop"])) t4 (.tup [.ref t3])) := (Same.new nt3).trans (Same.new nt4)
      refine k_newScrG (ws := [["drop"]]) ⟨[.ref t3], SqT.of upd_same, .cons ⟨t3, rfl, SqT.of (lk_new upd_same nt4)⟩ .nil⟩ (by decide) (by decide) fun y ly H9 ny nly s10 Ly => ?_
      walk_at "rd"
      refine ⟨x, .ref y, [["drop"]], true, true, rfl, Lx.at_.same (s9.trans s10), .inl ⟨y, _, rfl, Ly.at_, by simp⟩, fun H10 s11 => ?_⟩
      exact k H10 (s6.trans (s7.trans (s8.trans (s9.trans (s10.trans s11)))))
    | cons wd us =>
      subst hws
      walk_at "rd"
      try simp only [reduceCtorEq, decide_false, Bool.false_eq_true, if_false]
      walk_at "rd"
      refine ⟨p, 0, _, rfl, S6, by simp, fun x lx H7 nx nlx s7 Lx => ?_⟩
      have Lx' : ScrL K T.a_Script H7 x lx us := Lx
      have Ul : us.length ≤ 12 := by simp only [List.length_cons] at h4; omega
      have Um : ∀ z ∈ us, z ∈ menu12 := fun z hz => h5 z (List.mem_cons_of_mem _ hz)
      have s07 := s6.trans s7
      obtain ⟨ys, y1, y2⟩ := R.mono (SameT.of s07)
      walk_at "rd"
      refine k_slT y1 fun c H8 s8 c1 => ?_
      have e1i : (1 : Int) = ((1 : Nat) : Int) := rfl
      rw [e1i, cutV_eq, cutG_from] at c1
      have R8 : Row K H8 c us := ⟨_, c1, (y2.drop 1).mono (SameT.of s8)⟩
      refine k_newScrG R8 Ul Um fun y ly H9 ny nly s9 Ly => ?_
      walk_at "rd"
      refine ⟨x, .ref y, us, true, true, rfl, Lx'.at_.same (s8.trans s9), .inl ⟨y, us, rfl, Ly.at_, by simp⟩, fun H10 s10 => ?_⟩
      have s710 : Same H7 H10 := s8.trans (s9.trans s10)
      obtain ⟨b, wd', b1, b2, b3⟩ := Steps.at_ (j := 0) (y2.mono (SameT.of s710)) (by simp)
      obtain rfl : wd = wd' := Option.some.inj b2
      obtain ⟨dy, xy, L1, L2', L3, L4, L5⟩ := Lx'.same s710
      walk_at "rd"
      refine k_ixT (sqT_mono (SameT.of s710) y1) (at_of (j := 0) rfl b1) ?_
      walk_at "rd"
      refine ⟨x, b, 0, wd, us, rfl, (Lx'.same s710).at_, b3, h5 _ List.mem_cons_self, by omega, by simp only [List.length_cons] at h4; omega, fun z lz H11 nz nlz s11 Lz => ?_⟩
      have Lz' : ScrL K T.a_Script H11 z lz (wd :: us) := Lz
      have s011 : Same H H11 := s07.trans (s710.trans s11)
      walk_at "rd"
      refine ⟨z, .ref p, wd :: us, true, true, rfl, Lz'.at_, .inl ⟨p, _, rfl, S.same s011, by simp⟩, fun H12 s12 => ?_⟩
      walk_at "rd"
      have s012 := s011.trans s12
      refine ⟨x, .ref p, us, false, false, rfl, (Lx'.same (s710.trans (s11.trans s12))).at_, .inl ⟨p, _, rfl, S.same s012, ?_⟩, fun H13 s13 => ?_⟩
      · exact (decide_eq_false fun h => by have := congrArg List.length h; simp only [List.length_cons] at this; omega).symm
      · exact k H13 (s012.trans s13)
end

set_option Elab.async false
set_option linter.all false
set_option maxRecDepth 100000


def spLaw (K : PySem.W.Frag) : Sp := fun vs H Q _ => ∃ (a : Addr) (ns : List Int), vs = [.ref a] ∧ SqL K H a (ns.map V.int) ∧ ns.length ≤ 63 ∧ (∀ z ∈ ns, Builtin.Int.intBits z ≤ 1048576) ∧ ∀ H', Q (.bl true) H'
set_option maxHeartbeats 8000000
section
variable {P : Program} {w : World} {K : PySem.W.Frag} {mg : Str → Option Value} {base : Heap}
theorem ok_law (T : Txt P K mg) : FnOk P w K mg base CX0 8 T.f_law T.d_law ["script"] (spLaw K) := by
  refine T.F_law.ok sc_law (fun vs H Q E h => ?_) (fun cdv A outer s H vs Q E hr h => ?_)
  · obtain ⟨a, ns, rfl, _⟩ := h
    rfl
  · obtain ⟨a, ns, rfl, ha, hl, hb, k⟩ := h
    refine ⟨_, (pss_cons (ps_for PassesOwn.never rfl (pi_range1 (by rfl) T.m_range (pa_cons (pe_callB (call_max2 rfl) (by rfl) T.m_max b_max (pa_cons pe_int (pa_cons (pe_callB (call_lenUk K) (by rfl) T.m_len b_len (pa_cons (pv 0) pa_nil)) pa_nil))) pa_nil)) (pg_name (i := 1) sc_law.nd rfl (Or.inl rfl))
  (pss_cons (ps_set (i := 2) sc_law.nd rfl (Or.inl rfl) (pe_call (ok__law_well T) (hr.mono (by decide)) (by rfl) T.m__law_well T.F__law_well.kp T.b__law_well .nil pass0 (pa_cons (pv 0) (pa_cons (pv 1) pa_nil))))
  (pss_cons (ps_set (i := 3) sc_law.nd rfl (Or.inl rfl) (pe_call (ok__law_row T) (hr.mono (by decide)) (by rfl) T.m__law_row T.F__law_row.kp T.b__law_row .nil pass0 (pa_cons (pv 2) (pa_cons pe_int pa_nil))))
  (pss_cons (ps_par (i := 4) (j := 5) rfl sc_law.nd rfl rfl (by decide) rfl rfl (pa_cons (pe_call (ok__law_other T) (hr.mono (by decide)) (by rfl) T.m__law_other T.F__law_other.kp T.b__law_other .nil pass0 (pa_cons (pv 2) (pa_cons (pv 3) pa_nil))) (pa_cons (pe_call (ok__law_draw T) (hr.mono (by decide)) (by rfl) T.m__law_draw T.F__law_draw.kp T.b__law_draw .nil pass0 (pa_cons (pv 2) (pa_cons pe_int pa_nil))) pa_nil)) (by rfl))
  (pss_cons (ps_par (i := 6) (j := 7) rfl sc_law.nd rfl rfl (by decide) rfl rfl (pa_cons (pe_make T.M_Script (ok_Script___init__ T) (hr.mono (by decide)) (by rfl) T.m_Script T.b_Script___init__ .nil passX0 (pa_cons (pv 3) pa_nil)) (pa_cons (pe_make T.M_Script (ok_Script___init__ T) (hr.mono (by decide)) (by rfl) T.m_Script T.b_Script___init__ .nil passX0 (pa_cons (pv 4) pa_nil)) pa_nil)) (by rfl))
  (pss_cons (ps_if (PW.pt (pw_or (pt_not (pt_val (pe_call (ok__law_equal T) (hr.mono (by decide)) (by rfl) T.m__law_equal T.F__law_equal.kp T.b__law_equal .nil pass0 (pa_cons (pv 6) (pa_cons (pv 7) (pa_cons (pe_cmpR (op_eqUk K (hu65 hr)) (pv 3) (pv 4) (nomark _)) pa_nil)))))) (pw_or1 (pt_not (pt_val (pe_call (ok__law_equal T) (hr.mono (by decide)) (by rfl) T.m__law_equal T.F__law_equal.kp T.b__law_equal .nil pass0 (pa_cons (pv 6) (pa_cons (pe_make T.M_Script (ok_Script___init__ T) (hr.mono (by decide)) (by rfl) T.m_Script T.b_Script___init__ .nil passX0 (pa_cons (pv 3) pa_nil)) (pa_cons pe_bl pa_nil))))))))) (pss_one (ps_ret pe_bl)) pss_nil)
  (pss_cons (ps_if (PW.pt (pw_or (pt_not (pt_val (pe_call (ok__law_holds T) (hr.mono (by decide)) (by rfl) T.m__law_holds T.F__law_holds.kp T.b__law_holds .nil pass0 (pa_cons (pv 6) (pa_cons (pv 3) (pa_cons (pv 5) pa_nil)))))) (pw_or (pt_not (pt_val (pe_call (ok__law_holds T) (hr.mono (by decide)) (by rfl) T.m__law_holds T.F__law_holds.kp T.b__law_holds .nil pass0 (pa_cons (pv 7) (pa_cons (pv 4) (pa_cons (pe_op (op_addUk K) (pv 5) pe_int) pa_nil)))))) (pw_or1 (pt_not (pt_val (pe_call (ok__law_made T) (hr.mono (by decide)) (by rfl) T.m__law_made T.F__law_made.kp T.b__law_made .nil pass0 (pa_cons (pv 6) (pa_cons (pv 3) pa_nil))))))))) (pss_one (ps_ret pe_bl)) pss_nil)
  (pss_cons (ps_for PassesOwn.never rfl (pi_seqk K (pe_lst (pa_cons pe_non (pa_cons pe_int (pa_cons pe_bl (pa_cons pe_str (pa_cons (pv 3) (pa_cons (pe_callTy (call_list_ofk K) (by rfl) T.m_list b_list (pa_cons (pv 3) pa_nil)) (pa_cons (pe_tup pa_nil) (pa_cons (pe_lst pa_nil) (pa_cons pe_dnewK (pa_cons (pe_callB (call_lenUk K) (by rfl) T.m_len b_len (pa_cons (pv 3) pa_nil)) (pa_cons (pe_meth0 (pv 6) T.cl_Script T.me_Script_steps (ok_Script_steps T) (hr.mono (by decide)) T.b_Script_steps .nil pass0) pa_nil))))))))))))) (pg_name (i := 8) sc_law.nd rfl (Or.inl rfl))
  (pss_one (ps_if (pt_not (pt_val (pe_call (ok__law_equal T) (hr.mono (by decide)) (by rfl) T.m__law_equal T.F__law_equal.kp T.b__law_equal .nil pass0 (pa_cons (pv 6) (pa_cons (pv 8) (pa_cons pe_bl pa_nil)))))) (pss_one (ps_ret pe_bl)) pss_nil)))
  (pss_one (ps_if (pt_not (pt_val (pe_call (ok__law_told T) (hr.mono (by decide)) (by rfl) T.m__law_told T.F__law_told.kp T.b__law_told .nil pass0 (pa_cons (pv 6) (pa_cons (pv 3) pa_nil))))) (pss_one (ps_ret pe_bl)) pss_nil))))))))))
  (pss_one (ps_ret pe_bl))), ?_⟩
    have c1 := T.cl_Script
    walk_at "rd"
    have hN : (if ((List.map V.int ns).length : Int) > 1 then ((List.map V.int ns).length : Int) else 1) = ((max 1 ns.length : Nat) : Int) := by
      rw [List.length_map]
      split <;> omega
    rw [hN]
    refine k_rng1 (by omega) (by omega) ?_
    rw [Int.toNat_natCast]
    refine k_for walk_range (fun i σ H' => ∃ (v1 v2 v3 v4 v5 v6 v7 v8 : Option V), σ = [some (.ref a), v1, v2, v3, v4, v5, v6, v7, v8] ∧ Same H H')
      ⟨_, _, _, _, _, _, _, _, rfl, Same.refl H⟩ (fun _ _ _ _ _ => True.intro) ?_ ?_
    · rintro i x σ H1 H2 hi ⟨v1, v2, v3, v4, v5, v6, v7, v8, rfl, s1⟩ ⟨rfl, rfl⟩
      have hi' : i < 64 := by omega
      simp only [e_gname, List.set]
      walk_at "rd"
      refine ⟨a, ns, i, by simp, sqL_same s1 ha, hb, hl, by omega, fun p H3 np s3 W3 => ?_⟩
      walk_at "rd"
      refine ⟨p, 12, 0, rfl, W3, by omega, by omega, fun r ws H4 R4 hl4 hm4 W4 b4 => ?_⟩
      have b4' : But p H3 H4 := b4
      have s4 : Same H2 H4 := Same.but s3 b4' np
      walk_at "rd"
      refine ⟨p, r, _, ws, rfl, W4, by omega, R4, hl4, hm4, fun t us H5 R5 hl5 hm5 W5 b5 => ?_⟩
      have s5 : Same H2 H5 := Same.but s4 b5 np
      have R5' := R4.mono (W4.sameT b5)
      walk_at "rd"
      refine ⟨p, 3700, _, rfl, W5, by omega, by omega, by omega, fun way H6 e0 e1 W6 b6 => ?_⟩
      have b6' : But p H5 H6 := b6
      have s6 : Same H2 H6 := Same.but s5 b6' np
      have R6 := R5'.mono (W5.sameT b6)
      have U6 := R5.mono (W5.sameT b6)
      walk_at "rd"
      refine k_newScrG R6 hl4 hm4 fun q l H7 nq nl s7 L7 => ?_
      walk_at "rd"
      refine k_newScrG (U6.mono (SameT.of s7)) hl5 hm5 fun q' l' H8 nq' nl' s8 L8 => ?_
      have S8 := L7.at_.same s8
      have N8 := L8.at_
      have R8 := (R6.mono (SameT.of s7)).mono (SameT.of s8)
      have U8 := (U6.mono (SameT.of s7)).mono (SameT.of s8)
      have s28 : Same H2 H8 := s6.trans (s7.trans s8)
      clear L7 L8 R6 U6 W3 W4 W5 W6 R4 R5 R5' b4 b4' b5 b6 b6' s3 s4 s5 s6 s7 s8 nl nl' nq nq'
      walk_at "rd"
      refine k_eq_D R8.dp U8.dp (steps_shaped hm4).2 (steps_shaped hm5).2 ?_
      have e : PyData.eqv (.tuple (ws.map stepD)) (.tuple (us.map stepD)) = decide (ws = us) := by
        simp only [PyData.eqv]
        exact eqvAll_rows ws us
      rw [e]
      walk_at "rd"
      refine ⟨q, .ref q', ws, decide (ws = us), _, rfl, S8, .inl ⟨q', us, rfl, N8, rfl⟩, fun H9 s9 => ?_⟩
      rw [decide_eq_true rfl]
      walk_at "rd"
      refine k_newScrG (R8.mono (SameT.of s9)) hl4 hm4 fun y m H10 ny nm s10 L10 => ?_
      have s810 : Same H8 H10 := s9.trans s10
      walk_at "rd"
      refine ⟨q, .ref y, ws, true, true, rfl, S8.same s810, .inl ⟨y, ws, rfl, L10.at_, by simp⟩, fun H11 s11 => ?_⟩
      have s811 : Same H8 H11 := s810.trans s11
      walk_at "rd"
      refine ⟨q, r, way, ws, rfl, S8.same s811, R8.mono (SameT.of s811), fun H12 s12 => ?_⟩
      have s812 : Same H8 H12 := s811.trans s12
      walk_at "rd"
      refine ⟨q', t, _, us, rfl, N8.same s812, U8.mono (SameT.of s812), fun H13 s13 => ?_⟩
      have s813 : Same H8 H13 := s812.trans s13
      walk_at "rd"
      refine ⟨q, r, ws, rfl, S8.same s813, R8.mono (SameT.of s813), fun H14 s14 => ?_⟩
      have s814 : Same H8 H14 := s813.trans s14
      have S14 := S8.same s814
      have R14 := R8.mono (SameT.of s814)
      obtain ⟨xs14, x1, x2⟩ := id R14
      obtain ⟨⟨dq, lq, xq, g1, g2, g3⟩, _, _⟩ := id S14
      walk_at "rd"
      rename_i l1 nl1 l2 nl2 l3 nl3 d1 nd1
      have w14 : Same H14 (upd (upd (upd (upd H14 l1 (.lst xs14)) l2 (.tup [])) l3 (.lst [])) d1 (.dK [])) := (((Same.new nl1).trans (Same.new nl2)).trans (Same.new nl3)).trans (Same.new nd1)
      have y1 := lk_new (u := .dK []) (lk_new (u := .lst []) (lk_new (u := .tup []) (upd_same (H := H14) (a := l1) (o := .lst xs14)) nl2) nl3) nd1
      have y2 := lk_new (u := .dK []) (lk_new (u := .lst []) (upd_same (H := upd H14 l1 (.lst xs14)) (a := l2) (o := .tup [])) nl3) nd1
      have y3 := lk_new (u := .dK []) (upd_same (H := upd (upd H14 l1 (.lst xs14)) l2 (.tup [])) (a := l3) (o := .lst [])) nd1
      have y4 := upd_same (H := upd (upd (upd H14 l1 (.lst xs14)) l2 (.tup [])) l3 (.lst [])) (a := d1) (o := .dK [])
      generalize upd (upd (upd (upd H14 l1 (.lst xs14)) l2 (.tup [])) l3 (.lst [])) d1 (.dK []) = H15 at w14 y1 y2 y3 y4 ⊢
      refine ⟨q, ws, rfl, S14.same w14, fun r2 H16 nr2 s16 R16 => ?_⟩
      have z1 := s16 _ _ y1
      have z2 := s16 _ _ y2
      have z3 := s16 _ _ y3
      have z4 := s16 _ _ y4
      have s1416 : Same H14 H16 := w14.trans s16
      have R14' := R14.mono (SameT.of s1416)
      obtain ⟨xs16, q1, q2⟩ := id R16
      obtain ⟨xr, q3, q4⟩ := id R14'
      walk_at "rd"
      rename_i lt nlt
      have s17 : Same H16 (upd H16 lt (.lst [.non, .int 0, .bl true, .str "drop", .ref r, .ref l1, .ref l2, .ref l3, .ref d1, .int (xs14.length : Nat), .ref r2])) := Same.new nlt
      have h17 : (upd H16 lt (.lst [.non, .int 0, .bl true, .str "drop", .ref r, .ref l1, .ref l2, .ref l3, .ref d1, .int (xs14.length : Nat), .ref r2])) lt = some (.lst [.non, .int 0, .bl true, .str "drop", .ref r, .ref l1, .ref l2, .ref l3, .ref d1, .int (xs14.length : Nat), .ref r2]) := upd_same
      generalize upd H16 lt (.lst [.non, .int 0, .bl true, .str "drop", .ref r, .ref l1, .ref l2, .ref l3, .ref d1, .int (xs14.length : Nat), .ref r2]) = H17 at s17 h17 ⊢
      have hall : ∀ v ∈ ([.non, .int 0, .bl true, .str "drop", .ref r, .ref l1, .ref l2, .ref l3, .ref d1, .int (xs14.length : Nat), .ref r2] : List V), ∃ T, Ty K H17 v T := by
        intro v hv
        simp only [List.mem_cons, List.not_mem_nil, or_false] at hv
        rcases hv with rfl | rfl | rfl | rfl | rfl | rfl | rfl | rfl | rfl | rfl | rfl
        · exact ⟨_, ty_non⟩
        · exact ⟨_, ty_int⟩
        · exact ⟨_, ty_bl⟩
        · exact ⟨_, ty_str⟩
        · exact ⟨_, ty_tup (sqT_mono (SameT.of s17) q3)⟩
        · exact ⟨_, ty_lst (SqL.of (s17 _ _ z1))⟩
        · exact ⟨_, ty_tup (SqT.of (s17 _ _ z2))⟩
        · exact ⟨_, ty_lst (SqL.of (s17 _ _ z3))⟩
        · exact ⟨_, ty_dK (s17 _ _ z4)⟩
        · exact ⟨_, ty_int⟩
        · exact ⟨_, ty_tup (sqT_mono (SameT.of s17) q1)⟩
      have s1417 : Same H14 H17 := s1416.trans s17
      have S17 := S14.same s1417
      have R17 := R14.mono (SameT.of s1417)
      have s217 : Same H H17 := s1.trans (s28.trans (s814.trans s1417))
      generalize ([.non, .int 0, .bl true, .str "drop", .ref r, .ref l1, .ref l2, .ref l3, .ref d1, .int (xs14.length : Nat), .ref r2] : List V) = things at h17 hall ⊢
      refine k_for walk_list (fun j σ H' => ∃ v9 : Option V, σ = [some (.ref a), some (.int (0 + (i : Int))), some (.ref p), some (.ref r), some (.ref t), some (.int way), some (.ref q), some (.ref q'), v9] ∧ Same H17 H') ⟨_, rfl, Same.refl _⟩ (fun j σ H' _ ⟨_, _, e⟩ => SqL.of (e _ _ h17)) ?_ ?_
      · rintro j x σ H18' H18 hj ⟨v9, rfl, s18⟩ ⟨rfl, hx⟩
        obtain ⟨T0, hT⟩ := hall x (List.mem_of_getElem? (show things[j]? = some x from hx))
        walk_at "rd"
        refine ⟨q, x, ws, false, false, rfl, S17.same s18, .inr ⟨T0, hT.same s18, rfl⟩, fun H19 s19 => ?_⟩
        simp only [decide_true]
        walk_at "rd"
        exact ⟨_, rfl, s18.trans s19⟩
      · rintro σ H18 ⟨v9, rfl, s18⟩
        walk_at "rd"
        refine ⟨q, r, ws, rfl, S17.same s18, R17.mono (SameT.of s18), fun H19 s19 => ?_⟩
        walk_at "rd"
        exact ⟨_, _, _, _, _, _, _, _, rfl, s217.trans (s18.trans s19)⟩
    · rintro σ H1 ⟨v1, v2, v3, v4, v5, v6, v7, v8, rfl, s1⟩
      walk_at "rd"
      exact k _
end
end Y


set_option Elab.async false
set_option linter.all false
set_option maxRecDepth 100000
set_option maxHeartbeats 4000000
namespace Y
open PySem L2
theorem all_mk {l : PySem.W.OpenLaw} {w : World} {K : PySem.W.Frag} {h : Heap} {mg : Str → Option Value} {fa a_Script a_STEPS b_STEPS_0 b_STEPS_1 b_STEPS_2 b_STEPS_3 b_STEPS_4 b_STEPS_5 b_STEPS_6 b_STEPS_7 b_STEPS_8 b_STEPS_9 b_STEPS_10 b_STEPS_11 f_is_integer f_is_step f_Script___init__ f_Script___len__ f_Script___eq__ f_Script___getitem__ f_Script___contains__ f_Script___add__ f_Script_steps f_Script_without f_Script_with_step f_Script__has f__law_well f__law_draw f__law_menu f__law_row f__law_same f__law_told f__law_no_step f__law_equal f__law_other f__law_holds f__law_made f_law a_NoStep f_NoStep t_NoStep N_NoStep cda_NoStep cc_NoStep a_NoIndex f_NoIndex t_NoIndex N_NoIndex cda_NoIndex cc_NoIndex : Addr} (X : K.In h) (G : h.Ns mainGlobals mg) (hfa : mg "law" = some (.ref fa))
    {od_is_integer an_is_integer od_is_step an_is_step od_Script___init__ an_Script___init__ od_Script___len__ an_Script___len__ od_Script___eq__ an_Script___eq__ od_Script___getitem__ an_Script___getitem__ od_Script___contains__ an_Script___contains__ od_Script___add__ an_Script___add__ od_Script_steps an_Script_steps od_Script_without an_Script_without od_Script_with_step an_Script_with_step od_Script__has an_Script__has od__law_well an__law_well od__law_draw an__law_draw od__law_menu an__law_menu od__law_row an__law_row od__law_same an__law_same od__law_told an__law_told od__law_no_step an__law_no_step od__law_equal an__law_equal od__law_other an__law_other od__law_holds an__law_holds od__law_made an__law_made od_law an_law : Option Addr} {sl_is_integer sl_is_step sl_Script___init__ sl_Script___len__ sl_Script___eq__ sl_Script___getitem__ sl_Script___contains__ sl_Script___add__ sl_Script_steps sl_Script_without sl_Script_with_step sl_Script__has sl__law_well sl__law_draw sl__law_menu sl__law_row sl__law_same sl__law_told sl__law_no_step sl__law_equal sl__law_other sl__law_holds sl__law_made sl_law : Array (Option Value)}
    {oc_is_integer kV_is_integer dc_is_integer pm_is_integer cd_is_integer ct_is_integer oc_is_step kV_is_step dc_is_step pm_is_step cd_is_step ct_is_step oc_Script___init__ kV_Script___init__ dc_Script___init__ pm_Script___init__ cd_Script___init__ ct_Script___init__ oc_Script___len__ kV_Script___len__ dc_Script___len__ pm_Script___len__ cd_Script___len__ ct_Script___len__ oc_Script___eq__ kV_Script___eq__ dc_Script___eq__ pm_Script___eq__ cd_Script___eq__ ct_Script___eq__ oc_Script___getitem__ kV_Script___getitem__ dc_Script___getitem__ pm_Script___getitem__ cd_Script___getitem__ ct_Script___getitem__ oc_Script___contains__ kV_Script___contains__ dc_Script___contains__ pm_Script___contains__ cd_Script___contains__ ct_Script___contains__ oc_Script___add__ kV_Script___add__ dc_Script___add__ pm_Script___add__ cd_Script___add__ ct_Script___add__ oc_Script_steps kV_Script_steps dc_Script_steps pm_Script_steps cd_Script_steps ct_Script_steps oc_Script_without kV_Script_without dc_Script_without pm_Script_without cd_Script_without ct_Script_without oc_Script_with_step kV_Script_with_step dc_Script_with_step pm_Script_with_step cd_Script_with_step ct_Script_with_step oc_Script__has kV_Script__has dc_Script__has pm_Script__has cd_Script__has ct_Script__has oc__law_well kV__law_well dc__law_well pm__law_well cd__law_well ct__law_well oc__law_draw kV__law_draw dc__law_draw pm__law_draw cd__law_draw ct__law_draw oc__law_menu kV__law_menu dc__law_menu pm__law_menu cd__law_menu ct__law_menu oc__law_row kV__law_row dc__law_row pm__law_row cd__law_row ct__law_row oc__law_same kV__law_same dc__law_same pm__law_same cd__law_same ct__law_same oc__law_told kV__law_told dc__law_told pm__law_told cd__law_told ct__law_told oc__law_no_step kV__law_no_step dc__law_no_step pm__law_no_step cd__law_no_step ct__law_no_step oc__law_equal kV__law_equal dc__law_equal pm__law_equal cd__law_equal ct__law_equal oc__law_other kV__law_other dc__law_other pm__law_other cd__law_other ct__law_other oc__law_holds kV__law_holds dc__law_holds pm__law_holds cd__law_holds ct__law_holds oc__law_made kV__law_made dc__law_made pm__law_made cd__law_made ct__law_made oc_law kV_law dc_law pm_law cd_law ct_law : Value} {tk_STEPS_0_0 tk_STEPS_0_1 tk_STEPS_1_0 tk_STEPS_1_1 tk_STEPS_2_0 tk_STEPS_2_1 tk_STEPS_3_0 tk_STEPS_3_1 tk_STEPS_4_0 tk_STEPS_4_1 tk_STEPS_5_0 tk_STEPS_5_1 tk_STEPS_6_0 tk_STEPS_6_1 tk_STEPS_7_0 tk_STEPS_7_1 tk_STEPS_8_0 tk_STEPS_8_1 tk_STEPS_9_0 tk_STEPS_9_1 tk_STEPS_10_0 tk_STEPS_10_1 tk_STEPS_11_0 tk_MOST_STEPS : Tok} {dd_STEPS : Option Addr} {nn_STEPS : Nat} {ss_STEPS : Array (Option Value)} {dd_STEPS_0 : Option Addr} {nn_STEPS_0 : Nat} {ss_STEPS_0 : Array (Option Value)} {dd_STEPS_1 : Option Addr} {nn_STEPS_1 : Nat} {ss_STEPS_1 : Array (Option Value)} {dd_STEPS_2 : Option Addr} {nn_STEPS_2 : Nat} {ss_STEPS_2 : Array (Option Value)} {dd_STEPS_3 : Option Addr} {nn_STEPS_3 : Nat} {ss_STEPS_3 : Array (Option Value)} {dd_STEPS_4 : Option Addr} {nn_STEPS_4 : Nat} {ss_STEPS_4 : Array (Option Value)} {dd_STEPS_5 : Option Addr} {nn_STEPS_5 : Nat} {ss_STEPS_5 : Array (Option Value)} {dd_STEPS_6 : Option Addr} {nn_STEPS_6 : Nat} {ss_STEPS_6 : Array (Option Value)} {dd_STEPS_7 : Option Addr} {nn_STEPS_7 : Nat} {ss_STEPS_7 : Array (Option Value)} {dd_STEPS_8 : Option Addr} {nn_STEPS_8 : Nat} {ss_STEPS_8 : Array (Option Value)} {dd_STEPS_9 : Option Addr} {nn_STEPS_9 : Nat} {ss_STEPS_9 : Array (Option Value)} {dd_STEPS_10 : Option Addr} {nn_STEPS_10 : Nat} {ss_STEPS_10 : Array (Option Value)} {dd_STEPS_11 : Option Addr} {nn_STEPS_11 : Nat} {ss_STEPS_11 : Array (Option Value)} {nm_NoStep q_NoStep file_NoStep : Str} {bs_NoStep sub_NoStep : List Value} {sn_NoStep : List Str} {ab_NoStep : Bool} {col_NoStep : Option Bool} {m0_NoStep m1_NoStep m2_NoStep m3_NoStep m5_NoStep : Option Value} {dd_NoStep od_NoStep an_NoStep cdd_NoStep cld_NoStep : Option Addr} {oc_NoStep dc_NoStep pm_NoStep ct_NoStep ccl_NoStep cl_NoStep : Value} {sl_NoStep ccs_NoStep csl_NoStep : Array (Option Value)} {vs_NoStep : Array Value} {tf_NoStep : Tok} {nm_NoIndex q_NoIndex file_NoIndex : Str} {bs_NoIndex sub_NoIndex : List Value} {sn_NoIndex : List Str} {ab_NoIndex : Bool} {col_NoIndex : Option Bool} {m0_NoIndex m1_NoIndex m2_NoIndex m3_NoIndex m5_NoIndex : Option Value} {dd_NoIndex od_NoIndex an_NoIndex cdd_NoIndex cld_NoIndex : Option Addr} {oc_NoIndex dc_NoIndex pm_NoIndex ct_NoIndex ccl_NoIndex cl_NoIndex : Value} {sl_NoIndex ccs_NoIndex csl_NoIndex : Array (Option Value)} {vs_NoIndex : Array Value} {tf_NoIndex : Tok}
    (g_Script : PySem.W.nsIn K mainGlobals "Script" = some (some (.ref a_Script)))
    (pg_Script : PySem.W.plainGet K a_Script Str.empty = true)
    (hd_Script : PySem.W.hasDictIn K a_Script = true)
    (po_Script : PySem.W.plainOver K a_Script = true)
    (sa_Script : PySem.W.findIn K (.ref a_Script) "__setattr__" = some (some (.builtin "object.__setattr__")))
    (na_Script__steps : PySem.W.findIn K (.ref a_Script) "_steps" = some none)
    (g_STEPS : PySem.W.nsIn K mainGlobals "STEPS" = some (some (.ref a_STEPS)))
    (l_STEPS : K.lookup a_STEPS = some ⟨.type "tuple", dd_STEPS, .seq #[.ref b_STEPS_0, .ref b_STEPS_1, .ref b_STEPS_2, .ref b_STEPS_3, .ref b_STEPS_4, .ref b_STEPS_5, .ref b_STEPS_6, .ref b_STEPS_7, .ref b_STEPS_8, .ref b_STEPS_9, .ref b_STEPS_10, .ref b_STEPS_11] nn_STEPS, ss_STEPS⟩)
    (l_STEPS_0 : K.lookup b_STEPS_0 = some ⟨.type "tuple", dd_STEPS_0, .seq #[.str "make" tk_STEPS_0_0, .str "all" tk_STEPS_0_1] nn_STEPS_0, ss_STEPS_0⟩)
    (l_STEPS_1 : K.lookup b_STEPS_1 = some ⟨.type "tuple", dd_STEPS_1, .seq #[.str "make" tk_STEPS_1_0, .str "standing" tk_STEPS_1_1] nn_STEPS_1, ss_STEPS_1⟩)
    (l_STEPS_2 : K.lookup b_STEPS_2 = some ⟨.type "tuple", dd_STEPS_2, .seq #[.str "start" tk_STEPS_2_0, .str "new" tk_STEPS_2_1] nn_STEPS_2, ss_STEPS_2⟩)
    (l_STEPS_3 : K.lookup b_STEPS_3 = some ⟨.type "tuple", dd_STEPS_3, .seq #[.str "start" tk_STEPS_3_0, .str "all" tk_STEPS_3_1] nn_STEPS_3, ss_STEPS_3⟩)
    (l_STEPS_4 : K.lookup b_STEPS_4 = some ⟨.type "tuple", dd_STEPS_4, .seq #[.str "start" tk_STEPS_4_0, .str "free" tk_STEPS_4_1] nn_STEPS_4, ss_STEPS_4⟩)
    (l_STEPS_5 : K.lookup b_STEPS_5 = some ⟨.type "tuple", dd_STEPS_5, .seq #[.str "label" tk_STEPS_5_0, .str "new" tk_STEPS_5_1] nn_STEPS_5, ss_STEPS_5⟩)
    (l_STEPS_6 : K.lookup b_STEPS_6 = some ⟨.type "tuple", dd_STEPS_6, .seq #[.str "label" tk_STEPS_6_0, .str "all" tk_STEPS_6_1] nn_STEPS_6, ss_STEPS_6⟩)
    (l_STEPS_7 : K.lookup b_STEPS_7 = some ⟨.type "tuple", dd_STEPS_7, .seq #[.str "label" tk_STEPS_7_0, .str "free" tk_STEPS_7_1] nn_STEPS_7, ss_STEPS_7⟩)
    (l_STEPS_8 : K.lookup b_STEPS_8 = some ⟨.type "tuple", dd_STEPS_8, .seq #[.str "tie" tk_STEPS_8_0, .str "new" tk_STEPS_8_1] nn_STEPS_8, ss_STEPS_8⟩)
    (l_STEPS_9 : K.lookup b_STEPS_9 = some ⟨.type "tuple", dd_STEPS_9, .seq #[.str "tie" tk_STEPS_9_0, .str "all" tk_STEPS_9_1] nn_STEPS_9, ss_STEPS_9⟩)
    (l_STEPS_10 : K.lookup b_STEPS_10 = some ⟨.type "tuple", dd_STEPS_10, .seq #[.str "tie" tk_STEPS_10_0, .str "free" tk_STEPS_10_1] nn_STEPS_10, ss_STEPS_10⟩)
    (l_STEPS_11 : K.lookup b_STEPS_11 = some ⟨.type "tuple", dd_STEPS_11, .seq #[.str "drop" tk_STEPS_11_0] nn_STEPS_11, ss_STEPS_11⟩)
    (g_is_integer : PySem.W.nsIn K mainGlobals "is_integer" = some (some (.ref f_is_integer)))
    (l_is_integer : K.lookup f_is_integer = some ⟨oc_is_integer, od_is_integer, .func (PySem.W.fnOf "is_integer" "is_integer" (defArgs s_is_integer) (defBody s_is_integer) (defScope s_is_integer) .none kV_is_integer dc_is_integer pm_is_integer an_is_integer cd_is_integer ct_is_integer), sl_is_integer⟩)
    (c_is_integer : PySem.W.codeIn K cd_is_integer "is_integer" = true)
    (k_is_integer : PySem.W.keepIn K (.ref f_is_integer) = true)
    (g_is_step : PySem.W.nsIn K mainGlobals "is_step" = some (some (.ref f_is_step)))
    (l_is_step : K.lookup f_is_step = some ⟨oc_is_step, od_is_step, .func (PySem.W.fnOf "is_step" "is_step" (defArgs s_is_step) (defBody s_is_step) (defScope s_is_step) .none kV_is_step dc_is_step pm_is_step an_is_step cd_is_step ct_is_step), sl_is_step⟩)
    (c_is_step : PySem.W.codeIn K cd_is_step "is_step" = true)
    (k_is_step : PySem.W.keepIn K (.ref f_is_step) = true)
    (fi_Script___init__ : PySem.W.findIn K (.ref a_Script) "__init__" = some (some (.ref f_Script___init__)))
    (isf_Script___init__ : PySem.W.isFn K (.ref f_Script___init__) = true)
    (l_Script___init__ : K.lookup f_Script___init__ = some ⟨oc_Script___init__, od_Script___init__, .func (PySem.W.fnOf "__init__" "Script.__init__" (defArgs s_Script___init__) (defBody s_Script___init__) (defScope s_Script___init__) .none kV_Script___init__ dc_Script___init__ pm_Script___init__ an_Script___init__ cd_Script___init__ ct_Script___init__), sl_Script___init__⟩)
    (c_Script___init__ : PySem.W.codeIn K cd_Script___init__ "Script.__init__" = true)
    (k_Script___init__ : PySem.W.keepIn K (.ref f_Script___init__) = true)
    (mk_Script : PySem.W.makesIn K a_Script = true)
    (kc_Script : PySem.W.keepIn K (.ref a_Script) = true)
    (fi_Script___len__ : PySem.W.findIn K (.ref a_Script) "__len__" = some (some (.ref f_Script___len__)))
    (isf_Script___len__ : PySem.W.isFn K (.ref f_Script___len__) = true)
    (l_Script___len__ : K.lookup f_Script___len__ = some ⟨oc_Script___len__, od_Script___len__, .func (PySem.W.fnOf "__len__" "Script.__len__" (defArgs s_Script___len__) (defBody s_Script___len__) (defScope s_Script___len__) .none kV_Script___len__ dc_Script___len__ pm_Script___len__ an_Script___len__ cd_Script___len__ ct_Script___len__), sl_Script___len__⟩)
    (c_Script___len__ : PySem.W.codeIn K cd_Script___len__ "Script.__len__" = true)
    (k_Script___len__ : PySem.W.keepIn K (.ref f_Script___len__) = true)
    (fi_Script___eq__ : PySem.W.findIn K (.ref a_Script) "__eq__" = some (some (.ref f_Script___eq__)))
    (isf_Script___eq__ : PySem.W.isFn K (.ref f_Script___eq__) = true)
    (l_Script___eq__ : K.lookup f_Script___eq__ = some ⟨oc_Script___eq__, od_Script___eq__, .func (PySem.W.fnOf "__eq__" "Script.__eq__" (defArgs s_Script___eq__) (defBody s_Script___eq__) (defScope s_Script___eq__) .none kV_Script___eq__ dc_Script___eq__ pm_Script___eq__ an_Script___eq__ cd_Script___eq__ ct_Script___eq__), sl_Script___eq__⟩)
    (c_Script___eq__ : PySem.W.codeIn K cd_Script___eq__ "Script.__eq__" = true)
    (k_Script___eq__ : PySem.W.keepIn K (.ref f_Script___eq__) = true)
    (fi_Script___getitem__ : PySem.W.findIn K (.ref a_Script) "__getitem__" = some (some (.ref f_Script___getitem__)))
    (isf_Script___getitem__ : PySem.W.isFn K (.ref f_Script___getitem__) = true)
    (l_Script___getitem__ : K.lookup f_Script___getitem__ = some ⟨oc_Script___getitem__, od_Script___getitem__, .func (PySem.W.fnOf "__getitem__" "Script.__getitem__" (defArgs s_Script___getitem__) (defBody s_Script___getitem__) (defScope s_Script___getitem__) .none kV_Script___getitem__ dc_Script___getitem__ pm_Script___getitem__ an_Script___getitem__ cd_Script___getitem__ ct_Script___getitem__), sl_Script___getitem__⟩)
    (c_Script___getitem__ : PySem.W.codeIn K cd_Script___getitem__ "Script.__getitem__" = true)
    (k_Script___getitem__ : PySem.W.keepIn K (.ref f_Script___getitem__) = true)
    (fni_Script___getitem__ : PySem.W.fnIn K f_Script___getitem__ = true)
    (fi_Script___contains__ : PySem.W.findIn K (.ref a_Script) "__contains__" = some (some (.ref f_Script___contains__)))
    (isf_Script___contains__ : PySem.W.isFn K (.ref f_Script___contains__) = true)
    (l_Script___contains__ : K.lookup f_Script___contains__ = some ⟨oc_Script___contains__, od_Script___contains__, .func (PySem.W.fnOf "__contains__" "Script.__contains__" (defArgs s_Script___contains__) (defBody s_Script___contains__) (defScope s_Script___contains__) .none kV_Script___contains__ dc_Script___contains__ pm_Script___contains__ an_Script___contains__ cd_Script___contains__ ct_Script___contains__), sl_Script___contains__⟩)
    (c_Script___contains__ : PySem.W.codeIn K cd_Script___contains__ "Script.__contains__" = true)
    (k_Script___contains__ : PySem.W.keepIn K (.ref f_Script___contains__) = true)
    (fi_Script___add__ : PySem.W.findIn K (.ref a_Script) "__add__" = some (some (.ref f_Script___add__)))
    (isf_Script___add__ : PySem.W.isFn K (.ref f_Script___add__) = true)
    (l_Script___add__ : K.lookup f_Script___add__ = some ⟨oc_Script___add__, od_Script___add__, .func (PySem.W.fnOf "__add__" "Script.__add__" (defArgs s_Script___add__) (defBody s_Script___add__) (defScope s_Script___add__) .none kV_Script___add__ dc_Script___add__ pm_Script___add__ an_Script___add__ cd_Script___add__ ct_Script___add__), sl_Script___add__⟩)
    (c_Script___add__ : PySem.W.codeIn K cd_Script___add__ "Script.__add__" = true)
    (k_Script___add__ : PySem.W.keepIn K (.ref f_Script___add__) = true)
    (sf_Script : PySem.W.selfFirst K a_Script = true)
    (fi_Script_steps : PySem.W.findIn K (.ref a_Script) "steps" = some (some (.ref f_Script_steps)))
    (isf_Script_steps : PySem.W.isFn K (.ref f_Script_steps) = true)
    (l_Script_steps : K.lookup f_Script_steps = some ⟨oc_Script_steps, od_Script_steps, .func (PySem.W.fnOf "steps" "Script.steps" (defArgs s_Script_steps) (defBody s_Script_steps) (defScope s_Script_steps) .none kV_Script_steps dc_Script_steps pm_Script_steps an_Script_steps cd_Script_steps ct_Script_steps), sl_Script_steps⟩)
    (c_Script_steps : PySem.W.codeIn K cd_Script_steps "Script.steps" = true)
    (k_Script_steps : PySem.W.keepIn K (.ref f_Script_steps) = true)
    (fi_Script_without : PySem.W.findIn K (.ref a_Script) "without" = some (some (.ref f_Script_without)))
    (isf_Script_without : PySem.W.isFn K (.ref f_Script_without) = true)
    (l_Script_without : K.lookup f_Script_without = some ⟨oc_Script_without, od_Script_without, .func (PySem.W.fnOf "without" "Script.without" (defArgs s_Script_without) (defBody s_Script_without) (defScope s_Script_without) .none kV_Script_without dc_Script_without pm_Script_without an_Script_without cd_Script_without ct_Script_without), sl_Script_without⟩)
    (c_Script_without : PySem.W.codeIn K cd_Script_without "Script.without" = true)
    (k_Script_without : PySem.W.keepIn K (.ref f_Script_without) = true)
    (fi_Script_with_step : PySem.W.findIn K (.ref a_Script) "with_step" = some (some (.ref f_Script_with_step)))
    (isf_Script_with_step : PySem.W.isFn K (.ref f_Script_with_step) = true)
    (l_Script_with_step : K.lookup f_Script_with_step = some ⟨oc_Script_with_step, od_Script_with_step, .func (PySem.W.fnOf "with_step" "Script.with_step" (defArgs s_Script_with_step) (defBody s_Script_with_step) (defScope s_Script_with_step) .none kV_Script_with_step dc_Script_with_step pm_Script_with_step an_Script_with_step cd_Script_with_step ct_Script_with_step), sl_Script_with_step⟩)
    (c_Script_with_step : PySem.W.codeIn K cd_Script_with_step "Script.with_step" = true)
    (k_Script_with_step : PySem.W.keepIn K (.ref f_Script_with_step) = true)
    (fi_Script__has : PySem.W.findIn K (.ref a_Script) "_has" = some (some (.ref f_Script__has)))
    (isf_Script__has : PySem.W.isFn K (.ref f_Script__has) = true)
    (l_Script__has : K.lookup f_Script__has = some ⟨oc_Script__has, od_Script__has, .func (PySem.W.fnOf "_has" "Script._has" (defArgs s_Script__has) (defBody s_Script__has) (defScope s_Script__has) .none kV_Script__has dc_Script__has pm_Script__has an_Script__has cd_Script__has ct_Script__has), sl_Script__has⟩)
    (c_Script__has : PySem.W.codeIn K cd_Script__has "Script._has" = true)
    (k_Script__has : PySem.W.keepIn K (.ref f_Script__has) = true)
    (g__law_well : PySem.W.nsIn K mainGlobals "_law_well" = some (some (.ref f__law_well)))
    (l__law_well : K.lookup f__law_well = some ⟨oc__law_well, od__law_well, .func (PySem.W.fnOf "_law_well" "_law_well" (defArgs s__law_well) (defBody s__law_well) (defScope s__law_well) .none kV__law_well dc__law_well pm__law_well an__law_well cd__law_well ct__law_well), sl__law_well⟩)
    (c__law_well : PySem.W.codeIn K cd__law_well "_law_well" = true)
    (k__law_well : PySem.W.keepIn K (.ref f__law_well) = true)
    (g__law_draw : PySem.W.nsIn K mainGlobals "_law_draw" = some (some (.ref f__law_draw)))
    (l__law_draw : K.lookup f__law_draw = some ⟨oc__law_draw, od__law_draw, .func (PySem.W.fnOf "_law_draw" "_law_draw" (defArgs s__law_draw) (defBody s__law_draw) (defScope s__law_draw) .none kV__law_draw dc__law_draw pm__law_draw an__law_draw cd__law_draw ct__law_draw), sl__law_draw⟩)
    (c__law_draw : PySem.W.codeIn K cd__law_draw "_law_draw" = true)
    (k__law_draw : PySem.W.keepIn K (.ref f__law_draw) = true)
    (g__law_menu : PySem.W.nsIn K mainGlobals "_law_menu" = some (some (.ref f__law_menu)))
    (l__law_menu : K.lookup f__law_menu = some ⟨oc__law_menu, od__law_menu, .func (PySem.W.fnOf "_law_menu" "_law_menu" (defArgs s__law_menu) (defBody s__law_menu) (defScope s__law_menu) .none kV__law_menu dc__law_menu pm__law_menu an__law_menu cd__law_menu ct__law_menu), sl__law_menu⟩)
    (c__law_menu : PySem.W.codeIn K cd__law_menu "_law_menu" = true)
    (k__law_menu : PySem.W.keepIn K (.ref f__law_menu) = true)
    (g__law_row : PySem.W.nsIn K mainGlobals "_law_row" = some (some (.ref f__law_row)))
    (l__law_row : K.lookup f__law_row = some ⟨oc__law_row, od__law_row, .func (PySem.W.fnOf "_law_row" "_law_row" (defArgs s__law_row) (defBody s__law_row) (defScope s__law_row) .none kV__law_row dc__law_row pm__law_row an__law_row cd__law_row ct__law_row), sl__law_row⟩)
    (c__law_row : PySem.W.codeIn K cd__law_row "_law_row" = true)
    (k__law_row : PySem.W.keepIn K (.ref f__law_row) = true)
    (g__law_same : PySem.W.nsIn K mainGlobals "_law_same" = some (some (.ref f__law_same)))
    (l__law_same : K.lookup f__law_same = some ⟨oc__law_same, od__law_same, .func (PySem.W.fnOf "_law_same" "_law_same" (defArgs s__law_same) (defBody s__law_same) (defScope s__law_same) .none kV__law_same dc__law_same pm__law_same an__law_same cd__law_same ct__law_same), sl__law_same⟩)
    (c__law_same : PySem.W.codeIn K cd__law_same "_law_same" = true)
    (k__law_same : PySem.W.keepIn K (.ref f__law_same) = true)
    (g__law_told : PySem.W.nsIn K mainGlobals "_law_told" = some (some (.ref f__law_told)))
    (l__law_told : K.lookup f__law_told = some ⟨oc__law_told, od__law_told, .func (PySem.W.fnOf "_law_told" "_law_told" (defArgs s__law_told) (defBody s__law_told) (defScope s__law_told) .none kV__law_told dc__law_told pm__law_told an__law_told cd__law_told ct__law_told), sl__law_told⟩)
    (c__law_told : PySem.W.codeIn K cd__law_told "_law_told" = true)
    (k__law_told : PySem.W.keepIn K (.ref f__law_told) = true)
    (g__law_no_step : PySem.W.nsIn K mainGlobals "_law_no_step" = some (some (.ref f__law_no_step)))
    (l__law_no_step : K.lookup f__law_no_step = some ⟨oc__law_no_step, od__law_no_step, .func (PySem.W.fnOf "_law_no_step" "_law_no_step" (defArgs s__law_no_step) (defBody s__law_no_step) (defScope s__law_no_step) .none kV__law_no_step dc__law_no_step pm__law_no_step an__law_no_step cd__law_no_step ct__law_no_step), sl__law_no_step⟩)
    (c__law_no_step : PySem.W.codeIn K cd__law_no_step "_law_no_step" = true)
    (k__law_no_step : PySem.W.keepIn K (.ref f__law_no_step) = true)
    (g__law_equal : PySem.W.nsIn K mainGlobals "_law_equal" = some (some (.ref f__law_equal)))
    (l__law_equal : K.lookup f__law_equal = some ⟨oc__law_equal, od__law_equal, .func (PySem.W.fnOf "_law_equal" "_law_equal" (defArgs s__law_equal) (defBody s__law_equal) (defScope s__law_equal) .none kV__law_equal dc__law_equal pm__law_equal an__law_equal cd__law_equal ct__law_equal), sl__law_equal⟩)
    (c__law_equal : PySem.W.codeIn K cd__law_equal "_law_equal" = true)
    (k__law_equal : PySem.W.keepIn K (.ref f__law_equal) = true)
    (g__law_other : PySem.W.nsIn K mainGlobals "_law_other" = some (some (.ref f__law_other)))
    (l__law_other : K.lookup f__law_other = some ⟨oc__law_other, od__law_other, .func (PySem.W.fnOf "_law_other" "_law_other" (defArgs s__law_other) (defBody s__law_other) (defScope s__law_other) .none kV__law_other dc__law_other pm__law_other an__law_other cd__law_other ct__law_other), sl__law_other⟩)
    (c__law_other : PySem.W.codeIn K cd__law_other "_law_other" = true)
    (k__law_other : PySem.W.keepIn K (.ref f__law_other) = true)
    (g__law_holds : PySem.W.nsIn K mainGlobals "_law_holds" = some (some (.ref f__law_holds)))
    (l__law_holds : K.lookup f__law_holds = some ⟨oc__law_holds, od__law_holds, .func (PySem.W.fnOf "_law_holds" "_law_holds" (defArgs s__law_holds) (defBody s__law_holds) (defScope s__law_holds) .none kV__law_holds dc__law_holds pm__law_holds an__law_holds cd__law_holds ct__law_holds), sl__law_holds⟩)
    (c__law_holds : PySem.W.codeIn K cd__law_holds "_law_holds" = true)
    (k__law_holds : PySem.W.keepIn K (.ref f__law_holds) = true)
    (g__law_made : PySem.W.nsIn K mainGlobals "_law_made" = some (some (.ref f__law_made)))
    (l__law_made : K.lookup f__law_made = some ⟨oc__law_made, od__law_made, .func (PySem.W.fnOf "_law_made" "_law_made" (defArgs s__law_made) (defBody s__law_made) (defScope s__law_made) .none kV__law_made dc__law_made pm__law_made an__law_made cd__law_made ct__law_made), sl__law_made⟩)
    (c__law_made : PySem.W.codeIn K cd__law_made "_law_made" = true)
    (k__law_made : PySem.W.keepIn K (.ref f__law_made) = true)
    (g_law : PySem.W.nsIn K mainGlobals "law" = some (some (.ref f_law)))
    (l_law : K.lookup f_law = some ⟨oc_law, od_law, .func (PySem.W.fnOf "law" "law" (defArgs s_law) (defBody s_law) (defScope s_law) .none kV_law dc_law pm_law an_law cd_law ct_law), sl_law⟩)
    (c_law : PySem.W.codeIn K cd_law "law" = true)
    (k_law : PySem.W.keepIn K (.ref f_law) = true)
    (g_MOST_STEPS : PySem.W.nsIn K mainGlobals "MOST_STEPS" = some (some (.int 12 tk_MOST_STEPS)))
    (g_all : PySem.W.nsIn K mainGlobals "all" = some none)
    (g_bool : PySem.W.nsIn K mainGlobals "bool" = some none)
    (g_enumerate : PySem.W.nsIn K mainGlobals "enumerate" = some none)
    (g_int : PySem.W.nsIn K mainGlobals "int" = some none)
    (g_isinstance : PySem.W.nsIn K mainGlobals "isinstance" = some none)
    (g_len : PySem.W.nsIn K mainGlobals "len" = some none)
    (g_list : PySem.W.nsIn K mainGlobals "list" = some none)
    (g_max : PySem.W.nsIn K mainGlobals "max" = some none)
    (g_range : PySem.W.nsIn K mainGlobals "range" = some none)
    (g_str : PySem.W.nsIn K mainGlobals "str" = some none)
    (g_tuple : PySem.W.nsIn K mainGlobals "tuple" = some none)
    (g_super : PySem.W.nsIn K mainGlobals "super" = some none)
    (any_ : PySem.W.nsIn K cStatics "thirdparty.any" = some none)
    (top_ : (l.prog.main.scope.names.lookup ("super" : Str)).isSome = false)
    (gsn_ : PySem.W.specialIn K (.builtin "object.__class__") "__get__" = some (some (.builtin "getset_descriptor.__get__")))
    (gst_ : PySem.W.takesIn K (.builtin "object.__class__") = some true)
    (g_NoStep : PySem.W.nsIn K mainGlobals "NoStep" = some (some (.ref a_NoStep)))
    (x_NoStep : K.lookup a_NoStep = some (excClassObj nm_NoStep q_NoStep a_NoStep N_NoStep bs_NoStep [.ref t_NoStep, .type "ValueError", .type "Exception", .type "BaseException", .type "object"] true sn_NoStep sub_NoStep ab_NoStep col_NoStep dd_NoStep m0_NoStep m1_NoStep m2_NoStep m3_NoStep m5_NoStep "ValueError.__new__"))
    (sa_NoStep : PySem.W.findIn K (.ref a_NoStep) "__setattr__" = some (some (.builtin "object.__setattr__")))
    (ga_NoStep : PySem.W.findIn K (.ref a_NoStep) "__getattribute__" = some (some (.builtin "BaseException.__getattribute__")))
    (gg_NoStep : PySem.W.findIn K (.ref a_NoStep) "__getattr__" = some none)
    (nf_NoStep : PySem.W.findIn K (.ref a_NoStep) "index" = some none)
    (ic_NoStep : PySem.W.findIn K (.ref a_NoStep) "__init__" = some (some (.ref f_NoStep)))
    (ha_NoStep : PySem.W.findIn K (.ref a_NoStep) "__class__" = some (some (.builtin "object.__class__")))
    (tf__NoStep : PySem.W.typeIn K (.ref f_NoStep) = some (.type "function"))
    (kc_NoStep : PySem.W.keepIn K (.ref a_NoStep) = true)
    (ex_NoStep : PySem.W.subIn K (.ref a_NoStep) (.type "BaseException") = some true)
    (ty_NoStep : PySem.W.typeIn K (.ref a_NoStep) = some (.type "type"))
    (hd_NoStep : PySem.W.hasDictIn K a_NoStep = true)
    (ss_NoStep : PySem.W.subIn K (.ref a_NoStep) (.ref a_NoStep) = some true)
    (qi_NoStep : PySem.W.excInitIn K a_NoStep [.type "ValueError", .type "Exception", .type "BaseException", .type "object"] "ValueError.__new__" = true)
    (ve_NoStep : PySem.W.subIn K (.ref a_NoStep) (.type "ValueError") = some true)
    (mr_NoStep : PySem.W.mroIn K a_NoStep (.ref a_NoStep) = some true)
    (mo_NoStep : PySem.W.mroIn K a_NoStep (.type "object") = some true)
    (su_NoStep : PySem.W.ks_superIn K a_NoStep a_NoStep "__init__" = some (some (.builtin "ValueError.__init__")))
    (l_NoStep : K.lookup f_NoStep = some ⟨oc_NoStep, od_NoStep, .func (PySem.W.ksFn "__init__" "NoStep.__init__" (PySem.ErrX.iA "index" ⟨6, 17, 6, 21⟩ ⟨6, 23, 6, 28⟩) (PySem.ErrX.iB "index" "there is no step at this index" ⟨7, 8, 7, 13⟩ ⟨7, 8, 7, 15⟩ ⟨7, 8, 7, 24⟩ ⟨7, 25, 7, 57⟩ ⟨7, 8, 7, 58⟩ ⟨7, 8, 7, 58⟩ ⟨8, 8, 8, 12⟩ ⟨8, 8, 8, 18⟩ ⟨8, 21, 8, 26⟩ ⟨8, 8, 8, 26⟩) (PySem.ErrX.iS "index") .none .none dc_NoStep pm_NoStep an_NoStep (.ref cda_NoStep) ct_NoStep cc_NoStep), sl_NoStep⟩)
    (c_NoStep : PySem.W.codeIn K (.ref cda_NoStep) "NoStep.__init__" = true)
    (lc_NoStep : K.lookup cda_NoStep = some ⟨ccl_NoStep, cdd_NoStep, .fields vs_NoStep, ccs_NoStep⟩)
    (vv_NoStep : vs_NoStep[2]? = some (.str file_NoStep tf_NoStep))
    (ff_NoStep : ((l.prog.main.file : Str) == file_NoStep) = true)
    (cl__NoStep : K.lookup cc_NoStep = some ⟨cl_NoStep, cld_NoStep, .cell (some (.ref a_NoStep)), csl_NoStep⟩)
    (g_NoIndex : PySem.W.nsIn K mainGlobals "NoIndex" = some (some (.ref a_NoIndex)))
    (x_NoIndex : K.lookup a_NoIndex = some (excClassObj nm_NoIndex q_NoIndex a_NoIndex N_NoIndex bs_NoIndex [.ref t_NoIndex, .type "ValueError", .type "Exception", .type "BaseException", .type "object"] true sn_NoIndex sub_NoIndex ab_NoIndex col_NoIndex dd_NoIndex m0_NoIndex m1_NoIndex m2_NoIndex m3_NoIndex m5_NoIndex "ValueError.__new__"))
    (sa_NoIndex : PySem.W.findIn K (.ref a_NoIndex) "__setattr__" = some (some (.builtin "object.__setattr__")))
    (ga_NoIndex : PySem.W.findIn K (.ref a_NoIndex) "__getattribute__" = some (some (.builtin "BaseException.__getattribute__")))
    (gg_NoIndex : PySem.W.findIn K (.ref a_NoIndex) "__getattr__" = some none)
    (nf_NoIndex : PySem.W.findIn K (.ref a_NoIndex) "index" = some none)
    (ic_NoIndex : PySem.W.findIn K (.ref a_NoIndex) "__init__" = some (some (.ref f_NoIndex)))
    (ha_NoIndex : PySem.W.findIn K (.ref a_NoIndex) "__class__" = some (some (.builtin "object.__class__")))
    (tf__NoIndex : PySem.W.typeIn K (.ref f_NoIndex) = some (.type "function"))
    (kc_NoIndex : PySem.W.keepIn K (.ref a_NoIndex) = true)
    (ex_NoIndex : PySem.W.subIn K (.ref a_NoIndex) (.type "BaseException") = some true)
    (ty_NoIndex : PySem.W.typeIn K (.ref a_NoIndex) = some (.type "type"))
    (hd_NoIndex : PySem.W.hasDictIn K a_NoIndex = true)
    (ss_NoIndex : PySem.W.subIn K (.ref a_NoIndex) (.ref a_NoIndex) = some true)
    (qi_NoIndex : PySem.W.excInitIn K a_NoIndex [.type "ValueError", .type "Exception", .type "BaseException", .type "object"] "ValueError.__new__" = true)
    (ve_NoIndex : PySem.W.subIn K (.ref a_NoIndex) (.type "ValueError") = some true)
    (mr_NoIndex : PySem.W.mroIn K a_NoIndex (.ref a_NoIndex) = some true)
    (mo_NoIndex : PySem.W.mroIn K a_NoIndex (.type "object") = some true)
    (su_NoIndex : PySem.W.ks_superIn K a_NoIndex a_NoIndex "__init__" = some (some (.builtin "ValueError.__init__")))
    (l_NoIndex : K.lookup f_NoIndex = some ⟨oc_NoIndex, od_NoIndex, .func (PySem.W.ksFn "__init__" "NoIndex.__init__" (PySem.ErrX.iA "index" ⟨11, 17, 11, 21⟩ ⟨11, 23, 11, 28⟩) (PySem.ErrX.iB "index" "no step can be put in at this index" ⟨12, 8, 12, 13⟩ ⟨12, 8, 12, 15⟩ ⟨12, 8, 12, 24⟩ ⟨12, 25, 12, 62⟩ ⟨12, 8, 12, 63⟩ ⟨12, 8, 12, 63⟩ ⟨13, 8, 13, 12⟩ ⟨13, 8, 13, 18⟩ ⟨13, 21, 13, 26⟩ ⟨13, 8, 13, 26⟩) (PySem.ErrX.iS "index") .none .none dc_NoIndex pm_NoIndex an_NoIndex (.ref cda_NoIndex) ct_NoIndex cc_NoIndex), sl_NoIndex⟩)
    (c_NoIndex : PySem.W.codeIn K (.ref cda_NoIndex) "NoIndex.__init__" = true)
    (lc_NoIndex : K.lookup cda_NoIndex = some ⟨ccl_NoIndex, cdd_NoIndex, .fields vs_NoIndex, ccs_NoIndex⟩)
    (vv_NoIndex : vs_NoIndex[2]? = some (.str file_NoIndex tf_NoIndex))
    (ff_NoIndex : ((l.prog.main.file : Str) == file_NoIndex) = true)
    (cl__NoIndex : K.lookup cc_NoIndex = some ⟨cl_NoIndex, cld_NoIndex, .cell (some (.ref a_NoIndex)), csl_NoIndex⟩)
    (q1_Script : PySem.W.findIn K (.ref a_Script) "__class__" = some (some (.builtin "object.__class__")))
    (q2_Script : PySem.W.specialIn K (.builtin "object.__class__") "__get__" = some (some (.builtin "getset_descriptor.__get__")))
    (q3_Script : PySem.W.takesIn K (.builtin "object.__class__") = some true)
    (q4_Script : PySem.W.mroIn K a_Script (.type "object") = some true)
    (h_fe_Script : PySem.W.findIn K (.ref a_Script) "__eq__" = some (some (.ref f_Script___eq__)))
    (h_fn_Script : PySem.W.isFn K (.ref f_Script___eq__) = true)
    (h_ne_Script : PySem.W.findIn K (.ref a_Script) "__ne__" = some (some (.builtin "object.__ne__")))
    (h_so_Script : PySem.W.subIn K (.ref a_Script) (.type "object") = some true)
    (up_NoneType : PySem.W.subIn K (.ref a_Script) (.type "NoneType") = some false)
    (up_bool : PySem.W.subIn K (.ref a_Script) (.type "bool") = some false)
    (up_int : PySem.W.subIn K (.ref a_Script) (.type "int") = some false)
    (up_str : PySem.W.subIn K (.ref a_Script) (.type "str") = some false)
    (up_tuple : PySem.W.subIn K (.ref a_Script) (.type "tuple") = some false)
    (up_list : PySem.W.subIn K (.ref a_Script) (.type "list") = some false)
    (up_dict : PySem.W.subIn K (.ref a_Script) (.type "dict") = some false)
    (dn_NoneType : PySem.W.subIn K (.type "NoneType") (.ref a_Script) = some false)
    (dn_bool : PySem.W.subIn K (.type "bool") (.ref a_Script) = some false)
    (dn_int : PySem.W.subIn K (.type "int") (.ref a_Script) = some false)
    (dn_str : PySem.W.subIn K (.type "str") (.ref a_Script) = some false)
    (dn_tuple : PySem.W.subIn K (.type "tuple") (.ref a_Script) = some false)
    (dn_list : PySem.W.subIn K (.type "list") (.ref a_Script) = some false)
    (dn_dict : PySem.W.subIn K (.type "dict") (.ref a_Script) = some false)
    (kx_NoneType : PySem.W.kitOne K (.type "NoneType") (.ref a_Script) = some false)
    (kx_bool : PySem.W.kitOne K (.type "bool") (.ref a_Script) = some false)
    (kx_int : PySem.W.kitOne K (.type "int") (.ref a_Script) = some false)
    (kx_str : PySem.W.kitOne K (.type "str") (.ref a_Script) = some false)
    (kx_tuple : PySem.W.kitOne K (.type "tuple") (.ref a_Script) = some false)
    (kx_list : PySem.W.kitOne K (.type "list") (.ref a_Script) = some false)
    (kx_dict : PySem.W.kitOne K (.type "dict") (.ref a_Script) = some false)
    : ∃ fd : FuncData, (∀ (s : Shared) (v : Value), BindsTo s fd ⟨[v], []⟩ [("script", v)]) ∧ ∀ base : Heap, K.In base → base.Ns mainGlobals mg → FnOk l.prog w K mg base CX0 8 fa fd ["script"] (spLaw K) := by
  have e := hfa.symm.trans (PySem.W.mg_of X G g_law)
  have e9 : f_law = fa := by
    cases e
    rfl
  subst e9
  have T : Nonempty (Σ' T : Txt l.prog K mg, T.f_law = f_law ∧ T.d_law = (PySem.W.fnOf "law" "law" (defArgs s_law) (defBody s_law) (defScope s_law) .none kV_law dc_law pm_law an_law cd_law ct_law)) := ⟨⟨{
    a_Script := a_Script
    m_Script := PySem.W.mg_of X G g_Script
    cl_Script := ⟨pg_Script, hd_Script, po_Script, sa_Script⟩
    na_Script__steps := na_Script__steps
    a_STEPS := a_STEPS
    dp_STEPS := fun _ => (dp_kt (xs := [.ref b_STEPS_0, .ref b_STEPS_1, .ref b_STEPS_2, .ref b_STEPS_3, .ref b_STEPS_4, .ref b_STEPS_5, .ref b_STEPS_6, .ref b_STEPS_7, .ref b_STEPS_8, .ref b_STEPS_9, .ref b_STEPS_10, .ref b_STEPS_11]) l_STEPS (by simp) (.cons rfl (.cons rfl (.cons rfl (.cons rfl (.cons rfl (.cons rfl (.cons rfl (.cons rfl (.cons rfl (.cons rfl (.cons rfl (.cons rfl .nil)))))))))))) (DpAll.cons (dp_kt (xs := [.str "make", .str "all"]) l_STEPS_0 (by simp) (.cons ⟨_, rfl⟩ (.cons ⟨_, rfl⟩ .nil)) (DpAll.cons (.str _) (DpAll.cons (.str _) DpAll.nil))) (DpAll.cons (dp_kt (xs := [.str "make", .str "standing"]) l_STEPS_1 (by simp) (.cons ⟨_, rfl⟩ (.cons ⟨_, rfl⟩ .nil)) (DpAll.cons (.str _) (DpAll.cons (.str _) DpAll.nil))) (DpAll.cons (dp_kt (xs := [.str "start", .str "new"]) l_STEPS_2 (by simp) (.cons ⟨_, rfl⟩ (.cons ⟨_, rfl⟩ .nil)) (DpAll.cons (.str _) (DpAll.cons (.str _) DpAll.nil))) (DpAll.cons (dp_kt (xs := [.str "start", .str "all"]) l_STEPS_3 (by simp) (.cons ⟨_, rfl⟩ (.cons ⟨_, rfl⟩ .nil)) (DpAll.cons (.str _) (DpAll.cons (.str _) DpAll.nil))) (DpAll.cons (dp_kt (xs := [.str "start", .str "free"]) l_STEPS_4 (by simp) (.cons ⟨_, rfl⟩ (.cons ⟨_, rfl⟩ .nil)) (DpAll.cons (.str _) (DpAll.cons (.str _) DpAll.nil))) (DpAll.cons (dp_kt (xs := [.str "label", .str "new"]) l_STEPS_5 (by simp) (.cons ⟨_, rfl⟩ (.cons ⟨_, rfl⟩ .nil)) (DpAll.cons (.str _) (DpAll.cons (.str _) DpAll.nil))) (DpAll.cons (dp_kt (xs := [.str "label", .str "all"]) l_STEPS_6 (by simp) (.cons ⟨_, rfl⟩ (.cons ⟨_, rfl⟩ .nil)) (DpAll.cons (.str _) (DpAll.cons (.str _) DpAll.nil))) (DpAll.cons (dp_kt (xs := [.str "label", .str "free"]) l_STEPS_7 (by simp) (.cons ⟨_, rfl⟩ (.cons ⟨_, rfl⟩ .nil)) (DpAll.cons (.str _) (DpAll.cons (.str _) DpAll.nil))) (DpAll.cons (dp_kt (xs := [.str "tie", .str "new"]) l_STEPS_8 (by simp) (.cons ⟨_, rfl⟩ (.cons ⟨_, rfl⟩ .nil)) (DpAll.cons (.str _) (DpAll.cons (.str _) DpAll.nil))) (DpAll.cons (dp_kt (xs := [.str "tie", .str "all"]) l_STEPS_9 (by simp) (.cons ⟨_, rfl⟩ (.cons ⟨_, rfl⟩ .nil)) (DpAll.cons (.str _) (DpAll.cons (.str _) DpAll.nil))) (DpAll.cons (dp_kt (xs := [.str "tie", .str "free"]) l_STEPS_10 (by simp) (.cons ⟨_, rfl⟩ (.cons ⟨_, rfl⟩ .nil)) (DpAll.cons (.str _) (DpAll.cons (.str _) DpAll.nil))) (DpAll.cons (dp_kt (xs := [.str "drop"]) l_STEPS_11 (by simp) (.cons ⟨_, rfl⟩ .nil) (DpAll.cons (.str _) DpAll.nil)) DpAll.nil)))))))))))))
    f_is_integer := f_is_integer
    d_is_integer := (PySem.W.fnOf "is_integer" "is_integer" (defArgs s_is_integer) (defBody s_is_integer) (defScope s_is_integer) .none kV_is_integer dc_is_integer pm_is_integer an_is_integer cd_is_integer ct_is_integer)
    F_is_integer := fun_mk (st := s_is_integer) l_is_integer c_is_integer k_is_integer
    b_is_integer := (fun_mk (st := s_is_integer) l_is_integer c_is_integer k_is_integer).binds (ps := ["value", "low", "high"]) fun _ _ _ _ _ _ us hl => match us, hl with | [_, _, _], _ => rfl
    m_is_integer := PySem.W.mg_of X G g_is_integer
    f_is_step := f_is_step
    d_is_step := (PySem.W.fnOf "is_step" "is_step" (defArgs s_is_step) (defBody s_is_step) (defScope s_is_step) .none kV_is_step dc_is_step pm_is_step an_is_step cd_is_step ct_is_step)
    F_is_step := fun_mk (st := s_is_step) l_is_step c_is_step k_is_step
    b_is_step := (fun_mk (st := s_is_step) l_is_step c_is_step k_is_step).binds (ps := ["value"]) fun _ _ _ _ _ _ us hl => match us, hl with | [_], _ => rfl
    m_is_step := PySem.W.mg_of X G g_is_step
    f_Script___init__ := f_Script___init__
    d_Script___init__ := (PySem.W.fnOf "__init__" "Script.__init__" (defArgs s_Script___init__) (defBody s_Script___init__) (defScope s_Script___init__) .none kV_Script___init__ dc_Script___init__ pm_Script___init__ an_Script___init__ cd_Script___init__ ct_Script___init__)
    F_Script___init__ := fun_mk (st := s_Script___init__) l_Script___init__ c_Script___init__ k_Script___init__
    b_Script___init__ := (fun_mk (st := s_Script___init__) l_Script___init__ c_Script___init__ k_Script___init__).binds (ps := ["self", "steps"]) fun _ _ _ _ _ _ us hl => match us, hl with | [_, _], _ => rfl
    M_Script := ⟨mk_Script, fi_Script___init__, isf_Script___init__, kc_Script⟩
    f_Script___len__ := f_Script___len__
    d_Script___len__ := (PySem.W.fnOf "__len__" "Script.__len__" (defArgs s_Script___len__) (defBody s_Script___len__) (defScope s_Script___len__) .none kV_Script___len__ dc_Script___len__ pm_Script___len__ an_Script___len__ cd_Script___len__ ct_Script___len__)
    F_Script___len__ := fun_mk (st := s_Script___len__) l_Script___len__ c_Script___len__ k_Script___len__
    b_Script___len__ := (fun_mk (st := s_Script___len__) l_Script___len__ c_Script___len__ k_Script___len__).binds (ps := ["self"]) fun _ _ _ _ _ _ us hl => match us, hl with | [_], _ => rfl
    me_Script___len__ := ⟨fi_Script___len__, isf_Script___len__, k_Script___len__⟩
    f_Script___eq__ := f_Script___eq__
    d_Script___eq__ := (PySem.W.fnOf "__eq__" "Script.__eq__" (defArgs s_Script___eq__) (defBody s_Script___eq__) (defScope s_Script___eq__) .none kV_Script___eq__ dc_Script___eq__ pm_Script___eq__ an_Script___eq__ cd_Script___eq__ ct_Script___eq__)
    F_Script___eq__ := fun_mk (st := s_Script___eq__) l_Script___eq__ c_Script___eq__ k_Script___eq__
    b_Script___eq__ := (fun_mk (st := s_Script___eq__) l_Script___eq__ c_Script___eq__ k_Script___eq__).binds (ps := ["self", "other"]) fun _ _ _ _ _ _ us hl => match us, hl with | [_, _], _ => rfl
    me_Script___eq__ := ⟨fi_Script___eq__, isf_Script___eq__, k_Script___eq__⟩
    f_Script___getitem__ := f_Script___getitem__
    d_Script___getitem__ := (PySem.W.fnOf "__getitem__" "Script.__getitem__" (defArgs s_Script___getitem__) (defBody s_Script___getitem__) (defScope s_Script___getitem__) .none kV_Script___getitem__ dc_Script___getitem__ pm_Script___getitem__ an_Script___getitem__ cd_Script___getitem__ ct_Script___getitem__)
    F_Script___getitem__ := fun_mk (st := s_Script___getitem__) l_Script___getitem__ c_Script___getitem__ k_Script___getitem__
    b_Script___getitem__ := (fun_mk (st := s_Script___getitem__) l_Script___getitem__ c_Script___getitem__ k_Script___getitem__).binds (ps := ["self", "at"]) fun _ _ _ _ _ _ us hl => match us, hl with | [_, _], _ => rfl
    me_Script___getitem__ := ⟨fi_Script___getitem__, isf_Script___getitem__, k_Script___getitem__⟩
    fi_Script___getitem__ := fni_Script___getitem__
    f_Script___contains__ := f_Script___contains__
    d_Script___contains__ := (PySem.W.fnOf "__contains__" "Script.__contains__" (defArgs s_Script___contains__) (defBody s_Script___contains__) (defScope s_Script___contains__) .none kV_Script___contains__ dc_Script___contains__ pm_Script___contains__ an_Script___contains__ cd_Script___contains__ ct_Script___contains__)
    F_Script___contains__ := fun_mk (st := s_Script___contains__) l_Script___contains__ c_Script___contains__ k_Script___contains__
    b_Script___contains__ := (fun_mk (st := s_Script___contains__) l_Script___contains__ c_Script___contains__ k_Script___contains__).binds (ps := ["self", "x"]) fun _ _ _ _ _ _ us hl => match us, hl with | [_, _], _ => rfl
    me_Script___contains__ := ⟨fi_Script___contains__, isf_Script___contains__, k_Script___contains__⟩
    f_Script___add__ := f_Script___add__
    d_Script___add__ := (PySem.W.fnOf "__add__" "Script.__add__" (defArgs s_Script___add__) (defBody s_Script___add__) (defScope s_Script___add__) .none kV_Script___add__ dc_Script___add__ pm_Script___add__ an_Script___add__ cd_Script___add__ ct_Script___add__)
    F_Script___add__ := fun_mk (st := s_Script___add__) l_Script___add__ c_Script___add__ k_Script___add__
    b_Script___add__ := (fun_mk (st := s_Script___add__) l_Script___add__ c_Script___add__ k_Script___add__).binds (ps := ["self", "other"]) fun _ _ _ _ _ _ us hl => match us, hl with | [_, _], _ => rfl
    me_Script___add__ := ⟨fi_Script___add__, isf_Script___add__, k_Script___add__⟩
    sf_Script := sf_Script
    f_Script_steps := f_Script_steps
    d_Script_steps := (PySem.W.fnOf "steps" "Script.steps" (defArgs s_Script_steps) (defBody s_Script_steps) (defScope s_Script_steps) .none kV_Script_steps dc_Script_steps pm_Script_steps an_Script_steps cd_Script_steps ct_Script_steps)
    F_Script_steps := fun_mk (st := s_Script_steps) l_Script_steps c_Script_steps k_Script_steps
    b_Script_steps := (fun_mk (st := s_Script_steps) l_Script_steps c_Script_steps k_Script_steps).binds (ps := ["self"]) fun _ _ _ _ _ _ us hl => match us, hl with | [_], _ => rfl
    me_Script_steps := ⟨fi_Script_steps, isf_Script_steps, k_Script_steps⟩
    f_Script_without := f_Script_without
    d_Script_without := (PySem.W.fnOf "without" "Script.without" (defArgs s_Script_without) (defBody s_Script_without) (defScope s_Script_without) .none kV_Script_without dc_Script_without pm_Script_without an_Script_without cd_Script_without ct_Script_without)
    F_Script_without := fun_mk (st := s_Script_without) l_Script_without c_Script_without k_Script_without
    b_Script_without := (fun_mk (st := s_Script_without) l_Script_without c_Script_without k_Script_without).binds (ps := ["self", "index"]) fun _ _ _ _ _ _ us hl => match us, hl with | [_, _], _ => rfl
    me_Script_without := ⟨fi_Script_without, isf_Script_without, k_Script_without⟩
    f_Script_with_step := f_Script_with_step
    d_Script_with_step := (PySem.W.fnOf "with_step" "Script.with_step" (defArgs s_Script_with_step) (defBody s_Script_with_step) (defScope s_Script_with_step) .none kV_Script_with_step dc_Script_with_step pm_Script_with_step an_Script_with_step cd_Script_with_step ct_Script_with_step)
    F_Script_with_step := fun_mk (st := s_Script_with_step) l_Script_with_step c_Script_with_step k_Script_with_step
    b_Script_with_step := (fun_mk (st := s_Script_with_step) l_Script_with_step c_Script_with_step k_Script_with_step).binds (ps := ["self", "index", "step"]) fun _ _ _ _ _ _ us hl => match us, hl with | [_, _, _], _ => rfl
    me_Script_with_step := ⟨fi_Script_with_step, isf_Script_with_step, k_Script_with_step⟩
    f_Script__has := f_Script__has
    d_Script__has := (PySem.W.fnOf "_has" "Script._has" (defArgs s_Script__has) (defBody s_Script__has) (defScope s_Script__has) .none kV_Script__has dc_Script__has pm_Script__has an_Script__has cd_Script__has ct_Script__has)
    F_Script__has := fun_mk (st := s_Script__has) l_Script__has c_Script__has k_Script__has
    b_Script__has := (fun_mk (st := s_Script__has) l_Script__has c_Script__has k_Script__has).binds (ps := ["self", "index"]) fun _ _ _ _ _ _ us hl => match us, hl with | [_, _], _ => rfl
    me_Script__has := ⟨fi_Script__has, isf_Script__has, k_Script__has⟩
    f__law_well := f__law_well
    d__law_well := (PySem.W.fnOf "_law_well" "_law_well" (defArgs s__law_well) (defBody s__law_well) (defScope s__law_well) .none kV__law_well dc__law_well pm__law_well an__law_well cd__law_well ct__law_well)
    F__law_well := fun_mk (st := s__law_well) l__law_well c__law_well k__law_well
    b__law_well := (fun_mk (st := s__law_well) l__law_well c__law_well k__law_well).binds (ps := ["script", "k"]) fun _ _ _ _ _ _ us hl => match us, hl with | [_, _], _ => rfl
    m__law_well := PySem.W.mg_of X G g__law_well
    f__law_draw := f__law_draw
    d__law_draw := (PySem.W.fnOf "_law_draw" "_law_draw" (defArgs s__law_draw) (defBody s__law_draw) (defScope s__law_draw) .none kV__law_draw dc__law_draw pm__law_draw an__law_draw cd__law_draw ct__law_draw)
    F__law_draw := fun_mk (st := s__law_draw) l__law_draw c__law_draw k__law_draw
    b__law_draw := (fun_mk (st := s__law_draw) l__law_draw c__law_draw k__law_draw).binds (ps := ["well", "many"]) fun _ _ _ _ _ _ us hl => match us, hl with | [_, _], _ => rfl
    m__law_draw := PySem.W.mg_of X G g__law_draw
    f__law_menu := f__law_menu
    d__law_menu := (PySem.W.fnOf "_law_menu" "_law_menu" (defArgs s__law_menu) (defBody s__law_menu) (defScope s__law_menu) .none kV__law_menu dc__law_menu pm__law_menu an__law_menu cd__law_menu ct__law_menu)
    F__law_menu := fun_mk (st := s__law_menu) l__law_menu c__law_menu k__law_menu
    b__law_menu := (fun_mk (st := s__law_menu) l__law_menu c__law_menu k__law_menu).binds (ps := []) fun _ _ _ _ _ _ us hl => match us, hl with | [], _ => rfl
    m__law_menu := PySem.W.mg_of X G g__law_menu
    f__law_row := f__law_row
    d__law_row := (PySem.W.fnOf "_law_row" "_law_row" (defArgs s__law_row) (defBody s__law_row) (defScope s__law_row) .none kV__law_row dc__law_row pm__law_row an__law_row cd__law_row ct__law_row)
    F__law_row := fun_mk (st := s__law_row) l__law_row c__law_row k__law_row
    b__law_row := (fun_mk (st := s__law_row) l__law_row c__law_row k__law_row).binds (ps := ["well", "most"]) fun _ _ _ _ _ _ us hl => match us, hl with | [_, _], _ => rfl
    m__law_row := PySem.W.mg_of X G g__law_row
    f__law_same := f__law_same
    d__law_same := (PySem.W.fnOf "_law_same" "_law_same" (defArgs s__law_same) (defBody s__law_same) (defScope s__law_same) .none kV__law_same dc__law_same pm__law_same an__law_same cd__law_same ct__law_same)
    F__law_same := fun_mk (st := s__law_same) l__law_same c__law_same k__law_same
    b__law_same := (fun_mk (st := s__law_same) l__law_same c__law_same k__law_same).binds (ps := ["actual", "expected"]) fun _ _ _ _ _ _ us hl => match us, hl with | [_, _], _ => rfl
    m__law_same := PySem.W.mg_of X G g__law_same
    f__law_told := f__law_told
    d__law_told := (PySem.W.fnOf "_law_told" "_law_told" (defArgs s__law_told) (defBody s__law_told) (defScope s__law_told) .none kV__law_told dc__law_told pm__law_told an__law_told cd__law_told ct__law_told)
    F__law_told := fun_mk (st := s__law_told) l__law_told c__law_told k__law_told
    b__law_told := (fun_mk (st := s__law_told) l__law_told c__law_told k__law_told).binds (ps := ["work", "row"]) fun _ _ _ _ _ _ us hl => match us, hl with | [_, _], _ => rfl
    m__law_told := PySem.W.mg_of X G g__law_told
    f__law_no_step := f__law_no_step
    d__law_no_step := (PySem.W.fnOf "_law_no_step" "_law_no_step" (defArgs s__law_no_step) (defBody s__law_no_step) (defScope s__law_no_step) .none kV__law_no_step dc__law_no_step pm__law_no_step an__law_no_step cd__law_no_step ct__law_no_step)
    F__law_no_step := fun_mk (st := s__law_no_step) l__law_no_step c__law_no_step k__law_no_step
    b__law_no_step := (fun_mk (st := s__law_no_step) l__law_no_step c__law_no_step k__law_no_step).binds (ps := ["way"]) fun _ _ _ _ _ _ us hl => match us, hl with | [_], _ => rfl
    m__law_no_step := PySem.W.mg_of X G g__law_no_step
    f__law_equal := f__law_equal
    d__law_equal := (PySem.W.fnOf "_law_equal" "_law_equal" (defArgs s__law_equal) (defBody s__law_equal) (defScope s__law_equal) .none kV__law_equal dc__law_equal pm__law_equal an__law_equal cd__law_equal ct__law_equal)
    F__law_equal := fun_mk (st := s__law_equal) l__law_equal c__law_equal k__law_equal
    b__law_equal := (fun_mk (st := s__law_equal) l__law_equal c__law_equal k__law_equal).binds (ps := ["one", "other", "due"]) fun _ _ _ _ _ _ us hl => match us, hl with | [_, _, _], _ => rfl
    m__law_equal := PySem.W.mg_of X G g__law_equal
    f__law_other := f__law_other
    d__law_other := (PySem.W.fnOf "_law_other" "_law_other" (defArgs s__law_other) (defBody s__law_other) (defScope s__law_other) .none kV__law_other dc__law_other pm__law_other an__law_other cd__law_other ct__law_other)
    F__law_other := fun_mk (st := s__law_other) l__law_other c__law_other k__law_other
    b__law_other := (fun_mk (st := s__law_other) l__law_other c__law_other k__law_other).binds (ps := ["well", "row"]) fun _ _ _ _ _ _ us hl => match us, hl with | [_, _], _ => rfl
    m__law_other := PySem.W.mg_of X G g__law_other
    f__law_holds := f__law_holds
    d__law_holds := (PySem.W.fnOf "_law_holds" "_law_holds" (defArgs s__law_holds) (defBody s__law_holds) (defScope s__law_holds) .none kV__law_holds dc__law_holds pm__law_holds an__law_holds cd__law_holds ct__law_holds)
    F__law_holds := fun_mk (st := s__law_holds) l__law_holds c__law_holds k__law_holds
    b__law_holds := (fun_mk (st := s__law_holds) l__law_holds c__law_holds k__law_holds).binds (ps := ["work", "row", "way"]) fun _ _ _ _ _ _ us hl => match us, hl with | [_, _, _], _ => rfl
    m__law_holds := PySem.W.mg_of X G g__law_holds
    f__law_made := f__law_made
    d__law_made := (PySem.W.fnOf "_law_made" "_law_made" (defArgs s__law_made) (defBody s__law_made) (defScope s__law_made) .none kV__law_made dc__law_made pm__law_made an__law_made cd__law_made ct__law_made)
    F__law_made := fun_mk (st := s__law_made) l__law_made c__law_made k__law_made
    b__law_made := (fun_mk (st := s__law_made) l__law_made c__law_made k__law_made).binds (ps := ["work", "row"]) fun _ _ _ _ _ _ us hl => match us, hl with | [_, _], _ => rfl
    m__law_made := PySem.W.mg_of X G g__law_made
    f_law := f_law
    d_law := (PySem.W.fnOf "law" "law" (defArgs s_law) (defBody s_law) (defScope s_law) .none kV_law dc_law pm_law an_law cd_law ct_law)
    F_law := fun_mk (st := s_law) l_law c_law k_law
    b_law := (fun_mk (st := s_law) l_law c_law k_law).binds (ps := ["script"]) fun _ _ _ _ _ _ us hl => match us, hl with | [_], _ => rfl
    m_law := PySem.W.mg_of X G g_law
    m_MOST_STEPS := ⟨_, PySem.W.mg_of X G g_MOST_STEPS⟩
    m_STEPS := PySem.W.mg_of X G g_STEPS
    m_all := PySem.W.mg_none_of X G g_all
    m_bool := PySem.W.mg_none_of X G g_bool
    m_enumerate := PySem.W.mg_none_of X G g_enumerate
    m_int := PySem.W.mg_none_of X G g_int
    m_isinstance := PySem.W.mg_none_of X G g_isinstance
    m_len := PySem.W.mg_none_of X G g_len
    m_list := PySem.W.mg_none_of X G g_list
    m_max := PySem.W.mg_none_of X G g_max
    m_range := PySem.W.mg_none_of X G g_range
    m_str := PySem.W.mg_none_of X G g_str
    m_tuple := PySem.W.mg_none_of X G g_tuple
    a_NoStep := a_NoStep
    f_NoStep := f_NoStep
    ec_NoStep := ⟨ga_NoStep, gg_NoStep, ex_NoStep, hd_NoStep, ha_NoStep, gsn_, gst_, mo_NoStep⟩
    er_NoStep := { gC := PySem.W.mg_of X G g_NoStep, gS := PySem.W.mg_none_of X G g_super, cls := ⟨_, _, _, _, _, _, _, _, _, _, _, _, _, _, _, x_NoStep, rfl⟩, sa := sa_NoStep, ga := ga_NoStep, gg := gg_NoStep, noN := nf_NoStep, iC := ic_NoStep, tC := tf__NoStep, kC := kc_NoStep, exC := ex_NoStep, tyC := ty_NoStep, hdC := hd_NoStep, te := PySem.W.exm_ref ex_NoStep hd_NoStep ty_NoStep ss_NoStep, qI := qi_NoStep, veC := ve_NoStep, mro := mr_NoStep, sup := su_NoStep, any := any_, top := top_, fn := ⟨"NoStep.__init__", _, _, _, _, _, _, _, _, _, _, _, _, _, _, _, _, _, _, _, _, _, _, _, _, _, _, _, _, _, _, l_NoStep, c_NoStep, lc_NoStep, vv_NoStep, ff_NoStep, cl__NoStep, fun _ => _, fun _ => rfl⟩ }
    a_NoIndex := a_NoIndex
    f_NoIndex := f_NoIndex
    ec_NoIndex := ⟨ga_NoIndex, gg_NoIndex, ex_NoIndex, hd_NoIndex, ha_NoIndex, gsn_, gst_, mo_NoIndex⟩
    er_NoIndex := { gC := PySem.W.mg_of X G g_NoIndex, gS := PySem.W.mg_none_of X G g_super, cls := ⟨_, _, _, _, _, _, _, _, _, _, _, _, _, _, _, x_NoIndex, rfl⟩, sa := sa_NoIndex, ga := ga_NoIndex, gg := gg_NoIndex, noN := nf_NoIndex, iC := ic_NoIndex, tC := tf__NoIndex, kC := kc_NoIndex, exC := ex_NoIndex, tyC := ty_NoIndex, hdC := hd_NoIndex, te := PySem.W.exm_ref ex_NoIndex hd_NoIndex ty_NoIndex ss_NoIndex, qI := qi_NoIndex, veC := ve_NoIndex, mro := mr_NoIndex, sup := su_NoIndex, any := any_, top := top_, fn := ⟨"NoIndex.__init__", _, _, _, _, _, _, _, _, _, _, _, _, _, _, _, _, _, _, _, _, _, _, _, _, _, _, _, _, _, _, l_NoIndex, c_NoIndex, lc_NoIndex, vv_NoIndex, ff_NoIndex, cl__NoIndex, fun _ => _, fun _ => rfl⟩ }
    ty_Script := fun _ _ _ _ h => .base (.ins h ⟨pg_Script, hd_Script, po_Script, sa_Script⟩ q1_Script q2_Script q3_Script q4_Script)
    fe_Script := h_fe_Script
    fn_Script := h_fn_Script
    ne_Script := h_ne_Script
    so_Script := h_so_Script
    ap_Script := ⟨fun _ h => PySem.W.seven (p := fun T => PySem.W.subIn K (.ref a_Script) (.type T) = some false) h up_NoneType up_bool up_int up_str up_tuple up_list up_dict, fun _ h => PySem.W.seven (p := fun T => PySem.W.subIn K (.type T) (.ref a_Script) = some false) h dn_NoneType dn_bool dn_int dn_str dn_tuple dn_list dn_dict⟩
    kx_Script := fun _ h => PySem.W.seven (p := fun T => PySem.W.kitOne K (.type T) (.ref a_Script) = some false) h kx_NoneType kx_bool kx_int kx_str kx_tuple kx_list kx_dict
    }, rfl, rfl⟩⟩
  obtain ⟨⟨T, e1, e2⟩⟩ := T
  refine ⟨T.d_law, ?_, fun base _ _ => ?_⟩
  · rw [e2]
    exact fun s v => .of_eq rfl
  have q : FnOk l.prog w K mg base CX0 8 T.f_law T.d_law ["script"] (spLaw K) := ok_law T
  rw [e1] at q
  exact q
theorem walk {l : PySem.W.OpenLaw} {q : Program} {loose : List Str} {XP : (Str → Option Value) → Heap → Prop} {YP : World → Heap → Prop} {d : DefRec} {K : Params → PySem.W.Frag} (hn : l.most = some 63) (hdf : d.params.defaults = [])
    (hY : ∀ (w : World) (h : Heap), YP w h → (K w.params).In h)
    (F : ∀ (w : World) (mg : Str → Option Value) (fa : Addr) (h : Heap), (K w.params).In h → h.Ns mainGlobals mg → mg d.name = some (.ref fa) →
      ∃ fd : FuncData, (∀ (s : Shared) (u : Value), BindsTo s fd ⟨[u], []⟩ [("script", u)]) ∧ ∀ base : Heap, (K w.params).In base → base.Ns mainGlobals mg → FnOk l.prog w (K w.params) mg base CX0 8 fa fd ["script"] (spLaw (K w.params))) :
    PySem.W.WalkO q loose XP YP l.row.toRowW d [] (fun f vs => PySem.call f vs) :=
  L2.walk_ofB (n := 63) (k := 8) (x := "script") (CX := fun _ => CX0) (sp := fun w => spLaw (K w.params)) hn (by decide) hdf ⟨rfl, by decide, by decide⟩ hY F (fun _ _ a ns hl hb _ hS => ⟨a, ns, rfl, hS, hl, hb, fun _ => rfl⟩) fun _ _ _ _ _ z => z
end Y
open PySem PySem.W PyProof.Rows
set_option maxRecDepth 100000 in
set_option maxHeartbeats 0 in
theorem PySem.Challenge.cw_yearturned_k05_equal_scripts_and_steps_i_holds : PySem.Challenge.rw_yearturned_k05_equal_scripts_and_steps_i.Holds := by
  w_on; o_law; k_head; (case hw => w_witness2)
  k_fill
  refine Y.walk (l := PySem.Challenge.rw_yearturned_k05_equal_scripts_and_steps_i) rfl rfl (fun w h Y => PySem.W.kIn_of Y) ?F
  case F =>
    intro w mg fa h KX G hmg
    refine' Y.all_mk KX G hmg ?g_Script ?pg_Script ?hd_Script ?po_Script ?sa_Script ?na_Script__steps ?g_STEPS ?l_STEPS ?l_STEPS_0 ?l_STEPS_1 ?l_STEPS_2 ?l_STEPS_3 ?l_STEPS_4 ?l_STEPS_5 ?l_STEPS_6 ?l_STEPS_7 ?l_STEPS_8 ?l_STEPS_9 ?l_STEPS_10 ?l_STEPS_11 ?g_is_integer ?l_is_integer ?c_is_integer ?k_is_integer ?g_is_step ?l_is_step ?c_is_step ?k_is_step ?fi_Script___init__ ?isf_Script___init__ ?l_Script___init__ ?c_Script___init__ ?k_Script___init__ ?mk_Script ?kc_Script ?fi_Script___len__ ?isf_Script___len__ ?l_Script___len__ ?c_Script___len__ ?k_Script___len__ ?fi_Script___eq__ ?isf_Script___eq__ ?l_Script___eq__ ?c_Script___eq__ ?k_Script___eq__ ?fi_Script___getitem__ ?isf_Script___getitem__ ?l_Script___getitem__ ?c_Script___getitem__ ?k_Script___getitem__ ?fni_Script___getitem__ ?fi_Script___contains__ ?isf_Script___contains__ ?l_Script___contains__ ?c_Script___contains__ ?k_Script___contains__ ?fi_Script___add__ ?isf_Script___add__ ?l_Script___add__ ?c_Script___add__ ?k_Script___add__ ?sf_Script ?fi_Script_steps ?isf_Script_steps ?l_Script_steps ?c_Script_steps ?k_Script_steps ?fi_Script_without ?isf_Script_without ?l_Script_without ?c_Script_without ?k_Script_without ?fi_Script_with_step ?isf_Script_with_step ?l_Script_with_step ?c_Script_with_step ?k_Script_with_step ?fi_Script__has ?isf_Script__has ?l_Script__has ?c_Script__has ?k_Script__has ?g__law_well ?l__law_well ?c__law_well ?k__law_well ?g__law_draw ?l__law_draw ?c__law_draw ?k__law_draw ?g__law_menu ?l__law_menu ?c__law_menu ?k__law_menu ?g__law_row ?l__law_row ?c__law_row ?k__law_row ?g__law_same ?l__law_same ?c__law_same ?k__law_same ?g__law_told ?l__law_told ?c__law_told ?k__law_told ?g__law_no_step ?l__law_no_step ?c__law_no_step ?k__law_no_step ?g__law_equal ?l__law_equal ?c__law_equal ?k__law_equal ?g__law_other ?l__law_other ?c__law_other ?k__law_other ?g__law_holds ?l__law_holds ?c__law_holds ?k__law_holds ?g__law_made ?l__law_made ?c__law_made ?k__law_made ?g_law ?l_law ?c_law ?k_law ?g_MOST_STEPS ?g_all ?g_bool ?g_enumerate ?g_int ?g_isinstance ?g_len ?g_list ?g_max ?g_range ?g_str ?g_tuple ?g_super ?any_ ?top_ ?gsn_ ?gst_ ?g_NoStep ?x_NoStep ?sa_NoStep ?ga_NoStep ?gg_NoStep ?nf_NoStep ?ic_NoStep ?ha_NoStep ?tf__NoStep ?kc_NoStep ?ex_NoStep ?ty_NoStep ?hd_NoStep ?ss_NoStep ?qi_NoStep ?ve_NoStep ?mr_NoStep ?mo_NoStep ?su_NoStep ?l_NoStep ?c_NoStep ?lc_NoStep ?vv_NoStep ?ff_NoStep ?cl__NoStep ?g_NoIndex ?x_NoIndex ?sa_NoIndex ?ga_NoIndex ?gg_NoIndex ?nf_NoIndex ?ic_NoIndex ?ha_NoIndex ?tf__NoIndex ?kc_NoIndex ?ex_NoIndex ?ty_NoIndex ?hd_NoIndex ?ss_NoIndex ?qi_NoIndex ?ve_NoIndex ?mr_NoIndex ?mo_NoIndex ?su_NoIndex ?l_NoIndex ?c_NoIndex ?lc_NoIndex ?vv_NoIndex ?ff_NoIndex ?cl__NoIndex ?q1_Script ?q2_Script ?q3_Script ?q4_Script ?h_fe_Script ?h_fn_Script ?h_ne_Script ?h_so_Script ?up_NoneType ?up_bool ?up_int ?up_str ?up_tuple ?up_list ?up_dict ?dn_NoneType ?dn_bool ?dn_int ?dn_str ?dn_tuple ?dn_list ?dn_dict ?kx_NoneType ?kx_bool ?kx_int ?kx_str ?kx_tuple ?kx_list ?kx_dict
    (case g_Script => first | k_is | ks_is | rfl | decide +kernel | (k_keys; done))
    (case pg_Script => first | k_is | ks_is | rfl | decide +kernel | (k_keys; done))
    (case hd_Script => first | k_is | ks_is | rfl | decide +kernel | (k_keys; done))
    (case po_Script => first | k_is | ks_is | rfl | decide +kernel | (k_keys; done))
    (case sa_Script => first | k_is | ks_is | rfl | decide +kernel | (k_keys; done))
    (case na_Script__steps => first | k_is | ks_is | rfl | decide +kernel | (k_keys; done))
    (case g_STEPS => first | k_is | ks_is | rfl | decide +kernel | (k_keys; done))
    (case l_STEPS => first | k_is | ks_is | rfl | decide +kernel | (k_keys; done))
    (case l_STEPS_0 => first | k_is | ks_is | rfl | decide +kernel | (k_keys; done))
    (case l_STEPS_1 => first | k_is | ks_is | rfl | decide +kernel | (k_keys; done))
    (case l_STEPS_2 => first | k_is | ks_is | rfl | decide +kernel | (k_keys; done))
    (case l_STEPS_3 => first | k_is | ks_is | rfl | decide +kernel | (k_keys; done))
    (case l_STEPS_4 => first | k_is | ks_is | rfl | decide +kernel | (k_keys; done))
    (case l_STEPS_5 => first | k_is | ks_is | rfl | decide +kernel | (k_keys; done))
    (case l_STEPS_6 => first | k_is | ks_is | rfl | decide +kernel | (k_keys; done))
    (case l_STEPS_7 => first | k_is | ks_is | rfl | decide +kernel | (k_keys; done))
    (case l_STEPS_8 => first | k_is | ks_is | rfl | decide +kernel | (k_keys; done))
    (case l_STEPS_9 => first | k_is | ks_is | rfl | decide +kernel | (k_keys; done))
    (case l_STEPS_10 => first | k_is | ks_is | rfl | decide +kernel | (k_keys; done))
    (case l_STEPS_11 => first | k_is | ks_is | rfl | decide +kernel | (k_keys; done))
    (case g_is_integer => first | k_is | ks_is | rfl | decide +kernel | (k_keys; done))
    (case l_is_integer => first | k_is | ks_is | rfl | decide +kernel | (k_keys; done))
    (case c_is_integer => first | k_is | ks_is | rfl | decide +kernel | (k_keys; done))
    (case k_is_integer => first | k_is | ks_is | rfl | decide +kernel | (k_keys; done))
    (case g_is_step => first | k_is | ks_is | rfl | decide +kernel | (k_keys; done))
    (case l_is_step => first | k_is | ks_is | rfl | decide +kernel | (k_keys; done))
    (case c_is_step => first | k_is | ks_is | rfl | decide +kernel | (k_keys; done))
    (case k_is_step => first | k_is | ks_is | rfl | decide +kernel | (k_keys; done))
    (case fi_Script___init__ => first | k_is | ks_is | rfl | decide +kernel | (k_keys; done))
    (case isf_Script___init__ => first | k_is | ks_is | rfl | decide +kernel | (k_keys; done))
    (case l_Script___init__ => first | k_is | ks_is | rfl | decide +kernel | (k_keys; done))
    (case c_Script___init__ => first | k_is | ks_is | rfl | decide +kernel | (k_keys; done))
    (case k_Script___init__ => first | k_is | ks_is | rfl | decide +kernel | (k_keys; done))
    (case mk_Script => first | k_is | ks_is | rfl | decide +kernel | (k_keys; done))
    (case kc_Script => first | k_is | ks_is | rfl | decide +kernel | (k_keys; done))
    (case fi_Script___len__ => first | k_is | ks_is | rfl | decide +kernel | (k_keys; done))
    (case isf_Script___len__ => first | k_is | ks_is | rfl | decide +kernel | (k_keys; done))
    (case l_Script___len__ => first | k_is | ks_is | rfl | decide +kernel | (k_keys; done))
    (case c_Script___len__ => first | k_is | ks_is | rfl | decide +kernel | (k_keys; done))
    (case k_Script___len__ => first | k_is | ks_is | rfl | decide +kernel | (k_keys; done))
    (case fi_Script___eq__ => first | k_is | ks_is | rfl | decide +kernel | (k_keys; done))
    (case isf_Script___eq__ => first | k_is | ks_is | rfl | decide +kernel | (k_keys; done))
    (case l_Script___eq__ => first | k_is | ks_is | rfl | decide +kernel | (k_keys; done))
    (case c_Script___eq__ => first | k_is | ks_is | rfl | decide +kernel | (k_keys; done))
    (case k_Script___eq__ => first | k_is | ks_is | rfl | decide +kernel | (k_keys; done))
    (case fi_Script___getitem__ => first | k_is | ks_is | rfl | decide +kernel | (k_keys; done))
    (case isf_Script___getitem__ => first | k_is | ks_is | rfl | decide +kernel | (k_keys; done))
    (case l_Script___getitem__ => first | k_is | ks_is | rfl | decide +kernel | (k_keys; done))
    (case c_Script___getitem__ => first | k_is | ks_is | rfl | decide +kernel | (k_keys; done))
    (case k_Script___getitem__ => first | k_is | ks_is | rfl | decide +kernel | (k_keys; done))
    (case fni_Script___getitem__ => first | k_is | ks_is | rfl | decide +kernel | (k_keys; done))
    (case fi_Script___contains__ => first | k_is | ks_is | rfl | decide +kernel | (k_keys; done))
    (case isf_Script___contains__ => first | k_is | ks_is | rfl | decide +kernel | (k_keys; done))
    (case l_Script___contains__ => first | k_is | ks_is | rfl | decide +kernel | (k_keys; done))
    (case c_Script___contains__ => first | k_is | ks_is | rfl | decide +kernel | (k_keys; done))
    (case k_Script___contains__ => first | k_is | ks_is | rfl | decide +kernel | (k_keys; done))
    (case fi_Script___add__ => first | k_is | ks_is | rfl | decide +kernel | (k_keys; done))
    (case isf_Script___add__ => first | k_is | ks_is | rfl | decide +kernel | (k_keys; done))
    (case l_Script___add__ => first | k_is | ks_is | rfl | decide +kernel | (k_keys; done))
    (case c_Script___add__ => first | k_is | ks_is | rfl | decide +kernel | (k_keys; done))
    (case k_Script___add__ => first | k_is | ks_is | rfl | decide +kernel | (k_keys; done))
    (case sf_Script => first | k_is | ks_is | rfl | decide +kernel | (k_keys; done))
    (case fi_Script_steps => first | k_is | ks_is | rfl | decide +kernel | (k_keys; done))
    (case isf_Script_steps => first | k_is | ks_is | rfl | decide +kernel | (k_keys; done))
    (case l_Script_steps => first | k_is | ks_is | rfl | decide +kernel | (k_keys; done))
    (case c_Script_steps => first | k_is | ks_is | rfl | decide +kernel | (k_keys; done))
    (case k_Script_steps => first | k_is | ks_is | rfl | decide +kernel | (k_keys; done))
    (case fi_Script_without => first | k_is | ks_is | rfl | decide +kernel | (k_keys; done))
    (case isf_Script_without => first | k_is | ks_is | rfl | decide +kernel | (k_keys; done))
    (case l_Script_without => first | k_is | ks_is | rfl | decide +kernel | (k_keys; done))
    (case c_Script_without => first | k_is | ks_is | rfl | decide +kernel | (k_keys; done))
    (case k_Script_without => first | k_is | ks_is | rfl | decide +kernel | (k_keys; done))
    (case fi_Script_with_step => first | k_is | ks_is | rfl | decide +kernel | (k_keys; done))
    (case isf_Script_with_step => first | k_is | ks_is | rfl | decide +kernel | (k_keys; done))
    (case l_Script_with_step => first | k_is | ks_is | rfl | decide +kernel | (k_keys; done))
    (case c_Script_with_step => first | k_is | ks_is | rfl | decide +kernel | (k_keys; done))
    (case k_Script_with_step => first | k_is | ks_is | rfl | decide +kernel | (k_keys; done))
    (case fi_Script__has => first | k_is | ks_is | rfl | decide +kernel | (k_keys; done))
    (case isf_Script__has => first | k_is | ks_is | rfl | decide +kernel | (k_keys; done))
    (case l_Script__has => first | k_is | ks_is | rfl | decide +kernel | (k_keys; done))
    (case c_Script__has => first | k_is | ks_is | rfl | decide +kernel | (k_keys; done))
    (case k_Script__has => first | k_is | ks_is | rfl | decide +kernel | (k_keys; done))
    (case g__law_well => first | k_is | ks_is | rfl | decide +kernel | (k_keys; done))
    (case l__law_well => first | k_is | ks_is | rfl | decide +kernel | (k_keys; done))
    (case c__law_well => first | k_is | ks_is | rfl | decide +kernel | (k_keys; done))
    (case k__law_well => first | k_is | ks_is | rfl | decide +kernel | (k_keys; done))
    (case g__law_draw => first | k_is | ks_is | rfl | decide +kernel | (k_keys; done))
    (case l__law_draw => first | k_is | ks_is | rfl | decide +kernel | (k_keys; done))
    (case c__law_draw => first | k_is | ks_is | rfl | decide +kernel | (k_keys; done))
    (case k__law_draw => first | k_is | ks_is | rfl | decide +kernel | (k_keys; done))
    (case g__law_menu => first | k_is | ks_is | rfl | decide +kernel | (k_keys; done))
    (case l__law_menu => first | k_is | ks_is | rfl | decide +kernel | (k_keys; done))
    (case c__law_menu => first | k_is | ks_is | rfl | decide +kernel | (k_keys; done))
    (case k__law_menu => first | k_is | ks_is | rfl | decide +kernel | (k_keys; done))
    (case g__law_row => first | k_is | ks_is | rfl | decide +kernel | (k_keys; done))
    (case l__law_row => first | k_is | ks_is | rfl | decide +kernel | (k_keys; done))
    (case c__law_row => first | k_is | ks_is | rfl | decide +kernel | (k_keys; done))
    (case k__law_row => first | k_is | ks_is | rfl | decide +kernel | (k_keys; done))
    (case g__law_same => first | k_is | ks_is | rfl | decide +kernel | (k_keys; done))
    (case l__law_same => first | k_is | ks_is | rfl | decide +kernel | (k_keys; done))
    (case c__law_same => first | k_is | ks_is | rfl | decide +kernel | (k_keys; done))
    (case k__law_same => first | k_is | ks_is | rfl | decide +kernel | (k_keys; done))
    (case g__law_told => first | k_is | ks_is | rfl | decide +kernel | (k_keys; done))
    (case l__law_told => first | k_is | ks_is | rfl | decide +kernel | (k_keys; done))
    (case c__law_told => first | k_is | ks_is | rfl | decide +kernel | (k_keys; done))
    (case k__law_told => first | k_is | ks_is | rfl | decide +kernel | (k_keys; done))
    (case g__law_no_step => first | k_is | ks_is | rfl | decide +kernel | (k_keys; done))
    (case l__law_no_step => first | k_is | ks_is | rfl | decide +kernel | (k_keys; done))
    (case c__law_no_step => first | k_is | ks_is | rfl | decide +kernel | (k_keys; done))
    (case k__law_no_step => first | k_is | ks_is | rfl | decide +kernel | (k_keys; done))
    (case g__law_equal => first | k_is | ks_is | rfl | decide +kernel | (k_keys; done))
    (case l__law_equal => first | k_is | ks_is | rfl | decide +kernel | (k_keys; done))
    (case c__law_equal => first | k_is | ks_is | rfl | decide +kernel | (k_keys; done))
    (case k__law_equal => first | k_is | ks_is | rfl | decide +kernel | (k_keys; done))
    (case g__law_other => first | k_is | ks_is | rfl | decide +kernel | (k_keys; done))
    (case l__law_other => first | k_is | ks_is | rfl | decide +kernel | (k_keys; done))
    (case c__law_other => first | k_is | ks_is | rfl | decide +kernel | (k_keys; done))
    (case k__law_other => first | k_is | ks_is | rfl | decide +kernel | (k_keys; done))
    (case g__law_holds => first | k_is | ks_is | rfl | decide +kernel | (k_keys; done))
    (case l__law_holds => first | k_is | ks_is | rfl | decide +kernel | (k_keys; done))
    (case c__law_holds => first | k_is | ks_is | rfl | decide +kernel | (k_keys; done))
    (case k__law_holds => first | k_is | ks_is | rfl | decide +kernel | (k_keys; done))
    (case g__law_made => first | k_is | ks_is | rfl | decide +kernel | (k_keys; done))
    (case l__law_made => first | k_is | ks_is | rfl | decide +kernel | (k_keys; done))
    (case c__law_made => first | k_is | ks_is | rfl | decide +kernel | (k_keys; done))
    (case k__law_made => first | k_is | ks_is | rfl | decide +kernel | (k_keys; done))
    (case g_law => first | k_is | ks_is | rfl | decide +kernel | (k_keys; done))
    (case l_law => first | k_is | ks_is | rfl | decide +kernel | (k_keys; done))
    (case c_law => first | k_is | ks_is | rfl | decide +kernel | (k_keys; done))
    (case k_law => first | k_is | ks_is | rfl | decide +kernel | (k_keys; done))
    (case g_MOST_STEPS => first | k_is | ks_is | rfl | decide +kernel | (k_keys; done))
    (case g_all => first | k_is | ks_is | rfl | decide +kernel | (k_keys; done))
    (case g_bool => first | k_is | ks_is | rfl | decide +kernel | (k_keys; done))
    (case g_enumerate => first | k_is | ks_is | rfl | decide +kernel | (k_keys; done))
    (case g_int => first | k_is | ks_is | rfl | decide +kernel | (k_keys; done))
    (case g_isinstance => first | k_is | ks_is | rfl | decide +kernel | (k_keys; done))
    (case g_len => first | k_is | ks_is | rfl | decide +kernel | (k_keys; done))
    (case g_list => first | k_is | ks_is | rfl | decide +kernel | (k_keys; done))
    (case g_max => first | k_is | ks_is | rfl | decide +kernel | (k_keys; done))
    (case g_range => first | k_is | ks_is | rfl | decide +kernel | (k_keys; done))
    (case g_str => first | k_is | ks_is | rfl | decide +kernel | (k_keys; done))
    (case g_tuple => first | k_is | ks_is | rfl | decide +kernel | (k_keys; done))
    (case g_super => first | k_is | ks_is | rfl | decide +kernel | (k_keys; done))
    (case any_ => first | k_is | ks_is | rfl | decide +kernel | (k_keys; done))
    (case top_ => first | k_is | ks_is | rfl | decide +kernel | (k_keys; done))
    (case gsn_ => first | k_is | ks_is | rfl | decide +kernel | (k_keys; done))
    (case gst_ => first | k_is | ks_is | rfl | decide +kernel | (k_keys; done))
    (case g_NoStep => first | k_is | ks_is | rfl | decide +kernel | (k_keys; done))
    (case x_NoStep => first | k_is | ks_is | rfl | decide +kernel | (k_keys; done))
    (case sa_NoStep => first | k_is | ks_is | rfl | decide +kernel | (k_keys; done))
    (case ga_NoStep => first | k_is | ks_is | rfl | decide +kernel | (k_keys; done))
    (case gg_NoStep => first | k_is | ks_is | rfl | decide +kernel | (k_keys; done))
    (case nf_NoStep => first | k_is | ks_is | rfl | decide +kernel | (k_keys; done))
    (case ic_NoStep => first | k_is | ks_is | rfl | decide +kernel | (k_keys; done))
    (case ha_NoStep => first | k_is | ks_is | rfl | decide +kernel | (k_keys; done))
    (case tf__NoStep => first | k_is | ks_is | rfl | decide +kernel | (k_keys; done))
    (case kc_NoStep => first | k_is | ks_is | rfl | decide +kernel | (k_keys; done))
    (case ex_NoStep => first | k_is | ks_is | rfl | decide +kernel | (k_keys; done))
    (case ty_NoStep => first | k_is | ks_is | rfl | decide +kernel | (k_keys; done))
    (case hd_NoStep => first | k_is | ks_is | rfl | decide +kernel | (k_keys; done))
    (case ss_NoStep => first | k_is | ks_is | rfl | decide +kernel | (k_keys; done))
    (case qi_NoStep => first | k_is | ks_is | rfl | decide +kernel | (k_keys; done))
    (case ve_NoStep => first | k_is | ks_is | rfl | decide +kernel | (k_keys; done))
    (case mr_NoStep => first | k_is | ks_is | rfl | decide +kernel | (k_keys; done))
    (case mo_NoStep => first | k_is | ks_is | rfl | decide +kernel | (k_keys; done))
    (case su_NoStep => first | k_is | ks_is | rfl | decide +kernel | (k_keys; done))
    (case l_NoStep => first | k_is | ks_is | rfl | decide +kernel | (k_keys; done))
    (case c_NoStep => first | k_is | ks_is | rfl | decide +kernel | (k_keys; done))
    (case lc_NoStep => first | k_is | ks_is | rfl | decide +kernel | (k_keys; done))
    (case vv_NoStep => first | k_is | ks_is | rfl | decide +kernel | (k_keys; done))
    (case ff_NoStep => first | k_is | ks_is | rfl | decide +kernel | (k_keys; done))
    (case cl__NoStep => first | k_is | ks_is | rfl | decide +kernel | (k_keys; done))
    (case g_NoIndex => first | k_is | ks_is | rfl | decide +kernel | (k_keys; done))
    (case x_NoIndex => first | k_is | ks_is | rfl | decide +kernel | (k_keys; done))
    (case sa_NoIndex => first | k_is | ks_is | rfl | decide +kernel | (k_keys; done))
    (case ga_NoIndex => first | k_is | ks_is | rfl | decide +kernel | (k_keys; done))
    (case gg_NoIndex => first | k_is | ks_is | rfl | decide +kernel | (k_keys; done))
    (case nf_NoIndex => first | k_is | ks_is | rfl | decide +kernel | (k_keys; done))
    (case ic_NoIndex => first | k_is | ks_is | rfl | decide +kernel | (k_keys; done))
    (case ha_NoIndex => first | k_is | ks_is | rfl | decide +kernel | (k_keys; done))
    (case tf__NoIndex => first | k_is | ks_is | rfl | decide +kernel | (k_keys; done))
    (case kc_NoIndex => first | k_is | ks_is | rfl | decide +kernel | (k_keys; done))
    (case ex_NoIndex => first | k_is | ks_is | rfl | decide +kernel | (k_keys; done))
    (case ty_NoIndex => first | k_is | ks_is | rfl | decide +kernel | (k_keys; done))
    (case hd_NoIndex => first | k_is | ks_is | rfl | decide +kernel | (k_keys; done))
    (case ss_NoIndex => first | k_is | ks_is | rfl | decide +kernel | (k_keys; done))
    (case qi_NoIndex => first | k_is | ks_is | rfl | decide +kernel | (k_keys; done))
    (case ve_NoIndex => first | k_is | ks_is | rfl | decide +kernel | (k_keys; done))
    (case mr_NoIndex => first | k_is | ks_is | rfl | decide +kernel | (k_keys; done))
    (case mo_NoIndex => first | k_is | ks_is | rfl | decide +kernel | (k_keys; done))
    (case su_NoIndex => first | k_is | ks_is | rfl | decide +kernel | (k_keys; done))
    (case l_NoIndex => first | k_is | ks_is | rfl | decide +kernel | (k_keys; done))
    (case c_NoIndex => first | k_is | ks_is | rfl | decide +kernel | (k_keys; done))
    (case lc_NoIndex => first | k_is | ks_is | rfl | decide +kernel | (k_keys; done))
    (case vv_NoIndex => first | k_is | ks_is | rfl | decide +kernel | (k_keys; done))
    (case ff_NoIndex => first | k_is | ks_is | rfl | decide +kernel | (k_keys; done))
    (case cl__NoIndex => first | k_is | ks_is | rfl | decide +kernel | (k_keys; done))
    (case q1_Script => first | k_is | ks_is | rfl | decide +kernel | (k_keys; done))
    (case q2_Script => first | k_is | ks_is | rfl | decide +kernel | (k_keys; done))
    (case q3_Script => first | k_is | ks_is | rfl | decide +kernel | (k_keys; done))
    (case q4_Script => first | k_is | ks_is | rfl | decide +kernel | (k_keys; done))
    (case h_fe_Script => first | k_is | ks_is | rfl | decide +kernel | (k_keys; done))
    (case h_fn_Script => first | k_is | ks_is | rfl | decide +kernel | (k_keys; done))
    (case h_ne_Script => first | k_is | ks_is | rfl | decide +kernel | (k_keys; done))
    (case h_so_Script => first | k_is | ks_is | rfl | decide +kernel | (k_keys; done))
    (case up_NoneType => first | k_is | ks_is | rfl | decide +kernel | (k_keys; done))
    (case up_bool => first | k_is | ks_is | rfl | decide +kernel | (k_keys; done))
    (case up_int => first | k_is | ks_is | rfl | decide +kernel | (k_keys; done))
    (case up_str => first | k_is | ks_is | rfl | decide +kernel | (k_keys; done))
    (case up_tuple => first | k_is | ks_is | rfl | decide +kernel | (k_keys; done))
    (case up_list => first | k_is | ks_is | rfl | decide +kernel | (k_keys; done))
    (case up_dict => first | k_is | ks_is | rfl | decide +kernel | (k_keys; done))
    (case dn_NoneType => first | k_is | ks_is | rfl | decide +kernel | (k_keys; done))
    (case dn_bool => first | k_is | ks_is | rfl | decide +kernel | (k_keys; done))
    (case dn_int => first | k_is | ks_is | rfl | decide +kernel | (k_keys; done))
    (case dn_str => first | k_is | ks_is | rfl | decide +kernel | (k_keys; done))
    (case dn_tuple => first | k_is | ks_is | rfl | decide +kernel | (k_keys; done))
    (case dn_list => first | k_is | ks_is | rfl | decide +kernel | (k_keys; done))
    (case dn_dict => first | k_is | ks_is | rfl | decide +kernel | (k_keys; done))
    (case kx_NoneType => first | k_is | ks_is | rfl | decide +kernel | (k_keys; done))
    (case kx_bool => first | k_is | ks_is | rfl | decide +kernel | (k_keys; done))
    (case kx_int => first | k_is | ks_is | rfl | decide +kernel | (k_keys; done))
    (case kx_str => first | k_is | ks_is | rfl | decide +kernel | (k_keys; done))
    (case kx_tuple => first | k_is | ks_is | rfl | decide +kernel | (k_keys; done))
    (case kx_list => first | k_is | ks_is | rfl | decide +kernel | (k_keys; done))
    (case kx_dict => first | k_is | ks_is | rfl | decide +kernel | (k_keys; done))


