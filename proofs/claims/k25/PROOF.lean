import PyProof.Rows.All
import Wide.All
import OpenK.AllK
import Wide.FinOn
import HandS.Base
import HandS.Call
import HandS.List
import HandS.Comp
import HandS.Dict
import HandS.Iter
import HandS.Text
import HandS.TupAny
import HandS.Wide
import HandS.Deep
import HandS.Style
import HandS.ForMost
import HandS.IsInst
import HandS.Defaults
import HandS.MakeKw
import HandS.Conv
import OpenK.KMeth
import OpenK.KOps
import KE.GoesMore
import KE.GoesEnum
import HandS.MakeKwOnly
import HandS.Walk
import HandS.Exc
import KE.KExcSuper
import HandS.ExcOwn
import HandS.WordsExc
import HandS.ExcIs
import KE.DataFind
import HandS.More
import HandS.DictComp
import HandS.TupMul
import HandS.Sort
import HandS.NoneIn
import HandS.WrittenGet
import KE.KDictList
import HandS.Zip
import HandS.StrMore
import KE.GoesEnumKw
import HandS.Codes
import HandS.Flow
import HandS.Property
import HandS.SortInts
import HandS.OwnEq
import PyProof.InstEq
import PyProof.NeKinds
import PyProof.FactsAll.dict_1
import PyProof.FactsAll.dict_2
import PySem.Challenge.RW_yearturned_k25_drops
import HandS.EndBits
import HandS.Ends
set_option Elab.async false
set_option linter.all false
set_option maxRecDepth 100000
namespace Y
open PySem L2
/-! frames -/
abbrev VL := List V → Hp → Prop
def fOp1 (r : R2) (tb : TE) (σ : St) (Q : VK) : VK := fun x H => tb σ H fun y H2 => r x y H2 Q
def fOp2 (r : R2) (x : V) (Q : VK) : VK := fun y H => r x y H Q
def fUn (r : V → Hp → VK → Prop) (Q : VK) : VK := fun x H => r x H Q
def fFld (K : PySem.W.Frag) (f : Str) (Q : VK) : VK := fun x H1 => ∃ a C dx fs v, x = .ref a ∧ H1 a = some (.ins C dx fs) ∧ Cls K C ∧ NoAttr K C f ∧ fs.lookup f = some v ∧ Q v H1
def fTup (Q : VK) : VL := fun xs H1 => xs.length ≤ sizeLine ∧ ∀ p, H1 p = none → Q (.ref p) (upd H1 p (.tup xs))
def fLst (Q : VK) : VL := fun xs H1 => xs.length ≤ sizeLine ∧ ∀ p, H1 p = none → Q (.ref p) (upd H1 p (.lst xs))
def fCons (tr : TA) (σ : St) (Q : VL) : VK := fun x H1 => tr σ H1 fun xs H2 => Q (x :: xs) H2
def fCons2 (x : V) (Q : VL) : VL := fun xs H2 => Q (x :: xs) H2
def fCall (sp : Sp) (dvs : List V) (E : XK) (Q : VK) : VL := fun vs H1 => sp (vs ++ dvs) H1 Q E
def fCB (r : List V → Hp → VK → Prop) (Q : VK) : VL := fun vs H1 => r vs H1 Q
def fMeth (C : Addr) (m : Str) (sp : Sp) (dvs : List V) (E : XK) (t : TA) (σ : St) (Q : VK) : VK := fun x H1 => ∃ a dx fs, x = .ref a ∧ H1 a = some (.ins C dx fs) ∧ fs.lookup m = none ∧ t σ H1 fun vs H2 => sp (.ref a :: (vs ++ dvs)) H2 Q E
def fMake (C : Addr) (sp : Sp) (dvs : List V) (E : XK) (Q : VK) : VL := fun vs H1 => ∀ x dx, H1 x = none → H1 dx = none → dx ≠ x →
  sp (.ref x :: (vs ++ dvs)) (upd (upd H1 dx (.own x)) x (.ins C dx [])) (fun v H2 => v = .non ∧ Q (.ref x) H2) E
def fB (Q : Bool → Hp → Prop) : VK := fun x H1 => ∃ c, x = .bl c ∧ Q c H1
def fIf (ta tb : TE) (σ : St) (Q : VK) : Bool → Hp → Prop := fun c H1 => if c = true then ta σ H1 Q else tb σ H1 Q
def fIfS (t u : TS) (D : Ends) (σ : St) : Bool → Hp → Prop := fun b H1 => if b = true then t D σ H1 else u D σ H1
def fAnd (u : TT) (σ : St) (Q : Bool → Hp → Prop) : Bool → Hp → Prop := fun c H1 => if c = true then u σ H1 Q else Q false H1
def fOr (u : TT) (σ : St) (Q : Bool → Hp → Prop) : Bool → Hp → Prop := fun c H1 => if c = true then Q true H1 else u σ H1 Q
def fNot (Q : Bool → Hp → Prop) : Bool → Hp → Prop := fun c H1 => Q (!c) H1
def fAndV (tb : TE) (σ : St) (Q : VK) : VK := fun x H1 => ∃ c, x = .bl c ∧ if c = true then tb σ H1 Q else Q (.bl false) H1
def fOrV (tb : TE) (σ : St) (Q : VK) : VK := fun x H1 => ∃ c, x = .bl c ∧ if c = true then Q (.bl true) H1 else tb σ H1 Q
def fNotV (Q : VK) : VK := fun x H1 => ∃ c, x = .bl c ∧ Q (.bl (!c)) H1
def fDrop (nx : St → Hp → Prop) (σ : St) : VK := fun _ H1 => nx σ H1
def fAsg (g : TG) (σ : St) (nx : St → Hp → Prop) : VK := fun x H1 => g x σ H1 nx
def fPart (Q : Option Int → Hp → Prop) : VK := fun x H1 => ∃ i, x = .int i ∧ Q (some i) H1
def fSl1 (r : V → Option Int → Option Int → Hp → VK → Prop) (tl th : TO) (σ : St) (Q : VK) : VK := fun x H1 => tl σ H1 fun l H2 => th σ H2 fun u H3 => r x l u H3 Q
def fSl2 (r : V → Option Int → Option Int → Hp → VK → Prop) (x : V) (th : TO) (σ : St) (Q : VK) : Option Int → Hp → Prop := fun l H2 => th σ H2 fun u H3 => r x l u H3 Q
def fSl3 (r : V → Option Int → Option Int → Hp → VK → Prop) (x : V) (l : Option Int) (Q : VK) : Option Int → Hp → Prop := fun u H3 => r x l u H3 Q
section
variable {K : PySem.W.Frag} {σ : St} {H : Hp} {Q : VK} {QT : Bool → Hp → Prop} {r : R2} {ta tb tc : TE} {t u : TT} {v : V} {f m : Str} {tl tr : TA} {sp : Sp} {dvs : List V} {E : XK} {C : Addr} {QL : VL} {D : Ends} {nx : St → Hp → Prop} {rt : VK} {bk ct : St → Hp → Prop} {s1 s2 : TS} {g : TG} {i : Nat}
theorem e_C : tC v σ H Q = Q v H := rfl
theorem e_var0 {x : V} {l : St} : tVar 0 (some x :: l) H Q = Q x H := by
  show (∃ v, (some x :: l)[0]? = some (some v) ∧ Q v H) = Q x H
  simp
theorem e_varS {x : Option V} {l : St} {n : Nat} : tVar (n + 1) (x :: l) H Q = tVar n l H Q := by
  show (∃ v, (x :: l)[n + 1]? = some (some v) ∧ Q v H) = (∃ v, l[n]? = some (some v) ∧ Q v H)
  simp
theorem e_op : tOp r ta tb σ H Q = ta σ H (fOp1 r tb σ Q) := rfl
theorem e_op1 : fOp1 r tb σ Q v H = tb σ H (fOp2 r v Q) := rfl
theorem e_un {r : V → Hp → VK → Prop} : tUn r ta σ H Q = ta σ H (fUn r Q) := rfl
theorem e_fld : tFld K ta f σ H Q = ta σ H (fFld K f Q) := rfl
theorem e_tup : tTup tl σ H Q = tl σ H (fTup Q) := rfl
theorem e_lst : tLst tl σ H Q = tl σ H (fLst Q) := rfl
theorem e_cons : tCons ta tr σ H QL = ta σ H (fCons tr σ QL) := rfl
theorem e_cons1 : fCons tr σ QL v H = tr σ H (fCons2 v QL) := rfl
theorem e_cons2 {xs : List V} : fCons2 v QL xs H = QL (v :: xs) H := rfl
theorem e_nil : tNil σ H QL = QL [] H := rfl
theorem e_call : tCall sp dvs E tl σ H Q = tl σ H (fCall sp dvs E Q) := rfl
theorem e_call1 {vs : List V} : fCall sp [] E Q vs H = sp vs H Q E := by
  show sp (vs ++ []) H Q E = _
  rw [List.append_nil]
theorem e_CB {r : List V → Hp → VK → Prop} : tCB r tl σ H Q = tl σ H (fCB r Q) := rfl
theorem e_CB1 {r : List V → Hp → VK → Prop} {vs : List V} : fCB r Q vs H = r vs H Q := rfl
theorem e_meth : tMeth C m sp dvs E ta tl σ H Q = ta σ H (fMeth C m sp dvs E tl σ Q) := by
  unfold tMeth fMeth
  congr 1
  funext x H1
  apply propext
  constructor
  · rintro ⟨a, dx, fs, rfl, h1, h2, h3⟩
    exact ⟨a, dx, fs, rfl, h1, h2, h3⟩
  · rintro ⟨a, dx, fs, rfl, h1, h2, h3⟩
    exact ⟨a, dx, fs, rfl, h1, h2, h3⟩
theorem e_make : tMake C sp dvs E tl σ H Q = tl σ H (fMake C sp dvs E Q) := rfl
theorem e_B : tB ta σ H QT = ta σ H (fB QT) := rfl
theorem e_test : tTest ta σ H QT = ta σ H (fB QT) := rfl
theorem e_B1 {b : Bool} : fB QT (.bl b) H = QT b H := by
  apply propext
  constructor
  · rintro ⟨c, h, q⟩
    cases h
    exact q
  · exact fun q => ⟨b, rfl, q⟩
theorem e_if : tIf t ta tb σ H Q = t σ H (fIf ta tb σ Q) := rfl
theorem e_if1 {c : Bool} : fIf ta tb σ Q c H = (if c = true then ta σ H Q else tb σ H Q) := rfl
theorem e_ifS : tIfS t s1 s2 D σ H = t σ H (fIfS s1 s2 D σ) := rfl
theorem e_ifS1 {c : Bool} : fIfS s1 s2 D σ c H = (if c = true then s1 D σ H else s2 D σ H) := rfl
theorem e_and : tAnd t u σ H QT = t σ H (fAnd u σ QT) := rfl
theorem e_and1 : fAnd u σ QT true H = u σ H QT := rfl
theorem e_and0 : fAnd u σ QT false H = QT false H := rfl
theorem e_or : tOr t u σ H QT = t σ H (fOr u σ QT) := rfl
theorem e_or1 : fOr u σ QT true H = QT true H := rfl
theorem e_or0 : fOr u σ QT false H = u σ H QT := rfl
theorem e_not : tNot t σ H QT = t σ H (fNot QT) := rfl
theorem e_not1 {c : Bool} : fNot QT c H = QT (!c) H := rfl
theorem e_andV : tAndV ta tb σ H Q = ta σ H (fAndV tb σ Q) := rfl
theorem e_andV1 : fAndV tb σ Q (.bl true) H = tb σ H Q := propext ⟨fun ⟨c, h, q⟩ => by cases h; exact q, fun q => ⟨true, rfl, q⟩⟩
theorem e_andV0 : fAndV tb σ Q (.bl false) H = Q (.bl false) H := propext ⟨fun ⟨c, h, q⟩ => by cases h; exact q, fun q => ⟨false, rfl, q⟩⟩
theorem e_orV : tOrV ta tb σ H Q = ta σ H (fOrV tb σ Q) := rfl
theorem e_orV1 : fOrV tb σ Q (.bl true) H = Q (.bl true) H := propext ⟨fun ⟨c, h, q⟩ => by cases h; exact q, fun q => ⟨true, rfl, q⟩⟩
theorem e_orV0 : fOrV tb σ Q (.bl false) H = tb σ H Q := propext ⟨fun ⟨c, h, q⟩ => by cases h; exact q, fun q => ⟨false, rfl, q⟩⟩
theorem e_notV : tNotV ta σ H Q = ta σ H (fNotV Q) := rfl
theorem e_notV1 {b : Bool} : fNotV Q (.bl b) H = Q (.bl (!b)) H := propext ⟨fun ⟨c, h, q⟩ => by cases h; exact q, fun q => ⟨b, rfl, q⟩⟩
theorem e_seq : tSeq s1 s2 ⟨nx, rt, bk, ct⟩ σ H = s1 ⟨s2 ⟨nx, rt, bk, ct⟩, rt, bk, ct⟩ σ H := rfl
theorem e_next : tNext ⟨nx, rt, bk, ct⟩ σ H = nx σ H := rfl
theorem e_break : tBreak ⟨nx, rt, bk, ct⟩ σ H = bk σ H := rfl
theorem e_cont : tCont ⟨nx, rt, bk, ct⟩ σ H = ct σ H := rfl
theorem e_drop : tDrop ta ⟨nx, rt, bk, ct⟩ σ H = ta σ H (fDrop nx σ) := rfl
theorem e_drop1 : fDrop nx σ v H = nx σ H := rfl
theorem e_ret : tRet ta ⟨nx, rt, bk, ct⟩ σ H = ta σ H rt := rfl
theorem e_retN : tRetN ⟨nx, rt, bk, ct⟩ σ H = rt .non H := rfl
theorem e_asg : tAsg ta g ⟨nx, rt, bk, ct⟩ σ H = ta σ H (fAsg g σ nx) := rfl
theorem e_name : fAsg (gName i) σ nx v H = nx (σ.set i (some v)) H := rfl
theorem e_part : tPart ta σ H = fun q => ta σ H (fPart q) := rfl
theorem e_part1 {q : Option Int → Hp → Prop} {j : Int} : fPart q (.int j) H = q (some j) H := propext ⟨fun ⟨c, h, q⟩ => by cases h; exact q, fun q => ⟨j, rfl, q⟩⟩
theorem e_noPart {q : Option Int → Hp → Prop} : tNoPart σ H q = q none H := rfl
theorem e_sl {r : V → Option Int → Option Int → Hp → VK → Prop} {tl th : TO} : tSl r ta tl th σ H Q = ta σ H (fSl1 r tl th σ Q) := rfl
theorem e_sl1 {r : V → Option Int → Option Int → Hp → VK → Prop} {tl th : TO} : fSl1 r tl th σ Q v H = tl σ H (fSl2 r v th σ Q) := rfl
theorem e_sl2 {r : V → Option Int → Option Int → Hp → VK → Prop} {th : TO} {o : Option Int} : fSl2 r v th σ Q o H = th σ H (fSl3 r v o Q) := rfl
theorem e_sl3 {r : V → Option Int → Option Int → Hp → VK → Prop} {o o2 : Option Int} : fSl3 r v o Q o2 H = r v o o2 H Q := rfl
end
end Y

set_option Elab.async false
set_option linter.all false
set_option maxRecDepth 100000
namespace Y
open PySem L2
/-! ### operators whatever their operands are -/
def rAddU (K : PySem.W.Frag) : R2 := fun x y H Q => match x, y with
  | .int i, .int j => Q (.int (i + j)) H
  | .str a, .str b => a.length + b.length ≤ sizeLine ∧ Q (.str (a ++ b)) H
  | .ref a, .ref b => rCatA K (.ref a) (.ref b) H Q ∨ rCat (.ref a) (.ref b) H Q
  | _, _ => False
theorem op_addU {X : Cx} : OpR X (binaryOp .Add) (rAddU X.K) := by
  intro pins s σ H x y v u Q I rx ry h
  unfold rAddU at h
  split at h
  · exact op_add pins s σ H _ _ v u Q I rx ry ⟨_, _, rfl, rfl, h⟩
  · exact op_add_str pins s σ H _ _ v u Q I rx ry ⟨_, _, rfl, rfl, h.1, h.2⟩
  · rcases h with h | h
    · exact op_catA pins s σ H _ _ v u Q I rx ry h
    · exact op_cat pins s σ H _ _ v u Q I rx ry h
  · exact h.elim
/-- * of two factors of together at most a hundred million bits -/
def CMulX (i j : Int) : Prop := Builtin.Int.intBits i + Builtin.Int.intBits j ≤ 100000000
theorem CMulX.ok {i j : Int} (h : CMulX i j) : IntMulOk i j := by
  have h' : Builtin.Int.intBits i + Builtin.Int.intBits j ≤ 100000000 := h
  have e : bitsLine = 134217728 := by decide
  unfold IntMulOk
  intro z
  rw [Bool.and_eq_true] at z
  have z2 := z.2
  unfold Builtin.Int.intTooBig at z2
  have z3 := of_decide_eq_true z2
  rw [e] at z3
  omega
theorem op_mulX {X : Cx} : OpR X (binaryOp .Mult) (rI CMulX fun i j => .int (i * j)) := opI fun _ _ _ _ _ _ _ hc q => PyProof.Rows.mul_int q hc.ok
theorem bits_lt {i : Int} {a : Nat} (ha : i.natAbs < 2 ^ a) (h0 : 0 < a) : Builtin.Int.intBits i ≤ a := by
  have x := PySem.Flt.log2_lt_of h0 ha
  unfold Builtin.Int.intBits
  split <;> omega
theorem mulX {i j : Int} {a b : Nat} (ha : i.natAbs < 2 ^ a) (hb : j.natAbs < 2 ^ b) (h0 : 0 < a) (h1 : 0 < b) (h : a + b ≤ 100000000) : CMulX i j := by
  have x := bits_lt ha h0
  have y := bits_lt hb h1
  unfold CMulX
  omega
def rMulU : R2 := fun x y H Q => match x, y with
  | .int i, .int j => CMulX i j ∧ Q (.int (i * j)) H
  | .ref a, .int k => rRep (.ref a) (.int k) H Q
  | _, _ => False
theorem op_mulU {X : Cx} : OpR X (binaryOp .Mult) rMulU := by
  intro pins s σ H x y v u Q I rx ry h
  unfold rMulU at h
  split at h
  · exact op_mulX pins s σ H _ _ v u Q I rx ry ⟨_, _, rfl, rfl, h.1, h.2⟩
  · exact op_rep pins s σ H _ _ v u Q I rx ry h
  · exact h.elim
/-- a power of at most 2 ^ 27 bits -/
def CPowW (i j : Int) : Prop := 0 ≤ j ∧ ((i.natAbs.log2 : Int) + 1) * j ≤ 134217728
theorem op_powW {X : Cx} : OpR X (binaryOp .Pow) (rI CPowW fun i j => .int (i ^ j.toNat)) := opI fun i j _ _ _ _ _ hc q => by
  refine PyProof.Rows.pow_int hc.1 ?_ q
  have b : Builtin.Int.intBits i ≤ i.natAbs.log2 + 1 := by
    unfold Builtin.Int.intBits
    split <;> omega
  have h0 : (Builtin.Int.intBits i : Int) ≤ (i.natAbs.log2 : Int) + 1 := by omega
  have h1 : (Builtin.Int.intBits i : Int) * j ≤ ((i.natAbs.log2 : Int) + 1) * j := Int.mul_le_mul_of_nonneg_right h0 hc.1
  have := hc.2
  omega
/-- what the rules of great numbers ask, from bounds -/
theorem powW {i j : Int} {b : Nat} (h0 : 0 ≤ j) (hb : i.natAbs < 2 ^ b) (hp : 0 < b) (h : (b : Int) * j ≤ 134217728) : CPowW i j := by
  have x := PySem.Flt.log2_lt_of hp hb
  refine ⟨h0, ?_⟩
  have h1 : (i.natAbs.log2 : Int) + 1 ≤ (b : Int) := by omega
  have h2 : ((i.natAbs.log2 : Int) + 1) * j ≤ (b : Int) * j := Int.mul_le_mul_of_nonneg_right h1 h0
  omega
def rEqU (K : PySem.W.Frag) : R2 := fun x y H Q => rEq x y H Q ∨ rEqD K x y H Q
def rNeU (K : PySem.W.Frag) : R2 := fun x y H Q => rNe x y H Q ∨ rNeD K x y H Q
theorem op_eqU {X : Cx} (hu : X.A.units + 65 < cLine) : OpR X (compareOp .Eq) (rEqU X.K) := by
  intro pins s σ H x y v u Q I rx ry h
  rcases h with h | h
  · exact op_eq pins s σ H _ _ v u Q I rx ry h
  · exact op_eqD (by omega) pins s σ H _ _ v u Q I rx ry h
theorem op_neU {X : Cx} (hu : X.A.units + 65 < cLine) : OpR X (compareOp .NotEq) (rNeU X.K) := by
  intro pins s σ H x y v u Q I rx ry h
  rcases h with h | h
  · exact op_ne pins s σ H _ _ v u Q I rx ry h
  · exact op_neD (by omega) pins s σ H _ _ v u Q I rx ry h
/-- x in t, t a tuple of data -/
def rInT (K : PySem.W.Frag) : R2 := fun x y H Q => ∃ d ds, Dp K H x d ∧ Dp K H y (.tuple ds) ∧ SeqAt.shaped d = true ∧ SeqAt.shaped (.tuple ds) = true ∧ Q (.bl (ds.any fun z => PyData.eqv z d)) H
theorem op_inT {X : Cx} (hu : X.A.units + 65 < cLine) : OpR X (compareOp .In) (rInT X.K) := by
  intro pins s σ H x y v u Q I rx ry h
  obtain ⟨d, ds, hd, he, sd, se, q⟩ := h
  obtain ⟨as, r1⟩ := Dp.reads I d x v hd rx
  obtain ⟨bs, r2⟩ := Dp.reads I (.tuple ds) y u he ry
  exact SeqAt.in_tuple_reads r2 r1 (SeqAt.canLay_of_shaped se) (SeqAt.canLay_of_shaped sd) (PyProof.Rows.room_in_shaped sd hu) ⟨.bl _, H, I, rfl, q⟩
def rInU (K : PySem.W.Frag) : R2 := fun x y H Q => rIn K false x y H Q ∨ rInT K x y H Q ∨ rInD K x y H Q
theorem op_inU {X : Cx} (hu : X.A.units + 65 < cLine) : OpR X (compareOp .In) (rInU X.K) := by
  intro pins s σ H x y v u Q I rx ry h
  rcases h with h | h | h
  · exact op_in_seq pins s σ H _ _ v u Q I rx ry h
  · exact op_inT hu pins s σ H _ _ v u Q I rx ry h
  · exact op_inD hu pins s σ H _ _ v u Q I rx ry h
theorem hu65 {A : Around} {k : Nat} (hr : Room k A) : A.units + 65 < cLine := by
  have := hr.un
  omega
end Y

set_option Elab.async false
set_option linter.all false
set_option maxRecDepth 100000
namespace Y
open PySem L2
/-! ### names of Python's own -/
theorem b_len : bootBuiltins "len" = some (.builtin "len") := by decide +kernel
theorem b_abs : bootBuiltins "abs" = some (.builtin "abs") := by decide +kernel
theorem b_isinstance : bootBuiltins "isinstance" = some (.builtin "isinstance") := by decide +kernel
theorem b_all : bootBuiltins "all" = some (.builtin "all") := by decide +kernel
theorem b_any : bootBuiltins "any" = some (.builtin "any") := by decide +kernel
theorem b_max : bootBuiltins "max" = some (.builtin "max") := by decide +kernel
theorem b_min : bootBuiltins "min" = some (.builtin "min") := by decide +kernel
theorem b_int : bootBuiltins "int" = some (.type "int") := by decide +kernel
theorem b_bool : bootBuiltins "bool" = some (.type "bool") := by decide +kernel
theorem b_str : bootBuiltins "str" = some (.type "str") := by decide +kernel
theorem b_tuple : bootBuiltins "tuple" = some (.type "tuple") := by decide +kernel
theorem b_list : bootBuiltins "list" = some (.type "list") := by decide +kernel
theorem b_dict : bootBuiltins "dict" = some (.type "dict") := by decide +kernel
/-! ### is, is not -/
def rIsU (neg : Bool) : R2 := fun x y H Q => match x, y with
  | x, .non => Q (.bl (if neg then !decide (x = .non) else decide (x = .non))) H
  | .bl a, .bl b => Q (.bl (if neg then !decide (a = b) else decide (a = b))) H
  | _, _ => False
/-! ### len -/
def rLenU (K : PySem.W.Frag) : List V → Hp → VK → Prop := fun xs H Q => match xs with
  | [.str z] => z.length ≤ sizeLine ∧ Q (.int z.length) H
  | [.ref a] => (∃ ys, (SqL K H a ys ∨ SqT K H a ys) ∧ Q (.int ys.length) H) ∨ ∃ kvs, H a = some (.dK kvs) ∧ Q (.int kvs.length) H
  | _ => False
theorem call_lenU {X : Cx} : CallR X (.builtin "len") (rLenU X.K) := by
  intro pins s σ H xs us Q I r h
  unfold rLenU at h
  split at h
  · exact call_len pins s σ H _ us Q I r ⟨_, _, rfl, ⟨h.1, rfl⟩, h.2⟩
  · rcases h with ⟨ys, hq, q⟩ | ⟨kvs, hq, q⟩
    · exact call_len_seq pins s σ H _ us Q I r ⟨_, ys, rfl, hq, q⟩
    · exact call_lenD pins s σ H _ us Q I r ⟨_, kvs, rfl, hq, q⟩
  · exact h.elim
/-! ### isinstance -/
def rIsiU (K : PySem.W.Frag) : List V → Hp → VK → Prop := fun xs H Q => rIsi K xs H Q ∨ rIsiT K xs H Q
theorem call_isiU {X : Cx} : CallR X (.builtin "isinstance") (rIsiU X.K) := by
  intro pins s σ H xs us Q I r h
  rcases h with h | h
  · exact call_isi pins s σ H _ us Q I r h
  · exact call_isiT pins s σ H _ us Q I r h
/-! ### slices -/
def rSlU (K : PySem.W.Frag) : V → Option Int → Option Int → Hp → VK → Prop := fun x lo hi H Q => rSlA K x lo hi H Q ∨ rSlL K x lo hi H Q
/-! ### a method of one's own behind an operator -/
section
variable {X : Cx} {CX : CXT} {k : Nat} {f C : Addr} {fd : FuncData} {ps : List Str} {sp : Sp} {E : XK}
/-- x in o, o an instance with its own __contains__ -/
def rInO (C : Addr) (sp : Sp) (E : XK) : R2 := fun x y H Q => ∃ a dx fs, y = .ref a ∧ H a = some (.ins C dx fs) ∧ sp [.ref a, x] H (fun v H' => ∃ b, v = .bl b ∧ Q (.bl b) H') E
theorem op_inO (hs : PySem.W.findIn X.K (.ref C) "__contains__" = some (some (.ref f))) (hf : PySem.W.isFn X.K (.ref f) = true) (F : FnOk X.prog X.w X.K X.mg X.base CX k f fd ps sp) (hr : Room k X.A) (hb : Binds X.K fd ps []) (hx : Passes CX X E) :
    OpR X (compareOp .In) (rInO C sp E) := by
  intro pins s σ H x y v u Q I rx ry h
  obtain ⟨a, dx, fs, rfl, ha, q⟩ := h
  obtain rfl : u = Value.ref a := ry
  obtain ⟨mA, O, _⟩ := ins_get I.hok ha
  obtain ⟨od, J, _⟩ := O.look
  obtain ⟨m, fr⟩ := I.fr
  refine PySem.W.in_K fr I.ok.mod.kin J hs hf ?_
  refine thn (run_fn (us := [.ref a, v]) (vs := [.ref a, x]) (dvs := []) (ds := []) F hr hb .nil hx I (.cons rfl (.cons rx .nil)) q) fun w s1 ⟨z, H1, I1, rz, b, ez, q1⟩ => ?_
  subst ez
  cases rz
  exact wpAny_truthy_bool ⟨.bl b, H1, I1, rfl, q1⟩
/-- the callee runs, at an around of the same frames -/
theorem run_fnA {A : Around} {pins : List (Addr × Obj)} {σ : St} {H : Hp} {s : Shared} {Q : VK} {us : List Value} {vs : List V} (hf : A.frames = X.A.frames) (F : FnOk X.prog X.w X.K X.mg X.base CX k f fd ps sp) (hr : Room k A) (hb : Binds X.K fd ps []) (hx : Passes CX X E)
    (I : Inv X pins σ H s) (r : Vals vs us) (h : sp vs H Q E) : wpAny (model X.prog X.w) A (call (.ref f) us) (EP X pins σ Q) X.xe s := by
  have hl : (us ++ []).length = ps.length := by rw [List.append_nil, ← r.length]; exact F.len _ _ _ _ h
  have e := I.env0
  have e0 : Env0 X.prog X.w X.K X.mg X.base A X.stack s H := ⟨by rw [hf]; exact e.frames, e.mod, e.bs, e.bsz, e.funs, e.frf, e.hok, e.bare⟩
  have hb' := hb s us I.kIn hl
  rw [List.append_nil] at hb'
  refine wpAny_call (codeAny_mono (F.run A X.stack s H ⟨us, []⟩ us vs Q E hr e0 hb' r h) fun r s' hq => ?_)
  cases r with
  | error e => exact hx pins σ H s e s' I hq
  | ok fl =>
    cases fl with
    | ret u => exact I.after hq
    | next => exact False.elim hq
    | brk => exact False.elim hq
    | cont => exact False.elim hq
/-- o[i], o an instance with its own __getitem__ -/
def rIxO (C : Addr) (sp : Sp) (E : XK) : R2 := fun x y H Q => ∃ a dx fs, x = .ref a ∧ H a = some (.ins C dx fs) ∧ sp [.ref a, y] H Q E
theorem pe_ixO {a b : Expr} {ta tb : TE} {pos : Pos} (hs : PySem.W.findIn X.K (.ref C) "__getitem__" = some (some (.ref f))) (hf : PySem.W.isFn X.K (.ref f) = true) (hn : PySem.W.fnIn X.K f = true) (F : FnOk X.prog X.w X.K X.mg X.base CX k f fd ps sp) (hr : Room (k + 1) X.A) (hb : Binds X.K fd ps [])
    (hx : Passes CX X E) (ha : PE X a ta) (hi : PE X b tb) (hsl : ∀ o i, subscripted b true o i = runValue (.builtin "lifetime.subscript" ⟨[o, i], []⟩) := by intro _ _; with_unfolding_all rfl) :
    PE X (.Subscript a b pos) (tOp (rIxO C sp E) ta tb) := by
  refine ⟨fun pins s σ H Q I h => ?_⟩
  refine PyProof.Rows.Subscript_ (binT ha hi I h fun v u s2 x y H2 I2 rx ry q => ?_)
  obtain ⟨o, dx, fs, rfl, ho, q⟩ := q
  obtain rfl : v = Value.ref o := rx
  obtain ⟨mA, O, _⟩ := ins_get I2.hok ho
  obtain ⟨od, J, _⟩ := O.look
  obtain ⟨m, fr⟩ := I2.fr
  exact PySem.W.sub_K fr I2.ok.mod.kin J hs hn hf (run_fnA (A := X.A.in1) (vs := [.ref o, y]) rfl F hr.in1 hb hx I2 (.cons rfl (.cons ry .nil)) q) (hsl _ _)
/-- len(o), o an instance with its own __len__ -/
def rLenO (C : Addr) (sp : Sp) (E : XK) : List V → Hp → VK → Prop := fun xs H Q => ∃ a dx fs, xs = [.ref a] ∧ H a = some (.ins C dx fs) ∧ sp [.ref a] H (fun v H' => ∃ n : Nat, v = .int n ∧ n < 2 ^ 63 ∧ Q (.int n) H') E
theorem call_lenO (hs : PySem.W.findIn X.K (.ref C) "__len__" = some (some (.ref f))) (hf : PySem.W.isFn X.K (.ref f) = true) (F : FnOk X.prog X.w X.K X.mg X.base CX k f fd ps sp) (hr : Room (k + 1) X.A) (hb : Binds X.K fd ps []) (hx : Passes CX X E) :
    CallR X (.builtin "len") (rLenO C sp E) := by
  intro pins s σ H xs us Q I r h
  obtain ⟨a, dx, fs, rfl, ha, q⟩ := h
  obtain ⟨u, rfl, rx⟩ := vals1 r
  obtain rfl : u = Value.ref a := rx
  obtain ⟨mA, O, _⟩ := ins_get I.hok ha
  obtain ⟨od, J, _⟩ := O.look
  obtain ⟨m, fr⟩ := I.fr
  refine PySem.W.len_K fr I.ok.mod.kin J hs hf (thn (run_fnA (A := X.A.in1) (vs := [.ref a]) rfl F hr.in1 hb hx I (.cons rfl .nil) q) fun w s1 ⟨z, H1, I1, rz, n, ez, hn, q1⟩ => ?_)
  subst ez
  obtain ⟨t, rfl⟩ := rz
  exact ⟨⟨by omega, by omega⟩, .int n, H1, I1.tok _, ⟨_, rfl⟩, q1⟩
/-- o + p, both instances of the class at C, with its own __add__ -/
def rAddO (C : Addr) (sp : Sp) (E : XK) : R2 := fun x y H Q => ∃ a b dx dy fs gs, x = .ref a ∧ y = .ref b ∧ H a = some (.ins C dx fs) ∧ H b = some (.ins C dy gs) ∧ sp [.ref a, .ref b] H Q E
theorem op_addO (hs : PySem.W.findIn X.K (.ref C) "__add__" = some (some (.ref f))) (hf : PySem.W.isFn X.K (.ref f) = true) (hc : PySem.W.selfFirst X.K C = true) (F : FnOk X.prog X.w X.K X.mg X.base CX k f fd ps sp) (hr : Room k X.A) (hb : Binds X.K fd ps []) (hx : Passes CX X E) :
    OpR X (binaryOp .Add) (rAddO C sp E) := by
  intro pins s σ H x y v u Q I rx ry h
  obtain ⟨a, b, dx, dy, fs, gs, rfl, rfl, ha, hb', q⟩ := h
  obtain rfl : v = Value.ref a := rx
  obtain rfl : u = Value.ref b := ry
  obtain ⟨mA, O, _⟩ := ins_get I.hok ha
  obtain ⟨od, J, _⟩ := O.look
  obtain ⟨mB, O', _⟩ := ins_get I.hok hb'
  obtain ⟨od', J', _⟩ := O'.look
  obtain ⟨m, fr⟩ := I.fr
  refine PySem.W.binop_K (op := .Add) fr I.ok.mod.kin J J'.type hc hs hf (thn (run_fnA (A := X.A) (vs := [.ref a, .ref b]) rfl F hr hb hx I (.cons rfl (.cons rfl .nil)) q) fun w s1 hw => ?_)
  obtain ⟨z, H1, I1, rz, q1⟩ := hw
  have nn : w ≠ .notImplemented := by
    intro e
    subst e
    cases z <;> first
      | exact nomatch (show Value.notImplemented = _ from rz)
      | (obtain ⟨t, e⟩ := rz; cases e)
  cases w <;> first
    | exact absurd rfl nn
    | exact ⟨z, H1, I1, rz, q1⟩
end
/-! ### is, is not; slices -/
section
variable {X : Cx}
theorem op_isU : OpR X (compareOp .Is) (rIsU false) := by
  intro pins s σ H x y v u Q I rx ry h
  unfold rIsU at h
  split at h
  · exact op_isN pins s σ H _ _ v u Q I rx ry ⟨rfl, by simpa using h⟩
  · exact op_isBl pins s σ H _ _ v u Q I rx ry ⟨_, _, rfl, rfl, by simpa using h⟩
  · exact h.elim
theorem op_isNotU : OpR X (compareOp .IsNot) (rIsU true) := by
  intro pins s σ H x y v u Q I rx ry h
  unfold rIsU at h
  split at h
  · exact op_notN pins s σ H _ _ v u Q I rx ry ⟨rfl, by simpa using h⟩
  · exact op_notBl pins s σ H _ _ v u Q I rx ry ⟨_, _, rfl, rfl, by simpa using h⟩
  · exact h.elim
theorem sl_U : SlR X (rSlU X.K) := SlR.or sl_tupA sl_list
end
end Y

set_option Elab.async false
set_option linter.all false
set_option maxRecDepth 100000
namespace Y
open PySem L2
theorem pe_gint {X : Cx} {x : Str} {i : Int} {pos : Pos} (hg : Gl X x) (hm : ∃ t, X.mg x = some (.int i t)) (hd : (x == ("__debug__" : Str)) = false := by decide) : PE X (.Name x pos) (tC (.int i)) := by
  obtain ⟨t, e⟩ := hm
  exact pe_glob hg e ⟨t, rfl⟩ hd
theorem pe_gstr {X : Cx} {x : Str} {i : Str} {pos : Pos} (hg : Gl X x) (hm : ∃ t, X.mg x = some (.str i t)) (hd : (x == ("__debug__" : Str)) = false := by decide) : PE X (.Name x pos) (tC (.str i)) := by
  obtain ⟨t, e⟩ := hm
  exact pe_glob hg e ⟨t, rfl⟩ hd
section
variable {K : PySem.W.Frag} {σ : St} {H : Hp} {Q : VK} {QT : Bool → Hp → Prop} {r : R2} {ta tb tc : TE} {t u : TT} {v x y : V} {f m : Str} {tl tr : TA} {sp : Sp} {dvs : List V} {E : XK} {a b C dx p : Addr} {fs : List (Str × V)} {QL : VL} {D : Ends} {nx : St → Hp → Prop} {rt : VK} {bk ct : St → Hp → Prop} {s1 s2 : TS} {g : TG} {i j : Int} {n : Nat} {xs ys : List V}
/-! ### values in frames -/
theorem k_fld (h : H a = some (.ins C dx fs)) (c : Cls K C) (n : NoAttr K C f) (l : fs.lookup f = some v) (q : Q v H) : fFld K f Q (.ref a) H := ⟨a, C, dx, fs, v, rfl, h, c, n, l, q⟩
theorem k_tup (hl : xs.length ≤ 100000) (q : ∀ p, H p = none → Q (.ref p) (upd H p (.tup xs))) : fTup Q xs H := ⟨Nat.le_trans hl (by decide), q⟩
theorem k_lst (hl : xs.length ≤ 100000) (q : ∀ p, H p = none → Q (.ref p) (upd H p (.lst xs))) : fLst Q xs H := ⟨Nat.le_trans hl (by decide), q⟩
theorem o_add_int : fOp2 (rAddU K) (.int i) Q (.int j) H = Q (.int (i + j)) H := rfl
theorem o_add_str {a b : Str} : fOp2 (rAddU K) (.str a) Q (.str b) H = (a.length + b.length ≤ sizeLine ∧ Q (.str (a ++ b)) H) := rfl
theorem o_I0 {g : Int → Int → V} : fOp2 (rI0 g) (.int i) Q (.int j) H = Q (g i j) H := propext ⟨fun ⟨a, b, h1, h2, q⟩ => by cases h1; cases h2; exact q, fun q => ⟨i, j, rfl, rfl, q⟩⟩
theorem o_un {g : Int → V} : fUn (rU g) Q (.int i) H = Q (g i) H := propext ⟨fun ⟨a, h1, q⟩ => by cases h1; exact q, fun q => ⟨i, rfl, q⟩⟩
theorem k_I {P : Int → Int → Prop} {g : Int → Int → V} (h : P i j) (q : Q (g i j) H) : fOp2 (rI P g) (.int i) Q (.int j) H := ⟨i, j, rfl, rfl, h, q⟩
theorem k_mul (h : CMulX i j) (q : Q (.int (i * j)) H) : fOp2 rMulU (.int i) Q (.int j) H := ⟨h, q⟩
theorem k_eq_int (q : Q (.bl (decide (i = j))) H) : fOp2 (rEqU K) (.int i) Q (.int j) H := .inl ⟨rfl, by
  have e : decide (V.int i = V.int j) = decide (i = j) := by simp
  rw [e]
  exact q⟩
theorem k_ne_int (q : Q (.bl (!decide (i = j))) H) : fOp2 (rNeU K) (.int i) Q (.int j) H := .inl ⟨rfl, by
  have e : decide (V.int i = V.int j) = decide (i = j) := by simp
  rw [e]
  exact q⟩
theorem k_eq_str {i j : Str} (q : Q (.bl (decide (i = j))) H) : fOp2 (rEqU K) (.str i) Q (.str j) H := .inl ⟨rfl, by
  have e : decide (V.str i = V.str j) = decide (i = j) := by simp
  rw [e]
  exact q⟩
theorem k_ne_str {i j : Str} (q : Q (.bl (!decide (i = j))) H) : fOp2 (rNeU K) (.str i) Q (.str j) H := .inl ⟨rfl, by
  have e : decide (V.str i = V.str j) = decide (i = j) := by simp
  rw [e]
  exact q⟩
theorem k_eq_bl {i j : Bool} (q : Q (.bl (decide (i = j))) H) : fOp2 (rEqU K) (.bl i) Q (.bl j) H := .inl ⟨rfl, by
  have e : decide (V.bl i = V.bl j) = decide (i = j) := by simp
  rw [e]
  exact q⟩
theorem k_ne_bl {i j : Bool} (q : Q (.bl (!decide (i = j))) H) : fOp2 (rNeU K) (.bl i) Q (.bl j) H := .inl ⟨rfl, by
  have e : decide (V.bl i = V.bl j) = decide (i = j) := by simp
  rw [e]
  exact q⟩
/-- == of data -/
theorem k_eq_D {d e : PyData} (h1 : Dp K H x d) (h2 : Dp K H y e) (s1 : SeqAt.shaped d = true) (s2 : SeqAt.shaped e = true) (q : Q (.bl (PyData.eqv d e)) H) : fOp2 (rEqU K) x Q y H := .inr ⟨d, e, h1, h2, s1, s2, q⟩
theorem k_ne_D {d e : PyData} (h1 : Dp K H x d) (h2 : Dp K H y e) (s1 : SeqAt.shaped d = true) (s2 : SeqAt.shaped e = true) (q : Q (.bl (!PyData.eqv d e)) H) : fOp2 (rNeU K) x Q y H := .inr ⟨d, e, h1, h2, s1, s2, q⟩
theorem k_isN : fOp2 (rIsU false) x Q .non H = Q (.bl (decide (x = .non))) H := by
  show rIsU false x .non H Q = _
  unfold rIsU
  split
  · simp
  · simp_all
  · simp_all
theorem k_notN : fOp2 (rIsU true) x Q .non H = Q (.bl (!decide (x = .non))) H := by
  show rIsU true x .non H Q = _
  unfold rIsU
  split
  · simp
  · simp_all
  · simp_all
theorem k_isB {i j : Bool} : fOp2 (rIsU false) (.bl i) Q (.bl j) H = Q (.bl (decide (i = j))) H := rfl
theorem k_notB {i j : Bool} : fOp2 (rIsU true) (.bl i) Q (.bl j) H = Q (.bl (!decide (i = j))) H := rfl
/-! calls of Python's own -/
theorem c_int : fCB (fun xs H Q => (∃ i, xs = [V.int i] ∧ Q (.int i) H) ∨ ∃ k, xs = [V.bl k] ∧ Q (.int (if k then 1 else 0)) H) Q [.int i] H = Q (.int i) H := by
  show ((∃ i', [V.int i] = [V.int i'] ∧ Q (.int i') H) ∨ ∃ k, [V.int i] = [V.bl k] ∧ Q (.int (if k then 1 else 0)) H) = _
  apply propext
  constructor
  · rintro (⟨k, h, q⟩ | ⟨k, h, q⟩)
    · cases h
      exact q
    · cases h
  · exact fun q => .inl ⟨i, rfl, q⟩
theorem c_intB {k : Bool} : fCB (fun xs H Q => (∃ i, xs = [V.int i] ∧ Q (.int i) H) ∨ ∃ k, xs = [V.bl k] ∧ Q (.int (if k then 1 else 0)) H) Q [.bl k] H = Q (.int (if k then 1 else 0)) H := by
  show ((∃ i', [V.bl k] = [V.int i'] ∧ Q (.int i') H) ∨ ∃ k', [V.bl k] = [V.bl k'] ∧ Q (.int (if k' then 1 else 0)) H) = _
  apply propext
  constructor
  · rintro (⟨k, h, q⟩ | ⟨k, h, q⟩)
    · cases h
    · cases h
      exact q
  · exact fun q => .inr ⟨k, rfl, q⟩
theorem c_abs : fCB (fun xs H Q => ∃ i, xs = [V.int i] ∧ Q (.int (if i < 0 then -i else i)) H) Q [.int i] H = Q (.int (if i < 0 then -i else i)) H := propext ⟨fun ⟨k, h, q⟩ => by cases h; exact q, fun q => ⟨i, rfl, q⟩⟩
theorem c_max : fCB (fun xs H Q => ∃ i j, xs = [V.int i, V.int j] ∧ Q (.int (if j > i then j else i)) H) Q [.int i, .int j] H = Q (.int (if j > i then j else i)) H := propext ⟨fun ⟨k, l, h, q⟩ => by cases h; exact q, fun q => ⟨i, j, rfl, q⟩⟩
theorem c_min : fCB (fun xs H Q => ∃ i j, xs = [V.int i, V.int j] ∧ Q (.int (if j < i then j else i)) H) Q [.int i, .int j] H = Q (.int (if j < i then j else i)) H := propext ⟨fun ⟨k, l, h, q⟩ => by cases h; exact q, fun q => ⟨i, j, rfl, q⟩⟩
theorem k_lenS (h : SqL K H a xs ∨ SqT K H a xs) (q : Q (.int xs.length) H) : fCB (rLenU K) Q [.ref a] H := .inl ⟨xs, h, q⟩
theorem k_lenD {kvs : List (Key × V)} (h : H a = some (.dK kvs)) (q : Q (.int kvs.length) H) : fCB (rLenU K) Q [.ref a] H := .inr ⟨kvs, h, q⟩
theorem k_isi {c : V} {w z : Value} {k : Bool} (hc : ClsV c z) (ht : TyX K H x w) (hk : PySem.W.kitOne K w z = some k) (q : Q (.bl k) H) : fCB (rIsiU K) Q [x, c] H := .inl ⟨x, c, w, z, k, rfl, hc, ht, hk, q⟩
theorem k_isiT {tp : Addr} {cs : List V} {w : Value} {us : List Value} {k : Bool} (h : H tp = some (.tup cs)) (hc : Paired ClsV cs us) (ht : TyX K H x w) (hk : PySem.W.kitAny K w us = some k) (q : Q (.bl k) H) : fCB (rIsiU K) Q [x, .ref tp] H := .inr ⟨x, tp, cs, w, us, k, rfl, h, hc, ht, hk, q⟩
theorem k_listOf (h : SqL K H a xs ∨ SqT K H a xs) (q : ∀ l, H l = none → Q (.ref l) (upd H l (.lst xs))) : fCB (fun xs H Q => ∃ p ys, xs = [V.ref p] ∧ (SqL K H p ys ∨ SqT K H p ys) ∧ ∀ l, H l = none → Q (.ref l) (upd H l (.lst ys))) Q [.ref a] H := ⟨a, xs, rfl, h, q⟩
theorem k_tupOfL (h : SqL K H a xs) (q : ∀ l, H l = none → Q (.ref l) (upd H l (.tup xs))) : fCB (fun xs H Q => ∃ p ys, xs = [V.ref p] ∧ ((SqL K H p ys ∧ ∀ l, H l = none → Q (.ref l) (upd H l (.tup ys))) ∨ (SqT K H p ys ∧ Q (.ref p) H))) Q [.ref a] H := ⟨a, xs, rfl, .inl ⟨h, q⟩⟩
theorem k_tupOfT (h : SqT K H a xs) (q : Q (.ref a) H) : fCB (fun xs H Q => ∃ p ys, xs = [V.ref p] ∧ ((SqL K H p ys ∧ ∀ l, H l = none → Q (.ref l) (upd H l (.tup ys))) ∨ (SqT K H p ys ∧ Q (.ref p) H))) Q [.ref a] H := ⟨a, xs, rfl, .inr ⟨h, q⟩⟩
/-! items -/
theorem k_ixL (h : SqL K H a xs) (e : atI xs i = some v) (q : Q v H) : fOp2 (rIx K) (.ref a) Q (.int i) H := .inl ⟨a, xs, i, v, rfl, rfl, h, e, q⟩
theorem k_ixT (h : SqT K H a xs) (e : atI xs i = some v) (q : Q v H) : fOp2 (rIx K) (.ref a) Q (.int i) H := .inr (.inl ⟨a, xs, i, v, rfl, rfl, h, e, q⟩)
theorem k_ixS {z : Str} {c : Nat} (h : z.length ≤ sizeLine) (e : atI z.cps.toList i = some c) (q : Q (.str ⟨#[c]⟩) H) : fOp2 (rIx K) (.str z) Q (.int i) H := .inr (.inr ⟨z, i, c, rfl, rfl, h, e, q⟩)
/-- xs[i] = v -/
def fSub (ti : TE) (t : TSet) (v : V) (σ : St) (nx : St → Hp → Prop) : VK := fun o H1 => ti σ H1 fun i H2 => t o i v H2 fun H3 => nx σ H3
def fSub2 (t : TSet) (o v : V) (σ : St) (nx : St → Hp → Prop) : VK := fun i H2 => t o i v H2 fun H3 => nx σ H3
theorem e_sub {to ti : TE} {ts : TSet} : fAsg (gSub to ti ts) σ nx v H = to σ H (fSub ti ts v σ nx) := rfl
theorem e_sub1 {ti : TE} {ts : TSet} : fSub ti ts v σ nx x H = ti σ H (fSub2 ts x v σ nx) := rfl
theorem k_setL {j : Nat} (h : H p = some (.lst xs)) (e : ixN xs.length i = some j) (q : nx σ (upd H p (.lst (xs.set j v)))) : fSub2 rSetL (.ref p) v σ nx (.int i) H := ⟨p, xs, i, j, rfl, rfl, h, e, q⟩
theorem e_andc {c : Bool} : fAnd u σ QT c H = (if c = true then u σ H QT else QT false H) := rfl
theorem e_orc {c : Bool} : fOr u σ QT c H = (if c = true then QT true H else u σ H QT) := rfl
theorem e_andVc {c : Bool} : fAndV tb σ Q (.bl c) H = (if c = true then tb σ H Q else Q (.bl false) H) := propext ⟨fun ⟨c, h, q⟩ => by cases h; exact q, fun q => ⟨c, rfl, q⟩⟩
theorem e_orVc {c : Bool} : fOrV tb σ Q (.bl c) H = (if c = true then Q (.bl true) H else tb σ H Q) := propext ⟨fun ⟨c, h, q⟩ => by cases h; exact q, fun q => ⟨c, rfl, q⟩⟩
theorem cx_K {CX : CXT} {P : Program} {w : World} {mg : Str → Option Value} {base : Heap} {N : List Str} {qual : Str} {scope : Scope} {f : Addr} {cd : Value} {A : Around} {outer : List Env} {s : Shared} : (cxOf CX P w K mg base N qual scope f cd A outer s H E).K = K := rfl
theorem cx_noxK {X : Cx} : X.nox.K = X.K := rfl
theorem cx_P {CX : CXT} {P : Program} {w : World} {mg : Str → Option Value} {base : Heap} {N : List Str} {qual : Str} {scope : Scope} {f : Addr} {cd : Value} {A : Around} {outer : List Env} {s : Shared} : (cxOf CX P w K mg base N qual scope f cd A outer s H E).prog = P := rfl
theorem cx_w {CX : CXT} {P : Program} {w : World} {mg : Str → Option Value} {base : Heap} {N : List Str} {qual : Str} {scope : Scope} {f : Addr} {cd : Value} {A : Around} {outer : List Env} {s : Shared} : (cxOf CX P w K mg base N qual scope f cd A outer s H E).w = w := rfl
end
end Y

set_option Elab.async false
set_option linter.all false
set_option maxRecDepth 100000
namespace PySem
set_option maxHeartbeats 1000000 in
/-- enumerate(v), v begun as B says: its two new cells -/
theorem yEnumNew {v : Value} {o : Obj} {H : Heap → Prop} (B : Begins v o H) : Meets (Builtin.«enumerate.__new__» ⟨[.type "enumerate", v], []⟩) (fun _ R s =>
    H s.heap ∧ R (.ok (.ret (.ref (s.heap.push o).objs.size))) { s with heap := (s.heap.push o).push { cls := .type "enumerate", data := .fields #[.none, .bool false, .ref s.heap.objs.size, rawInt 0, .none, .none] } }) := by
  refine .of_wp fun prog w A R s h => ?_
  rcases s with ⟨hp, g, d, tk, os⟩
  rcases h with ⟨h1, h⟩
  have hs := sub_enumerate
  have go : ∀ {A' : Around} {E Q : Value → Shared → Prop}, Q (.ref hp.objs.size) ⟨hp.push o, g, d, tk, os⟩ → wpAny (model prog w) A' (pyIter v) Q E ⟨hp, g, d, tk, os⟩ := fun q => B.iter prog w _ _ ⟨hp, g, d, tk, os⟩ _ h1 q
  wp_walk using go
  refine wpAny_stack_any fun _ => wpAny_pure ?_
  split <;> first
    | (rename_i c _ _ _ _ _
       cases (c == Value.type "enumerate") <;> (wp_walk using go; exact ⟨_, rfl, h⟩))
    | (wp_walk using go; exact ⟨_, rfl, h⟩)
theorem yEnum1 {prog : Program} {w : World} {A : Around} {E : Value → Shared → Prop} {s : Shared} {v : Value} {o : Obj} {H : Heap → Prop} {Q : Value → Shared → Prop} (B : Begins v o H) (h1 : H s.heap)
    (h : ∀ h', IsEnum h' (s.heap.objs.size + 1) s.heap.objs.size 0 .none → h'.get? s.heap.objs.size = some o → (∀ b o, s.heap.get? b = some o → h'.get? b = some o) → Q (.ref (s.heap.objs.size + 1)) { s with heap := h' }) :
    wpAny (model prog w) A (call (.type "enumerate") [v]) Q E s := by
  refine callType_new F.called_enumerate (by decide) (F.typeCall_enumerate_1 _) (F.newCall_enumerate_1 _) (fun obj => F.args_object_init_2 obj _) F.entry_enumerate_new (yEnumNew B) ⟨h1, ?_⟩
  have z : (s.heap.push o).objs.size = s.heap.objs.size + 1 := Heap.size_push ..
  show _ ∧ _
  rw [z]
  have e := Heap.get?_push_size (s.heap.push o) (o := { cls := .type "enumerate", data := .fields #[.none, .bool false, .ref s.heap.objs.size, rawInt 0, .none, .none] }) rfl
  rw [z] at e
  exact ⟨⟨_, e, rfl⟩, h _ e (Heap.get?_push_of_some _ (Heap.get?_push_size _ B.free)) fun b o x => Heap.get?_push_of_some _ (Heap.get?_push_of_some _ x)⟩
end PySem
namespace Y
open PySem L2
/-! ### for i, x in enumerate(t), t a tuple -/
def IteT (K : PySem.W.Frag) (a : Addr) : It :=
  ⟨fun i H => ∃ (xs : List V) (x : V), SqT K H a xs ∧ xs[i]? = some x, fun i H v H' => ∃ T x, v = .ref T ∧ H T = none ∧ H' = upd H T (.tup [.int (i : Nat), x]) ∧ ∀ xs, SqT K H a xs → xs[i]? = some x,
    fun i H => ∃ xs : List V, SqT K H a xs ∧ xs.length ≤ i⟩
theorem tup_inj {X : Cx} {pins : List (Addr × Obj)} {σ : St} {H : Hp} {s : Shared} {a : Addr} {xs ys : List V} (I : Inv X pins σ H s) (h1 : SqT X.K H a xs) (h2 : SqT X.K H a ys) : xs = ys := by
  obtain ⟨its, r1, ⟨o1, e1, c1, n1, d1⟩, _⟩ := I.tuple h1
  obtain ⟨its2, r2, ⟨o2, e2, c2, n2, d2⟩, _⟩ := I.tuple h2
  rw [e1] at e2
  cases e2
  rw [d1] at d2
  have e : its = its2 := by
    have := congrArg Array.toList (by injection d2)
    simpa using this
  subst e
  exact r1.inj r2
theorem turn_enumT {P : Program} {w : World} {K : PySem.W.Frag} {elts : List Expr} {kk : Nat} {tpos : Pos} (a e it : Addr) :
    Turn P w K (.Tuple elts kk tpos) (IteT K a) [e, it] e (fun i h => (∃ old, IsEnum h e it ((i : Nat) : Int) old) ∧ h.IsTupleIter it a i ∧ e ≠ it ∧ a ≠ it ∧ a ≠ e) where
  mem := by simp
  obj := fun i h st b hb => by
    rcases st with ⟨⟨old, he⟩, ⟨o, ho, hc, hd⟩, _⟩
    rcases List.mem_cons.mp hb with z | z
    · subst z
      exact ⟨_, he, fun v q => nomatch q⟩
    · have z' := List.mem_singleton.mp z
      subst z'
      exact ⟨o, ho, fun v q => by rw [hd] at q; cases q⟩
  keep := fun i h h' st k => by
    rcases st with ⟨⟨old, he⟩, hi, ne⟩
    exact ⟨⟨old, k e (by simp) _ he⟩, hi.at fun o q => k it (by simp) o q, ne⟩
  item := by
    rintro X rfl rfl rfl hc i pins s σ H E I hf st ⟨xs, x, hq, hx⟩
    rcases st with ⟨⟨old, he⟩, hit, hne, hai, hae⟩
    obtain ⟨its, rv, p, hz⟩ := I.tuple hq
    obtain ⟨u, hu, ru⟩ := rv.get hx
    have hel : e < s.heap.objs.size := Heap.lt_size he
    have hil : it < s.heap.objs.size := by
      obtain ⟨_, q, _⟩ := hit
      exact Heap.lt_size q
    have hlt : i < its.toArray.size := by
      have := (List.getElem?_eq_some_iff.mp hu).1
      simpa using this
    have D := Draws.tuple (prog := X.prog) (w := X.w) (A := X.A.in1) (I.ok.hd hc) it a hai its.toArray
    refine wpAny_pyNext_enum_itemD D he ⟨hit, p⟩ hlt hne (by simp [hne, Ne.symm hae]) fun y h' tk hy ho hst' hT hsz hk => ?_
    have hy' : y = u := by
      have e1 : its.toArray[i]? = its[i]? := by simp
      rw [e1, hu] at hy
      exact (Option.some.inj hy).symm
    subst hy'
    refine ⟨_, rfl, wpAny_letOwnedTupleGo_enum (s := { s with heap := h', toks := tk + 1 }) ho fun h2 he' sb => ?_⟩
    have hT2 : h2.get? s.heap.objs.size = some { cls := .type "tuple", data := .seq #[.int i tk, y] } := (sb.2 _ (Nat.ne_of_gt hel)).trans hT
    have new : ObjOk X.prog X.w (upd H s.heap.objs.size (.tup [.int (i : Nat), x])) h2 s.heap.objs.size (.tup [.int (i : Nat), x]) :=
      ⟨(by decide : 2 ≤ sizeLine), [.int i tk, y], .cons ⟨_, rfl⟩ (.cons ru .nil), ⟨_, hT2, rfl, _, rfl⟩⟩
    have I1 : Inv X pins σ (upd H s.heap.objs.size (.tup [.int (i : Nat), x])) { s with heap := h2, toks := tk + 1 } := by
      refine I.turnedNew (ch := [e, it]) (fun b ob hb q => ?_) hf (Nat.le_refl _) new
      have h1 : b ≠ e := fun z => hb (by simp [z])
      have h3 : b ≠ it := fun z => hb (by simp [z])
      exact (sb.2 b h1).trans (hk b ob h1 h3 q)
    refine ⟨.ref s.heap.objs.size, _, I1, rfl, ⟨_, x, rfl, I.hok.fresh (Nat.le_refl _), rfl, fun ys hy => by rw [tup_inj I hy hq]; exact hx⟩, ⟨⟨y, ?_⟩, hst'.1.at fun o q => (sb.2 it (Ne.symm hne)).trans q, hne, hai, hae⟩, fun b hb => ?_⟩
    · rw [show ((i + 1 : Nat) : Int) = (i : Int) + 1 by omega]
      exact he'
    · have hb' : b < s.heap.objs.size := by
        rcases List.mem_cons.mp hb with z | z
        · rw [z]
          exact hel
        · rw [List.mem_singleton.mp z]
          exact hil
      rw [upd_ne (Nat.ne_of_lt hb')]
      exact (hf b hb).1
  done := by
    rintro X rfl rfl rfl hc i pins s σ H E I hf st ⟨xs, hq, hx⟩
    rcases st with ⟨⟨old, he⟩, hit, hne, hai, hae⟩
    obtain ⟨its, rv, p, hz⟩ := I.tuple hq
    obtain ⟨f0, f1, f2, f3, f4, f5⟩ := hf it (by simp)
    have hl := rv.length
    have D := Draws.tuple (prog := X.prog) (w := X.w) (A := X.A.in1) (I.ok.hd hc) it a hai its.toArray
    have D' : Draws X.prog X.w X.A.in1 it [it, a] 0 (fun _ _ => True) (fun j h => h.IsTupleIter it a (i + j) ∧ h.IsTuple a its.toArray) := {
      live := fun j h st => D.live _ h st
      frame := fun j h h' st k => D.frame _ h h' st k
      item := fun j s Q E hj => absurd hj (Nat.not_lt_zero _)
      done := fun s Q E st hE => wpAny_nextOf_tuple_end (I.ok.hd hc) st.1 st.2 (by simp; omega) hE }
    exact wpAny_pyNext_enum_endD D' he ⟨hit, p⟩ fun h' eb => ⟨rfl, I.turned (t' := s.toks) (fun b o hb q => eb b o hb q) f0 f1 f3 f4 f5⟩
  self := fun A i s Q E st h => by
    rcases st with ⟨⟨_, he⟩, _⟩
    exact wpAny_pyIter_enum he h
/-- what enumerate walks: a list or a tuple -/
def iEnumT (K : PySem.W.Frag) (ta : TA) : TI := fun σ H R => ta σ H fun vs H1 => ∃ a xs, vs = [.ref a] ∧ SqT K H1 a xs ∧ R (IteT K a) H1
theorem pi_enumT {X : Cx} {e : Expr} {ta : TA} {p pos tpos : Pos} {elts : List Expr} {kk : Nat} (hg : Gl X "enumerate") (hm : X.mg "enumerate" = none) (ha : PA X [e] ta) (hs : starEach [e] X.env = [(false, eval e X.env)] := by rfl) :
    PI X (.Tuple elts kk tpos) (.Call (.Name "enumerate" p) [e] [] pos) (iEnumT X.K ta) := by
  refine ⟨fun pins s σ H R I h => PyProof.Rows.Call_ (ld_blt I hg hm PyProof.Rows.boot_enumerate (PyProof.Rows.callWith_type1 (thn (ha.run pos pins s σ H _ I h) fun us s1 ⟨vs, H1, I1, r1, q1⟩ => ?_) hs rfl))⟩
  rcases q1 with ⟨a, xs, ex, hq, q⟩
  subst ex
  cases r1 with
  | cons r rr =>
    cases rr
    cases r
    obtain ⟨its, rv, p', hz⟩ := I1.tuple hq
    refine yEnum1 (begins_tuple a its.toArray) p' fun h' he hit hk => wpAny_pyIter_enum he ?_
    have I2 : Inv X pins σ H1 { s1 with heap := h' } := I1.kept (t' := s1.toks) hk
    have hal : a < s1.heap.objs.size := by
      obtain ⟨o, e1, _⟩ := p'
      exact Heap.lt_size e1
    refine ⟨s1.heap.objs.size + 1, [s1.heap.objs.size + 1, s1.heap.objs.size], _, _, H1, rfl, I2, turn_enumT a (s1.heap.objs.size + 1) s1.heap.objs.size, ⟨⟨.none, he⟩, ⟨_, hit, rfl, rfl⟩, Nat.succ_ne_self _, Nat.ne_of_lt hal, Nat.ne_of_lt (Nat.lt_succ_of_lt hal)⟩, fun b hb => ?_, q⟩
    have hle : s1.heap.objs.size ≤ b := by
      rcases List.mem_cons.mp hb with z | z
      · rw [z]
        exact Nat.le_succ _
      · rw [List.mem_singleton.mp z]
        exact Nat.le_refl _
    exact I1.fpOk hle (I1.hok.fresh hle)
theorem walk_enumT {K : PySem.W.Frag} {a : Addr} {xs : List V} : Walk (IteT K a) xs.length (fun H => SqT K H a xs) (YPair (fun i => some (.int (i : Nat))) (fun i => xs[i]?)) := by
  refine ⟨fun i _ hi q => ⟨xs, xs[i], q, by simp [hi]⟩, fun _ q => ⟨xs, q, Nat.le_refl _⟩, fun i H v H' _ q y => ?_⟩
  rcases y with ⟨T, x, h1, h2, h3, h4⟩
  exact ⟨T, .int (i : Nat), x, h1, h2, h3, rfl, h4 xs q⟩
/-- a list or a tuple walked -/
def iSeq (K : PySem.W.Frag) (te : TE) : TI := fun σ H R => te σ H fun x H1 => (∃ a, x = .ref a ∧ (∃ xs, SqL K H1 a xs) ∧ R (Itl K a) H1) ∨ ∃ a, x = .ref a ∧ (∃ xs, SqT K H1 a xs) ∧ R (Itt K a) H1
theorem pi_seq {X : Cx} {tg e : Expr} {te : TE} (he : PE X e te) : PI X tg e (iSeq X.K te) := by
  refine ⟨fun pins s σ H R I h => thn (he.run pins s σ H _ I h) fun v s1 ⟨x, H1, I1, r1, q1⟩ => ?_⟩
  rcases q1 with ⟨a, ex, ⟨xs, hq⟩, q⟩ | ⟨a, ex, ⟨xs, hq⟩, q⟩
  · subst ex
    cases r1
    obtain ⟨its, rv, p, hz⟩ := I1.list hq
    refine wpAny_pyIter_list p.isList ⟨s1.heap.objs.size, [s1.heap.objs.size], _, _, H1, rfl, I1.kept (t' := s1.toks) fun b o e => Heap.get?_push_of_some _ e, turn_list a _, ⟨_, Heap.get?_push_size _ rfl, rfl, rfl⟩, fun b hb => ?_, q⟩
    cases List.mem_singleton.mp hb
    exact I1.fpOk (Nat.le_refl _) (I1.hok.fresh (Nat.le_refl _))
  · subst ex
    cases r1
    obtain ⟨its, rv, p, hz⟩ := I1.tuple hq
    refine wpAny_pyIter_tuple (show s1.heap.IsTuple a its.toArray from p) ⟨s1.heap.objs.size, [s1.heap.objs.size], _, _, H1, rfl, I1.kept (t' := s1.toks) fun b o e => Heap.get?_push_of_some _ e, turn_tuple a _, ⟨_, Heap.get?_push_size _ rfl, rfl, rfl⟩, fun b hb => ?_, q⟩
    cases List.mem_singleton.mp hb
    exact I1.fpOk (Nat.le_refl _) (I1.hok.fresh (Nat.le_refl _))
end Y

set_option Elab.async false
set_option linter.all false
set_option maxRecDepth 100000
namespace Y
open PySem L2
def fFor (g : TG) (tb : TS) (D : Ends) (σ : St) : It → Hp → Prop := fun J H1 => ∃ W : Nat → Nat → St → Hp → Prop, (∃ m, W 0 m σ H1) ∧ ∀ i m σ H, W i m σ H →
  (J.stop i H ∧ D.nx σ H) ∨ (J.go i H ∧ ∃ N : St → Hp → Prop, (∀ σ' H', N σ' H' → ∃ m', m' < m ∧ W (i + 1) m' σ' H') ∧ ∀ x H', J.yld i H x H' → g x σ H' fun σ2 H2 => tb { D with nx := N, ct := N, bk := D.nx } σ2 H2)
def fRng1 (R : It → Hp → Prop) : VL := fun vs H1 => ∃ j : Int, vs = [.int j] ∧ -(2 ^ 62) ≤ j ∧ j < 2 ^ 62 ∧ R (Itr 0 j.toNat) H1
def fRng2 (R : It → Hp → Prop) : VL := fun vs H1 => ∃ i j : Int, vs = [.int i, .int j] ∧ (-(2 ^ 62) ≤ i ∧ i < 2 ^ 62 ∧ -(2 ^ 62) ≤ j ∧ j < 2 ^ 62) ∧ R (Itr i (j - i).toNat) H1
def fSeq (K : PySem.W.Frag) (R : It → Hp → Prop) : VK := fun x H1 => (∃ a, x = .ref a ∧ (∃ xs, SqL K H1 a xs) ∧ R (Itl K a) H1) ∨ ∃ a, x = .ref a ∧ (∃ xs, SqT K H1 a xs) ∧ R (Itt K a) H1
def fEnumT (K : PySem.W.Frag) (R : It → Hp → Prop) : VL := fun vs H1 => ∃ a xs, vs = [.ref a] ∧ SqT K H1 a xs ∧ R (IteT K a) H1
def fEnum (K : PySem.W.Frag) (R : It → Hp → Prop) : VL := fun vs H1 => ∃ a xs, vs = [.ref a] ∧ SqL K H1 a xs ∧ R (Ite K a) H1
def fLc (g : TG) (tt : TT) (te : TE) (vs : List Nat) (σ : St) (Q : VK) : It → Hp → Prop := fun J H1 => ∀ D, H1 D = none → ∃ W : Nat → Nat → Hp → Prop, (∃ m, W 0 m (upd H1 D (.lst []))) ∧ ∀ i m H, W i m H →
  (J.stop i H ∧ Q (.ref D) H) ∨ (J.go i H ∧ ∃ Nx : Hp → Prop, (∀ H', Nx H' → ∃ m', m' < m ∧ W (i + 1) m' H') ∧ ∀ x H', J.yld i H x H' → g x (wipe σ vs) H' fun σ2 H2 => wipe σ2 vs = wipe σ vs ∧ tt σ2 H2 fun b H3 =>
    if b = true then te σ2 H3 fun y H4 => ∃ acc, H4 D = some (.lst acc) ∧ acc.length < sizeLine ∧ Nx (upd H4 D (.lst (acc ++ [y]))) else Nx H3)
/-- a comprehension's element is laid -/
def fAcc (D : Addr) (N : Hp → Prop) : VK := fun y H4 => ∃ acc, H4 D = some (.lst acc) ∧ acc.length < sizeLine ∧ N (upd H4 D (.lst (acc ++ [y])))
def fLcT (te : TE) (σ2 : St) (D : Addr) (N : Hp → Prop) : Bool → Hp → Prop := fun b H3 => if b = true then te σ2 H3 (fAcc D N) else N H3
def fBM (K : PySem.W.Frag) (T : String) (r : V → List V → Hp → VK → Prop) (t : TA) (σ : St) (Q : VK) : VK := fun x H1 => tyV K T x H1 ∧ t σ H1 fun xs H2 => r x xs H2 Q
def fBM2 (r : V → List V → Hp → VK → Prop) (x : V) (Q : VK) : VL := fun xs H2 => r x xs H2 Q
def fBM0 (K : PySem.W.Frag) (T : String) (r : V → List V → Hp → VK → Prop) (Q : VK) : VK := fun x H1 => tyV K T x H1 ∧ r x [] H1 Q
def fPar (i j : Nat) (σ : St) (nx : St → Hp → Prop) : VL := fun vs H1 => ∃ v w, vs = [v, w] ∧ nx ((σ.set i (some v)).set j (some w)) H1
def fPar3 (i j l : Nat) (σ : St) (nx : St → Hp → Prop) : VL := fun vs H1 => ∃ u v w, vs = [u, v, w] ∧ nx (((σ.set i (some u)).set j (some v)).set l (some w)) H1
def fChain1 (r r' : R2) (tb tc : TE) (σ : St) (Q : VK) : VK := fun x H1 => tb σ H1 fun y H2 => r x y H2 fun z H3 => ∃ k, z = .bl k ∧ (if k = true then tc σ H3 fun w' H4 => r' y w' H4 Q else Q (.bl false) H3)
def fChain2 (r r' : R2) (x : V) (tc : TE) (σ : St) (Q : VK) : VK := fun y H2 => r x y H2 fun z H3 => ∃ k, z = .bl k ∧ (if k = true then tc σ H3 fun w' H4 => r' y w' H4 Q else Q (.bl false) H3)
def fChain3 (r' : R2) (y : V) (tc : TE) (σ : St) (Q : VK) : VK := fun z H3 => ∃ k, z = .bl k ∧ (if k = true then tc σ H3 (fOp2 r' y Q) else Q (.bl false) H3)
def fStF (K : PySem.W.Frag) (ta : TE) (f : Str) (σ : St) (nx : St → Hp → Prop) : VK := fun y H1 => ta σ H1 fun x H2 => ∃ a C dx fs, x = .ref a ∧ H2 a = some (.ins C dx fs) ∧ Cls K C ∧ NoAttr K C f ∧ fs.length < 1000 ∧ nx σ (upd H2 a (.ins C dx (putF f y fs)))
def fStF2 (K : PySem.W.Frag) (y : V) (f : Str) (σ : St) (nx : St → Hp → Prop) : VK := fun x H2 => ∃ a C dx fs, x = .ref a ∧ H2 a = some (.ins C dx fs) ∧ Cls K C ∧ NoAttr K C f ∧ fs.length < 1000 ∧ nx σ (upd H2 a (.ins C dx (putF f y fs)))
section
variable {K : PySem.W.Frag} {σ σ2 : St} {H : Hp} {Q : VK} {QT : Bool → Hp → Prop} {r r' : R2} {ta tb tc te : TE} {t u tt : TT} {v x y : V} {f m : Str} {tl tr : TA} {sp : Sp} {dvs : List V} {E : XK} {a b C dx p l : Addr} {fs : List (Str × V)} {QL : VL} {D : Ends} {nx : St → Hp → Prop} {rt : VK} {bk ct : St → Hp → Prop} {s1 s2 ts : TS} {g : TG} {i j : Int} {n : Nat} {xs ys zs vs : List V} {wi : TI} {R : It → Hp → Prop} {J : It} {G : Hp → Prop} {Yd : Nat → Hp → V → Hp → Prop} {T : String} {rm : V → List V → Hp → VK → Prop}
theorem lk_new {o u : HO} (h : H a = some o) (n : H p = none) : upd H p u a = some o := by
  rw [upd_ne (ne_of_none h n)]
  exact h
theorem lk_ne {o u : HO} (h : H a = some o) (n : a ≠ p) : upd H p u a = some o := by
  rw [upd_ne n]
  exact h
theorem sqL_new {o : HO} (h : SqL K H a xs) (n : H p = none) : SqL K (upd H p o) a xs := by
  rcases h with (h | ⟨u, h⟩) | h
  · exact .inl (.inl (lk_new h n))
  · exact .inl (.inr ⟨u, lk_new h n⟩)
  · exact .inr h
theorem sqT_new {o : HO} (h : SqT K H a xs) (n : H p = none) : SqT K (upd H p o) a xs := by
  rcases h with (h | ⟨u, h⟩) | h
  · exact .inl (.inl (lk_new h n))
  · exact .inl (.inr ⟨u, lk_new h n⟩)
  · exact .inr h
theorem sqL_same {H' : Hp} (e : Same H H') (h : SqL K H a xs) : SqL K H' a xs := e.seq h
/-- a list that is read stays where another one is changed -/
theorem sqL_mut {o : HO} (h : SqL K H a xs) (n : a ≠ p) : SqL K (upd H p o) a xs := by
  rcases h with (h | ⟨u, h⟩) | h
  · exact .inl (.inl (lk_ne h n))
  · exact .inl (.inr ⟨u, lk_ne h n⟩)
  · exact .inr h
theorem e_for : tFor wi g ts D σ H = wi σ H (fFor g ts D σ) := rfl
theorem e_rng1 : iRng1 tl σ H R = tl σ H (fRng1 R) := rfl
theorem e_rng2 : iRng2 tl σ H R = tl σ H (fRng2 R) := rfl
theorem e_seqI : iSeq K te σ H R = te σ H (fSeq K R) := rfl
theorem e_enumT : iEnumT K tl σ H R = tl σ H (fEnumT K R) := rfl
theorem e_enum : iEnum K tl σ H R = tl σ H (fEnum K R) := rfl
theorem k_rng1 (h1 : -(2 ^ 62) ≤ j) (h2 : j < 2 ^ 62) (q : R (Itr 0 j.toNat) H) : fRng1 R [.int j] H := ⟨j, rfl, h1, h2, q⟩
theorem k_rng2 (h : -(2 ^ 62) ≤ i ∧ i < 2 ^ 62 ∧ -(2 ^ 62) ≤ j ∧ j < 2 ^ 62) (q : R (Itr i (j - i).toNat) H) : fRng2 R [.int i, .int j] H := ⟨i, j, rfl, h, q⟩
theorem k_seqL (h : SqL K H a xs) (q : R (Itl K a) H) : fSeq K R (.ref a) H := .inl ⟨a, rfl, ⟨xs, h⟩, q⟩
theorem k_seqT (h : SqT K H a xs) (q : R (Itt K a) H) : fSeq K R (.ref a) H := .inr ⟨a, rfl, ⟨xs, h⟩, q⟩
theorem k_enumT (h : SqT K H a xs) (q : R (IteT K a) H) : fEnumT K R [.ref a] H := ⟨a, xs, rfl, h, q⟩
theorem k_enum (h : SqL K H a xs) (q : R (Ite K a) H) : fEnum K R [.ref a] H := ⟨a, xs, rfl, h, q⟩
/-- a for, by what holds at each turn -/
theorem k_for (w : Walk J n G Yd) (Pv : Nat → St → Hp → Prop) (h0 : Pv 0 σ H) (hG : ∀ i σ H, i ≤ n → Pv i σ H → G H)
    (hs : ∀ i x σ H H', i < n → Pv i σ H → Yd i H x H' → g x σ H' fun σ2 H2 => ts ⟨Pv (i + 1), rt, nx, Pv (i + 1)⟩ σ2 H2) (hd : ∀ σ H, Pv n σ H → nx σ H) : fFor g ts ⟨nx, rt, bk, ct⟩ σ J H :=
  for_it w (D := ⟨nx, rt, bk, ct⟩) Pv h0 hG hs hd
theorem e_gname {i : Nat} {Qs : St → Hp → Prop} : gName i v σ H Qs = Qs (σ.set i (some v)) H := rfl
/-- the pair of an enumerate, of a dict's items .. -/
theorem k_pairS {t1 t2 : TG} {Qs : St → Hp → Prop} (h : SqT K H p [x, y]) (q : t1 x σ H fun σ1 H1 => t2 y σ1 H1 Qs) : gTup K 2 (gCons t1 (gCons t2 gNil)) (.ref p) σ H Qs :=
  ⟨p, [x, y], rfl, h, rfl, x, [y], rfl, (by
    have e : (fun σ' H' => (gCons t2 gNil) [y] σ' H' Qs) = fun σ1 H1 => t2 y σ1 H1 Qs := by
      funext σ1 H1
      apply propext
      constructor
      · rintro ⟨v, r, e, q⟩
        cases e
        have e2 : (fun σ' H' => gNil [] σ' H' Qs) = Qs := by
          funext σ' H'
          exact propext ⟨fun z => z.2, fun z => ⟨rfl, z⟩⟩
        rw [e2] at q
        exact q
      · intro q
        refine ⟨y, [], rfl, ?_⟩
        have e2 : (fun σ' H' => gNil [] σ' H' Qs) = Qs := by
          funext σ' H'
          exact propext ⟨fun z => z.2, fun z => ⟨rfl, z⟩⟩
        rw [e2]
        exact q
    rw [e]
    exact q)⟩
/-! comprehensions -/
theorem k_pair {t1 t2 : TG} {Qs : St → Hp → Prop} (h : H p = some (.tup [x, y])) (q : t1 x σ H fun σ1 H1 => t2 y σ1 H1 Qs) : gTup K 2 (gCons t1 (gCons t2 gNil)) (.ref p) σ H Qs := k_pairS (SqT.of h) q
theorem e_lc : tLc wi g tt te ((n : Nat) :: []) σ H Q = wi σ H (fLc g tt te [n] σ Q) := rfl
theorem e_acc {Nx : Hp → Prop} : fAcc l Nx v H = ∃ acc, H l = some (.lst acc) ∧ acc.length < sizeLine ∧ Nx (upd H l (.lst (acc ++ [v]))) := rfl
theorem k_acc {Nx : Hp → Prop} {acc : List V} (h : H l = some (.lst acc)) (hl : acc.length < 100000) (q : Nx (upd H l (.lst (acc ++ [v])))) : fAcc l Nx v H := ⟨acc, h, Nat.lt_of_lt_of_le hl (by decide), q⟩
theorem e_lcT {Nx : Hp → Prop} {b : Bool} : fLcT te σ2 l Nx b H = (if b = true then te σ2 H (fAcc l Nx) else Nx H) := rfl
theorem e_yes : tYes σ H QT = QT true H := rfl
/-- a list comprehension, by what holds at each turn; l: the new list -/
theorem k_lc {wp : List Nat} (w : Walk J n G Yd) (q : ∀ l, H l = none → ∃ Pv : Nat → Hp → Prop, Pv 0 (upd H l (.lst [])) ∧ (∀ i H, i ≤ n → Pv i H → G H) ∧
    (∀ i x H H', i < n → Pv i H → Yd i H x H' → g x (wipe σ wp) H' fun σ2 H2 => wipe σ2 wp = wipe σ wp ∧ tt σ2 H2 (fLcT te σ2 l (Pv (i + 1)))) ∧ ∀ H, Pv n H → Q (.ref l) H) : fLc g tt te wp σ Q J H := by
  intro l hl
  obtain ⟨Pv, h0, hG, hs, hd⟩ := q l hl
  exact lc_it w (Qd := fun H => Q (.ref l) H) Pv h0 hG hs hd
/-! methods of Python's own -/
theorem e_bm : tBM K T rm ta tl σ H Q = ta σ H (fBM K T rm tl σ Q) := rfl
theorem e_bm2 : fBM2 rm x Q xs H = rm x xs H Q := rfl
theorem k_bmL (h : H a = some (.lst xs)) (q : tl σ H (fBM2 rm (.ref a) Q)) : fBM K "list" rm tl σ Q (.ref a) H := ⟨.inl ⟨rfl, xs, SqL.of h⟩, q⟩
theorem k_bmS {z : Str} (q : tl σ H (fBM2 rm (.str z) Q)) : fBM K "str" rm tl σ Q (.str z) H := ⟨rfl, q⟩
theorem k_append (h : H a = some (.lst xs)) (hl : xs.length < 100000) (q : Q .non (upd H a (.lst (xs ++ [y])))) : fBM2 rAppend (.ref a) Q [y] H := ⟨a, xs, y, rfl, rfl, h, Nat.lt_of_lt_of_le hl (by decide), q⟩
theorem k_extend (h : H a = some (.lst xs)) (h' : H b = some (.lst zs)) (hl : xs.length + zs.length ≤ 100000) (q : Q .non (upd H a (.lst (xs ++ zs)))) : fBM2 rExtend (.ref a) Q [.ref b] H :=
  ⟨a, b, xs, zs, rfl, rfl, h, h', Nat.le_trans hl (by decide), q⟩
/-! several targets, chains, fields stored -/
theorem e_par {i j : Nat} : tPar i j tl ⟨nx, rt, bk, ct⟩ σ H = tl σ H (fPar i j σ nx) := rfl
theorem e_par1 {i j : Nat} : fPar i j σ nx [x, y] H = nx ((σ.set i (some x)).set j (some y)) H := propext ⟨fun ⟨v, w, e, q⟩ => by cases e; exact q, fun q => ⟨x, y, rfl, q⟩⟩
theorem e_par3 {i j l : Nat} : tPar3 i j l tl ⟨nx, rt, bk, ct⟩ σ H = tl σ H (fPar3 i j l σ nx) := rfl
theorem e_par31 {i j l : Nat} {z : V} : fPar3 i j l σ nx [x, y, z] H = nx (((σ.set i (some x)).set j (some y)).set l (some z)) H := propext ⟨fun ⟨u, v, w, e, q⟩ => by cases e; exact q, fun q => ⟨x, y, z, rfl, q⟩⟩
theorem e_chain : tChain r r' ta tb tc σ H Q = ta σ H (fChain1 r r' tb tc σ Q) := rfl
theorem e_chain1 : fChain1 r r' tb tc σ Q x H = tb σ H (fChain2 r r' x tc σ Q) := rfl
theorem e_chain2 : fChain2 r r' x tc σ Q y H = fOp2 r x (fChain3 r' y tc σ Q) y H := rfl
theorem e_chain3 {k : Bool} : fChain3 r' y tc σ Q (.bl k) H = (if k = true then tc σ H (fOp2 r' y Q) else Q (.bl false) H) := propext ⟨fun ⟨u, e, q⟩ => by cases e; exact q, fun q => ⟨k, rfl, q⟩⟩
theorem e_sfld : sFld K ta tb f ⟨nx, rt, bk, ct⟩ σ H = tb σ H (fStF K ta f σ nx) := rfl
theorem e_sfld1 : fStF K ta f σ nx y H = ta σ H (fStF2 K y f σ nx) := rfl
theorem k_sfld (h : H a = some (.ins C dx fs)) (c : Cls K C) (n : NoAttr K C f) (hl : fs.length < 1000) (q : nx σ (upd H a (.ins C dx (putF f y fs)))) : fStF2 K y f σ nx (.ref a) H := ⟨a, C, dx, fs, rfl, h, c, n, hl, q⟩
theorem k_meth (h : H a = some (.ins C dx fs)) (hl : fs.lookup m = none) (q : tl σ H (fCons2 (.ref a) (fCall sp dvs E Q))) : fMeth C m sp dvs E tl σ Q (.ref a) H := ⟨a, dx, fs, rfl, h, hl, q⟩
end
end Y

set_option Elab.async false
set_option linter.all false
set_option maxRecDepth 100000
namespace Y
open PySem L2
section
variable {K : PySem.W.Frag}
theorem e_never {D : Ends} {σ : St} {H : Hp} : tNever D σ H = False := rfl
theorem kt_self {t : Value} : PySem.W.kitOne K t t = some true := by
  unfold PySem.W.kitOne
  rw [if_pos (by simp)]
theorem kt_int_bool : PySem.W.kitOne K (.type "int") (.type "bool") = some false := kit_ty (by decide +kernel)
theorem kt_int_str : PySem.W.kitOne K (.type "int") (.type "str") = some false := kit_ty (by decide +kernel)
theorem kt_int_list : PySem.W.kitOne K (.type "int") (.type "list") = some false := kit_ty (by decide +kernel)
theorem kt_int_tuple : PySem.W.kitOne K (.type "int") (.type "tuple") = some false := kit_ty (by decide +kernel)
theorem kt_bool_int : PySem.W.kitOne K (.type "bool") (.type "int") = some true := kit_ty (by decide +kernel)
theorem kt_bool_str : PySem.W.kitOne K (.type "bool") (.type "str") = some false := kit_ty (by decide +kernel)
theorem kt_bool_list : PySem.W.kitOne K (.type "bool") (.type "list") = some false := kit_ty (by decide +kernel)
theorem kt_bool_tuple : PySem.W.kitOne K (.type "bool") (.type "tuple") = some false := kit_ty (by decide +kernel)
theorem kt_str_int : PySem.W.kitOne K (.type "str") (.type "int") = some false := kit_ty (by decide +kernel)
theorem kt_str_bool : PySem.W.kitOne K (.type "str") (.type "bool") = some false := kit_ty (by decide +kernel)
theorem kt_str_list : PySem.W.kitOne K (.type "str") (.type "list") = some false := kit_ty (by decide +kernel)
theorem kt_str_tuple : PySem.W.kitOne K (.type "str") (.type "tuple") = some false := kit_ty (by decide +kernel)
theorem kt_non_int : PySem.W.kitOne K (.type "NoneType") (.type "int") = some false := kit_ty (by decide +kernel)
theorem kt_non_bool : PySem.W.kitOne K (.type "NoneType") (.type "bool") = some false := kit_ty (by decide +kernel)
theorem kt_non_str : PySem.W.kitOne K (.type "NoneType") (.type "str") = some false := kit_ty (by decide +kernel)
theorem kt_non_list : PySem.W.kitOne K (.type "NoneType") (.type "list") = some false := kit_ty (by decide +kernel)
theorem kt_non_tuple : PySem.W.kitOne K (.type "NoneType") (.type "tuple") = some false := kit_ty (by decide +kernel)
theorem kt_tuple_int : PySem.W.kitOne K (.type "tuple") (.type "int") = some false := kit_ty (by decide +kernel)
theorem kt_tuple_bool : PySem.W.kitOne K (.type "tuple") (.type "bool") = some false := kit_ty (by decide +kernel)
theorem kt_tuple_str : PySem.W.kitOne K (.type "tuple") (.type "str") = some false := kit_ty (by decide +kernel)
theorem kt_tuple_list : PySem.W.kitOne K (.type "tuple") (.type "list") = some false := kit_ty (by decide +kernel)
theorem kt_list_int : PySem.W.kitOne K (.type "list") (.type "int") = some false := kit_ty (by decide +kernel)
theorem kt_list_bool : PySem.W.kitOne K (.type "list") (.type "bool") = some false := kit_ty (by decide +kernel)
theorem kt_list_str : PySem.W.kitOne K (.type "list") (.type "str") = some false := kit_ty (by decide +kernel)
theorem kt_list_tuple : PySem.W.kitOne K (.type "list") (.type "tuple") = some false := kit_ty (by decide +kernel)
theorem kt_dict_int : PySem.W.kitOne K (.type "dict") (.type "int") = some false := kit_ty (by decide +kernel)
theorem kt_dict_bool : PySem.W.kitOne K (.type "dict") (.type "bool") = some false := kit_ty (by decide +kernel)
theorem kt_dict_str : PySem.W.kitOne K (.type "dict") (.type "str") = some false := kit_ty (by decide +kernel)
theorem kt_dict_list : PySem.W.kitOne K (.type "dict") (.type "list") = some false := kit_ty (by decide +kernel)
theorem kt_dict_tuple : PySem.W.kitOne K (.type "dict") (.type "tuple") = some false := kit_ty (by decide +kernel)
/-- (list, tuple) -/
theorem ka_tuple : PySem.W.kitAny K (.type "tuple") [.type "list", .type "tuple"] = some true := kitAny_cons kt_tuple_list (fun _ => kitAny_cons kt_self (fun z => nomatch z) fun _ => rfl) fun z => nomatch z
theorem ka_list : PySem.W.kitAny K (.type "list") [.type "list", .type "tuple"] = some true := kitAny_cons kt_self (fun z => nomatch z) fun _ => rfl
theorem ka_no {t : Value} (h1 : PySem.W.kitOne K t (.type "list") = some false) (h2 : PySem.W.kitOne K t (.type "tuple") = some false) : PySem.W.kitAny K t [.type "list", .type "tuple"] = some false :=
  kitAny_cons h1 (fun _ => kitAny_cons h2 (fun _ => rfl) fun z => nomatch z) fun z => nomatch z
/-- (bool, int), (bool, str) -/
theorem ka_bi_int : PySem.W.kitAny K (.type "int") [.type "bool", .type "int"] = some true := kitAny_cons kt_int_bool (fun _ => kitAny_cons kt_self (fun z => nomatch z) fun _ => rfl) fun z => nomatch z
variable {H : Hp} {a : Addr} {xs : List V} {Q : VK} {QL : VL}
theorem tyx_tup (h : SqT K H a xs) : TyX K H (.ref a) (.type "tuple") := by
  rcases h with (h | ⟨o, h⟩) | ⟨o, its, n, h1, h2, _⟩
  · exact .base (.tup h)
  · exact .fTuple h
  · exact .kTuple h1 h2
theorem tyx_lst (h : SqL K H a xs) : TyX K H (.ref a) (.type "list") := by
  rcases h with (h | ⟨o, h⟩) | ⟨o, its, n, h1, h2, _⟩
  · exact .base (.lst h)
  · exact .base (.frz h)
  · exact .kList h1 h2
theorem k_all {bs : List Bool} (h : SqL K H a (bs.map V.bl)) (q : Q (.bl (bs.all id)) H) : fCB (rAll K) Q [.ref a] H := ⟨a, bs, rfl, h, q⟩
theorem k_inT {x y : V} {d : PyData} {ds : List PyData} (h1 : Dp K H x d) (h2 : Dp K H y (.tuple ds)) (s1 : SeqAt.shaped d = true) (s2 : SeqAt.shaped (.tuple ds) = true) (q : Q (.bl (ds.any fun z => PyData.eqv z d)) H) : fOp2 (rInU K) x Q y H :=
  .inr (.inl ⟨d, ds, h1, h2, s1, s2, q⟩)
theorem k_inL {x y : V} {d : PyData} {ds : List PyData} (h1 : Dp K H x d) (h2 : Dp K H y (.list ds)) (s1 : SeqAt.shaped d = true) (s2 : SeqAt.shaped (.list ds) = true) (q : Q (.bl (ds.any fun z => PyData.eqv z d)) H) : fOp2 (rInU K) x Q y H :=
  .inr (.inr ⟨d, ds, h1, h2, s1, s2, q⟩)
/-- data from tuples of texts -/
theorem dp_strs : ∀ {w : List Str}, DpAll K H (w.map V.str) (w.map PyData.str)
  | [] => .nil
  | _ :: _ => .cons (.str _) dp_strs
end
/-! ### the rules with the written part named -/
section
variable {X : Cx} (K : PySem.W.Frag)
theorem pe_bty {x : Str} {n : String} {pos : Pos} (hg : Gl X x) (hm : X.mg x = none) (hv : bootBuiltins x = some (.type n)) (hn : x ≠ "__name__" := by decide) (hd : (x == ("__debug__" : Str)) = false := by decide) : PE X (.Name x pos) (tC (.ty n)) :=
  pe_bltn hg hm hv (v := .ty n) rfl hn hd
theorem call_isiUk (h : X.K = K := by rfl) : CallR X (.builtin "isinstance") (rIsiU K) := by subst h; exact call_isiU
theorem call_lenUk (h : X.K = K := by rfl) : CallR X (.builtin "len") (rLenU K) := by subst h; exact call_lenU
theorem op_addUk (h : X.K = K := by rfl) : OpR X (binaryOp .Add) (rAddU K) := by subst h; exact op_addU
theorem op_eqUk (hu : X.A.units + 65 < cLine) (h : X.K = K := by rfl) : OpR X (compareOp .Eq) (rEqU K) := by subst h; exact op_eqU hu
theorem op_neUk (hu : X.A.units + 65 < cLine) (h : X.K = K := by rfl) : OpR X (compareOp .NotEq) (rNeU K) := by subst h; exact op_neU hu
theorem op_inUk (hu : X.A.units + 65 < cLine) (h : X.K = K := by rfl) : OpR X (compareOp .In) (rInU K) := by subst h; exact op_inU hu
theorem ix_seqk (h : X.K = K := by rfl) : IxR X (rIx K) := by subst h; exact ix_seq
theorem sl_Uk (h : X.K = K := by rfl) : SlR X (rSlU K) := by subst h; exact sl_U
theorem cr_allk (hc : X.calm = true) (h : X.K = K := by rfl) : CallR X (.builtin "all") (rAll K) := by subst h; exact cr_all hc
theorem cr_anyk (hc : X.calm = true) (h : X.K = K := by rfl) : CallR X (.builtin "any") (rAny K) := by subst h; exact cr_any hc
theorem call_tuple_ofk (h : X.K = K := by rfl) : CallR X (.type "tuple") (fun xs H Q => ∃ p ys, xs = [.ref p] ∧ ((SqL K H p ys ∧ ∀ l, H l = none → Q (.ref l) (upd H l (.tup ys))) ∨ (SqT K H p ys ∧ Q (.ref p) H))) := by subst h; exact call_tuple_of
theorem call_list_ofk (h : X.K = K := by rfl) : CallR X (.type "list") (fun xs H Q => ∃ p ys, xs = [.ref p] ∧ (SqL K H p ys ∨ SqT K H p ys) ∧ ∀ l, H l = none → Q (.ref l) (upd H l (.lst ys))) := by subst h; exact call_list_of
theorem pe_fldk {e : Expr} {f : Str} {ta : TE} {pos : Pos} (he : PE X e ta) (hb : attributeBase e f X.env (eval e X.env) = eval e X.env) (h : X.K = K := by rfl) : PE X (.Attribute e f pos) (tFld K ta f) := by subst h; exact pe_fld he hb
theorem pi_seqk {tg e : Expr} {te : TE} (he : PE X e te) (h : X.K = K := by rfl) : PI X tg e (iSeq K te) := by subst h; exact pi_seq he
end
end Y

set_option Elab.async false
set_option linter.all false
set_option maxRecDepth 100000
set_option maxHeartbeats 2000000
namespace PySem
namespace ErrX
open PySem.W PySem.Calls PyProof.Rows PySem.HandSPX
/-! an own error whose __init__ says super().__init__(text); self.f = f -/
def iA (fl : Str) (p1 p2 : Pos) : Arguments := { posonlyargs := [], args := [{ arg := "self", annotation := none, pos := p1 }, { arg := fl, annotation := none, pos := p2 }], vararg := none, kwonlyargs := [], kw_defaults := [], kwarg := none, defaults := [] }
def iB (fl msg : Str) (a b c d e f g h i j : Pos) : List Stmt :=
  [.Expr (.Call (.Attribute (.Call (.Name "super" a) [] [] b) "__init__" c) [.Constant (.str msg) 0 d] [] e) f, .Assign [.Attribute (.Name "self" g) fl h] (.Name fl i) j]
def iS (fl : Str) : Scope := { kind := .function, names := [("self", .local), (fl, .local), ("__class__", .free), ("super", .globalImplicit)], isGenerator := false, isCoroutine := false, more := [] }
/-- what the written part says of the class, at C, and of its __init__, at fI -/
structure ErrTxt (P : Program) (K : Frag) (mg : Str → Option Value) (nm fl msg : Str) (C fI : Addr) : Prop where
  gC : mg nm = some (.ref C)
  gS : mg "super" = none
  cls : ∃ nm q N bs bm sn sub ab col dd k0 k1 k2 k3 k5, K.lookup C = some (excClassObj nm q C N bs bm true sn sub ab col dd k0 k1 k2 k3 k5 "ValueError.__new__") ∧ refsVE bm = true
  sa : findIn K (.ref C) "__setattr__" = some (some (.builtin "object.__setattr__"))
  ga : findIn K (.ref C) "__getattribute__" = some (some (.builtin "BaseException.__getattribute__"))
  gg : findIn K (.ref C) "__getattr__" = some none
  noN : findIn K (.ref C) fl = some none
  iC : findIn K (.ref C) "__init__" = some (some (.ref fI))
  tC : typeIn K (.ref fI) = some (.type "function")
  kC : keepIn K (.ref C) = true
  exC : subIn K (.ref C) (.type "BaseException") = some true
  tyC : typeIn K (.ref C) = some (.type "type")
  hdC : hasDictIn K C = true
  te : exmOne K (.ref C) (.ref C) = some true
  qI : excInitIn K C [.type "ValueError", .type "Exception", .type "BaseException", .type "object"] "ValueError.__new__" = true
  veC : subIn K (.ref C) (.type "ValueError") = some true
  mro : mroIn K C (.ref C) = some true
  sup : ks_superIn K C C "__init__" = some (some (.builtin "ValueError.__init__"))
  any : nsIn K cStatics "thirdparty.any" = some none
  top : (P.main.scope.names.lookup ("super" : Str)).isSome = false
  fn : ∃ (qual : Str) (oc : Value) (od : Option Addr) (doc pm : Value) (an : Option Addr) (cda : Addr) (ct : Value) (osl : Array (Option Value)) (cc : Addr) (p1 p2 a b c d e f g h i j : Pos) (ccl : Value) (cdd : Option Addr) (vs : Array Value) (ccs : Array (Option Value)) (file : Str) (tf : Tok) (cl : Value) (cld : Option Addr) (csl : Array (Option Value)),
    K.lookup fI = some ⟨oc, od, .func (ksFn "__init__" qual (iA fl p1 p2) (iB fl msg a b c d e f g h i j) (iS fl) .none .none doc pm an (.ref cda) ct cc), osl⟩ ∧ codeIn K (.ref cda) qual = true ∧
    K.lookup cda = some ⟨ccl, cdd, .fields vs, ccs⟩ ∧ vs[2]? = some (.str file tf) ∧ ((P.main.file : Str) == file) = true ∧ K.lookup cc = some ⟨cl, cld, .cell (some (.ref C)), csl⟩ ∧
    (∃ pl : Env → Sem Bool, ∀ env : Env, eval (.Call (.Attribute (.Call (.Name "super" a) [] [] b) "__init__" c) [.Constant (.str msg) 0 d] [] e) env = (do
      let ov ← attributeBase (.Call (.Name "super" a) [] [] b) "__init__" env (eval (.Call (.Name "super" a) [] [] b) env)
      standAt c.atName
      let (f, first) ← holding [ov] (getMethod ov "__init__" (pl env))
      callWith e f first (backTo e (starEach [.Constant (.str msg) 0 d] env)) []))
theorem one_size (v : Value) : [v].length ≤ sizeLine := by
  rw [sizeLine_eq]
  exact (by decide : 1 ≤ 16777216)
theorem ldC {M : Model} {s : Shared} {env : Env} {m : Str → Option Value} {x : Str} {pos : Pos} {v : Value} {Q : Value → Shared → Prop} {A : Around} {E : Value → Shared → Prop} (hn : s.heap.Ns env.locals m) (hv : m x = some v) (h : Q v s)
    (hk : env.scope.kind = .function := by rfl) (hl : env.kindOf x = some .local := by rfl) (hd : (x == ("__debug__" : Str)) = false := by decide) :
    wpAny M A (eval (.Name x pos) env) Q E s := wpAny_Name (wpAny_loadName_local hk hl hn hv h) hd
/-- what __init__ leaves of a fresh exception at x -/
structure InitEnd (fl : Str) (h h' : Heap) (x C dx t1 : Addr) (v : Value) : Prop where
  keep : ∀ b o, b ≠ x → h.get? b = some o → h'.get? b = some o
  obj : h'.get? x = some { cls := .ref C, dict := some dx, data := .fields #[.ref t1, .none, .none, .none, .bool false, .none] }
  dbig : h.objs.size ≤ dx
  dne : dx ≠ x
  ns : h'.Ns1 dx (fun y => if y = fl then some v else none)
/-- a made error -/
structure OwnMade (fl : Str) (h h' : Heap) (e C d : Addr) (v : Value) : Prop where
  keep : ∀ b o, h.get? b = some o → h'.get? b = some o
  new : h.objs.size ≤ e
  obj : ∃ oe vs, h'.get? e = some oe ∧ oe.cls = .ref C ∧ oe.dict = some d ∧ oe.data = .fields vs ∧ vs[1]? = some .none
  dbig : h.objs.size ≤ d
  dne : d ≠ e
  ns : h'.Ns1 d (fun y => if y = fl then some v else none)
section
variable {P : Program} {w : World} {A : Around} {E : Value → Shared → Prop} {R : Result → Shared → Prop} {s : Shared} {K : Frag} {mg mb : Str → Option Value} {nm fl msg : Str} {C fI : Addr}
theorem err_init (T : ErrTxt P K mg nm fl msg C fI) (hfl : fl = "index" ∨ fl = "number" ∨ fl = "part") {x t0 : Addr} {v : Value} (X : K.In s.heap) (G : s.heap.Ns mainGlobals mg) (Bn : s.heap.Ns builtinsNs mb) (hmb : mb "super" = bootBuiltins "super")
    (hlim : s.heap.NoLimit) (hnx : K.lookup x = none) (hx : s.heap.get? x = some (excO C t0)) (hroom : A.depth < recursionLimit)
    (hq : ∀ h' tk dx t1, InitEnd fl s.heap h' x C dx t1 v → R (.ok (.ret .none)) { s with heap := h', toks := tk }) :
    codeAny (model P w) A (.call (.ref fI) ⟨[.ref x, v], []⟩) R s := by
  obtain ⟨qual, oc, od, doc, pm, an, cda, ct, osl, cc, p1, p2, a, b, c, d, e, f, g, h, i, j, ccl, cdd, vs, ccs, file, tf, cl, cld, csl, ho, hcd, hcda, hvs, hfile, hcc, pl, he⟩ := T.fn
  obtain ⟨nm', q, N, bs, bm, sn, sub, ab, col, dd, k0, k1, k2, k3, k5, hC, hbm⟩ := T.cls
  have hcl : clsIn K C = some { name := nm', bases := bs, mro := .ref C :: bm, ns := N, qualname := q, hasDict := true, slotNames := sn, subclasses := sub, abstract := ab, collection := col, hasDel := false } := by unfold clsIn; rw [hC] <;> rfl
  have tab : ∀ z ∈ (iS fl).names, z.2 ≠ .cell := by rcases hfl with rfl | rfl | rfl <;> decide
  have hb : BindsTo s (ksFn "__init__" qual (iA fl p1 p2) (iB fl msg a b c d e f g h i j) (iS fl) .none .none doc pm an (.ref cda) ct cc) ⟨[.ref x, v], []⟩ [("self", .ref x), (fl, v)] := by
    rcases hfl with rfl | rfl | rfl <;> exact BindsTo.of_eq (by first | rfl | with_unfolding_all rfl)
  have hloc : ∀ z ∈ ([("self", .ref x), (fl, v)] : List (Str × Value)), (iS fl).names.lookup z.1 = some .local := by
    rcases hfl with rfl | rfl | rfl <;> exact locs rfl
  have hnk : (iS fl).names.lookup ("super" : Str) = some .globalImplicit := by rcases hfl with rfl | rfl | rfl <;> rfl
  have hck : (iS fl).names.lookup ("__class__" : Str) = some .free := by rcases hfl with rfl | rfl | rfl <;> rfl
  have hsk : (iS fl).names.lookup ("self" : Str) = some .local := by rcases hfl with rfl | rfl | rfl <;> rfl
  have hfk : (iS fl).names.lookup fl = some .local := by rcases hfl with rfl | rfl | rfl <;> rfl
  have hfd : (fl == ("__debug__" : Str)) = false := by rcases hfl with rfl | rfl | rfl <;> decide
  have hls : ([("self", Value.ref x), (fl, v)] : List (Str × Value)).reverse.lookup ("self" : Str) = some (Value.ref x) := by rcases hfl with rfl | rfl | rfl <;> rfl
  have hlf : ([("self", Value.ref x), (fl, v)] : List (Str × Value)).reverse.lookup fl = some v := by rcases hfl with rfl | rfl | rfl <;> rfl
  have sup : alongIn K "__init__" (((.ref C :: bm : List Value).dropWhile (· != .ref C)).drop 1) = some (some (.builtin "ValueError.__init__")) := by
    have q := T.sup
    unfold ks_superIn at q
    rw [hcl] at q
    exact q
  refine ks_codeAny_call_defAt (fd := ksFn "__init__" qual (iA fl p1 p2) (iB fl msg a b c d e f g h i j) (iS fl) .none .none doc pm an (.ref cda) ct cc) (binds := [("self", .ref x), (fl, v)]) hroom (X _ _ ho) rfl hlim (codeRec_of X hcd) rfl hb tab hloc (fun h₁ hn k => ?_)
  obtain ⟨hp, gg, dd', tt, os⟩ := s
  have X₁ : K.In h₁ := X.keeps k
  have hx₁ := k _ _ hx
  refine ks_wpAt_execs_cons (ks_wpAt_Expr_any (ks_wpAt_MethodCall (pl := pl _) ?_ (he _)))
  refine ks_wpAt_super_base (env := callEnv (ksFn "__init__" qual (iA fl p1 p2) (iB fl msg a b c d e f g h i j) (iS fl) .none .none doc pm an (.ref cda) ct cc) hp.objs.size fI) hnk hck (by decide) rfl (X₁ _ _ ho) rfl rfl rfl (X₁ _ _ hcda) rfl hvs hfile T.top ?_
  refine ks_loadName_global rfl hnk (loadGlobal_builtin (G.keeps k) T.gS (Bn.keeps k) (hmb.trans (by decide +kernel : bootBuiltins "super" = some (.type "super"))) ⟨rfl, ?_⟩)
  refine wpAny_loadName_free rfl hck rfl ⟨_, X₁ _ _ hcc, rfl⟩ ?_
  refine wpAny_loadName_local rfl hsk hn hls ?_
  refine ks_wpAny_isType_cls (X₁ _ _ hC) rfl ⟨rfl, ?_⟩
  refine ks_wpAny_call_super (X₁ _ _ hC) rfl hx₁ rfl (fun c e => by cases e) (looks_mroIn X₁ T.mro) (fun h₂ e₂ k₂ => ?_)
  have X₂ : K.In h₂ := X₁.keeps k₂
  have hx₂ := k₂ _ _ hx₁
  have I₂ : InstAt h₂ x (excO C t0) C none := ⟨hx₂, rfl, rfl, trivial⟩
  refine kxs_getMethod kxs_ValueError e₂ (looks_opaque X₂ T.any) (l₀ := .ref C :: bm) (fun A Q E s k q => wpAny_bind ((looks_clsIn X₂ hcl) A _ E s k (wpAny_pure q))) rfl X₂ sup (I₂.type.andThen (looks_subIn X₂ T.veC)) (ks_ne X₂ I₂ hcl) (by decide) ?_
  have lt1 : hp.objs.size < h₁.objs.size := hn.lt
  have lt2 : h₁.objs.size < h₂.objs.size := Heap.lt_size e₂
  have ltx : x < hp.objs.size := Heap.lt_size hx
  have k₃ : ∀ b o, h₂.get? b = some o → (h₂.push (kxs_mw "ValueError.__init__" x)).get? b = some o := fun b o e => Heap.get?_push_of_some _ e
  have XH : K.In (hp.hide x) := fun a o e => (Heap.hide_ne hp fun z => by rw [z, hnx] at e; cases e).trans (X a o e)
  have F₃ : Fr (hp.hide x) hp.objs.size (h₂.push (kxs_mw "ValueError.__init__" x)) (fun y => ([("self", .ref x), (fl, v)] : List (Str × Value)).reverse.lookup y) :=
    ⟨hn.keeps fun b o e => k₃ b o (k₂ b o e), fun b o e => k₃ b o (k₂ b o (k b o (Heap.of_hide e))), Nat.le_of_eq (Heap.hide_size hp x)⟩
  have N₃ : News (hp.hide x) hp.objs.size (h₂.push (kxs_mw "ValueError.__init__" x)) [(h₂.objs.size, kxs_mw "ValueError.__init__" x), (x, excObj C t0 none .none)] := fun p hp' => by
    rcases List.mem_cons.mp hp' with rfl | hp'
    · refine ⟨Heap.get?_push_at rfl rfl, Nat.ne_of_gt (Nat.lt_trans lt1 lt2), ?_⟩
      cases z : (hp.hide x).get? h₂.objs.size with
      | none => rfl
      | some o => exact absurd (Heap.lt_size (Heap.of_hide z)) (Nat.not_lt_of_gt (Nat.lt_trans lt1 lt2))
    · rw [List.mem_singleton.mp hp']
      exact ⟨k₃ _ _ hx₂, Nat.ne_of_lt ltx, Heap.hide_self hp x⟩
  refine kxs_callWith1 N₃ (List.mem_cons_self ..) (spliced_more (Constant_str (spliced_none ⟨(N₃ _ (List.mem_cons_self ..)).1, ?_⟩)))
  refine kxs_call F₃ XH N₃ F.excBase_ValueError T.qI (List.mem_cons_self ..) (.tail (Nat.ne_of_gt (Nat.lt_trans ltx (Nat.lt_trans lt1 lt2))) (.head fun _ z => nomatch z)) (one_size _) (fun t' h₄ F₄ N₄ _ => ?_)
  have X₄ : K.In h₄ := XH.keeps F₄.keep
  have hx₄ : h₄.get? x = some (excO C t') := (N₄ (x, excObj C t' none .none) (by simp)).1
  have hn₄ := F₄.ns
  have lt4 : hp.objs.size < h₄.objs.size := hn₄.lt
  show wpAt _ _ _ (execs _ _) _ _ _
  refine wpAt_of_wpAny (wpAny_execs_cons (plainObj_wpAny_Assign_Attribute ?_))
  refine ldC (v := v) hn₄ hlf (ldC (v := .ref x) hn₄ hls ?_ rfl hsk) rfl hfk hfd
  refine set_plain X₄ (ox := excO C t') (od := none) ⟨hx₄, rfl, rfl, trivial⟩ T.sa ?_
  refine exc_osa X₄ hx₄ hcl (show refsVE (.ref C :: bm) = true from hbm) rfl T.noN (fun h₅ tk₅ dx k₅ dn dne hx₅ hn₅ => ?_)
  show wpAny _ _ (execs _ _) _ _ _
  exact wpAny_execs_nil (hq h₅ tk₅ dx t' ⟨fun b o hb e => k₅ b o hb (F₄.keep b o ((Heap.hide_ne hp hb).trans e)), hx₅, Nat.le_of_lt (Nat.lt_of_lt_of_le lt4 dn), dne, hn₅⟩)
end
end ErrX
end PySem

set_option Elab.async false
set_option linter.all false
set_option maxRecDepth 100000
set_option maxHeartbeats 2000000
namespace PySem
namespace ErrX
open PySem.W PySem.Calls PyProof.Rows PySem.HandSPX
section
variable {P : Program} {w : World} {A : Around} {R : Result → Shared → Prop} {s : Shared} {K : Frag} {mg mb : Str → Option Value} {nm fl msg : Str} {C fI : Addr}
theorem err_made (T : ErrTxt P K mg nm fl msg C fI) (hfl : fl = "index" ∨ fl = "number" ∨ fl = "part") {v : Value} (X : K.In s.heap) (G : s.heap.Ns mainGlobals mg) (Bn : s.heap.Ns builtinsNs mb) (hmb : mb "super" = bootBuiltins "super")
    (hlim : s.heap.NoLimit) (hroom : A.depth + 1 < recursionLimit)
    (hq : ∀ h' tk e d, OwnMade fl s.heap h' e C d v → R (.ok (.ret (.ref e))) { s with heap := h', toks := tk }) :
    codeAny (model P w) A (.call (.ref C) ⟨[v], []⟩) R s := by
  obtain ⟨nm', q, N, bs, bm, sn, sub, ab, col, dd, k0, k1, k2, k3, k5, hC, hbm⟩ := T.cls
  obtain ⟨hp, g, dr, tk, os⟩ := s
  have up : ∀ b o, hp.get? b = some o → ((hp.push (kdv_tup [v])).push (excO C hp.objs.size)).get? b = some o :=
    fun b o e => Heap.get?_push_of_some _ (Heap.get?_push_of_some _ e)
  have mine : ((hp.push (kdv_tup [v])).push (excO C hp.objs.size)).get? (hp.objs.size + 1) = some (excO C hp.objs.size) := by heap_get
  have free : K.lookup (hp.objs.size + 1) = none := by
    cases e : K.lookup (hp.objs.size + 1) with
    | none => rfl
    | some o => exact absurd (Nat.lt_of_succ_lt (Heap.lt_size (X _ _ e))) (Nat.lt_irrefl _)
  refine call_own F.excBase_ValueError (fun Y => refsVE_contains Y bm hbm) (X _ _ hC) (looks_findIn X T.iC) (fun self => bind_fn X self T.tC) (one_size v) ?_
  refine err_init (s := ⟨(hp.push (kdv_tup [v])).push (excO C hp.objs.size), g, dr, tk, os⟩) T hfl (X.keeps up) (G.keeps up) (Bn.keeps up) hmb (hlim.keeps up) free mine ?_ fun h' tk' dx t1 I => ?_
  · show A.depth + 1 < recursionLimit
    exact hroom
  · have old : ∀ b o, hp.get? b = some o → h'.get? b = some o := fun b o e => I.keep b o (Nat.ne_of_lt (Nat.lt_succ_of_lt (Heap.lt_size e))) (up b o e)
    have z : hp.objs.size + 1 + 1 ≤ dx := by
      have q := I.dbig
      first
        | exact q
        | (rw [Heap.size_push, Heap.size_push] at q; exact q)
        | (simpa only [Heap.size_push] using q)
    exact ⟨rfl, hq h' tk' (hp.objs.size + 1) dx ⟨old, Nat.le_succ _, ⟨_, _, I.obj, rfl, rfl, rfl, rfl⟩, Nat.le_trans (Nat.le_trans (Nat.le_succ _) (Nat.le_succ _)) z, I.dne, I.ns⟩⟩
end
end ErrX
end PySem
namespace L2
open PySem PySem.Spec PyProof.Rows
theorem relO_err {fl : Str} {v : V} {v' : Value} (r : RelV v v') (f : Str) : RelO (List.lookup f [(fl, v)]) (if f = fl then some v' else none) := by
  by_cases hw : f = fl
  · subst hw
    rw [if_pos rfl]
    have q : List.lookup f [(f, v)] = some v := by simp [List.lookup]
    rw [q]
    exact r
  · have e : (f == fl) = false := by simpa using hw
    rw [if_neg hw]
    simp [List.lookup, e, RelO]
section
variable {X : Cx} {nm fl msg : Str} {C fI : Addr}
/-- C(e): for every new dict d that holds the field -/
def tMkErr (fl : Str) (C : Addr) (ta : TA) : St → Hp → XK → Prop := fun σ H Q => ta σ H fun vs H1 => ∃ v, vs = [v] ∧ ∀ d, H1 d = none → Q (.ref C) (some d) (upd H1 d (.xd [(fl, v)]))
theorem pmk_err {a : Expr} {ta : TA} {p pos : Pos} {k : Nat} (T : PySem.ErrX.ErrTxt X.prog X.K X.mg nm fl msg C fI) (hfl : fl = "index" ∨ fl = "number" ∨ fl = "part") (hr : Room k X.A) (ha : PA X [a] ta) (hg : Gl X nm) (hd : (nm == ("__debug__" : Str)) = false)
    (he : starEach (a :: []) X.env = (false, eval a X.env) :: starEach [] X.env := by rfl) (hpl : (backTo pos (starEach [] X.env)).any (·.1) = false := by rfl) :
    PMk X (.Call (.Name nm p) [a] [] pos) (tMkErr fl C ta) := by
  intro pins s σ H Q I h
  refine wpAny_Call_Name_kw (ld_glob I hg T.gC ?_ hd)
  refine PySem.W.callWith_K (h₀ := X.base) I.ok.mod.kin T.kC (thn (ha.run pos pins s σ H _ I h) fun us s1 hh => ?_) he hpl
  obtain ⟨vs, H1, I1, r1, v, ev, q1⟩ := hh
  subst ev
  refine ⟨I1.kIn, ?_⟩
  cases r1 with
  | cons rv rn =>
    rename_i v' us'
    cases rn
    show wpAny _ _ (call (.ref C) [v']) _ _ _
    have hlim := I1.nolimit
    obtain ⟨mb, b1, b2⟩ := I1.mod.blt
    have gl := I1.mod.glob.keeps I1.bk
    have bl := b1.keeps I1.bk
    obtain ⟨hp, g, dr, tk, os⟩ := s1
    refine wpAny_call (PySem.ErrX.err_made T hfl I1.kIn gl bl (b2 _ (by decide)) hlim (by have := hr.dp; omega) fun h' tk' e d M => ?_)
    show MkP X pins σ Q (.ref e) ⟨h', g, dr, tk', os⟩
    obtain ⟨oe, fv, hoe, hc, hd', hdat, h1⟩ := M.obj
    have hns := M.ns
    obtain ⟨G', g1, g2⟩ := restrict h' fun b => decide (b ≠ e)
    have gk : ∀ b, b ≠ e → G'.get? b = h'.get? b := fun b hb => g1 b (decide_eq_true hb)
    have ge : G'.get? e = none := g2 e (by simp)
    have old : ∀ b o, hp.get? b = some o → G'.get? b = some o := fun b o q => (gk b (Nat.ne_of_lt (Nat.lt_of_lt_of_le (Heap.lt_size q) M.new))).trans (M.keep b o q)
    have ob : ObjOk X.prog X.w (upd H1 d (.xd [(fl, v)])) G' d (.xd [(fl, v)]) := ⟨_, hns.at (fun o q => (gk d M.dne).trans q), fun f => relO_err rv f⟩
    have J : Inv X pins σ (upd H1 d (.xd [(fl, v)])) ⟨G', g, dr, tk', os⟩ := I1.laid (t' := tk') old M.dbig ob
    refine ⟨e, oe, fv, ⟨G', g, dr, tk', os⟩, _, .ref C, some d, rfl, J, fun b o q => ?_, ge, hoe, ⟨hc, hd'⟩, hdat, h1, ?_, rfl, I1.bare, raises_own T.exC T.tyC, q1 d (I1.hok.fresh M.dbig)⟩
    · by_cases hb : b = e
      · have q' : G'.get? b = some o := q
        rw [hb, ge] at q'
        cases q'
      · exact (gk b hb).symm.trans q
    · rw [upd_ne (Ne.symm M.dne)]
      exact I1.hok.fresh M.new
/-- raise C(e) -/
def tRaiseErr (fl : Str) (C : Addr) (W : WX) (ta : TA) : TS := fun _ σ H => tMkErr fl C ta σ H fun cls d H' => W cls d σ H'
theorem ps_raiseErr {a : Expr} {ta : TA} {W : WX} {p pos pos2 : Pos} {k : Nat} (hc : X.calm = true) (T : PySem.ErrX.ErrTxt X.prog X.K X.mg nm fl msg C fI) (hfl : fl = "index" ∨ fl = "number" ∨ fl = "part") (hr : Room k X.A) (tk : Takes X W) (ha : PA X [a] ta) (hg : Gl X nm) (hd : (nm == ("__debug__" : Str)) = false)
    (he : starEach (a :: []) X.env = (false, eval a X.env) :: starEach [] X.env := by rfl) (hpl : (backTo pos (starEach [] X.env)).any (·.1) = false := by rfl) :
    PS X (.Raise (some (.Call (.Name nm p) [a] [] pos)) none pos2) (tRaiseErr fl C W ta) := ps_raise hc tk (pmk_err T hfl hr ha hg hd he hpl)
/-- e.field, e the exception that the suite holds (at a; its class cls, its dict d) -/
def tFldErr (fl : Str) (C : Addr) (a : Addr) (cls : Value) (d : Option Addr) (te : TE) : TE := fun σ H Q => te σ H fun x H1 => x = .ref a ∧ cls = .ref C ∧ ∃ (dd : Addr) (v : V), d = some dd ∧ H1 dd = some (.xd [(fl, v)]) ∧ Q v H1
theorem pe_fldErr {a : Addr} {oe : Obj} {cls : Value} {d : Option Addr} {pn : List (Addr × Obj)} {e : Expr} {te : TE} {pos : Pos} (T : PySem.ErrX.ErrTxt X.prog X.K X.mg nm fl msg C fI) (hz : Zc cls d oe) (hf : ∃ vs, oe.data = .fields vs) (he : PE (X.suite a ((a, oe) :: pn)) e te)
    (hb : attributeBase e fl X.env (eval e X.env) = eval e X.env := by rfl) :
    PE (X.suite a ((a, oe) :: pn)) (.Attribute e fl pos) (tFldErr fl C a cls d te) := by
  refine ⟨fun pins s σ H Q I h => ?_⟩
  refine attr_of hb (thn (he.run pins s σ H _ I h) fun u s1 hh => ?_)
  obtain ⟨x, H1, I1, rx, ex, ec, dd, v, ed, ea, q⟩ := hh
  subst ex
  obtain rfl : u = Value.ref a := rx
  subst ec
  subst ed
  obtain ⟨ha, _⟩ := I1.pin (a, oe) (List.mem_append_left _ List.mem_cons_self)
  obtain ⟨vs, hd⟩ := hf
  have hx : ObjOk X.prog X.w H1 s1.heap dd (.xd [(fl, v)]) := I1.hok dd _ ea
  obtain ⟨mA, hns, hr⟩ := hx
  obtain ⟨od, ho, hl⟩ := lookIn_ns hns
  have l : List.lookup fl [(fl, v)] = some v := by simp [List.lookup]
  obtain ⟨u, hu, ru⟩ := RelO.some_of (v := v) (o := mA fl) (by rw [← l]; exact hr fl)
  have J : PySem.W.InstAt s1.heap a oe C (some od) := ⟨ha, hz.1, by unfold PySem.W.notCls; rw [hd] <;> rfl, by rw [hz.2]; exact ho⟩
  exact PySem.HandSPX.exc_get I1.kIn J T.ga T.gg T.exC (PySem.W.findObj_own T.hdC T.noN rfl (by rw [hl, hu])) (handed_of ru) ⟨v, H1, I1.tok _, ru, q⟩
end
end L2

set_option Elab.async false
set_option linter.all false
set_option maxRecDepth 100000
set_option maxHeartbeats 2000000
namespace Y
open PySem L2
/-! calls that may raise, for a try around: what is wanted of an error may speak of the slots -/
section
variable {X : Cx} {CX : CXT} {k : Nat} {f C : Addr} {fd : FuncData} {ps : List Str} {sp : Sp}
theorem run_fnT {A : Around} {pins : List (Addr × Obj)} {σ : St} {H : Hp} {s : Shared} {Q : VK} {E : XK} {us ds : List Value} {vs dvs : List V} (hf : A.frames = X.A.frames) (F : FnOk X.prog X.w X.K X.mg X.base CX k f fd ps sp) (hr : Room k A) (hb : Binds X.K fd ps ds) (hd : Vals dvs ds) (hx : PassesAt CX X σ E)
    (I : Inv X pins σ H s) (r : Vals vs us) (h : sp (vs ++ dvs) H Q E) : wpAny (model X.prog X.w) A (call (.ref f) us) (EP X pins σ Q) X.xe s := by
  have r2 := r.append hd
  have len : (us ++ ds).length = ps.length := r2.length.symm.trans (F.len _ _ _ _ h)
  have e := I.env0
  have e0 : Env0 X.prog X.w X.K X.mg X.base A X.stack s H := ⟨hf.trans e.frames, e.mod, e.bs, e.bsz, e.funs, e.frf, e.hok, e.bare⟩
  refine wpAny_call (codeAny_mono (F.run A X.stack s H ⟨us, []⟩ _ _ Q E hr e0 (hb s us I.kIn len) r2 h) fun r t hq => ?_)
  rcases r with x | fl
  · exact hx pins H s x t I hq
  · cases fl <;> first | exact I.after hq | exact hq.elim
def tOpS (r : St → R2) (ta tb : TE) : TE := fun σ H Q => ta σ H fun x H1 => tb σ H1 fun y H2 => r σ x y H2 Q
/-- a + b of two instances, their class's own __add__ may raise -/
theorem pe_addOS {E : St → XK} {a b : Expr} {ta tb : TE} {pos : Pos} (hs : PySem.W.findIn X.K (.ref C) "__add__" = some (some (.ref f))) (hf : PySem.W.isFn X.K (.ref f) = true) (hc : PySem.W.selfFirst X.K C = true) (F : FnOk X.prog X.w X.K X.mg X.base CX k f fd ps sp) (hr : Room k X.A) (hb : Binds X.K fd ps [])
    (hx : ∀ σ, PassesAt CX X σ (E σ)) (ha : PE X a ta) (hb2 : PE X b tb) : PE X (.BinOp a .Add b pos) (tOpS (fun σ => rAddO C sp (E σ)) ta tb) := by
  refine ⟨fun pins s σ H Q I h => wpAny_BinOp (binT ha hb2 I (R := fun x y H2 => rAddO C sp (E σ) x y H2 Q) h fun v u s2 x y H2 I2 rx ry q => ?_)⟩
  obtain ⟨a, b, dx, dy, fs, gs, rfl, rfl, e1, e2, q⟩ := q
  obtain rfl : v = Value.ref a := rx
  obtain rfl : u = Value.ref b := ry
  obtain ⟨_, O, _⟩ := ins_get I2.hok e1
  obtain ⟨_, J, _⟩ := O.look
  obtain ⟨_, O', _⟩ := ins_get I2.hok e2
  obtain ⟨_, J', _⟩ := O'.look
  obtain ⟨m, fr⟩ := I2.fr
  refine PySem.W.binop_K (op := .Add) fr I2.ok.mod.kin J J'.type hc hs hf (thn (run_fnT (A := X.A) (vs := [.ref a, .ref b]) (dvs := []) (ds := []) rfl F hr hb .nil (hx σ) I2 (.cons rfl (.cons rfl .nil)) q) fun w s1 hw => ?_)
  obtain ⟨z, H1, I1, rz, q1⟩ := hw
  have nn : w ≠ .notImplemented := fun e => by
    subst e
    cases z <;> first
      | exact nomatch (show Value.notImplemented = _ from rz)
      | (obtain ⟨t, e⟩ := rz; cases e)
  cases w <;> first
    | exact absurd rfl nn
    | exact ⟨z, H1, I1, rz, q1⟩
/-- o[i], the class's own __getitem__ may raise -/
theorem pe_ixOS {E : St → XK} {a b : Expr} {ta tb : TE} {pos : Pos} (hs : PySem.W.findIn X.K (.ref C) "__getitem__" = some (some (.ref f))) (hf : PySem.W.isFn X.K (.ref f) = true) (hn : PySem.W.fnIn X.K f = true) (F : FnOk X.prog X.w X.K X.mg X.base CX k f fd ps sp) (hr : Room (k + 1) X.A) (hb : Binds X.K fd ps [])
    (hx : ∀ σ, PassesAt CX X σ (E σ)) (ha : PE X a ta) (hi : PE X b tb) (hsl : ∀ o i, subscripted b true o i = runValue (.builtin "lifetime.subscript" ⟨[o, i], []⟩) := by intro _ _; with_unfolding_all rfl) :
    PE X (.Subscript a b pos) (tOpS (fun σ => rIxO C sp (E σ)) ta tb) := by
  refine ⟨fun pins s σ H Q I h => PyProof.Rows.Subscript_ (binT ha hi I (R := fun x y H2 => rIxO C sp (E σ) x y H2 Q) h fun v u s2 x y H2 I2 rx ry q => ?_)⟩
  obtain ⟨o, dx, fs, rfl, ho, q⟩ := q
  obtain rfl : v = Value.ref o := rx
  obtain ⟨_, O, _⟩ := ins_get I2.hok ho
  obtain ⟨_, J, _⟩ := O.look
  obtain ⟨_, fr⟩ := I2.fr
  exact PySem.W.sub_K fr I2.ok.mod.kin J hs hn hf (run_fnT (A := X.A.in1) (vs := [.ref o, y]) (dvs := []) (ds := []) rfl F hr.in1 hb .nil (hx σ) I2 (.cons rfl (.cons ry .nil)) q) (hsl _ _)
/-- o.m(..), which may raise -/
def tMethS (C : Addr) (m : Str) (sp : Sp) (E : St → XK) (ta : TE) (t : TA) : TE := fun σ H Q => ta σ H fun x H1 => ∃ a dx fs, x = .ref a ∧ H1 a = some (.ins C dx fs) ∧ fs.lookup m = none ∧ t σ H1 fun vs H2 => sp (x :: vs) H2 Q (E σ)
theorem pe_methS {m : Str} {E : St → XK} {o e : Expr} {es : List Expr} {ta : TE} {t : TA} {apos pos : Pos} {pl : Sem Bool} (ho : PE X o ta) (c : Cls X.K C) (hm : Meth X.K C m f) (F : FnOk X.prog X.w X.K X.mg X.base CX k f fd ps sp) (hr : Room k X.A) (hb : Binds X.K fd ps []) (hx : ∀ σ, PassesAt CX X σ (E σ)) (ha : PA X (e :: es) t)
    (hst : starEach (e :: es) X.env = (false, eval e X.env) :: starEach es X.env := by rfl) (hpl : (backTo pos (starEach es X.env)).any (·.1) = false := by rfl)
    (ht : eval (.Call (.Attribute o m apos) (e :: es) [] pos) X.env = (do
      let ov ← eval o X.env
      standAt apos.atName
      let (g, first) ← holding [ov] (getMethod ov m pl)
      callWith pos g first (backTo pos (starEach (e :: es) X.env)) (backToKw pos (keywordEach [] X.env))) := by rfl) :
    PE X (.Call (.Attribute o m apos) (e :: es) [] pos) (tMethS C m sp E ta t) := by
  refine ⟨fun pins s σ H Q I h => PySem.W.methodCall_KW (pl := pl) (thn (ho.run pins s σ H _ I h) fun z s1 hz => ?_) ht⟩
  obtain ⟨x, H1, I1, rx, a, dx, fs, rfl, ea, l, q⟩ := hz
  obtain rfl : z = Value.ref a := rx
  refine getmeth_ok I1 ea c hm l (PySem.W.callWith_K (first := [.ref a]) (h₀ := X.base) I.ok.mod.kin hm.kp (thn (ha.run pos pins s1 σ H1 _ I1 q) fun us s2 hu => ?_) hst hpl)
  obtain ⟨vs, H2, I2, r, q2⟩ := hu
  refine ⟨I2.kIn, run_fnT (us := .ref a :: us) (vs := .ref a :: vs) (dvs := []) (ds := []) rfl F hr hb .nil (hx σ) I2 (.cons rfl r) ?_⟩
  rw [List.append_nil]
  exact q2
/-- C(..), whose own __init__ may raise -/
def tMakeS (C : Addr) (sp : Sp) (E : St → XK) (t : TA) : TE := fun σ H Q => t σ H fun vs H1 => ∀ x dx, H1 x = none → H1 dx = none → dx ≠ x → sp (.ref x :: vs) (upd (upd H1 dx (.own x)) x (.ins C dx [])) (fun v H2 => v = .non ∧ Q (.ref x) H2) (E σ)
theorem run_makeS {pins : List (Addr × Obj)} {σ : St} {H : Hp} {s : Shared} {Q : VK} {E : XK} {us : List Value} {vs : List V} (M : Mk X.K C f) (F : FnOk X.prog X.w X.K X.mg X.base CX k f fd ps sp) (hr : Room (k + 1) X.A) (hb : Binds X.K fd ps [])
    (hx : PassesAt CX X σ E) (I : Inv X pins σ H s) (r : Vals vs us) (h : ∀ x dx, H x = none → H dx = none → dx ≠ x → sp (.ref x :: vs) (upd (upd H dx (.own x)) x (.ins C dx [])) (fun v H2 => v = .non ∧ Q (.ref x) H2) E) :
    wpAny (model X.prog X.w) X.A (call (.ref C) us) (EP X pins σ Q) X.xe s := by
  have q := h (s.heap.objs.size + 1) s.heap.objs.size (I.hok.fresh (Nat.le_succ _)) (I.hok.fresh (Nat.le_refl _)) (Nat.ne_of_lt (Nat.lt_succ_self _))
  have J := Inv.made (C := C) I
  have r2 : Vals (V.ref (s.heap.objs.size + 1) :: vs) (Value.ref (s.heap.objs.size + 1) :: us) := .cons rfl r
  have len : (Value.ref (s.heap.objs.size + 1) :: us ++ []).length = ps.length := by
    rw [List.append_nil]
    exact r2.length.symm.trans (F.len _ _ _ _ q)
  have bd := hb _ (Value.ref (s.heap.objs.size + 1) :: us) J.kIn len
  rw [List.append_nil] at bd
  refine wpAny_call (make_map (f := f) I.kIn M.makes M.init (beq_iff_eq.mp M.fn) (codeAny_mono (F.run _ X.stack _ _ ⟨Value.ref (s.heap.objs.size + 1) :: us, []⟩ _ _ _ E (hr.make C us []) (J.env0.make C us []) bd r2 q) fun r t hq => ?_))
  rcases r with x | fl
  · exact hx pins _ _ x t J hq
  · cases fl with
    | ret u =>
      obtain ⟨v, H', I3, rv, rfl, q3⟩ := J.after hq
      exact ⟨rv, V.ref (s.heap.objs.size + 1), H', I3, rfl, q3⟩
    | next => exact hq.elim
    | brk => exact hq.elim
    | cont => exact hq.elim
theorem pe_makeS {x : Str} {E : St → XK} {e : Expr} {es : List Expr} {t : TA} {p pos : Pos} (M : Mk X.K C f) (F : FnOk X.prog X.w X.K X.mg X.base CX k f fd ps sp) (hr : Room (k + 1) X.A) (hg : Gl X x) (hm : X.mg x = some (.ref C)) (hb : Binds X.K fd ps []) (hx : ∀ σ, PassesAt CX X σ (E σ))
    (ha : PA X (e :: es) t) (hdb : (x == ("__debug__" : Str)) = false := by decide) (he : starEach (e :: es) X.env = (false, eval e X.env) :: starEach es X.env := by rfl) (hpl : (backTo pos (starEach es X.env)).any (·.1) = false := by rfl) :
    PE X (.Call (.Name x p) (e :: es) [] pos) (tMakeS C sp E t) :=
  ⟨fun pins s σ H Q I h => wpAny_Call_Name_kw (ld_glob I hg hm (PySem.W.callWith_K (h₀ := X.base) I.ok.mod.kin M.kp (thn (ha.run pos pins s σ H _ I h) fun us s1 hu => by
    obtain ⟨vs, H1, I1, r, q⟩ := hu
    exact ⟨I1.kIn, run_makeS M F hr hb (hx σ) I1 r q⟩) he hpl) hdb)⟩
end
end Y
namespace Y
open PySem L2
/-- a call of what may raise, where it does not -/
theorem passX0 {X : Cx} : Passes (L2.CX X.prog X.w) X (fun _ _ _ => False) := passes_call (W := fun _ _ _ _ => False) takes0 fun _ _ _ _ z => z
end Y

set_option Elab.async false
set_option linter.all false
set_option maxRecDepth 100000
set_option maxHeartbeats 2000000
namespace PySem
namespace ErrX
open PySem.W PySem.Calls PyProof.Rows PySem.Spec
section
variable {prog : Program} {w : World} {A : Around} {E : Value → Shared → Prop} {s : Shared} {K : Frag} {x D : Addr} {ox : Obj} {od : Option Obj}
theorem find_data {name : Str} {a g : Value} (hc : (clsIn K D).isSome = true) (ha : findIn K (.ref D) name = some (some a)) (hg : specialIn K a "__get__" = some (some g)) (ht : takesIn K a = some true) : findObj K D od name = some (.bind g a) := by
  obtain ⟨cd, e⟩ := Option.isSome_iff_exists.mp hc
  unfold findObj
  rw [e, Option.bind_some, ha, Option.bind_some]
  cases od <;> simp [hg, ht]
/-- e.__class__ of an own error, whatever its dict holds -/
theorem cls_asked {Q : Option Value → Shared → Prop} (Y : L2.ExcC K D) (X : K.In s.heap) (J : InstAt s.heap x ox D od) (h : Q (some (.ref D)) { s with toks := s.toks + 1 }) : wpAny (model prog w) A (getAttr? (.ref x) "__class__") Q E s := by
  have found : findObj K D od "__class__" = some (.bind (.builtin "getset_descriptor.__get__") (.builtin "object.__class__")) :=
    find_data (by obtain ⟨c, e, _⟩ := any_some Y.hd; rw [e]; rfl) Y.ha Y.hn Y.ht
  rcases s with ⟨hh, gg, dd, tt, oo⟩
  have a0 := J.type (M := model prog w)
  have a1 := looks_findIn (M := model prog w) X Y.hg
  have a2 := looks_findIn (M := model prog w) X Y.hk
  have a3 := looks_find (M := model prog w) X J found
  have base : Looks (model prog w) hh (isInstance (.ref x) (.type "BaseException")) true := a0.andThen (looks_subIn X Y.hs)
  have other : (Value.builtin "BaseException.__getattribute__" == Value.builtin "object.__getattribute__") = false := by decide +kernel
  unfold getAttr? getAttrBy? getAttrBy
  refine wpAny_bind (wpAny_mkText (wpAny_bind (wpAny_attempt (wpAny_holding (wpAny_bind (a0.at (wpAny_bind (a1.at ?_))))))))
  simp only [other, Bool.and_false, Bool.false_eq_true, if_false]
  unfold getAttrByItsOwn hookBefore
  refine wpAny_bind ?_
  simp only [show onTheHeap (Value.ref D) = true from rfl, if_true]
  refine a2.at (wpAny_bind (wpAny_attempt (wpAny_holding ?_)))
  unfold callGetattribute
  simp only [Bool.false_and, Bool.false_eq_true, if_false]
  unfold boundAndCalled
  rw [PySem.F.excAttr_ValueError.ga.bind (.ref x)]
  refine wpAny_bind (wpAny_pure (wpAny_call (codeAny_call_builtin PySem.F.excAttr_ValueError.ga.plain PySem.F.entry_bexc_ga
    (@check_slot (model prog w) _ _ ⟨hh, gg, dd, tt + 1, oo⟩ "BaseException.__getattribute__" "BaseException" "__getattribute__" (.ref x) [.str "__class__" tt] [] _ (by decide +kernel) (by decide +kernel) base (PySem.F.args_bexc_ga (.ref x) (.str "__class__" tt)) ?_))))
  unfold Builtin.«object.__getattribute__»
  refine wpAny_bind (wpAny_of_eq (a := ((Value.ref x : Value), [Value.str "__class__" tt])) (by first | rfl | (simp only [slotArgs]; rfl)) (wpAny_bind (wpAny_pure (wpAny_bind (a0.at (wpAny_bind (a3.at ?_)))))))
  show wpAny _ _ (holding [_] (call (.builtin "getset_descriptor.__get__") [.builtin "object.__class__", .ref x, .ref D]) >>= ret) _ _ _
  refine wpAny_bind (wpAny_holding (wpAny_call (class_get (s := ⟨hh, gg, dd, tt + 1, oo⟩) (ox := ox) (od := od) X J Y.hm (wpAny_pure ?_))))
  show wpAny _ _ (handedOut (.ref D)) _ _ _
  rw [handedOut_of (v := .ref D) rfl]
  first
    | exact wpAny_pure h
    | exact wpAny_pure (wpAny_pure h)
    | exact wpAny_pure (wpAny_bind (wpAny_pure (wpAny_pure h)))
theorem cls_at {h : Heap} {cd : ClassData} (X : K.In h) (e : clsIn K D = some cd) : ∃ o, h.get? D = some o ∧ o.data = .cls cd := by
  unfold clsIn at e
  split at e
  · rename_i z
    cases e
    exact ⟨_, X _ _ z, rfl⟩
  · cases e
theorem kitx_err (Y : L2.ExcC K D) : KitX K (.ref x) (.ref D) (fun h => InstAt h x ox D od) where
  ty := fun _ _ _ J => J.type
  it := fun _ h X _ A Q E t k q => by
    obtain ⟨c, e, _⟩ := any_some Y.hd
    obtain ⟨o, e1, e2⟩ := cls_at X e
    obtain ⟨hp, g, d, t, os⟩ := t
    exact ks_wpAny_isType_cls (k _ _ e1) e2 q
  ne := (PySem.W.handS_kitx_exc (x := x) (ox := ox) Y.hg Y.hk Y.hs Y.hd Y.ha Y.hn Y.ht Y.hm).ne
  ca := fun X J k => cls_asked Y X J k
end
end ErrX
end PySem

namespace L2
open PySem PySem.Spec PyProof.Rows
/-- isinstance(e, c), e the exception that the suite holds at a, whatever its own dict holds -/
def rIsErr (K : PySem.W.Frag) (D a : Addr) (cls : Value) (d : Option Addr) : List V → Hp → VK → Prop := fun xs H Q => ∃ (c : V) (cv : Value) (b : Bool) (dd : Addr) (fs : List (Str × V)), d = some dd ∧ H dd = some (.xd fs) ∧ cls = .ref D ∧ xs = [.ref a, c] ∧ (∀ u, RelV c u → u = cv) ∧ PySem.W.kitOne K (.ref D) cv = some b ∧ Q (.bl b) H
theorem call_isErr {X : Cx} {a D : Addr} {cls : Value} {d : Option Addr} {oe : Obj} {pn : List (Addr × Obj)} (Y : ExcC X.K D) (hz : Zc cls d oe) (hf : ∃ vs, oe.data = .fields vs) :
    CallR (X.suite a ((a, oe) :: pn)) (.builtin "isinstance") (rIsErr X.K D a cls d) := by
  intro pins s σ H xs us Q I r h
  obtain ⟨c, cv, b, dd, fs, rfl, hd, rfl, rfl, hcv, e, q⟩ := h
  obtain ⟨u, v, rfl, rx, rt⟩ := vals2 r
  obtain rfl : u = Value.ref a := rx
  obtain rfl := hcv _ rt
  obtain ⟨ha, _⟩ := I.pin (a, oe) (List.mem_append_left _ List.mem_cons_self)
  obtain ⟨vs, hv⟩ := hf
  have ob : ObjOk X.prog X.w H s.heap dd (.xd fs) := I.hok dd _ hd
  obtain ⟨mA, hns, hr⟩ := ob
  obtain ⟨od, ho, hl⟩ := lookIn_ns hns
  have J : PySem.W.InstAt s.heap a oe D (some od) := ⟨ha, hz.1, by unfold PySem.W.notCls; rw [hv], by rw [hz.2]; exact ho⟩
  exact PySem.W.kia_one (PySem.ErrX.kitx_err Y) I.kIn J e (fun z => nomatch z) fun tk => ⟨.bl b, H, I.kept (t' := tk) fun _ _ z => z, rfl, q⟩
end L2

set_option Elab.async false
set_option linter.all false
set_option maxRecDepth 100000
set_option maxHeartbeats 2000000
namespace Y
open PySem L2
section
variable {X : Cx} {CX : CXT} {k : Nat} {f C : Addr} {fd : FuncData} {ps : List Str} {sp : Sp} {E : XK}
/-- a == b of two instances, by their class's own __eq__ -/
def rEqO (C : Addr) (sp : Sp) (E : XK) : R2 := fun x y H Q => ∃ a b dx dy fs gs, x = .ref a ∧ y = .ref b ∧ H a = some (.ins C dx fs) ∧ H b = some (.ins C dy gs) ∧ sp [.ref a, .ref b] H (fun v H' => ∃ t, v = .bl t ∧ Q v H') E
theorem op_eqO (hs : PySem.W.findIn X.K (.ref C) "__eq__" = some (some (.ref f))) (hf : PySem.W.isFn X.K (.ref f) = true) (F : FnOk X.prog X.w X.K X.mg X.base CX k f fd ps sp) (hr : Room k X.A) (hb : Binds X.K fd ps []) (hx : Passes CX X E) :
    OpR X (compareOp .Eq) (rEqO C sp E) := by
  intro pins s σ H x y v u Q I rx ry h
  obtain ⟨a, b, dx, dy, fs, gs, rfl, rfl, ha, hb', q⟩ := h
  obtain rfl : v = Value.ref a := rx
  obtain rfl : u = Value.ref b := ry
  obtain ⟨_, O, _⟩ := ins_get I.hok ha
  obtain ⟨_, J, _⟩ := O.look
  obtain ⟨_, O', _⟩ := ins_get I.hok hb'
  obtain ⟨_, J', _⟩ := O'.look
  obtain ⟨m, fr⟩ := I.fr
  show wpAny (model X.prog X.w) X.A (richCompare .Eq (.ref a) (.ref b)) _ _ _
  refine PySem.W.cmp_K (op := .Eq) (tb := .ref C) hr.units0 fr I.ok.mod.kin J J'.type (by simp [PySem.W.notFirst]) hs hf (thn (run_fnA (A := X.A) (vs := [.ref a, .ref b]) rfl F hr hb hx I (.cons rfl (.cons rfl .nil)) q) fun w s1 hw => ?_)
  obtain ⟨z, H1, I1, rz, t, rfl, q1⟩ := hw
  obtain rfl : w = Value.bool t := rz
  exact ⟨.bl t, H1, I1, rfl, q1⟩
end
end Y

set_option Elab.async false
set_option linter.all false
set_option maxRecDepth 100000
namespace Y
open PySem L2
/-! ### what the laws of right scripts want beside -/
/-- nothing but the object at a is otherwise -/
def But (a : Addr) (H H' : Hp) : Prop := ∀ b o, H b = some o → b ≠ a → H' b = some o
theorem But.refl (a : Addr) (H : Hp) : But a H H := fun _ _ e _ => e
theorem But.trans {a : Addr} {H H1 H2 : Hp} (h : But a H H1) (k : But a H1 H2) : But a H H2 := fun b o e n => k b o (h b o e n) n
theorem But.of {a : Addr} {H H' : Hp} (h : Same H H') : But a H H' := fun b o e _ => h b o e
theorem But.at_ {a b : Addr} {H H' : Hp} {o : HO} (h : But a H H') (e : H b = some o) (n : b ≠ a) : H' b = some o := h b o e n
theorem But.free {a b : Addr} {H H' : Hp} (h : But a H H') (n : H' b = none) (na : b ≠ a) : H b = none := by
  cases e : H b with
  | none => rfl
  | some o =>
    rw [h b o e na] at n
    cases n
theorem Same.none_of {H H' : Hp} (e : Same H H') {p : Addr} (h : H' p = none) : H p = none := by
  cases q : H p with
  | none => rfl
  | some o =>
    rw [e _ _ q] at h
    cases h
theorem Same.new {H : Hp} {p : Addr} {o : HO} (n : H p = none) : Same H (upd H p o) := fun _ _ e => lk_new e n
/-- a new object, changed -/
theorem Same.upd_new {H H' : Hp} {p : Addr} {o : HO} (s : Same H H') (n : H p = none) : Same H (upd H' p o) := fun b u e => lk_ne (s b u e) (ne_of_none e n)
theorem But.upd_new {a : Addr} {H H' : Hp} {p : Addr} {o : HO} (s : But a H H') (n : H p = none) : But a H (upd H' p o) := fun b u e na => lk_ne (s b u e na) (ne_of_none e n)
theorem dp_kt {K : PySem.W.Frag} {H : Hp} {a : Addr} {xs : List V} {its : List Value} {ds : List PyData} {d : Option Addr} {n : Nat} {sl : Array (Option Value)} (h : K.lookup a = some ⟨.type "tuple", d, .seq its.toArray n, sl⟩) (hl : its.length ≤ 1000)
    (hv : Vals xs its) (hd : DpAll K H xs ds) : Dp K H (.ref a) (.tuple ds) :=
  .tup (.inr ⟨_, _, n, h, rfl, rfl, by rw [List.size_toArray]; exact Nat.le_trans hl (by decide), by simpa using hv⟩) hd
theorem Dp.tupS {K : PySem.W.Frag} {H : Hp} {v : V} {ds : List PyData} (h : Dp K H v (.tuple ds)) : ∃ a xs, v = .ref a ∧ SqT K H a xs ∧ DpAll K H xs ds := by
  cases h with
  | tup h1 h2 => exact ⟨_, _, rfl, h1, h2⟩
theorem DpAll.length {K : PySem.W.Frag} {H : Hp} : ∀ {xs : List V} {ds : List PyData}, DpAll K H xs ds → xs.length = ds.length
  | _, _, .nil => rfl
  | _, _, .cons _ t => congrArg Nat.succ (DpAll.length t)
section
variable {X : Cx} (K : PySem.W.Frag)
theorem cr_maxk (hc : X.calm = true) (h : X.K = K := by rfl) : CallR X (.builtin "max") (rMax K) := by subst h; exact cr_max hc
theorem cr_mink (hc : X.calm = true) (h : X.K = K := by rfl) : CallR X (.builtin "min") (rMin K) := by subst h; exact cr_min hc
/-- l.count(y), data -/
def rCntD (K : PySem.W.Frag) : V → List V → Hp → VK → Prop := fun x vs H Q => ∃ p ds d y, x = .ref p ∧ vs = [y] ∧ Dp K H (.ref p) (.list ds) ∧ Dp K H y d ∧ SeqAt.shaped (.list ds) = true ∧ SeqAt.shaped d = true ∧ Q (.int ((ds.countP fun z => PyData.eqv z d : Nat) : Int)) H
theorem mt_cntDk (hu : X.A.units + 65 < cLine) (h : X.K = K := by rfl) : MtR X "list.count" (rCntD K) := by
  subst h
  intro pins s σ H x xs v us Q I rx rxs h
  obtain ⟨p, ds, d, y, rfl, rfl, h1, h2, s1, s2, q⟩ := h
  cases rx
  obtain ⟨u, rfl, ru⟩ := rxs.one
  cases h1 with
  | lst hs ha =>
    obtain ⟨its, rv, ⟨o, n, ho, hc, hdn, hd⟩, hlen⟩ := I.list hs
    obtain ⟨as, r1⟩ := Dp.readsAll I ds _ its ha rv
    obtain ⟨bs, r2⟩ := Dp.reads I d y u h2 ru
    have c1 := SeqAt.canLay_of_shaped s1
    have c2 := SeqAt.canLay_of_shaped s2
    have c1' : PyData.canLayAll0 ds = true := by simpa [PyData.canLay0] using c1
    have dd := SeqAt.depth_of_shaped s2
    refine SeqAt.count_list_data (xs := ds) (d := d) (vs := its.toArray) ⟨o, ho, hc, n, hd⟩ (by simpa using r1) r2 (PyData.plainAll_of_canLay0 _ c1') (PyData.plain_of_canLay0 _ c2) ?_ ⟨.int _, H, I.tok _, ⟨_, rfl⟩, q⟩
    have := Nat.min_le_right (PyData.depthAll ds) d.depth
    omega
end
def rInsert : V → List V → Hp → VK → Prop := fun x vs H Q => ∃ (l : Addr) (xs : List V) (i : Int) (y : V), x = .ref l ∧ vs = [.int i, y] ∧ H l = some (.lst xs) ∧ xs.length < sizeLine ∧ 0 ≤ i ∧ i < 2 ^ 63 ∧ Q .non (upd H l (.lst (xs.take i.toNat ++ [y] ++ xs.drop i.toNat)))
theorem mt_insertk {X : Cx} : MtR X "list.insert" rInsert := mt_insert
section
variable {K : PySem.W.Frag} {σ : St} {H : Hp} {Q : VK} {a b p : Addr} {xs ys : List V} {x y v : V} {i : Int} {lo hi : Option Int} {Qs : St → Hp → Prop} {t : TG} {tg : TGs} {n : Nat} {nx : St → Hp → Prop}
theorem k_insert (h : H a = some (.lst xs)) (hl : xs.length < 100000) (h0 : 0 ≤ i) (h1 : i < 2 ^ 62) (q : Q .non (upd H a (.lst (xs.take i.toNat ++ [y] ++ xs.drop i.toNat)))) : fBM2 rInsert (.ref a) Q [.int i, y] H :=
  ⟨a, xs, i, y, rfl, rfl, h, Nat.lt_of_lt_of_le hl (by decide), h0, by omega, q⟩
theorem k_count {ds : List PyData} {d : PyData} (h1 : Dp K H (.ref a) (.list ds)) (h2 : Dp K H y d) (s1 : SeqAt.shaped (.list ds) = true) (s2 : SeqAt.shaped d = true) (q : Q (.int ((ds.countP fun z => PyData.eqv z d : Nat) : Int)) H) : fBM2 (rCntD K) (.ref a) Q [y] H :=
  ⟨a, ds, d, y, rfl, rfl, h1, h2, s1, s2, q⟩
theorem k_max1 {ns : List Int} (h : SqL K H a (ns.map V.int)) (hl : 0 < ns.length) (q : ∀ m, m ∈ ns → (∀ y, y ∈ ns → y ≤ m) → Q (.int m) H) : fCB (rMax K) Q [.ref a] H := ⟨a, ns, rfl, h, hl, q⟩
theorem k_min1 {ns : List Int} (h : SqL K H a (ns.map V.int)) (hl : 0 < ns.length) (q : ∀ m, m ∈ ns → (∀ y, y ∈ ns → m ≤ y) → Q (.int m) H) : fCB (rMin K) Q [.ref a] H := ⟨a, ns, rfl, h, hl, q⟩
theorem k_slL (h : SqL K H a xs) (q : ∀ p, H p = none → Q (.ref p) (upd H p (.lst (cutV xs lo hi)))) : rSlU K (.ref a) lo hi H Q := .inr ⟨a, xs, rfl, h, q⟩
theorem cutV_all (h : HT.sIx xs.length 0 lo = 0 ∧ HT.sIx xs.length xs.length hi = xs.length) : cutV xs lo hi = xs := by
  unfold cutV
  rw [h.1, h.2]
  simp
theorem k_slT (h : SqT K H a xs) (q : ∀ (p : Addr) (H' : Hp), Same H H' → SqT K H' p (cutV xs lo hi) → Q (.ref p) H') : rSlU K (.ref a) lo hi H Q :=
  .inl ⟨a, xs, rfl, h, fun e => q a H (Same.refl H) (by rw [cutV_all e]; exact h), fun _ p n => q p _ (fun c o e => lk_new e n) (SqT.of upd_same)⟩
theorem k_catL (h1 : H a = some (.lst xs)) (h2 : H b = some (.lst ys)) (hl : xs.length + ys.length ≤ 100000) (q : ∀ p, H p = none → Q (.ref p) (upd H p (.lst (xs ++ ys)))) : fOp2 (rAddU K) (.ref a) Q (.ref b) H :=
  .inr ⟨a, b, xs, ys, rfl, rfl, h1, h2, Nat.le_trans hl (by decide), q⟩
theorem k_unp (h : SqT K H p xs) (hn : xs.length = n) (q : tg xs σ H Qs) : gTup K n tg (.ref p) σ H Qs := ⟨p, xs, rfl, h, hn, q⟩
theorem e_gcons : gCons t tg (x :: xs) σ H Qs = t x σ H (fun σ1 H1 => tg xs σ1 H1 Qs) := propext ⟨fun ⟨v, r, e, q⟩ => by cases e; exact q, fun q => ⟨x, xs, rfl, q⟩⟩
theorem e_gnil : gNil [] σ H Qs = Qs σ H := propext ⟨fun q => q.2, fun q => ⟨rfl, q⟩⟩
theorem e_asgT : fAsg (gTup K n tg) σ nx v H = gTup K n tg v σ H nx := rfl
theorem e_callD {sp : Sp} {d : V} {ds : List V} {E : XK} {vs : List V} : fCall sp (d :: ds) E Q vs H = sp (vs ++ (d :: ds)) H Q E := rfl
end
/-- a cut of any list -/
def cutG {α : Type} (xs : List α) (lo hi : Option Int) : List α := (xs.drop (HT.sIx xs.length 0 lo)).take (HT.sIx xs.length xs.length hi - HT.sIx xs.length 0 lo)
theorem cutV_eq (xs : List V) (lo hi : Option Int) : cutV xs lo hi = cutG xs lo hi := rfl
theorem cutG_to {α : Type} (xs : List α) (k : Nat) : cutG xs none (some (k : Int)) = xs.take k := by
  unfold cutG
  rw [HT.sIx_none, HT.sIx_nat, List.drop_zero, Nat.sub_zero]
  by_cases h : k ≤ xs.length
  · rw [Nat.min_eq_left h]
  · rw [Nat.min_eq_right (by omega), List.take_of_length_le (Nat.le_refl _), List.take_of_length_le (by omega)]
theorem cutG_from {α : Type} (xs : List α) (k : Nat) : cutG xs (some (k : Int)) none = xs.drop k := by
  unfold cutG
  rw [HT.sIx_none, HT.sIx_nat]
  by_cases h : k ≤ xs.length
  · rw [Nat.min_eq_left h, List.take_of_length_le (by rw [List.length_drop]; omega)]
  · rw [Nat.min_eq_right (by omega), Nat.sub_self, List.take_zero, List.drop_of_length_le (by omega)]
theorem cutG_mem {α : Type} {xs : List α} {lo hi : Option Int} {x : α} (h : x ∈ cutG xs lo hi) : x ∈ xs := List.mem_of_mem_drop (List.mem_of_mem_take h)
theorem Paired.take {α β : Type} {F : α → β → Prop} : ∀ {xs : List α} {ys : List β} (n : Nat), Paired F xs ys → Paired F (xs.take n) (ys.take n)
  | _, _, 0, _ => by simpa using Paired.nil
  | _, _, n + 1, .nil => by simpa using Paired.nil
  | _, _, n + 1, .cons h t => by simpa using Paired.cons h (Paired.take n t)
theorem Paired.drop {α β : Type} {F : α → β → Prop} : ∀ {xs : List α} {ys : List β} (n : Nat), Paired F xs ys → Paired F (xs.drop n) (ys.drop n)
  | _, _, 0, h => by simpa using h
  | _, _, n + 1, .nil => by simpa using Paired.nil
  | _, _, n + 1, .cons h t => by simpa using Paired.drop n t
theorem Paired.cut {α β : Type} {F : α → β → Prop} {xs : List α} {ys : List β} {lo hi : Option Int} (h : Paired F xs ys) : Paired F (cutG xs lo hi) (cutG ys lo hi) := by
  have e := Paired.length h
  unfold cutG
  rw [e]
  exact Paired.take _ (Paired.drop _ h)
/-! ### errors -/
def fMkErr (fl : Str) (C : Addr) (Q : XK) : VL := fun vs H1 => ∃ v, vs = [v] ∧ ∀ d, H1 d = none → Q (.ref C) (some d) (upd H1 d (.xd [(fl, v)]))
theorem e_raise {fl : Str} {C : Addr} {W : WX} {ta : TA} {D : Ends} {σ : St} {H : Hp} : tRaiseErr fl C W ta D σ H = ta σ H (fMkErr fl C fun c d H' => W c d σ H') := rfl
theorem e_mkErr {fl : Str} {C : Addr} {Q : XK} {v : V} {H : Hp} : fMkErr fl C Q [v] H = ∀ d, H d = none → Q (.ref C) (some d) (upd H d (.xd [(fl, v)])) :=
  propext ⟨fun ⟨w, e, q⟩ => by cases e; exact q, fun q => ⟨v, rfl, q⟩⟩
theorem k_isErr {K : PySem.W.Frag} {D a dd : Addr} {fs : List (Str × V)} {c : V} {cv : Value} {b : Bool} {H : Hp} {Q : VK} (h : H dd = some (.xd fs)) (hcv : ∀ u, RelV c u → u = cv) (hk : PySem.W.kitOne K (.ref D) cv = some b) (q : Q (.bl b) H) : fCB (rIsErr K D a (.ref D) (some dd)) Q [.ref a, c] H :=
  ⟨c, cv, b, dd, fs, rfl, h, rfl, rfl, hcv, hk, q⟩
theorem b_ValueError : bootBuiltins "ValueError" = some (.type "ValueError") := by decide +kernel
theorem e_asg1 {g : TG} {σ : St} {nx : St → Hp → Prop} {v : V} {H : Hp} : fAsg g σ nx v H = g v σ H nx := rfl
theorem e_opS {r : St → R2} {ta tb : TE} {σ : St} {H : Hp} {Q : VK} : tOpS r ta tb σ H Q = tOp (r σ) ta tb σ H Q := rfl
def fFldErr (fl : Str) (C a : Addr) (cls : Value) (d : Option Addr) (Q : VK) : VK := fun x H1 => x = .ref a ∧ cls = .ref C ∧ ∃ (dd : Addr) (v : V), d = some dd ∧ H1 dd = some (.xd [(fl, v)]) ∧ Q v H1
theorem e_fldErr {fl : Str} {C a : Addr} {cls : Value} {d : Option Addr} {te : TE} {σ : St} {H : Hp} {Q : VK} : tFldErr fl C a cls d te σ H Q = te σ H (fFldErr fl C a cls d Q) := rfl
theorem k_fldErr {fl : Str} {C a dd : Addr} {v : V} {H : Hp} {Q : VK} (h : H dd = some (.xd [(fl, v)])) (q : Q v H) : fFldErr fl C a (.ref C) (some dd) Q (.ref a) H := ⟨rfl, rfl, dd, v, rfl, h, q⟩
theorem k_we {K : PySem.W.Frag} {c cls : Value} {i : Nat} {ts : Addr → Value → Option Addr → TS} {Wout : WX} {D : Ends} {σ : St} {d : Option Addr} {H : Hp} (h : PySem.W.exmOne K cls c = some true)
    (q : ∀ a, H a = none → ts a cls d { nx := fun σ' H' => D.nx (σ'.set i none) H', rt := D.rt, bk := fun σ' H' => D.bk (σ'.set i none) H', ct := fun σ' H' => D.ct (σ'.set i none) H' } (σ.set i (some (.ref a))) H) : WE (wAs K c i ts Wout D) σ cls d H :=
  ⟨true, h, fun _ => q, fun z => nomatch z⟩
theorem k_catT {K : PySem.W.Frag} {H : Hp} {a b : Addr} {xs ys : List V} {Q : VK} (h1 : SqT K H a xs) (h2 : SqT K H b ys) (hl : xs.length + ys.length ≤ 100000) (q : ∀ (r : Addr) (H' : Hp), Same H H' → SqT K H' r (xs ++ ys) → Q (.ref r) H') : fOp2 (rAddU K) (.ref a) Q (.ref b) H := by
  refine .inl ⟨a, b, xs, ys, rfl, rfl, h1, h2, Nat.le_trans hl (by decide), fun e => ?_, fun _ e => ?_, fun _ _ p n => ?_⟩
  · subst e
    exact q b H (Same.refl H) h2
  · subst e
    rw [List.append_nil] at q
    exact q a H (Same.refl H) h1
  · exact q p _ (fun c o e => lk_new e n) (SqT.of upd_same)
/-- a def with defaults, from which nothing is raised -/
theorem FunD_ok {P : Program} {w : World} {K : PySem.W.Frag} {mg : Str → Option Value} {base : Heap} {x qual : Str} {params : Arguments} {body : List Stmt} {scope : Scope} {dvs : List V} {kws : List (Str × V)} {f : Addr} {fd : FuncData} {N ps : List Str} {k : Nat} {sp : Sp}
    (F : FunD K x qual params body scope dvs kws f fd) (S : FnScope N ps scope) (len : ∀ vs H Q E, sp vs H Q E → vs.length = ps.length)
    (hbody : ∀ (cdv : Value) (A : Around) (outer : List Env) (s : Shared) (H : Hp) (vs : List V) (Q : VK) (E : XK), Room k (A.deeper (PyProof.Rows.envOfC qual scope s.heap.objs.size f cdv)) → sp vs H Q E →
      ∃ t, PSs (cxOf CX0 P w K mg base N qual scope f cdv A outer s H E).nox body t ∧ t { nx := fun _ H' => Q .non H', rt := Q } (start N vs) H) : FnOk P w K mg base CX0 (k + 1) f fd ps sp :=
  F.ok S len fun cdv A outer s H vs Q E hr h => by
    obtain ⟨t, h1, q⟩ := hbody cdv A outer s H vs Q E hr h
    exact ⟨t, h1.nox, q⟩
/-! ### facts carried from an older heap -/
section
variable {K : PySem.W.Frag} {H H' : Hp} {p a b : Addr} {o u : HO} {xs : List V}
theorem Same.get (s : Same H H') (h : H p = some o) : H' p = some o := s _ _ h
theorem But.get (s : But a H H') (h : H p = some o) (n : p ≠ a) : H' p = some o := s _ _ h n
theorem lk_new2 (n : H p = none) (h : H a = some o) : upd H p u a = some o := lk_new h n
theorem lk_ne2 (n : a ≠ p) (h : H a = some o) : upd H p u a = some o := lk_ne h n
theorem But.get2 (s : But a H H') (n : p ≠ a) (h : H p = some o) : H' p = some o := s _ _ h n
theorem sqL_new2 (n : H p = none) (h : SqL K H a xs) : SqL K (upd H p o) a xs := sqL_new h n
theorem sqT_new2 (n : H p = none) (h : SqT K H a xs) : SqT K (upd H p o) a xs := sqT_new h n
theorem ne_new (n : H p = none) (h : H b = some o) : b ≠ p := ne_of_none h n
theorem ne_new' (n : H p = none) (h : H b = some o) : p ≠ b := (ne_of_none h n).symm
theorem Same.link {H1 : Hp} (k : Same H1 H') (s : Same H H1) : Same H H' := s.trans k
theorem Same.linkN {H1 : Hp} (n : H1 p = none) (s : Same H H1) : Same H (upd H1 p o) := s.trans (Same.new n)
theorem But.link {H1 : Hp} (k : But a H1 H') (s : But a H H1) : But a H H' := But.trans s k
theorem But.linkS {H1 : Hp} (k : Same H1 H') (s : But a H H1) : But a H H' := But.trans s (But.of k)
theorem But.linkN {H1 : Hp} (n : H1 p = none) (s : But a H H1) : But a H (upd H1 p o) := But.trans s (But.of (Same.new n))
theorem But.linkA {H1 : Hp} (s : But a H H1) : But a H (upd H1 a o) := fun b u e n => lk_ne (s b u e n) n
/-- the object at p, which was not there at first, is changed -/
theorem Same.linkU {H1 : Hp} (n : H p = none) (s : Same H H1) : Same H (upd H1 p o) := Same.upd_new s n
theorem But.linkU {H1 : Hp} (n : H p = none) (s : But a H H1) : But a H (upd H1 p o) := But.upd_new s n
theorem sqL_link {H1 : Hp} (k : Same H1 H') (s : SqL K H1 a xs) : SqL K H' a xs := sqL_same k s
theorem sqT_link {H1 : Hp} (k : Same H1 H') (s : SqT K H1 a xs) : SqT K H' a xs := by
  rcases s with (h | ⟨o, h⟩) | h
  · exact .inl (.inl (k _ _ h))
  · exact .inl (.inr ⟨o, k _ _ h⟩)
  · exact .inr h
end
/-! ### [k for k in .. if ..] -/
theorem filter_range_succ (p : Nat → Bool) (n : Nat) : (List.range (n + 1)).filter p = (List.range n).filter p ++ (if p n then [n] else []) := by
  rw [List.range_succ, List.filter_append]
  congr 1
  simp [List.filter]
  split <;> simp_all
theorem k_lcFil {J : It} {n j : Nat} {G : Hp → Prop} {Yd : Nat → Hp → V → Hp → Prop} {tt : TT} {σ : St} {H : Hp} {Q : VK} (w : Walk J n G Yd) (f : Nat → V) (p : Nat → Bool) (hn : n ≤ 10000) (hj : j < σ.length) (hG : ∀ H', Same H H' → G H')
    (hY : ∀ i H1 x H2, i < n → G H1 → Yd i H1 x H2 → H2 = H1 ∧ x = f i) (ht : ∀ i H1 (Qb : Bool → Hp → Prop), i < n → Same H H1 → (∀ H2, Same H1 H2 → Qb (p i) H2) → tt (σ.set j (some (f i))) H1 Qb)
    (q : ∀ l H', H l = none → Same H H' → H' l = some (.lst (((List.range n).filter p).map f)) → Q (.ref l) H') : fLc (gName j) tt (tVar j) [j] σ Q J H := by
  refine k_lc w fun l nl => ⟨fun i H' => Same H H' ∧ H' l = some (.lst (((List.range i).filter p).map f)), ⟨Same.new nl, upd_same⟩, fun i H' _ h => hG H' h.1, ?_, fun H' h => q l H' nl h.1 h.2⟩
  rintro i x H1 H2 hi ⟨s1, h1⟩ y
  obtain ⟨rfl, rfl⟩ := hY i H1 x H2 hi (hG _ s1) y
  have ew : ∀ v : Option V, ((wipe σ [j]).set j v) = σ.set j v := fun v => by
    show (σ.set j none).set j v = _
    rw [List.set_set]
  show (fun σ2 H2 => wipe σ2 [j] = wipe σ [j] ∧ tt σ2 H2 _) ((wipe σ [j]).set j (some (f i))) H2
  rw [ew]
  refine ⟨?_, ht i H2 _ hi s1 fun H3 s3 => ?_⟩
  · show (σ.set j (some (f i))).set j none = σ.set j none
    rw [List.set_set]
  · have h3 := s3 _ _ h1
    have hlen : (((List.range i).filter p).map f).length ≤ i := by
      rw [List.length_map]
      have := List.length_filter_le p (List.range i)
      rwa [List.length_range] at this
    show if p i = true then _ else _
    split
    · rename_i hp
      show tVar j (σ.set j (some (f i))) H3 _
      refine ⟨f i, by rw [List.getElem?_set_self hj], ?_⟩
      refine k_acc h3 (by omega) ⟨Same.upd_new (s1.trans s3) nl, ?_⟩
      rw [upd_same, filter_range_succ, if_pos hp, List.map_append]
      rfl
    · rename_i hp
      refine ⟨s1.trans s3, ?_⟩
      rw [filter_range_succ, if_neg hp, List.append_nil]
      exact h3
/-! ### not in -/
def rNotInT (K : PySem.W.Frag) : R2 := fun x y H Q => ∃ d ds, Dp K H x d ∧ Dp K H y (.tuple ds) ∧ SeqAt.shaped d = true ∧ SeqAt.shaped (.tuple ds) = true ∧ Q (.bl (!ds.any fun z => PyData.eqv z d)) H
theorem op_notInT {X : Cx} (hu : X.A.units + 65 < cLine) : OpR X (compareOp .NotIn) (rNotInT X.K) := by
  intro pins s σ H x y v u Q I rx ry h
  obtain ⟨d, ds, hd, he, sd, se, q⟩ := h
  obtain ⟨as, r1⟩ := Dp.reads I d x v hd rx
  obtain ⟨bs, r2⟩ := Dp.reads I (.tuple ds) y u he ry
  exact SeqAt.notIn_tuple_reads r2 r1 (SeqAt.canLay_of_shaped se) (SeqAt.canLay_of_shaped sd) (PyProof.Rows.room_in_shaped sd hu) ⟨.bl _, H, I, rfl, q⟩
def rNotInU (K : PySem.W.Frag) : R2 := fun x y H Q => rNotInT K x y H Q ∨ rNotInD K x y H Q
theorem op_notInU {X : Cx} (hu : X.A.units + 65 < cLine) : OpR X (compareOp .NotIn) (rNotInU X.K) := by
  intro pins s σ H x y v u Q I rx ry h
  rcases h with h | h
  · exact op_notInT hu pins s σ H _ _ v u Q I rx ry h
  · exact op_notInD hu pins s σ H _ _ v u Q I rx ry h
theorem op_notInUk {X : Cx} (K : PySem.W.Frag) (hu : X.A.units + 65 < cLine) (h : X.K = K := by rfl) : OpR X (compareOp .NotIn) (rNotInU K) := by subst h; exact op_notInU hu
theorem k_ninT {K : PySem.W.Frag} {H : Hp} {Q : VK} {x y : V} {d : PyData} {ds : List PyData} (h1 : Dp K H x d) (h2 : Dp K H y (.tuple ds)) (s1 : SeqAt.shaped d = true) (s2 : SeqAt.shaped (.tuple ds) = true) (q : Q (.bl (!ds.any fun z => PyData.eqv z d)) H) : fOp2 (rNotInU K) x Q y H :=
  .inl ⟨d, ds, h1, h2, s1, s2, q⟩
theorem k_ninL {K : PySem.W.Frag} {H : Hp} {Q : VK} {x y : V} {d : PyData} {ds : List PyData} (h1 : Dp K H x d) (h2 : Dp K H y (.list ds)) (s1 : SeqAt.shaped d = true) (s2 : SeqAt.shaped (.list ds) = true) (q : Q (.bl (!ds.any fun z => PyData.eqv z d)) H) : fOp2 (rNotInU K) x Q y H :=
  .inr ⟨d, ds, h1, h2, s1, s2, q⟩
/-! ### s.join(x) -/
def fM1 (r : V → List V → Hp → VK → Prop) (te : TE) (σ : St) (Q : VK) : VK := fun x H1 => (∃ a, x = .str a) ∧ te σ H1 fun y H2 => r x [y] H2 Q
def fM1b (r : V → List V → Hp → VK → Prop) (x : V) (Q : VK) : VK := fun y H2 => r x [y] H2 Q
theorem e_m1 {r : V → List V → Hp → VK → Prop} {to te : TE} {σ : St} {H : Hp} {Q : VK} : tM1 r to te σ H Q = to σ H (fM1 r te σ Q) := rfl
theorem e_m1a {r : V → List V → Hp → VK → Prop} {te : TE} {σ : St} {H : Hp} {Q : VK} {a : Str} : fM1 r te σ Q (.str a) H = te σ H (fM1b r (.str a) Q) := propext ⟨fun h => h.2, fun h => ⟨⟨a, rfl⟩, h⟩⟩
theorem e_m1b {r : V → List V → Hp → VK → Prop} {H : Hp} {Q : VK} {x y : V} : fM1b r x Q y H = r x [y] H Q := rfl
def rJoin (K : PySem.W.Frag) : V → List V → Hp → VK → Prop := fun x xs H Q => ∃ a p, ∃ ys : List Str, x = .str a ∧ xs = [.ref p] ∧ (SqL K H p (ys.map V.str) ∨ SqT K H p (ys.map V.str)) ∧ (ys.map (·.length)).sum + ys.length * a.length ≤ 16777216 ∧ Q (.str (Txt.join a ys)) H
theorem pe_joink {X : Cx} (K : PySem.W.Frag) {o e : Expr} {to te : TE} {apos pos : Pos} (ho : PE X o to) (he : PE X e te) (h : X.K = K := by rfl) (hbase : attributeBase o "join" X.env (eval o X.env) = eval o X.env := by rfl) (hline : (apos.endLine == pos.line) = true := by rfl)
    (hs : starEach [e] X.env = [(false, eval e X.env)] := by rfl) : PE X (.Call (.Attribute o "join" apos) [e] [] pos) (tM1 (rJoin K) to te) := by
  subst h
  exact pe_join ho he hs hbase hline
theorem k_join {K : PySem.W.Frag} {H : Hp} {Q : VK} {a : Str} {p : Addr} {ys : List Str} (h : SqL K H p (ys.map V.str) ∨ SqT K H p (ys.map V.str)) (hl : (ys.map (·.length)).sum + ys.length * a.length ≤ 16777216) (q : Q (.str (Txt.join a ys)) H) : rJoin K (.str a) [.ref p] H Q :=
  ⟨a, p, ys, rfl, rfl, h, hl, q⟩
end Y

set_option Elab.async false
set_option linter.all false
set_option maxRecDepth 100000
namespace Y
open PySem L2 PySem.Spec PyProof.Rows
/-! ### tuples whose object is known: their methods -/
def tTupZ (t : TA) : TE := fun σ H Q => t σ H fun xs H1 => xs.length ≤ sizeLine ∧ ∀ p o, H1 p = none → o.cls = .type "tuple" → o.dict = none → Q (.ref p) (upd H1 p (.frz o (.tup xs)))
theorem pe_tupZ {X : Cx} {es : List Expr} {t : TA} {x1 : Nat} {pos : Pos} (h : PA X es t) : PE X (.Tuple es x1 pos) (tTupZ t) := by
  refine ⟨fun pins s σ H Q I hq => ?_⟩
  refine wpAny_Tuple_spliced (thn (h.run pos pins s σ H _ I hq) fun us s1 ⟨xs, H1, I1, r, z, q⟩ => ⟨by rw [← r.length]; exact z, ?_⟩)
  have hf : H1 s1.heap.objs.size = none := I1.hok.fresh (Nat.le_refl _)
  refine ⟨.ref s1.heap.objs.size, upd H1 s1.heap.objs.size (.frz { cls := .type "tuple", data := .seq us.toArray } (.tup xs)), I1.laid (t' := s1.toks) (fun b u e => Heap.get?_push_of_some _ e) (Nat.le_refl _) ?_, rfl, q _ _ hf rfl rfl⟩
  exact ⟨Heap.get?_push_size _ rfl, z, us, r, ⟨_, Heap.get?_push_size _ rfl, rfl, _, rfl⟩⟩
def fTupZ (Q : VK) : List V → Hp → Prop := fun xs H1 => xs.length ≤ sizeLine ∧ ∀ p o, H1 p = none → o.cls = .type "tuple" → o.dict = none → Q (.ref p) (upd H1 p (.frz o (.tup xs)))
theorem e_tupZ {tl : TA} {σ : L2.St} {H : Hp} {Q : VK} : tTupZ tl σ H Q = tl σ H (fTupZ Q) := rfl
theorem k_tupZ {H : Hp} {Q : VK} {xs : List V} (hl : xs.length ≤ 100000) (q : ∀ p o, H p = none → o.cls = .type "tuple" → o.dict = none → Q (.ref p) (upd H p (.frz o (.tup xs)))) : fTupZ Q xs H := ⟨Nat.le_trans hl (by decide), q⟩
theorem SqT.ofZ {K : PySem.W.Frag} {H : Hp} {a : Addr} {xs : List V} {o : Obj} (h : H a = some (.frz o (.tup xs))) : SqT K H a xs := .inl (.inr ⟨o, h⟩)
def TupZ (K : PySem.W.Frag) (H : Hp) (a : Addr) (xs : List V) : Prop := (∃ o, H a = some (.frz o (.tup xs)) ∧ o.cls = .type "tuple" ∧ o.dict = none) ∨
  ∃ (o : Obj) (its : Array Value) (n : Nat), K.lookup a = some o ∧ o.cls = .type "tuple" ∧ o.dict = none ∧ o.data = .seq its n ∧ its.size ≤ sizeLine ∧ Vals xs its.toList
theorem TupZ.sq {K : PySem.W.Frag} {H : Hp} {a : Addr} {xs : List V} : TupZ K H a xs → SqT K H a xs
  | .inl ⟨o, h, _⟩ => .inl (.inr ⟨o, h⟩)
  | .inr ⟨o, its, n, h1, h2, _, h3, h4, h5⟩ => .inr ⟨o, its, n, h1, h2, h3, h4, h5⟩
theorem TupZ.mono {K : PySem.W.Frag} {H H' : Hp} {a : Addr} {xs : List V} (e : Same H H') : TupZ K H a xs → TupZ K H' a xs
  | .inl ⟨o, h, r⟩ => .inl ⟨o, e _ _ h, r⟩
  | .inr h => .inr h
theorem tupZ_K {K : PySem.W.Frag} {H : Hp} {a : Addr} {xs : List V} {its : List Value} {n : Nat} {sl : Array (Option Value)} (h : K.lookup a = some ⟨.type "tuple", none, .seq its.toArray n, sl⟩) (hl : its.length ≤ 1000) (hv : Vals xs its) : TupZ K H a xs :=
  .inr ⟨_, _, n, h, rfl, rfl, rfl, by rw [List.size_toArray]; exact Nat.le_trans hl (by decide), by simpa using hv⟩
/-- t.count(y), data -/
def rCntT (K : PySem.W.Frag) : V → List V → Hp → VK → Prop := fun x vs H Q => ∃ p ds d y, x = .ref p ∧ vs = [y] ∧ Dp K H (.ref p) (.tuple ds) ∧ Dp K H y d ∧ SeqAt.shaped (.tuple ds) = true ∧ SeqAt.shaped d = true ∧ Q (.int ((ds.countP fun z => PyData.eqv z d : Nat) : Int)) H
theorem mt_cntTk {X : Cx} (K : PySem.W.Frag) (hu : X.A.units + 65 < cLine) (h : X.K = K := by rfl) : MtR X "tuple.count" (rCntT K) := by
  subst h
  intro pins s σ H x xs v us Q I rx rxs h
  obtain ⟨p, ds, d, y, rfl, rfl, h1, h2, s1, s2, q⟩ := h
  cases rx
  obtain ⟨u, rfl, ru⟩ := rxs.one
  cases h1 with
  | tup hs ha =>
    obtain ⟨its, rv, ⟨o, ho, hc, n, hd⟩, hlen⟩ := I.tuple hs
    obtain ⟨as, r1⟩ := Dp.readsAll I ds _ its ha rv
    obtain ⟨bs, r2⟩ := Dp.reads I d y u h2 ru
    have c1 := SeqAt.canLay_of_shaped s1
    have c2 := SeqAt.canLay_of_shaped s2
    have c1' : PyData.canLayAll0 ds = true := by simpa [PyData.canLay0] using c1
    have dd := SeqAt.depth_of_shaped s2
    refine SeqAt.count_tuple_data (xs := ds) (d := d) (vs := its.toArray) ⟨o, ho, hc, n, hd⟩ (by simpa using r1) r2 (PyData.plainAll_of_canLay0 _ c1') (PyData.plain_of_canLay0 _ c2) ?_ ⟨.int _, H, I.tok _, ⟨_, rfl⟩, q⟩
    have := Nat.min_le_right (PyData.depthAll ds) d.depth
    omega
def tTC (K : PySem.W.Frag) (to : TE) (t : TA) : TE := fun σ H Q => to σ H fun x H1 => (∃ a xs, x = .ref a ∧ TupZ K H1 a xs) ∧ t σ H1 fun vs H2 => rCntT K x vs H2 Q
theorem pe_tcount {X : Cx} (K : PySem.W.Frag) {o e : Expr} {to : TE} {t : TA} {apos cpos : Pos} (hu : X.A.units + 65 < cLine) (ho : PE X o to) (ha : PA X [e] t) (hK : X.K = K := by rfl)
    (hbase : attributeBase o "count" X.env (eval o X.env) = eval o X.env := by rfl)
    (hfew : ((backTo cpos (starEach [e] X.env)).all (fun x => !x.1) && (backToKw cpos (keywordEach [] X.env)).all (fun x => x.1.isSome)
      && decide ([e].length + ([] : List Keyword).length + (if ([] : List Keyword).isEmpty then 0 else 1) < 30)) = true := by rfl)
    (hline : (apos.endLine == cpos.line) = true := by rfl) (hs : starEach [e] X.env = (false, eval e X.env) :: starEach [] X.env := by rfl) (hplain : (backTo cpos (starEach [] X.env)).any (·.1) = false := by rfl) :
    PE X (.Call (.Attribute o "count" apos) [e] [] cpos) (tTC K to t) := by
  subst hK
  refine ⟨fun pins s σ H Q I h => ?_⟩
  refine wpAny_Call_method_late hbase hfew hline rfl (thn (ho.run pins s σ H _ I h) fun v s1 ⟨x, H1, I1, r1, ⟨a, xs, ex, hz⟩, q1⟩ => ?_)
  subst ex
  obtain rfl : v = Value.ref a := r1
  have tz : ∃ ob, s1.heap.get? a = some ob ∧ ob.cls = .type "tuple" ∧ ob.dict = none := by
    rcases hz with ⟨o, h, hc, hd⟩ | ⟨o, its, n, h, hc, hd, _⟩
    · obtain ⟨e, _⟩ := I1.hok a _ h
      exact ⟨o, e, hc, hd⟩
    · exact ⟨o, I1.kIn a o h, hc, hd⟩
  obtain ⟨ob, eo, ec, ed⟩ := tz
  refine ⟨"tuple", "tuple.count", PySem.F.plainAttrs_tuple, PySem.F.slot_tuple_count, PySem.F.type_tuple_count, ⟨ob, eo, ec⟩, fun c e => by cases e; exact ⟨ob, eo, ed⟩, ?_⟩
  have hA := ha.run cpos pins s1 σ H1 _ I1 q1
  rw [hs] at hA ⊢
  refine Calls.callWith_builtin (by show (false || (backTo cpos (starEach [] X.env)).any (·.1)) = false; rw [hplain] <;> rfl) (Calls.evalArgs_plain ?_)
  exact thn hA fun us s2 ⟨vs, H2, I2, r2, q2⟩ => mt_cntTk X.K hu rfl pins s2 σ H2 (.ref a) vs (.ref a) us Q I2 rfl r2 q2
def fTC (K : PySem.W.Frag) (t : TA) (σ : L2.St) (Q : VK) : VK := fun x H1 => (∃ a xs, x = .ref a ∧ TupZ K H1 a xs) ∧ t σ H1 fun vs H2 => rCntT K x vs H2 Q
def fTC2 (K : PySem.W.Frag) (x : V) (Q : VK) : List V → Hp → Prop := fun vs H2 => rCntT K x vs H2 Q
theorem e_tC {K : PySem.W.Frag} {to : TE} {t : TA} {σ : L2.St} {H : Hp} {Q : VK} : tTC K to t σ H Q = to σ H (fTC K t σ Q) := rfl
theorem k_tC {K : PySem.W.Frag} {t : TA} {σ : L2.St} {H : Hp} {Q : VK} {a : Addr} {xs : List V} (h : TupZ K H a xs) (q : t σ H (fTC2 K (.ref a) Q)) : fTC K t σ Q (.ref a) H := ⟨⟨a, xs, rfl, h⟩, q⟩
theorem k_countT {K : PySem.W.Frag} {H : Hp} {Q : VK} {a : Addr} {y : V} {ds : List PyData} {d : PyData} (h1 : Dp K H (.ref a) (.tuple ds)) (h2 : Dp K H y d) (s1 : SeqAt.shaped (.tuple ds) = true) (s2 : SeqAt.shaped d = true) (q : Q (.int ((ds.countP fun z => PyData.eqv z d : Nat) : Int)) H) : fTC2 K (.ref a) Q [y] H :=
  ⟨a, ds, d, y, rfl, rfl, h1, h2, s1, s2, q⟩
/-- a new object is changed: it was new at some heap behind the first one -/
theorem Same.linkV {H H1 H2 : Hp} {p : Addr} {o : HO} (n : H2 p = none) (s2 : Same H H2) (s : Same H H1) : Same H (upd H1 p o) := Same.upd_new s (Same.none_of s2 n)
theorem But.linkV {a : Addr} {H H1 H2 : Hp} {p : Addr} {o : HO} (n : H2 p = none) (s2 : Same H H2) (s : But a H H1) : But a H (upd H1 p o) := But.upd_new s (Same.none_of s2 n)
theorem sqT_other {K : PySem.W.Frag} {H : Hp} {p a : Addr} {xs : List V} {o u : HO} (h : H p = some u) (n1 : ∀ ys, u ≠ .tup ys) (n2 : ∀ o ys, u ≠ .frz o (.tup ys)) (s : SqT K H a xs) : SqT K (upd H p o) a xs := by
  have ne : ∀ v, H a = some v → (∃ ys, v = .tup ys) ∨ (∃ o ys, v = .frz o (.tup ys)) → a ≠ p := fun v e k z => by
    subst z
    rw [h] at e
    cases e
    rcases k with ⟨ys, e⟩ | ⟨o, ys, e⟩
    · exact n1 ys e
    · exact n2 o ys e
  rcases s with (h | ⟨o, h⟩) | h
  · exact .inl (.inl (lk_ne h (ne _ h (.inl ⟨_, rfl⟩))))
  · exact .inl (.inr ⟨o, lk_ne h (ne _ h (.inr ⟨_, _, rfl⟩))⟩)
  · exact .inr h
theorem sqT_lst {K : PySem.W.Frag} {H : Hp} {p a : Addr} {xs ys : List V} {o : HO} (h : H p = some (.lst ys)) (s : SqT K H a xs) : SqT K (upd H p o) a xs := sqT_other h (fun _ e => nomatch e) (fun _ _ e => nomatch e) s
theorem sqT_ins {K : PySem.W.Frag} {H : Hp} {p a C dx : Addr} {xs : List V} {fs : List (Str × V)} {o : HO} (h : H p = some (.ins C dx fs)) (s : SqT K H a xs) : SqT K (upd H p o) a xs := sqT_other h (fun _ e => nomatch e) (fun _ _ e => nomatch e) s
/-! ### what follows, kept apart -/
theorem k_opq1 {s1 s2 : TS} {D : Ends} {σ : L2.St} {H : Hp} (h : ∀ R : TS, R = s2 → tSeq s1 R D σ H) : tSeq s1 s2 D σ H := h s2 rfl
theorem k_opq2 {s1 s2 s3 : TS} {D : Ends} {σ : L2.St} {H : Hp} (h : ∀ R : TS, R = s3 → tSeq s1 (tSeq s2 R) D σ H) : tSeq s1 (tSeq s2 s3) D σ H := h s3 rfl
theorem k_opq3 {s1 s2 s3 s4 : TS} {D : Ends} {σ : L2.St} {H : Hp} (h : ∀ R : TS, R = s4 → tSeq s1 (tSeq s2 (tSeq s3 R)) D σ H) : tSeq s1 (tSeq s2 (tSeq s3 s4)) D σ H := h s4 rfl
theorem k_opq4 {s1 s2 s3 s4 s5 : TS} {D : Ends} {σ : L2.St} {H : Hp} (h : ∀ R : TS, R = s5 → tSeq s1 (tSeq s2 (tSeq s3 (tSeq s4 R))) D σ H) : tSeq s1 (tSeq s2 (tSeq s3 (tSeq s4 s5))) D σ H := h s5 rfl
theorem k_opq5 {s1 s2 s3 s4 s5 s6 : TS} {D : Ends} {σ : L2.St} {H : Hp} (h : ∀ R : TS, R = s6 → tSeq s1 (tSeq s2 (tSeq s3 (tSeq s4 (tSeq s5 R)))) D σ H) : tSeq s1 (tSeq s2 (tSeq s3 (tSeq s4 (tSeq s5 s6)))) D σ H := h s6 rfl
theorem k_dnew {σ : L2.St} {H : Hp} {Q : VK} (q : ∀ p, H p = none → Q (.ref p) (upd H p (.dK []))) : tDNewK σ H Q := q
theorem op_repTk {X : Cx} (K : PySem.W.Frag) (h : X.K = K := by rfl) : OpR X (binaryOp .Mult) (rRepT K) := by subst h; exact op_repT
theorem k_repT {K : PySem.W.Frag} {H : Hp} {Q : VK} {a : Addr} {xs : List V} {k : Int} (h : SqT K H a xs) (hn : xs ≠ []) (h2 : 2 ≤ k) (h3 : k ≤ 1000) (hl : xs.length ≤ 1000) (q : ∀ p, H p = none → Q (.ref p) (upd H p (.tup (List.replicate k.toNat xs).flatten))) : fOp2 (rRepT K) (.ref a) Q (.int k) H :=
  ⟨a, k, xs, rfl, rfl, h, hn, h2, h3, hl, q⟩
/-- ==, dicts too -/
def rEqV (K : PySem.W.Frag) : R2 := fun x y H Q => rEqU K x y H Q ∨ rEqDA x y H Q
theorem op_eqV {X : Cx} (K : PySem.W.Frag) (hu : X.A.units + 65 < cLine) (h : X.K = K := by rfl) : OpR X (compareOp .Eq) (rEqV K) := by
  subst h
  intro pins s σ H x y v u Q I rx ry h
  rcases h with h | h
  · exact op_eqU hu pins s σ H _ _ v u Q I rx ry h
  · exact op_eq_dictA (by omega) pins s σ H _ _ v u Q I rx ry h
theorem e_makeS {C : Addr} {sp : Sp} {E : L2.St → XK} {tl : TA} {σ : L2.St} {H : Hp} {Q : VK} : tMakeS C sp E tl σ H Q = tl σ H (fMake C sp [] (E σ) Q) := by
  unfold tMakeS fMake
  congr 1
  funext vs H1
  rw [List.append_nil]
theorem e_callS {sp : Sp} {E : L2.St → XK} {tl : TA} {σ : L2.St} {H : Hp} {Q : VK} : tCallS sp E tl σ H Q = tl σ H (fCall sp [] (E σ) Q) := by
  unfold tCallS fCall
  congr 1
  funext vs H1
  rw [List.append_nil]
theorem e_methS {C : Addr} {m : Str} {sp : Sp} {E : L2.St → XK} {ta : TE} {tl : TA} {σ : L2.St} {H : Hp} {Q : VK} : tMethS C m sp E ta tl σ H Q = ta σ H (fMeth C m sp [] (E σ) tl σ Q) := by
  unfold tMethS fMeth
  congr 1
  funext x H1
  simp only [List.append_nil]
  apply propext
  constructor
  · rintro ⟨a, dx, fs, rfl, h1, h2, h3⟩
    exact ⟨a, dx, fs, rfl, h1, h2, h3⟩
  · rintro ⟨a, dx, fs, rfl, h1, h2, h3⟩
    exact ⟨a, dx, fs, rfl, h1, h2, h3⟩
theorem k_opJ1 {s1 s2 : TS} {D : Ends} {σ : L2.St} {H : Hp} (I : L2.St → Hp → Prop) (h1 : ∀ R : TS, (∀ σ H, I σ H → R D σ H) → tSeq s1 R D σ H) (h2 : ∀ σ H, I σ H → s2 D σ H) : tSeq s1 s2 D σ H := h1 s2 h2
theorem k_opJ2 {s1 s2 s3 : TS} {D : Ends} {σ : L2.St} {H : Hp} (I : L2.St → Hp → Prop) (h1 : ∀ R : TS, (∀ σ H, I σ H → R D σ H) → tSeq s1 (tSeq s2 R) D σ H) (h2 : ∀ σ H, I σ H → s3 D σ H) : tSeq s1 (tSeq s2 s3) D σ H := h1 s3 h2
theorem k_opJ3 {s1 s2 s3 s4 : TS} {D : Ends} {σ : L2.St} {H : Hp} (I : L2.St → Hp → Prop) (h1 : ∀ R : TS, (∀ σ H, I σ H → R D σ H) → tSeq s1 (tSeq s2 (tSeq s3 R)) D σ H) (h2 : ∀ σ H, I σ H → s4 D σ H) : tSeq s1 (tSeq s2 (tSeq s3 s4)) D σ H := h1 s4 h2
theorem k_opJ4 {s1 s2 s3 s4 s5 : TS} {D : Ends} {σ : L2.St} {H : Hp} (I : L2.St → Hp → Prop) (h1 : ∀ R : TS, (∀ σ H, I σ H → R D σ H) → tSeq s1 (tSeq s2 (tSeq s3 (tSeq s4 R))) D σ H) (h2 : ∀ σ H, I σ H → s5 D σ H) : tSeq s1 (tSeq s2 (tSeq s3 (tSeq s4 s5))) D σ H := h1 s5 h2
end Y

set_option Elab.async false
set_option linter.all false
set_option maxRecDepth 100000
set_option maxHeartbeats 4000000
namespace Y
open PySem L2 PySem.Spec PyProof.Rows
/-! ### list(d.values()) -/
theorem kv_snd {κ : Type} : ∀ {kvs : List (κ × V)} {vs : List (κ × Value)}, KV kvs vs → Vals (kvs.map (·.2)) (vs.map (·.2))
  | _, _, .nil => .nil
  | _, _, .cons h t => .cons h.2 (kv_snd t)
def tLVals (td : TE) : TE := fun σ H Q => td σ H fun x H1 => ∃ a kvs, x = .ref a ∧ H1 a = some (.dK kvs) ∧ kvs.length ≤ 1000000 ∧ ∀ p, H1 p = none → Q (.ref p) (upd H1 p (.lst (kvs.map (·.2))))
theorem pe_lvals {X : Cx} {o : Expr} {td : TE} {p apos mpos pos : Pos} (hcalm : X.calm = true) (hglob : Gl X "list") (hnone : X.mg "list" = none) (ho : PE X o td) (hb0 : attributeBase o "values" X.env (eval o X.env) = eval o X.env := by rfl) (hln : (apos.endLine == mpos.line) = true := by rfl)
    (hst : starEach [Expr.Call (.Attribute o "values" apos) [] [] mpos] X.env = [(false, eval (Expr.Call (.Attribute o "values" apos) [] [] mpos) X.env)] := by rfl) :
    PE X (.Call (.Name "list" p) [.Call (.Attribute o "values" apos) [] [] mpos] [] pos) (tLVals td) := by
  refine ⟨fun pins s σ H Q I hq => ?_⟩
  refine wpAny_Call_Name_kw (ld_blt I hglob hnone b_list ?_ (by decide) (by decide))
  rw [hst]
  refine PySem.callWith_type1 (wpAny_Call_method0_late hb0 hln (thn (ho.run pins s σ H _ I hq) fun v s1 hv => ?_))
  obtain ⟨x, H1, I1, rx, a, kvs, ex, ea, hlen, q⟩ := hv
  subst ex
  obtain rfl : v = Value.ref a := rx
  obtain ⟨hsize, hsys, vs, rel, dof⟩ := dk_of I1.hok ea
  obtain ⟨ep, dat⟩ := dof.dictAt
  obtain ⟨ob, es, eo, exact_, erest⟩ := id dat
  refine ⟨"dict", "dict.values", PySem.F.plainAttrs_dict, PySem.F.slot_dict_values, PySem.F.type_dict_values, ⟨ob, eo, exact_.1⟩, fun b e => by cases e; exact ⟨ob, eo, exact_.2.1⟩, Calls.callWith_builtin rfl (PySem.evalArgs_none ?_)⟩
  refine call_meetsIn PySem.F.slot_dict_values ⟨ob, eo, exact_.1⟩ PySem.F.entry_dict_values (PySem.F.args_dict_values_1 _) (meets_dict_values (mixKind X.prog X.w) a hsys) ⟨⟨vs, dof⟩, ?_⟩
  have grow : ∀ b u, s1.heap.get? b = some u → (s1.heap.push { cls := .type "dict_values", data := .fields #[.ref a] }).get? b = some u := fun b u e => Heap.get?_push_of_some _ e
  have sz : (s1.heap.push { cls := .type "dict_values", data := .fields #[.ref a] }).objs.size = s1.heap.objs.size + 1 := Heap.size_push _ _
  have lenv : vs.length = kvs.length := (Paired.length rel).symm
  refine PySem.W.kdl_call (PySem.W.kdl_values (knd := mixKind X.prog X.w) (r := s1.heap.objs.size) (d := a) (kvs := vs) (ep := ep)) (I1.ok.hd hcalm) ⟨⟨_, Heap.get?_push_size _ rfl, rfl, rfl⟩, dat.keep grow⟩ (by rw [lenv]; exact hsize) fun h' tk acc c hk hnew hacc => ?_
  have evs : acc.toList = vs.map (·.2) := PySem.W.kdl_vals_eq _ (by rw [Array.length_toList]; exact hacc.1) fun j w e => hacc.2 j w (by rw [← Array.getElem?_toList]; exact e)
  have free : H1 (s1.heap.push { cls := .type "dict_values", data := .fields #[.ref a] }).objs.size = none := I1.hok.fresh (by rw [sz]; exact Nat.le_succ _)
  refine ⟨.ref _, upd H1 _ (.lst (kvs.map (·.2))), I1.laid (a := (s1.heap.push { cls := .type "dict_values", data := .fields #[.ref a] }).objs.size) (fun b u e => hk b u (grow b u e)) (by rw [sz]; exact Nat.le_succ _) ?_, rfl, q _ free⟩
  refine ⟨?_, acc.toList, c, ?_, ?_⟩
  · rw [List.length_map]
    exact hsize
  · rw [evs]
    exact kv_snd rel
  · rw [hnew]
/-! ### dicts, read -/
def fPut3 (x v : V) (nx : L2.St → Hp → Prop) (σ : L2.St) : VK := fun y H3 => ∃ a H4, x = .ref a ∧ DPut H3 a y v H4 ∧ nx σ H4
def fPut2 (ty : TE) (v : V) (nx : L2.St → Hp → Prop) (σ : L2.St) : VK := fun x H2 => ty σ H2 (fPut3 x v nx σ)
def fPut1 (td ty : TE) (nx : L2.St → Hp → Prop) (σ : L2.St) : VK := fun v H1 => td σ H1 (fPut2 ty v nx σ)
def fDel2 (x : V) (nx : L2.St → Hp → Prop) (σ : L2.St) : VK := fun y H2 => ∃ a kvs k, x = .ref a ∧ H2 a = some (.dK kvs) ∧ y = kV k ∧ (valV kvs k).isSome = true ∧ nx σ (upd H2 a (.dK (dropK kvs k)))
def fDel1 (ty : TE) (nx : L2.St → Hp → Prop) (σ : L2.St) : VK := fun x H1 => ty σ H1 (fDel2 x nx σ)
def fGet2 (x : V) (Q : VK) : VK := fun y H2 => ∃ a v, x = .ref a ∧ DGet H2 a y (some v) ∧ Q v H2
def fGet1 (ty : TE) (σ : L2.St) (Q : VK) : VK := fun x H1 => ty σ H1 (fGet2 x Q)
def fIn2 (neg : Bool) (y : V) (Q : VK) : VK := fun x H2 => ∃ a o, x = .ref a ∧ DGet H2 a y o ∧ Q (.bl (if neg then !o.isSome else o.isSome)) H2
def fIn1 (neg : Bool) (td : TE) (σ : L2.St) (Q : VK) : VK := fun y H1 => td σ H1 (fIn2 neg y Q)
def fNin2 (y : V) (Q : VK) : VK := fun x H2 => (∃ a o, x = .ref a ∧ DGet H2 a y o ∧ Q (.bl (!o.isSome)) H2) ∨ ∃ a kvs, x = .ref a ∧ y = .non ∧ Rd H2 a (.dK kvs) ∧ Q (.bl true) H2
def fNin1 (td : TE) (σ : L2.St) (Q : VK) : VK := fun y H1 => td σ H1 (fNin2 y Q)
section
variable {td ty tv : TE} {nx : L2.St → Hp → Prop} {rt Q : VK} {bk ct : L2.St → Hp → Prop} {σ : L2.St} {H : Hp} {x y v : V} {a : Addr} {kvs : List (Key × V)} {i : Int} {z : Str}
theorem e_dput : sDPut td ty tv ⟨nx, rt, bk, ct⟩ σ H = tv σ H (fPut1 td ty nx σ) := rfl
theorem e_dput1 : fPut1 td ty nx σ v H = td σ H (fPut2 ty v nx σ) := rfl
theorem e_dput2 : fPut2 ty v nx σ x H = ty σ H (fPut3 x v nx σ) := rfl
theorem e_ddel : sDDel td ty ⟨nx, rt, bk, ct⟩ σ H = td σ H (fDel1 ty nx σ) := rfl
theorem e_ddel1 : fDel1 ty nx σ x H = ty σ H (fDel2 x nx σ) := rfl
theorem e_dget : tDGet td ty σ H Q = td σ H (fGet1 ty σ Q) := rfl
theorem e_dget1 : fGet1 ty σ Q x H = ty σ H (fGet2 x Q) := rfl
theorem e_din : tDIn ty td σ H Q = ty σ H (fIn1 false td σ Q) := rfl
theorem e_dnin : tDNotIn ty td σ H Q = ty σ H (fIn1 true td σ Q) := rfl
theorem e_din1 {b : Bool} : fIn1 b td σ Q y H = td σ H (fIn2 b y Q) := rfl
theorem e_dninN : tDNotInN ty td σ H Q = ty σ H (fNin1 td σ Q) := rfl
theorem e_dninN1 : fNin1 td σ Q y H = td σ H (fNin2 y Q) := rfl
theorem k_dputI (e : H a = some (.dK kvs)) (hl : kvs.length < 1000000) (q : nx σ (upd H a (.dK (putK kvs (Sum.inl i) v)))) : fPut3 (.ref a) v nx σ (.int i) H := ⟨a, _, rfl, DPut.k (k := Sum.inl i) e (Nat.lt_of_lt_of_le hl (by decide)), q⟩
theorem k_dputS (e : H a = some (.dK kvs)) (hl : kvs.length < 1000000) (q : nx σ (upd H a (.dK (putK kvs (Sum.inr z) v)))) : fPut3 (.ref a) v nx σ (.str z) H := ⟨a, _, rfl, DPut.k (k := Sum.inr z) e (Nat.lt_of_lt_of_le hl (by decide)), q⟩
theorem k_ddelI (e : H a = some (.dK kvs)) (h : (valV kvs (Sum.inl i)).isSome = true) (q : nx σ (upd H a (.dK (dropK kvs (Sum.inl i))))) : fDel2 (.ref a) nx σ (.int i) H := ⟨a, kvs, Sum.inl i, rfl, e, rfl, h, q⟩
theorem k_dgetI (e : Rd H a (.dK kvs)) (h : valV kvs (Sum.inl i) = some v) (q : Q v H) : fGet2 (.ref a) Q (.int i) H := ⟨a, v, rfl, .inl ⟨kvs, Sum.inl i, e, rfl, h.symm⟩, q⟩
theorem k_dinI {b : Bool} (e : Rd H a (.dK kvs)) (q : Q (.bl (if b then !(valV kvs (Sum.inl i)).isSome else (valV kvs (Sum.inl i)).isSome)) H) : fIn2 b (.int i) Q (.ref a) H := ⟨a, _, rfl, .inl ⟨kvs, Sum.inl i, e, rfl, rfl⟩, q⟩
theorem k_dinS {b : Bool} (e : Rd H a (.dK kvs)) (q : Q (.bl (if b then !(valV kvs (Sum.inr z)).isSome else (valV kvs (Sum.inr z)).isSome)) H) : fIn2 b (.str z) Q (.ref a) H := ⟨a, _, rfl, .inl ⟨kvs, Sum.inr z, e, rfl, rfl⟩, q⟩
theorem k_dninI (e : Rd H a (.dK kvs)) (q : Q (.bl (!(valV kvs (Sum.inl i)).isSome)) H) : fNin2 (.int i) Q (.ref a) H := .inl ⟨a, _, rfl, .inl ⟨kvs, Sum.inl i, e, rfl, rfl⟩, q⟩
theorem k_dninN (e : Rd H a (.dK kvs)) (q : Q (.bl true) H) : fNin2 .non Q (.ref a) H := .inr ⟨a, kvs, rfl, rfl, e, q⟩
end
theorem putK_new {κ : Type} [DecidableEq κ] {kvs : List (κ × V)} {k : κ} {v : V} (h : ∀ p ∈ kvs, p.1 ≠ k) : putK kvs k v = kvs ++ [(k, v)] := by
  unfold putK
  rw [if_neg]
  simp only [List.any_eq_true, decide_eq_true_eq, not_exists, not_and]
  exact h
theorem valV_none {κ : Type} [DecidableEq κ] {kvs : List (κ × V)} {k : κ} (h : ∀ p ∈ kvs, p.1 ≠ k) : valV kvs k = none := by
  unfold valV
  rw [List.find?_eq_none.mpr (fun p hp => by simpa using h p hp)]
  rfl
theorem valV_some {κ : Type} [DecidableEq κ] : ∀ {kvs : List (κ × V)} {k : κ} {v : V}, (k, v) ∈ kvs → (∀ p ∈ kvs, p.1 = k → p.2 = v) → valV kvs k = some v
  | [], _, _, h, _ => absurd h List.not_mem_nil
  | p :: r, k, v, h, u => by
    by_cases e : p.1 = k
    · rw [valV_pos e, u p List.mem_cons_self e]
    · rw [valV_neg e]
      refine valV_some ?_ fun q hq => u q (List.mem_cons_of_mem _ hq)
      rcases List.mem_cons.mp h with h | h
      · rw [← h] at e
        exact absurd rfl e
      · exact h
/-! ### the values of a dict that is held -/
def fVals (R : It → Hp → Prop) : VK := fun x H1 => ∃ d o kvs, x = .ref d ∧ H1 d = some (.frz o (.dK kvs)) ∧ R (Itd d o kvs) H1
theorem e_vals {td : TE} {R : It → Hp → Prop} {σ : L2.St} {H : Hp} : iVals td σ H R = td σ H (fVals R) := rfl
theorem k_vals {R : It → Hp → Prop} {d : Addr} {o : Obj} {kvs : List (Key × V)} {H : Hp} (h : H d = some (.frz o (.dK kvs))) (q : R (Itd d o kvs) H) : fVals R (.ref d) H := ⟨d, o, kvs, rfl, h, q⟩
def fLVals (Q : VK) : VK := fun x H1 => ∃ a kvs, x = .ref a ∧ H1 a = some (.dK kvs) ∧ kvs.length ≤ 1000000 ∧ ∀ p, H1 p = none → Q (.ref p) (upd H1 p (.lst (kvs.map (·.2))))
theorem e_lvals {td : TE} {Q : VK} {σ : L2.St} {H : Hp} : tLVals td σ H Q = td σ H (fLVals Q) := rfl
end Y

set_option Elab.async false
set_option linter.all false
set_option maxRecDepth 100000
set_option maxHeartbeats 2000000
namespace Y
open PySem L2
/-! ### for i, x in enumerate(xs, start=k), xs a list -/
def IteS (K : PySem.W.Frag) (a : Addr) (k : Int) : It :=
  ⟨fun i H => ∃ (xs : List V) (x : V), SqL K H a xs ∧ xs[i]? = some x, fun i H v H' => ∃ T x, v = .ref T ∧ H T = none ∧ H' = upd H T (.tup [.int (k + (i : Nat)), x]) ∧ ∀ xs, SqL K H a xs → xs[i]? = some x,
    fun i H => ∃ xs : List V, SqL K H a xs ∧ xs.length ≤ i⟩
theorem turn_enumS {P : Program} {w : World} {K : PySem.W.Frag} {elts : List Expr} {kk : Nat} {tpos : Pos} (k : Int) (a e it : Addr) :
    Turn P w K (.Tuple elts kk tpos) (IteS K a k) [e, it] e (fun i h => (∃ old, IsEnum h e it (k + (i : Nat)) old) ∧ h.IsListIter it a i ∧ e ≠ it ∧ a ≠ it ∧ a ≠ e) where
  mem := by simp
  obj := fun i h st b hb => by
    rcases st with ⟨⟨old, he⟩, ⟨o, ho, hc, hd⟩, _⟩
    rcases List.mem_cons.mp hb with z | z
    · subst z
      exact ⟨_, he, fun v q => nomatch q⟩
    · have z' := List.mem_singleton.mp z
      subst z'
      exact ⟨o, ho, fun v q => by rw [hd] at q; cases q⟩
  keep := fun i h h' st k => by
    rcases st with ⟨⟨old, he⟩, hi, ne⟩
    exact ⟨⟨old, k e (by simp) _ he⟩, hi.at fun o q => k it (by simp) o q, ne⟩
  item := by
    rintro X rfl rfl rfl hc i pins s σ H E I hf st ⟨xs, x, hq, hx⟩
    rcases st with ⟨⟨old, he⟩, hit, hne, hai, hae⟩
    obtain ⟨its, rv, p, hz⟩ := I.list hq
    obtain ⟨u, hu, ru⟩ := rv.get hx
    have hel : e < s.heap.objs.size := Heap.lt_size he
    have hil : it < s.heap.objs.size := by
      obtain ⟨_, q, _⟩ := hit
      exact Heap.lt_size q
    have hlt : i < its.toArray.size := by
      have := (List.getElem?_eq_some_iff.mp hu).1
      simpa using this
    have D := Draws.list (prog := X.prog) (w := X.w) (A := X.A.in1) (I.ok.hd hc) it a hai its.toArray
    refine wpAny_pyNext_enum_itemC D he ⟨hit, p.isList⟩ hlt hne (by simp [hne, Ne.symm hae]) fun y h' tk hy ho hst' hT hsz hk => ?_
    have hy' : y = u := by
      have e1 : its.toArray[i]? = its[i]? := by simp
      rw [e1, hu] at hy
      exact (Option.some.inj hy).symm
    subst hy'
    refine ⟨_, rfl, wpAny_letOwnedTupleGo_enum (s := { s with heap := h', toks := tk + 1 }) ho fun h2 he' sb => ?_⟩
    have hT2 : h2.get? s.heap.objs.size = some { cls := .type "tuple", data := .seq #[.int (k + (i : Nat)) tk, y] } := (sb.2 _ (Nat.ne_of_gt hel)).trans hT
    have new : ObjOk X.prog X.w (upd H s.heap.objs.size (.tup [.int (k + (i : Nat)), x])) h2 s.heap.objs.size (.tup [.int (k + (i : Nat)), x]) :=
      ⟨(by decide : 2 ≤ sizeLine), [.int (k + (i : Nat)) tk, y], .cons ⟨_, rfl⟩ (.cons ru .nil), ⟨_, hT2, rfl, _, rfl⟩⟩
    have I1 : Inv X pins σ (upd H s.heap.objs.size (.tup [.int (k + (i : Nat)), x])) { s with heap := h2, toks := tk + 1 } := by
      refine I.turnedNew (ch := [e, it]) (fun b ob hb q => ?_) hf (Nat.le_refl _) new
      have h1 : b ≠ e := fun z => hb (by simp [z])
      have h3 : b ≠ it := fun z => hb (by simp [z])
      exact (sb.2 b h1).trans (hk b ob h1 h3 q)
    refine ⟨.ref s.heap.objs.size, _, I1, rfl, ⟨_, x, rfl, I.hok.fresh (Nat.le_refl _), rfl, fun ys hy => by rw [I.list_inj hy hq]; exact hx⟩, ⟨⟨y, ?_⟩, hst'.1.at fun o q => (sb.2 it (Ne.symm hne)).trans q, hne, hai, hae⟩, fun b hb => ?_⟩
    · rw [show k + ((i + 1 : Nat) : Int) = k + (i : Int) + 1 by omega]
      exact he'
    · have hb' : b < s.heap.objs.size := by
        rcases List.mem_cons.mp hb with z | z
        · rw [z]
          exact hel
        · rw [List.mem_singleton.mp z]
          exact hil
      rw [upd_ne (Nat.ne_of_lt hb')]
      exact (hf b hb).1
  done := by
    rintro X rfl rfl rfl hc i pins s σ H E I hf st ⟨xs, hq, hx⟩
    rcases st with ⟨⟨old, he⟩, hit, hne, hai, hae⟩
    obtain ⟨its, rv, p, hz⟩ := I.list hq
    obtain ⟨f0, f1, f2, f3, f4, f5⟩ := hf it (by simp)
    have hl := rv.length
    have D := Draws.list (prog := X.prog) (w := X.w) (A := X.A.in1) (I.ok.hd hc) it a hai its.toArray
    have D' : Draws X.prog X.w X.A.in1 it [it, a] 0 (fun _ _ => True) (fun j h => h.IsListIter it a (i + j) ∧ h.IsList a its.toArray) := {
      live := fun j h st => D.live _ h st
      frame := fun j h h' st k => D.frame _ h h' st k
      item := fun j s Q E hj => absurd hj (Nat.not_lt_zero _)
      done := fun s Q E st hE => wpAny_nextOf_list_end (I.ok.hd hc) st.1 st.2 (by simp; omega) hE }
    exact wpAny_pyNext_enum_endD D' he ⟨hit, p.isList⟩ fun h' eb => ⟨rfl, I.turned (t' := s.toks) (fun b o hb q => eb b o hb q) f0 f1 f3 f4 f5⟩
  self := fun A i s Q E st h => by
    rcases st with ⟨⟨_, he⟩, _⟩
    exact wpAny_pyIter_enum he h
def iEnumS (K : PySem.W.Frag) (ta tk : TA) : TI := fun σ H R => ta σ H fun vs H1 => tk σ H1 fun ws H2 => ∃ a xs k, vs = [.ref a] ∧ ws = [.int k] ∧ SqL K H2 a xs ∧ -(2 ^ 62) ≤ k ∧ k < 2 ^ 62 ∧ R (IteS K a k) H2
theorem callWith_tyKw {M : Model} {A : Around} {E : Value → Shared → Prop} {s : Shared} {env : Env} {pos : Pos} {T : String} {e : Expr} {rest : List Expr} {kws : List Keyword} {Q : Value → Shared → Prop}
    (h : wpAny M A (spliced (backTo pos (starEach (e :: rest) env))) (fun vs s1 => wpAny M A (evalAll ((backToKw pos (keywordEach kws env)).map (·.2)))
      (fun kvs s2 => wpAny M A (call (.type T) vs (((backToKw pos (keywordEach kws env)).filterMap (·.1)).zip kvs)) Q E s2) E s1) E s)
    (he : backTo pos (starEach (e :: rest) env) = (false, eval e env) :: backTo pos (starEach rest env))
    (hplain : (backTo pos (starEach (e :: rest) env)).any (·.1) = false) (hall : (backToKw pos (keywordEach kws env)).all (·.1.isSome) = true) (hkw : (backToKw pos (keywordEach kws env)).any (·.1.isNone) = false) :
    wpAny M A (callWith pos (.type T) [] (backTo pos (starEach (e :: rest) env)) (backToKw pos (keywordEach kws env))) Q E s := by
  have g : wpAny M A (evalArgs (.type T) true (backTo pos (starEach (e :: rest) env)) (backToKw pos (keywordEach kws env))) (fun a s1 => wpAny M A (call (.type T) ([] ++ a.pos) a.kw) Q E s1) E s := by
    rw [he] at h ⊢
    exact PyProof.Rows.evalArgs_kwB hall h
  unfold callWith
  refine wpAny_bind (wpAny_holding (wpAny_mono g (fun a s1 h1 => wpAny_bind (wpAny_standAt ?_)) fun _ _ x => x))
  simp only [hplain, hkw, Bool.or_false]
  exact wpAny_bind (wpAny_pure (wpAny_bind (wpAny_mono h1 (fun r s2 hr => wpAny_bind (wpAny_holding (wpAny_point (wpAny_pure hr)))) fun _ _ x => x)))
theorem pi_enumS {X : Cx} {e : Expr} {kws : List Keyword} {ta tk : TA} {p pos tpos : Pos} {elts : List Expr} {kk : Nat} (hg : Gl X "enumerate") (hm : X.mg "enumerate" = none) (ha : PA X [e] ta) (hk : PK X kws tk)
    (he : backTo pos (starEach [e] X.env) = (false, eval e X.env) :: backTo pos (starEach [] X.env) := by rfl) (hpl : (backTo pos (starEach [e] X.env)).any (·.1) = false := by rfl)
    (hall : (backToKw pos (keywordEach kws X.env)).all (·.1.isSome) = true := by rfl) (hnone : (backToKw pos (keywordEach kws X.env)).any (·.1.isNone) = false := by rfl) (hks : (backToKw pos (keywordEach kws X.env)).filterMap (·.1) = [Str.ofString "start"] := by rfl) :
    PI X (.Tuple elts kk tpos) (.Call (.Name "enumerate" p) [e] kws pos) (iEnumS X.K ta tk) := by
  refine ⟨fun pins s σ H R I h => wpAny_Call_Name_kw (ld_blt I hg hm PyProof.Rows.boot_enumerate (callWith_tyKw (thn (ha.run pos pins s σ H _ I h) fun us s1 ⟨vs, H1, I1, r1, q1⟩ => thn (hk.run pos pins s1 σ H1 _ I1 q1) fun ws s2 ⟨zs, H2, I2, r2, q2⟩ => ?_) he hpl hall hnone))⟩
  rw [hks]
  rcases q2 with ⟨a, xs, k, rfl, rfl, hq, hk1, hk2, q⟩
  obtain ⟨u, rfl, ru⟩ := vals1 r1
  obtain ⟨v, rfl, ⟨t, rfl⟩⟩ := vals1 r2
  obtain rfl : u = Value.ref a := ru
  obtain ⟨its, rv, p', hz⟩ := I2.list hq
  refine enum_begins_start (begins_list a its.toArray) p'.isList (by omega) (by omega) fun h' he' hit hsz hkeep => wpAny_pyIter_enum he' ?_
  have I3 : Inv X pins σ H2 { s2 with heap := h' } := I2.kept (t' := s2.toks) hkeep
  have hal : a < s2.heap.objs.size := p'.lt
  refine ⟨s2.heap.objs.size + 1, [s2.heap.objs.size + 1, s2.heap.objs.size], _, _, H2, rfl, I3, turn_enumS k a (s2.heap.objs.size + 1) s2.heap.objs.size, ⟨⟨.none, by rw [show k + ((0 : Nat) : Int) = k by omega]; exact he'⟩, ⟨_, hit, rfl, rfl⟩, Nat.succ_ne_self _, Nat.ne_of_lt hal, Nat.ne_of_lt (Nat.lt_succ_of_lt hal)⟩, fun b hb => ?_, q⟩
  have hle : s2.heap.objs.size ≤ b := by
    rcases List.mem_cons.mp hb with z | z
    · rw [z]
      exact Nat.le_succ _
    · rw [List.mem_singleton.mp z]
      exact Nat.le_refl _
  exact I2.fpOk hle (I2.hok.fresh hle)
theorem walk_enumS {K : PySem.W.Frag} {a : Addr} {k : Int} {xs : List V} : Walk (IteS K a k) xs.length (fun H => SqL K H a xs) (YPair (fun i => some (.int (k + (i : Nat)))) (fun i => xs[i]?)) := by
  refine ⟨fun i _ hi q => ⟨xs, xs[i], q, by simp [hi]⟩, fun _ q => ⟨xs, q, Nat.le_refl _⟩, fun i H v H' _ q y => ?_⟩
  rcases y with ⟨T, x, h1, h2, h3, h4⟩
  exact ⟨T, .int (k + (i : Nat)), x, h1, h2, h3, rfl, h4 xs q⟩
def fEnumS (K : PySem.W.Frag) (tk : TA) (R : It → Hp → Prop) (σ : L2.St) : List V → Hp → Prop := fun vs H1 => tk σ H1 fun ws H2 => ∃ a xs k, vs = [.ref a] ∧ ws = [.int k] ∧ SqL K H2 a xs ∧ -(2 ^ 62) ≤ k ∧ k < 2 ^ 62 ∧ R (IteS K a k) H2
def fEnumS2 (K : PySem.W.Frag) (vs : List V) (R : It → Hp → Prop) : List V → Hp → Prop := fun ws H2 => ∃ a xs k, vs = [.ref a] ∧ ws = [.int k] ∧ SqL K H2 a xs ∧ -(2 ^ 62) ≤ k ∧ k < 2 ^ 62 ∧ R (IteS K a k) H2
section
variable {K : PySem.W.Frag} {ta tk : TA} {σ : L2.St} {H : Hp} {R : It → Hp → Prop} {vs : List V} {a : Addr} {xs : List V} {k : Int}
theorem e_enumS : iEnumS K ta tk σ H R = ta σ H (fEnumS K tk R σ) := rfl
theorem e_enumS1 : fEnumS K tk R σ vs H = tk σ H (fEnumS2 K vs R) := rfl
theorem k_enumS (h : SqL K H a xs) (h1 : -(2 ^ 62) ≤ k) (h2 : k < 2 ^ 62) (q : R (IteS K a k) H) : fEnumS2 K [.ref a] R [.int k] H := ⟨a, xs, k, rfl, rfl, h, h1, h2, q⟩
end
/-! ### zip of two tuples -/
def fZipA (K : PySem.W.Frag) (R : It → Hp → Prop) : List V → Hp → Prop := fun vs H1 => ∃ a b xs ys, vs = [.ref a, .ref b] ∧ ((SqL K H1 a xs ∧ SqL K H1 b ys ∧ R (Itz K a b) H1) ∨ (SqT K H1 a xs ∧ SqT K H1 b ys ∧ R (RZ.ItzT K a b) H1))
theorem pi_zipAk {X : Cx} (K : PySem.W.Frag) {e e2 : Expr} {ta : TA} {p pos tpos : Pos} {elts : List Expr} {kk : Nat} (hg : Gl X "zip") (hm : X.mg "zip" = none) (ha : PA X [e, e2] ta) (hK : X.K = K := by rfl)
    (hs : starEach [e, e2] X.env = (false, eval e X.env) :: starEach [e2] X.env := by rfl) (hpl : (backTo pos (starEach [e2] X.env)).any (·.1) = false := by rfl) :
    PI X (.Tuple elts kk tpos) (.Call (.Name "zip" p) [e, e2] [] pos) (RZ.iZipA K ta) := by
  subst hK
  exact RZ.pi_zipA hg hm ha hs hpl
section
variable {K : PySem.W.Frag} {ta : TA} {σ : L2.St} {H : Hp} {R : It → Hp → Prop} {a b : Addr} {xs ys : List V}
theorem e_zipA : RZ.iZipA K ta σ H R = ta σ H (fZipA K R) := rfl
theorem k_zipT (h1 : SqT K H a xs) (h2 : SqT K H b ys) (q : R (RZ.ItzT K a b) H) : fZipA K R [.ref a, .ref b] H := ⟨a, b, xs, ys, rfl, .inr ⟨h1, h2, q⟩⟩
theorem k_zipL (h1 : SqL K H a xs) (h2 : SqL K H b ys) (q : R (Itz K a b) H) : fZipA K R [.ref a, .ref b] H := ⟨a, b, xs, ys, rfl, .inl ⟨h1, h2, q⟩⟩
theorem walk_zipT {n : Nat} (hn : n = min xs.length ys.length) : Walk (RZ.ItzT K a b) n (fun H => SqT K H a xs ∧ SqT K H b ys) (YPair (fun i => xs[i]?) (fun i => ys[i]?)) := by
  subst hn
  refine ⟨fun i _ hi q => ?_, fun _ q => ⟨xs, ys, q.1, q.2, Nat.le_total xs.length ys.length |>.elim (fun h => .inl (by omega)) fun h => .inr (by omega)⟩, fun i H v H' _ q y => ?_⟩
  · have l1 : i < xs.length := by omega
    have l2 : i < ys.length := by omega
    exact ⟨xs, ys, xs[i], ys[i], q.1, q.2, List.getElem?_eq_getElem l1, List.getElem?_eq_getElem l2⟩
  · rcases y with ⟨T, x, z, h1, h2, h3, h4, h5⟩
    exact ⟨T, x, z, h1, h2, h3, h4 _ q.1, h5 _ q.2⟩
end
/-! ### a dict that the top has written -/
def rInKd (K : PySem.W.Frag) (w : World) (neg : Bool) : R2 := fun x y H Q => ∃ (z : Str) (d : Addr) (es : Array DictEntry) (n : Nat) (r : Option Value), x = .str z ∧ y = .ref d ∧ KDict K w d es n ∧ PySem.W.nsIn K d z = some r ∧ Q (.bl (if neg then !r.isSome else r.isSome)) H
theorem op_inKd {X : Cx} (K : PySem.W.Frag) (w : World) (hK : X.K = K := by rfl) (hw : X.w = w := by rfl) : OpR X (compareOp .In) (rInKd K w false) := by
  subst hK hw
  intro pins s σ H x y v u Q I rx ry h
  obtain ⟨z, d, es, n, r, rfl, rfl, D, e, q⟩ := h
  exact op_in_kd D pins s σ H _ _ v u Q I rx ry ⟨z, r, rfl, rfl, e, q⟩
theorem op_ninKd {X : Cx} (K : PySem.W.Frag) (w : World) (hK : X.K = K := by rfl) (hw : X.w = w := by rfl) : OpR X (compareOp .NotIn) (rInKd K w true) := by
  subst hK hw
  intro pins s σ H x y v u Q I rx ry h
  obtain ⟨z, d, es, n, r, rfl, rfl, D, e, q⟩ := h
  exact op_notIn_kd D pins s σ H _ _ v u Q I rx ry ⟨z, r, rfl, rfl, e, q⟩
theorem ix_kd {X : Cx} (K : PySem.W.Frag) (w : World) (hK : X.K = K := by rfl) (hw : X.w = w := by rfl) : IxR X (rIxD K w) := by
  subst hK hw
  exact ix_kdict
section
variable {K : PySem.W.Frag} {w : World} {H : Hp} {Q : VK} {z : Str} {d t : Addr} {es : Array DictEntry} {n : Nat} {r : Option Value} {neg : Bool}
theorem k_inKd (D : KDict K w d es n) (e : PySem.W.nsIn K d z = some r) (q : Q (.bl (if neg then !r.isSome else r.isSome)) H) : fOp2 (rInKd K w neg) (.str z) Q (.ref d) H := ⟨z, d, es, n, r, rfl, rfl, D, e, q⟩
theorem k_ixKd (D : KDict K w d es n) (e : PySem.W.nsIn K d z = some (some (.ref t))) (q : Q (.ref t) H) : fOp2 (rIxD K w) (.ref d) Q (.str z) H := ⟨d, z, .ref t, rfl, rfl, ⟨es, n, .ref t, D.at_, D.lit, e, rfl⟩, q⟩
end
structure DictW (K : PySem.W.Frag) (w : World) (a : Addr) (rows : List (Str × List Str)) : Prop where
  dict : ∃ es n, KDict K w a es n
  row : ∀ p ∈ rows, ∃ t, PySem.W.nsIn K a p.1 = some (some (.ref t)) ∧ ∀ H, SqT K H t (p.2.map V.str)
theorem fm_nil {α : Type} {R : α → Prop} : ∀ p ∈ ([] : List α), R p := fun _ h => absurd h List.not_mem_nil
theorem fm_cons {α : Type} {R : α → Prop} {x : α} {r : List α} (h : R x) (t : ∀ p ∈ r, R p) : ∀ p ∈ x :: r, R p := fun p m => (List.mem_cons.mp m).elim (fun e => by rw [e]; exact h) (t p)
/-! ### texts -/
theorem k_starts {H : Hp} {Q : VK} {a b : Str} (q : Q (.bl (Txt.startswith a b)) H) : fBM2 (fun x xs H Q => ∃ a b, x = V.str a ∧ xs = [V.str b] ∧ Q (.bl (Txt.startswith a b)) H) (.str a) Q [.str b] H := ⟨a, b, rfl, rfl, q⟩
theorem k_rmpre {H : Hp} {Q : VK} {a b : Str} (hl : a.length ≤ 100000) (q : Q (.str (Txt.removeprefix a b)) H) : fBM2 (fun x xs H Q => ∃ a b, x = V.str a ∧ xs = [V.str b] ∧ a.length ≤ sizeLine ∧ Q (.str (Txt.removeprefix a b)) H) (.str a) Q [.str b] H := ⟨a, b, rfl, rfl, Nat.le_trans hl (by decide), q⟩
theorem k_accM {Nx : Hp → Prop} {l : Addr} {v : V} {H : Hp} {acc : List V} (h : H l = some (.lst acc)) (hl : acc.length < 1000000) (q : Nx (upd H l (.lst (acc ++ [v])))) : fAcc l Nx v H := ⟨acc, h, Nat.lt_of_lt_of_le hl (by decide), q⟩
theorem e_lc2 {wi : TI} {g : TG} {tt : TT} {te : TE} {n m : Nat} {σ : L2.St} {H : Hp} {Q : VK} : tLc wi g tt te ((n : Nat) :: (m : Nat) :: []) σ H Q = wi σ H (fLc g tt te [n, m] σ Q) := rfl
theorem k_slT1 {K : PySem.W.Frag} {H : Hp} {Q : VK} {a : Addr} {xs : List V} {lo hi : Option Int} (h : SqT K H a xs) (q : ∀ (p : Addr) (H' : Hp), Same H H' → SqT K H' p (cutV xs lo hi) → Q (.ref p) H') : rSlU K (.ref a) lo hi H Q := k_slT h q
/-! ### a call with keywords -/
def fCallK (sp : Sp) (gV : List V → List V → List V) (E : XK) (tk : TA) (σ : L2.St) (Q : VK) : List V → Hp → Prop := fun vs H1 => tk σ H1 fun zs H2 => sp (gV vs zs) H2 Q E
def fCallK2 (sp : Sp) (gV : List V → List V → List V) (E : XK) (vs : List V) (Q : VK) : List V → Hp → Prop := fun zs H2 => sp (gV vs zs) H2 Q E
theorem e_callK {sp : Sp} {gV : List V → List V → List V} {E : XK} {t tk : TA} {σ : L2.St} {H : Hp} {Q : VK} : tCallK sp gV E t tk σ H Q = t σ H (fCallK sp gV E tk σ Q) := rfl
theorem e_callK1 {sp : Sp} {gV : List V → List V → List V} {E : XK} {tk : TA} {σ : L2.St} {H : Hp} {Q : VK} {vs : List V} : fCallK sp gV E tk σ Q vs H = tk σ H (fCallK2 sp gV E vs Q) := rfl
theorem e_callK2 {sp : Sp} {gV : List V → List V → List V} {E : XK} {H : Hp} {Q : VK} {vs zs : List V} : fCallK2 sp gV E vs Q zs H = sp (gV vs zs) H Q E := rfl
/-- one value by its place, one by its name -/
def kb2 {α : Type} : List α → List α → List α
  | [a], [b] => [a, b]
  | _, _ => []
theorem kb2_rel {vs : List V} {us : List Value} {zs : List V} {ws : List Value} (h : Vals vs us) (k : Vals zs ws) : Vals (kb2 vs zs) (kb2 us ws) := by
  cases h with
  | nil => cases k <;> exact .nil
  | cons a t =>
    cases t with
    | cons b t => cases k <;> exact .nil
    | nil =>
      cases k with
      | nil => exact .nil
      | cons c t =>
        cases t with
        | nil => exact .cons a (.cons c .nil)
        | cons d t => exact .nil
theorem k_dgetS {H : Hp} {Q : VK} {a : Addr} {kvs : List (Key × V)} {z : Str} {v : V} (e : Rd H a (.dK kvs)) (h : valV kvs (Sum.inr z) = some v) (q : Q v H) : fGet2 (.ref a) Q (.str z) H := ⟨a, v, rfl, .inl ⟨kvs, Sum.inr z, e, rfl, h.symm⟩, q⟩
end Y

set_option Elab.async false
set_option linter.all false
set_option maxRecDepth 100000
set_option maxHeartbeats 2000000
namespace Y
open PySem L2 PySem.Spec PyProof.Rows
/-! ### d.get(k, x), where k may be None -/
theorem d_getNone {X : Cx} {pins : List (Addr × Obj)} {σ : L2.St} {H : Hp} {s : Shared} {a : Addr} {kvs : List (Key × V)} {A : Around} {E : Value → Shared → Prop} {z : V} {r : Value} {Q : Value → Shared → Prop} (I : Inv X pins σ H s) (e : Rd H a (.dK kvs)) (rd : RelV z r) (h : ∀ w' s', Inv X pins σ H s' → RelV z w' → Q w' s') :
    wpAny (model X.prog X.w) A (call (.builtin "dict.get") [.ref a, .none, r]) Q E s := by
  obtain ⟨_, hd, vs, _, dd⟩ := dk_rd I.hok e
  obtain ⟨f, hm, hf⟩ := none_map dd
  refine call_meetsIn PySem.F.slot_dict_get dd.typeIs PySem.F.entry_dict_get (PySem.F.args_dict_get_3 _ _ _) (meets_dict_get_default (noneKind X.prog X.w) a (show (noneKind X.prog X.w).is none .none = true from rfl) hd r) ⟨_, hm, ?_⟩
  rw [hf]
  exact h _ _ (I.tok _) rd
def rGetN (H3 : Hp) (a : Addr) (y z : V) (Q : VK) : Prop := (∃ o, DGet H3 a y o ∧ Q (o.getD z) H3) ∨ ∃ kvs, y = .non ∧ Rd H3 a (.dK kvs) ∧ Q z H3
def tGetN (td ty tx : TE) : TE := fun σ H Q => td σ H fun x H1 => ∃ a, x = .ref a ∧ IsD H1 a ∧ ty σ H1 fun y H2 => tx σ H2 fun z H3 => rGetN H3 a y z Q
theorem pe_getN {X : Cx} {o e f : Expr} {apos cpos : Pos} {td ty tx : TE} (hu : X.A.units + 1 < cLine) (ho : PE X o td) (he : PE X e ty) (hf : PE X f tx) (m : M2 X o "get" apos e f cpos) : PE X (.Call (.Attribute o "get" apos) [e, f] [] cpos) (tGetN td ty tx) := by
  refine ⟨fun pins s σ H Q I h => ?_⟩
  refine wpAny_Call_method m.base m.few m.line PySem.F.plainAttrs_dict PySem.F.slot_dict_get PySem.F.type_dict_get (thn (ho.run pins s σ H _ I h) fun u s1 ⟨x, H1, I1, rx, a, ex, d, q1⟩ => ?_)
  subst ex
  obtain rfl : u = Value.ref a := rx
  obtain ⟨t1, t2, _⟩ := isD_at I1 d
  refine ⟨t1, t2, ?_⟩
  rw [m.trees]
  refine Calls.callWith_builtin rfl (Calls.evalArgs_plain (Calls.spliced_cons (thn (he.run pins s1 σ H1 _ I1 q1) fun iv s2 ⟨y, H2, I2, ry, q2⟩ =>
    Calls.spliced_cons (thn (hf.run pins s2 σ H2 _ I2 q2) fun fv s3 ⟨z, H3, I3, rz, g⟩ => Calls.spliced_nil ?_))))
  rcases g with ⟨ov, g, q3⟩ | ⟨kvs, ey, g, q3⟩
  · exact d_get2 hu I3 g ry rz fun w' s4 I4 rw' => ⟨_, H3, I4, rw', q3⟩
  · subst ey
    obtain rfl : iv = Value.none := ry
    exact d_getNone I3 g rz fun w' s4 I4 rw' => ⟨z, H3, I4, rw', q3⟩
section
variable {td ty tx : TE} {σ : L2.St} {H : Hp} {Q : VK} {a : Addr} {y z : V} {kvs : List (Key × V)} {i : Int}
def fGetN (ty tx : TE) (σ : L2.St) (Q : VK) : VK := fun x H1 => ∃ a, x = .ref a ∧ IsD H1 a ∧ ty σ H1 fun y H2 => tx σ H2 fun z H3 => rGetN H3 a y z Q
def fGetN2 (a : Addr) (tx : TE) (σ : L2.St) (Q : VK) : VK := fun y H2 => tx σ H2 fun z H3 => rGetN H3 a y z Q
def fGetN3 (a : Addr) (y : V) (Q : VK) : VK := fun z H3 => rGetN H3 a y z Q
theorem e_getN : tGetN td ty tx σ H Q = td σ H (fGetN ty tx σ Q) := rfl
theorem k_getN (e : Rd H a (.dK kvs)) (q : ty σ H (fGetN2 a tx σ Q)) : fGetN ty tx σ Q (.ref a) H := ⟨a, rfl, .inl ⟨kvs, e⟩, q⟩
theorem e_getN2 : fGetN2 a tx σ Q y H = tx σ H (fGetN3 a y Q) := rfl
theorem k_getN3I (e : Rd H a (.dK kvs)) (q : Q ((valV kvs (Sum.inl i)).getD z) H) : fGetN3 a (.int i) Q z H := .inl ⟨_, .inl ⟨kvs, Sum.inl i, e, rfl, rfl⟩, q⟩
theorem k_getN3N (e : Rd H a (.dK kvs)) (q : Q z H) : fGetN3 a .non Q z H := .inr ⟨kvs, rfl, e, q⟩
/-! ### d.pop(k), k there -/
def fPop1 (ty : TE) (σ : L2.St) (Q : VK) : VK := fun x H1 => ∃ a, x = .ref a ∧ IsD H1 a ∧ ty σ H1 fun y H2 => ∃ kvs k v, H2 a = some (.dK kvs) ∧ y = kV k ∧ valV kvs k = some v ∧ Q v (upd H2 a (.dK (dropK kvs k)))
def fPop2 (a : Addr) (Q : VK) : VK := fun y H2 => ∃ kvs k v, H2 a = some (.dK kvs) ∧ y = kV k ∧ valV kvs k = some v ∧ Q v (upd H2 a (.dK (dropK kvs k)))
theorem e_pop1 : tDPop1 td ty σ H Q = td σ H (fPop1 ty σ Q) := rfl
theorem k_pop1 (e : Rd H a (.dK kvs)) (q : ty σ H (fPop2 a Q)) : fPop1 ty σ Q (.ref a) H := ⟨a, rfl, .inl ⟨kvs, e⟩, q⟩
theorem k_pop2I {v : V} (e : H a = some (.dK kvs)) (h : valV kvs (Sum.inl i) = some v) (q : Q v (upd H a (.dK (dropK kvs (Sum.inl i))))) : fPop2 a Q (.int i) H := ⟨kvs, Sum.inl i, v, e, rfl, h, q⟩
/-! ### list(d): its keys -/
def rListD : List V → Hp → VK → Prop := fun xs H Q => ∃ (a : Addr) (kvs : List (Key × V)), xs = [.ref a] ∧ Rd H a (.dK kvs) ∧ ∀ p, H p = none → Q (.ref p) (upd H p (.lst (kvs.map fun kv => kV kv.1)))
theorem call_listDk {X : Cx} (hcalm : X.calm = true := by rfl) : CallR X (.type "list") rListD := call_listD hcalm
theorem k_listD (e : Rd H a (.dK kvs)) (q : ∀ p, H p = none → Q (.ref p) (upd H p (.lst (kvs.map fun kv => kV kv.1)))) : fCB rListD Q [.ref a] H := ⟨a, kvs, rfl, e, q⟩
/-! ### the keys of a dict that is held -/
def fKeys (R : It → Hp → Prop) : VK := fun x H1 => ∃ d o, x = .ref d ∧ ((∃ kvs, H1 d = some (.frz o (.dK kvs)) ∧ R (Itk d o kvs) H1) ∨ ∃ kvs, H1 d = some (.frz o (.dT kvs)) ∧ R (Itkt d o kvs) H1)
theorem e_keys {R : It → Hp → Prop} : iKeys td σ H R = td σ H (fKeys R) := rfl
theorem k_keys {R : It → Hp → Prop} {o : Obj} (h : H a = some (.frz o (.dK kvs))) (q : R (Itk a o kvs) H) : fKeys R (.ref a) H := ⟨a, o, rfl, .inl ⟨kvs, h, q⟩⟩
end
/-! ### a cut of a text -/
theorem sl_txtk {X : Cx} : SlR X C8.rSlX := C8.sl_txt
theorem k_slX {z : Str} {lo hi : Option Int} {H : Hp} {Q : VK} (hl : z.length ≤ 100000) (q : Q (.str (Txt.slice z lo hi)) H) : C8.rSlX (.str z) lo hi H Q := ⟨z, rfl, Nat.le_trans hl (by decide), q⟩
/-! ### a dict display -/
def fDP (tv : TE) (r : List (TE × TE)) (σ : L2.St) (Q : List (V × V) → Hp → Prop) : VK := fun x H1 => tv σ H1 fun y H2 => tPairs r σ H2 fun ps H3 => Q ((x, y) :: ps) H3
def fDP2 (x : V) (r : List (TE × TE)) (σ : L2.St) (Q : List (V × V) → Hp → Prop) : VK := fun y H2 => tPairs r σ H2 fun ps H3 => Q ((x, y) :: ps) H3
theorem e_dp {tk tv : TE} {r : List (TE × TE)} {σ : L2.St} {H : Hp} {Q : List (V × V) → Hp → Prop} : tPairs ((tk, tv) :: r) σ H Q = tk σ H (fDP tv r σ Q) := rfl
theorem e_dp1 {tv : TE} {r : List (TE × TE)} {σ : L2.St} {H : Hp} {Q : List (V × V) → Hp → Prop} {x : V} : fDP tv r σ Q x H = tv σ H (fDP2 x r σ Q) := rfl
theorem e_dp2 {r : List (TE × TE)} {σ : L2.St} {H : Hp} {Q : List (V × V) → Hp → Prop} {x y : V} : fDP2 x r σ Q y H = tPairs r σ H (fun ps H3 => Q ((x, y) :: ps) H3) := rfl
theorem e_dp0 {σ : L2.St} {H : Hp} {Q : List (V × V) → Hp → Prop} : tPairs [] σ H Q = Q [] H := rfl
def fDisp (p : Addr) (Q : VK) : List (V × V) → Hp → Prop := fun ps H2 => H2 p = some (.dK []) ∧ ∃ kvs : List (Key × V), ps = kvs.map (fun kv => (kV kv.1, kv.2)) ∧ kvs.length ≤ 15 ∧ Q (.ref p) (upd H2 p (.dK (mergeK [] kvs)))
theorem k_disp {trs : List (TE × TE)} {σ : L2.St} {H : Hp} {Q : VK} (q : ∀ p, H p = none → tPairs trs σ (upd H p (.dK [])) (fDisp p Q)) : tDisp trs σ H Q := q
end Y

set_option Elab.async false
set_option linter.all false
set_option maxRecDepth 100000
set_option maxHeartbeats 2000000
namespace Y
open PySem L2 PySem.Spec PyProof.Rows
/-! ### a call of a function that a name of one's own holds -/
def tCallV (i : Nat) (f : Addr) (sp : Sp) (E : XK) (t : TA) : TE := fun σ H Q => σ[i]? = some (some (.ref f)) ∧ t σ H fun vs H1 => sp vs H1 Q E
theorem pe_callV {X : Cx} {CX : CXT} {k i : Nat} {f : Addr} {fd : FuncData} {ps : List Str} {sp : Sp} {E : XK} {x : Str} {p pos : Pos} {e : Expr} {es : List Expr} {t : TA} (F : FnOk X.prog X.w X.K X.mg X.base CX k f fd ps sp) (hr : Room k X.A) (hN : X.N[i]? = some x) (hv : Vis X.env.scope x) (hk : PySem.W.keepIn X.K (.ref f) = true) (hb : Binds X.K fd ps []) (hx : Passes CX X E)
    (ha : PA X (e :: es) t) (hdb : (x == ("__debug__" : Str)) = false := by decide) (hcd : (x == ("__classdict__" : Str)) = false := by decide) (he : starEach (e :: es) X.env = (false, eval e X.env) :: starEach es X.env := by rfl) (hpl : (backTo pos (starEach es X.env)).any (·.1) = false := by rfl) :
    PE X (.Call (.Name x p) (e :: es) [] pos) (tCallV i f sp E t) := by
  refine ⟨fun pins s σ H Q I h => ?_⟩
  obtain ⟨e1, h⟩ := h
  refine wpAny_Call_Name_kw (thn ((pe_var hN hv hdb hcd).run pins s σ H (fun v H' => v = .ref f ∧ t σ H' fun vs H1 => sp vs H1 Q E) I ⟨_, e1, rfl, h⟩) fun u s1 ⟨v, H1, I1, r, ev, q⟩ => ?_)
  subst ev
  obtain rfl : u = Value.ref f := r
  refine PySem.W.callWith_K (h₀ := X.base) I1.ok.mod.kin hk (thn (ha.run pos pins s1 σ H1 _ I1 q) fun us s2 ⟨vs, H2, I2, r2, q2⟩ => ⟨I2.kIn, ?_⟩) he hpl
  exact run_fn F hr hb .nil hx I2 r2 (by rw [List.append_nil]; exact q2)
theorem e_callV {i : Nat} {f : Addr} {sp : Sp} {E : XK} {t : TA} {σ : L2.St} {H : Hp} {Q : VK} (h : σ[i]? = some (some (.ref f))) (q : t σ H (fCall sp [] E Q)) : tCallV i f sp E t σ H Q := ⟨h, by
  have e : fCall sp [] E Q = fun vs H1 => sp vs H1 Q E := by
    funext vs H1
    unfold fCall
    rw [List.append_nil]
  rw [← e]
  exact q⟩
/-! ### s.split(x) -/
def rSplitK : V → List V → Hp → VK → Prop := fun x xs H Q => ∃ a b, x = .str a ∧ xs = [.str b] ∧ (b.length == 0) = false ∧ a.length + 2 ≤ sizeLine ∧ rNewStrs (Txt.split a b) H Q
theorem pe_splitk {X : Cx} {o e : Expr} {to te : TE} {apos pos : Pos} (ho : PE X o to) (he : PE X e te) (hs : starEach [e] X.env = [(false, eval e X.env)] := by rfl) (hbase : attributeBase o "split" X.env (eval o X.env) = eval o X.env := by rfl) (hline : (apos.endLine == pos.line) = true := by rfl) :
    PE X (.Call (.Attribute o "split" apos) [e] [] pos) (tM1 rSplitK to te) := pe_split ho he hs hbase hline
theorem k_split {a b : Str} {H : Hp} {Q : VK} (hb : (b.length == 0) = false) (hl : a.length ≤ 100000) (q : ∀ p, H p = none → Q (.ref p) (upd H p (.lst ((Txt.split a b).map V.str)))) : rSplitK (.str a) [.str b] H Q :=
  ⟨a, b, rfl, rfl, hb, Nat.le_trans (Nat.add_le_add_right hl 2) (by decide), q⟩
/-! ### xs.reverse() -/
theorem e_bm0 {K : PySem.W.Frag} {T : String} {r : V → List V → Hp → VK → Prop} {to : TE} {σ : L2.St} {H : Hp} {Q : VK} : tBM0 K T r to σ H Q = to σ H (fBM0 K T r Q) := rfl
theorem k_bm0L {K : PySem.W.Frag} {r : V → List V → Hp → VK → Prop} {a : Addr} {xs : List V} {H : Hp} {Q : VK} (h : H a = some (.lst xs)) (q : r (.ref a) [] H Q) : fBM0 K "list" r Q (.ref a) H := ⟨.inl ⟨rfl, xs, SqL.of h⟩, q⟩
theorem k_rev {a : Addr} {xs : List V} {H : Hp} {Q : VK} (h : H a = some (.lst xs)) (q : Q .non (upd H a (.lst xs.reverse))) : rReverse (.ref a) [] H Q := ⟨a, xs, rfl, rfl, h, q⟩
end Y

set_option Elab.async false
set_option linter.all false
set_option maxRecDepth 100000
set_option maxHeartbeats 2000000
namespace Y
open PySem L2 PySem.Spec PyProof.Rows
/-! ### o.f as a target among others -/
def gFld (K : PySem.W.Frag) (to : TE) (f : Str) : TG := fun v σ H Q => to σ H fun x H1 => ∃ (a C dx : Addr) (fs : List (Str × V)), x = .ref a ∧ H1 a = some (.ins C dx fs) ∧ Cls K C ∧ NoAttr K C f ∧ fs.length < 1000 ∧ Q σ (upd H1 a (.ins C dx (putF f v fs)))
theorem pg_fld {X : Cx} {o : Expr} {to : TE} {f : Str} {pos : Pos} (ho : PE X o to) (ha : ∀ v, assign (.Attribute o f pos) X.env v = (do
      let ov ← holding [v] (eval o X.env)
      standAt pos.atName
      holding [v, ov] (setAttr ov f v)
      release [v, ov] []) := by intro _; rfl) : PG X (.Attribute o f pos) (gFld X.K to f) := by
  refine ⟨fun pins s σ H v u Q I r h => ?_⟩
  rw [ha]
  refine wpAny_bind (wpAny_holding (thn (ho.run pins s σ H _ I h) fun ov s1 ⟨x, H1, I1, r1, a, C, dx, fs, ex, ea, c, n, l, q⟩ => ?_))
  subst ex
  obtain rfl : ov = Value.ref a := r1
  refine wpAny_bind (wpAny_standAt (wpAny_bind (wpAny_holding ?_)))
  exact setattr_ok I1 ea c n l r fun s3 I3 => wpAny_release ⟨σ, _, I3, q⟩
end Y
namespace Y
open PySem L2 PySem.Spec PyProof.Rows
def fGF (K : PySem.W.Frag) (f : Str) (v : V) (σ : L2.St) (Q : L2.St → Hp → Prop) : VK := fun x H1 => ∃ (a C dx : Addr) (fs : List (Str × V)), x = .ref a ∧ H1 a = some (.ins C dx fs) ∧ Cls K C ∧ NoAttr K C f ∧ fs.length < 1000 ∧ Q σ (upd H1 a (.ins C dx (putF f v fs)))
theorem e_gfld {K : PySem.W.Frag} {to : TE} {f : Str} {v : V} {σ : L2.St} {H : Hp} {Q : L2.St → Hp → Prop} : gFld K to f v σ H Q = to σ H (fGF K f v σ Q) := rfl
theorem k_gfld {K : PySem.W.Frag} {f : Str} {v : V} {a C dx : Addr} {fs : List (Str × V)} {σ : L2.St} {H : Hp} {Q : L2.St → Hp → Prop} (h : H a = some (.ins C dx fs)) (c : Cls K C) (n : NoAttr K C f) (l : fs.length < 1000) (q : Q σ (upd H a (.ins C dx (putF f v fs)))) : fGF K f v σ Q (.ref a) H := ⟨a, C, dx, fs, rfl, h, c, n, l, q⟩
/-! ### del xs[a:] -/
theorem keep_take (its : List Value) (a : Nat) : ∀ (k : Nat), (its.zipIdx k).filterMap (fun (p : Value × Nat) => if (if (1 : Int) > 0 then decide ((a : Int) ≤ (p.2 : Int)) && decide ((p.2 : Int) < ((k + its.length : Nat) : Int)) && (((p.2 : Int) - a) % 1 == 0) else decide (((k + its.length : Nat) : Int) < (p.2 : Int)) && decide ((p.2 : Int) ≤ a) && (((a : Int) - p.2) % (-1) == 0)) = true then none else some p.1) = its.take (a - k) := by
  induction its with
  | nil => intro k; simp
  | cons x its ih =>
    intro k
    rw [List.zipIdx_cons]
    have e : k + (x :: its).length = (k + 1) + its.length := by rw [List.length_cons]; omega
    rw [e]
    by_cases h : a ≤ k
    · rw [List.filterMap_cons_none]
      · rw [ih (k + 1), show a - (k + 1) = 0 by omega, show a - k = 0 by omega]
        rfl
      · rw [if_pos]
        rw [if_pos (by decide)]
        simp only [Int.emod_one, beq_self_eq_true, Bool.and_true, Bool.and_eq_true, decide_eq_true_eq]
        omega
    · rw [List.filterMap_cons_some (b := x)]
      · rw [ih (k + 1), show a - k = (a - (k + 1)) + 1 by omega]
        rfl
      · rw [if_neg]
        rw [if_pos (by decide)]
        simp only [Int.emod_one, beq_self_eq_true, Bool.and_true, Bool.and_eq_true, decide_eq_true_eq]
        omega
theorem bounds_from {a n : Nat} (ha : a ≤ n) : sliceBounds (some (a : Int)) none none n = ((a : Int), (n : Int), 1) := by
  simp only [sliceBounds, Option.getD_none]
  have h1 : ¬ ((a : Int) < 0) := by omega
  simp only [h1, if_false, show (1 : Int) > 0 by decide, if_true]
  congr 1
  omega
section
variable {prog : Program} {w : World} {A : Around} {E : Value → Shared → Prop} {s : Shared}
set_option maxRecDepth 100000 in
theorem delItem_from {l sl : Addr} {its : List Value} {n : Nat} {vl : Value} {a : Nat} {Q : Unit → Shared → Prop}
    (e : s.heap.get? l = some { cls := .type "list", data := .seq its.toArray n }) (hs : s.heap.IsSliceOf sl vl .none .none) (pl : IsPart vl (some (a : Int))) (ha : a ≤ its.length) (hsz : its.length ≤ sizeLine)
    (h : ∀ f : Array Value → Array Value, f its.toArray = (its.take a).toArray → Q () { s with heap := s.heap.update l (Obj.mapSeq f) }) :
    wpAny (model prog w) A (delItem (.ref l) (.ref sl)) Q E s := by
  have hl : s.heap.IsList l its.toArray := PySem.IsL.isList e
  obtain ⟨os, hos, hcs, hds⟩ := id hs
  have hTs : s.TypeIs (.ref sl) "slice" := ⟨os, hos, hcs⟩
  have hstep : ¬ ((rawPart none == rawInt 0) = true) := Bool.false_ne_true
  unfold delItem
  refine wpAny_holding ?_
  refine wpAny_bind (wpAny_sequenceKey hl.typeIs (by decide) ?_)
  refine wpAny_bind (wpAny_callSpecial?_slot (name := Str.ofString "__delitem__") hl.typeIs F.slot_list_delitem
    (wpAny_call_entry F.slot_list_delitem hl.typeIs F.entry_list_delitem ?_ (F.args_list_delitem_2 _ _)))
  show wpAny _ _ (Builtin.List.listSubscript? (.ref sl) >>= _) _ _ s
  refine wpAny_bind ?_
  unfold Builtin.List.listSubscript?
  refine wpAny_bind (wpAny_specialOf hTs slice_no_index ?_)
  simp only [Option.isNone_none, if_true]
  refine wpAny_pure ?_
  show wpAny _ _ (typeOf (.ref sl) >>= _) _ _ s
  refine wpAny_bind (wpAny_typeOf hTs ?_)
  first
    | rw [if_neg (by decide)]
    | refine PySem.W.KFB.if_not (by decide) ?_
  rw [listSliceParts_eq]
  refine wpAny_bind (wpAny_bind (wpAny_field hos hds (x := .none) rfl (wpAny_bind (wpAny_listPart .none ?_))))
  rw [if_neg hstep]
  refine wpAny_bind (wpAny_field hos hds (x := vl) rfl (wpAny_bind (wpAny_listPart pl ?_)))
  refine wpAny_bind (wpAny_field hos hds (x := .none) rfl (wpAny_bind (wpAny_listPart .none (wpAny_pure ?_))))
  refine wpAny_bind (m := Builtin.List.listItems (.ref l)) ?_
  unfold Builtin.List.listItems
  refine wpAny_bind (wpAny_seqItems e rfl (wpAny_pure ?_))
  refine wpAny_bind (wpAny_of_eq ((sliceIndices_raw (some (a : Int)) none none its.toArray.size (by simp)).trans (congrArg (pure : Int × Int × Int → Sem (Int × Int × Int)) (bounds_from (by rw [List.size_toArray]; exact ha)))) ?_)
  refine wpAny_bind (wpAny_rule ?_)
  have key : (fun xs : Array Value => (xs.toList.zipIdx.filterMap fun (p : Value × Nat) => if (if (1 : Int) > 0 then decide ((a : Int) ≤ (p.2 : Int)) && decide ((p.2 : Int) < ((its.toArray.size : Nat) : Int)) && (((p.2 : Int) - a) % 1 == 0) else decide (((its.toArray.size : Nat) : Int) < (p.2 : Int)) && decide ((p.2 : Int) ≤ a) && (((a : Int) - p.2) % (-1) == 0)) = true then none else some p.1).toArray) its.toArray = (its.take a).toArray := by
    have := keep_take its a 0
    rw [Nat.zero_add, Nat.sub_zero] at this
    show (List.filterMap _ its.zipIdx).toArray = _
    rw [List.size_toArray]
    exact congrArg _ this
  refine wpAny_bind (m := updateSeq l _) (wpAny_updateSeq (f := fun xs : Array Value => (xs.toList.zipIdx.filterMap fun (p : Value × Nat) => if (if (1 : Int) > 0 then decide ((a : Int) ≤ (p.2 : Int)) && decide ((p.2 : Int) < ((its.toArray.size : Nat) : Int)) && (((p.2 : Int) - a) % 1 == 0) else decide (((its.toArray.size : Nat) : Int) < (p.2 : Int)) && decide ((p.2 : Int) ≤ a) && (((a : Int) - p.2) % (-1) == 0)) = true then none else some p.1).toArray) (hz := by rw [List.size_toArray]; exact hsz) (_hz' := Nat.le_trans (Nat.le_of_eq (congrArg Array.size key)) (by
    rw [List.size_toArray, List.length_take]
    omega)) e rfl ?_)
  refine wpAny_bind (wpAny_letGo ?_)
  first
    | exact wpAny_bind (wpAny_pure (wpAny_pure ⟨.none, rfl, wpAny_pure (h _ key)⟩))
    | exact wpAny_pure ⟨.none, rfl, wpAny_pure (h _ key)⟩
end
def tDelFrom (to : TE) (tl : TO) : TS := fun D σ H => to σ H fun x H1 => tl σ H1 fun o H2 => ∃ (l : Addr) (xs : List V) (a : Nat), x = .ref l ∧ o = some (a : Int) ∧ H2 l = some (.lst xs) ∧ a ≤ xs.length ∧ D.nx σ (upd H2 l (.lst (xs.take a)))
theorem ps_delFrom {X : Cx} {o : Expr} {lo : Option Expr} {to : TE} {tl : TO} {p2 tpos pos : Pos} (ho : PE X o to) (hl : PO X lo tl) : PS X (.Delete [.Subscript o (.Slice lo none none p2) tpos] pos) (tDelFrom to tl) := by
  refine ⟨fun pins s σ H D I h => ?_⟩
  refine wpAny_Delete (wpAny_deleteEach_cons (wpAny_delete_Subscript (thn (ho.run pins s σ H _ I h) fun u s1 ⟨x, H1, I1, rx, q1⟩ => wpAny_Slice (thn (hl.run pins s1 σ H1 _ I1 q1) fun vl s2 ⟨k, H2, I2, pl, q2⟩ => ?_))))
  rw [evalPart_none]
  refine wpAny_pure (wpAny_pure ?_)
  obtain ⟨l, xs, a, ex, ek, hH, ha, q⟩ := q2
  subst ex
  subst ek
  obtain rfl : u = Value.ref l := rx
  have I3 : Inv X pins σ H2 { s2 with heap := s2.heap.push { cls := .type "slice", data := .fields #[vl, .none, .none] } } := I2.kept (t' := s2.toks) fun b ob q => Heap.get?_push_of_some _ q
  obtain ⟨z, its, n, r, hz, e⟩ := I3.lstM hH
  have hlen := r.length
  refine delItem_from e (Heap.IsSliceOf.new ..) pl (by omega) (by omega) fun f hf => wpAny_deleteEach_nil ⟨σ, _, ?_, q⟩
  exact I3.lset (its' := its.take a) (t' := s2.toks) hH e hf (r.take a) (by rw [List.length_take]; omega)
def fDF (tl : TO) (D : Ends) (σ : L2.St) : VK := fun x H1 => tl σ H1 fun o H2 => ∃ (l : Addr) (xs : List V) (a : Nat), x = .ref l ∧ o = some (a : Int) ∧ H2 l = some (.lst xs) ∧ a ≤ xs.length ∧ D.nx σ (upd H2 l (.lst (xs.take a)))
theorem e_delF {to : TE} {tl : TO} {D : Ends} {σ : L2.St} {H : Hp} : tDelFrom to tl D σ H = to σ H (fDF tl D σ) := rfl
/-! ### o.f, f a property -/
theorem pe_propk {X : Cx} {CX : CXT} {k : Nat} {C p g : Addr} {f : Str} {fd : FuncData} {ps : List Str} {sp : Sp} {e : Expr} {pos : Pos} {ta : TE} (he : PE X e ta) (c : Cls X.K C) (hp : PropOf X.K C f p g) (F : FnOk X.prog X.w X.K X.mg X.base CX k g fd ps sp) (hr : Room (k + 1) X.A) (hb : Binds X.K fd ps []) (hx : Passes CX X.nox E0)
    (hab : attributeBase e f X.env (eval e X.env) = eval e X.env := by rfl) : PE X (.Attribute e f pos) (tProp C sp [] E0 ta) := pe_prop he c hp F hr hb .nil hx hab
def fProp (C : Addr) (sp : Sp) (Q : VK) : VK := fun x H1 => ∃ a dx fs, x = .ref a ∧ H1 a = some (.ins C dx fs) ∧ sp [.ref a] H1 Q E0
theorem e_prop {C : Addr} {sp : Sp} {ta : TE} {σ : L2.St} {H : Hp} {Q : VK} : tProp C sp [] E0 ta σ H Q = ta σ H (fProp C sp Q) := rfl
theorem k_prop {C a dx : Addr} {sp : Sp} {fs : List (Str × V)} {H : Hp} {Q : VK} (h : H a = some (.ins C dx fs)) (q : sp [.ref a] H Q E0) : fProp C sp Q (.ref a) H := ⟨a, dx, fs, rfl, h, q⟩
/-! ### dict(d) -/
def rDictD : List V → Hp → VK → Prop := fun xs H Q => ∃ (a : Addr) (kvs : List (Key × V)), xs = [.ref a] ∧ Rd H a (.dK kvs) ∧ ∀ p, H p = none → Q (.ref p) (upd H p (.dK kvs))
theorem call_dictDk {X : Cx} (hcalm : X.calm = true := by rfl) : CallR X (.type "dict") rDictD := call_dictD
theorem k_dictD {a : Addr} {kvs : List (Key × V)} {H : Hp} {Q : VK} (e : Rd H a (.dK kvs)) (q : ∀ p, H p = none → Q (.ref p) (upd H p (.dK kvs))) : fCB rDictD Q [.ref a] H := ⟨a, kvs, rfl, e, q⟩
/-! ### o.m(k = v) -/
def tMethK (C : Addr) (m : Str) (sp : Sp) (E : XK) (ta : TE) (tk : TA) : TE := fun σ H Q => ta σ H fun x H1 => ∃ a dx fs, x = .ref a ∧ H1 a = some (.ins C dx fs) ∧ fs.lookup m = none ∧ tk σ H1 fun zs H2 => sp (kb2 [.ref a] zs) H2 Q E
theorem pe_methK1 {X : Cx} {CX : CXT} {k : Nat} {C f : Addr} {fd : FuncData} {ps ks : List Str} {sp : Sp} {E : XK} {o : Expr} {m : Str} {apos pos : Pos} {kws : List Keyword} {ta : TE} {tk : TA} {pl : Sem Bool} (he : PE X o ta) (c : Cls X.K C) (hm : Meth X.K C m f) (F : FnOk X.prog X.w X.K X.mg X.base CX k f fd ps sp) (hr : Room k X.A) (hb : KBinds X.K fd ps ks kb2 kb2) (hx : Passes CX X E) (hkw : PK X kws tk)
    (hall : (backToKw pos (keywordEach kws X.env)).all (·.1.isSome) = true := by rfl) (hks : (backToKw pos (keywordEach kws X.env)).filterMap (·.1) = ks := by rfl)
    (hpl : ((backTo pos (starEach [] X.env)).any (·.1) || (backToKw pos (keywordEach kws X.env)).any (·.1.isNone)) = false := by rfl)
    (ht : eval (.Call (.Attribute o m apos) [] kws pos) X.env = (do
      let ov ← eval o X.env
      standAt apos.atName
      let (f, first) ← holding [ov] (getMethod ov m pl)
      callWith pos f first (backTo pos (starEach [] X.env)) (backToKw pos (keywordEach kws X.env))) := by rfl) :
    PE X (.Call (.Attribute o m apos) [] kws pos) (tMethK C m sp E ta tk) := by
  refine ⟨fun pins s σ H Q I h => ?_⟩
  refine PySem.W.methodCall_KW (pl := pl) (thn (he.run pins s σ H _ I h) fun u s1 ⟨x, H1, I1, rx, a, dx, fs, ex, ea, l, q⟩ => ?_) ht
  subst ex
  obtain rfl : u = Value.ref a := rx
  refine getmeth_ok I1 ea c hm l ?_
  refine PySem.W.callWith_KW0 (first := [.ref a]) (h₀ := X.base) I.ok.mod.kin hm.kp hall ?_ hpl
  refine thn (hkw.run pos pins s1 σ H1 _ I1 q) fun ws s2 ⟨zs, H2, I2, rz, q2⟩ => ⟨I2.kIn, ?_⟩
  rw [hks]
  exact run_fnk (us := [.ref a]) (vs := [.ref a]) F hr hb hx I2 (.cons rfl .nil) rz q2
def fMethK (C : Addr) (m : Str) (sp : Sp) (E : XK) (tk : TA) (σ : L2.St) (Q : VK) : VK := fun x H1 => ∃ a dx fs, x = .ref a ∧ H1 a = some (.ins C dx fs) ∧ fs.lookup m = none ∧ tk σ H1 (fCallK2 sp kb2 E [.ref a] Q)
theorem e_methK {C : Addr} {m : Str} {sp : Sp} {E : XK} {ta : TE} {tk : TA} {σ : L2.St} {H : Hp} {Q : VK} : tMethK C m sp E ta tk σ H Q = ta σ H (fMethK C m sp E tk σ Q) := rfl
theorem k_methK {C a dx : Addr} {m : Str} {sp : Sp} {E : XK} {tk : TA} {σ : L2.St} {fs : List (Str × V)} {H : Hp} {Q : VK} (h : H a = some (.ins C dx fs)) (l : fs.lookup m = none) (q : tk σ H (fCallK2 sp kb2 E [.ref a] Q)) : fMethK C m sp E tk σ Q (.ref a) H := ⟨a, dx, fs, rfl, h, l, q⟩
/-! ### a dict comprehension over items -/
def fItems (R : It → Hp → Prop) : VK := fun x H1 => ∃ d o kvs, x = .ref d ∧ H1 d = some (.frz o (.dK kvs)) ∧ R (Iti d o kvs) H1
theorem e_items {td : TE} {R : It → Hp → Prop} {σ : L2.St} {H : Hp} : iItems td σ H R = td σ H (fItems R) := rfl
theorem k_items {R : It → Hp → Prop} {d : Addr} {o : Obj} {kvs : List (Key × V)} {H : Hp} (h : H d = some (.frz o (.dK kvs))) (q : R (Iti d o kvs) H) : fItems R (.ref d) H := ⟨d, o, kvs, rfl, h, q⟩
def fDV (D : Addr) (Nx : Hp → Prop) (y : V) : VK := fun z H5 => ∃ kvs k, y = kV k ∧ H5 D = some (.dK kvs) ∧ kvs.length < sizeLine ∧ Nx (upd H5 D (.dK (putK kvs k z)))
def fDK (tv : TE) (σ2 : L2.St) (D : Addr) (Nx : Hp → Prop) : VK := fun y H4 => tv σ2 H4 (fDV D Nx y)
def fDT (tk tv : TE) (σ2 : L2.St) (D : Addr) (Nx : Hp → Prop) : Bool → Hp → Prop := fun b H3 => if b = true then tk σ2 H3 (fDK tv σ2 D Nx) else Nx H3
def fDc (g : TG) (tt : TT) (tk tv : TE) (vs : List Nat) (σ : L2.St) (Q : VK) : It → Hp → Prop := fun J H1 => ∀ D, H1 D = none → ∃ W : Nat → Nat → Hp → Prop, (∃ m, W 0 m (upd H1 D (.dK []))) ∧ ∀ i m H, W i m H →
  (J.stop i H ∧ Q (.ref D) H) ∨ (J.go i H ∧ ∃ Nx : Hp → Prop, (∀ H', Nx H' → ∃ m', m' < m ∧ W (i + 1) m' H') ∧ ∀ x H', J.yld i H x H' → g x (wipe σ vs) H' fun σ2 H2 => wipe σ2 vs = wipe σ vs ∧ tt σ2 H2 (fDT tk tv σ2 D Nx))
theorem e_dcm {wi : TI} {g : TG} {tt : TT} {tk tv : TE} {vs : List Nat} {σ : L2.St} {H : Hp} {Q : VK} : tDc wi g tt tk tv vs σ H Q = wi σ H (fDc g tt tk tv vs σ Q) := rfl
theorem e_dct {tk tv : TE} {σ2 : L2.St} {D : Addr} {Nx : Hp → Prop} {H : Hp} : fDT tk tv σ2 D Nx true H = tk σ2 H (fDK tv σ2 D Nx) := if_pos rfl
theorem e_dck {tv : TE} {σ2 : L2.St} {D : Addr} {Nx : Hp → Prop} {y : V} {H : Hp} : fDK tv σ2 D Nx y H = tv σ2 H (fDV D Nx y) := rfl
theorem k_dcv {D : Addr} {Nx : Hp → Prop} {i : Int} {z : V} {kvs : List (Key × V)} {H : Hp} (h : H D = some (.dK kvs)) (hl : kvs.length ≤ 1000000) (q : Nx (upd H D (.dK (putK kvs (Sum.inl i) z)))) : fDV D Nx (.int i) z H := ⟨kvs, Sum.inl i, rfl, h, Nat.lt_of_le_of_lt hl (by decide), q⟩
theorem k_dc {J : It} {n : Nat} {G : Hp → Prop} {Yd : Nat → Hp → V → Hp → Prop} {g : TG} {tt : TT} {tk tv : TE} {vs : List Nat} {σ : L2.St} {H : Hp} {Q : VK} (w : Walk J n G Yd) (q : ∀ D, H D = none → ∃ Pv : Nat → Hp → Prop, Pv 0 (upd H D (.dK [])) ∧ (∀ i H, i ≤ n → Pv i H → G H) ∧
    (∀ i x H H', i < n → Pv i H → Yd i H x H' → g x (wipe σ vs) H' fun σ2 H2 => wipe σ2 vs = wipe σ vs ∧ tt σ2 H2 (fDT tk tv σ2 D (Pv (i + 1)))) ∧ ∀ H, Pv n H → Q (.ref D) H) : fDc g tt tk tv vs σ Q J H := by
  intro D hD
  obtain ⟨Pv, h0, hG, hs, hd⟩ := q D hD
  refine ⟨fun i m H' => i + m = n ∧ Pv i H', ⟨n, Nat.zero_add n, h0⟩, ?_⟩
  rintro i m H' ⟨him, hp⟩
  by_cases hi : i = n
  · subst hi
    exact .inl ⟨w.stops H' (hG _ _ (Nat.le_refl _) hp), hd H' hp⟩
  · have hlt : i < n := by omega
    refine .inr ⟨w.goes i H' hlt (hG _ _ (Nat.le_of_lt hlt) hp), Pv (i + 1), fun H2 h2 => ⟨m - 1, by omega, by omega, h2⟩, fun x H2 y => ?_⟩
    exact hs i x H' H2 hlt hp (w.yields i H' x H2 hlt (hG _ _ (Nat.le_of_lt hlt) hp) y)
end Y

set_option Elab.async false
set_option linter.all false
set_option maxRecDepth 100000
set_option maxHeartbeats 2000000
namespace Y
open PySem L2
section
variable {X : Cx} {CX : CXT} {k : Nat} {f C : Addr} {fd : FuncData} {ps : List Str} {sp : Sp}
/-- o.m(), which may raise -/
theorem pe_meth0S {m : Str} {E : St → XK} {o : Expr} {ta : TE} {apos pos : Pos} {pl : Sem Bool} (ho : PE X o ta) (c : Cls X.K C) (hm : Meth X.K C m f) (F : FnOk X.prog X.w X.K X.mg X.base CX k f fd ps sp) (hr : Room k X.A) (hb : Binds X.K fd ps []) (hx : ∀ σ, PassesAt CX X σ (E σ))
    (ht : eval (.Call (.Attribute o m apos) [] [] pos) X.env = (do
      let ov ← eval o X.env
      standAt apos.atName
      let (g, first) ← holding [ov] (getMethod ov m pl)
      callWith pos g first (backTo pos (starEach [] X.env)) (backToKw pos (keywordEach [] X.env))) := by rfl) :
    PE X (.Call (.Attribute o m apos) [] [] pos) (tMethS C m sp E ta tNil) := by
  refine ⟨fun pins s σ H Q I h => PySem.W.methodCall_KW (pl := pl) (thn (ho.run pins s σ H _ I h) fun z s1 hz => ?_) ht⟩
  obtain ⟨x, H1, I1, rx, a, dx, fs, rfl, ea, l, q⟩ := hz
  obtain rfl : z = Value.ref a := rx
  have q2 : sp ([.ref a] ++ []) H1 Q (E σ) := q
  refine getmeth_ok I1 ea c hm l ?_
  exact PySem.W.callWith_K0 (first := [.ref a]) I1.kIn hm.kp (run_fnT (us := [.ref a]) (vs := [.ref a]) (dvs := []) (ds := []) rfl F hr hb .nil (hx σ) I1 (.cons rfl .nil) q2)
/-- sorted, of integers -/
theorem cr_sortedIk {K : PySem.W.Frag} (h : X.K = K := by rfl) : CallR X (.builtin "sorted") (rSortedI K) := by
  subst h
  exact cr_sortedI
end
end Y

set_option Elab.async false
set_option linter.all false
set_option maxRecDepth 100000
namespace PySem.W
open PySem PySem.Spec PyProof.Rows
/-! ### != of one's own class, by its own == -/
section
variable {prog : Program} {w : World} {A A₀ : Around} {E : Value → Shared → Prop} {s : Shared} {K : Frag} {x C L f : Addr} {h₀ : Heap} {m : Str → Option Value} {ox : Obj} {od : Option Obj} {name : Str} {b tb : Value}
theorem ifBoundNe_K {M : Model} {args : List Value} {Q : Option Value → Shared → Prop} (X : K.In s.heap) (I : InstAt s.heap x ox C od) (hs : findIn K (.ref C) "__ne__" = some (some (.builtin "object.__ne__")))
    (h : wpAny M A (call (.builtin "object.__ne__") (.ref x :: args)) (fun v => Q (some v)) E s) : wpAny M A (callSpecialIfBound? (.ref x) "__ne__" args) Q E s := by
  simp only [callSpecialIfBound?, bindSpecialIfBound?]
  refine wpAny_holding (wpAny_bind (wpAny_bind (wpAny_bind (I.type.here ((looks_findIn X hs).here ?_)))))
  simp only [PySem.F.cmp_object.ne.bind]
  refine wpAny_bind (wpAny_askSetting (wpAny_ite ?_))
  have fin : wpAny M A (call (.builtin "object.__ne__") ([.ref x] ++ args) >>= fun v => pure (some v)) Q E s := wpAny_bind (wpAny_mono h (fun v s' h' => wpAny_pure h') fun _ _ h' => h')
  split
  · exact wpAny_bind (wpAny_pure (wpAny_pure fin))
  · exact wpAny_tryCatch (wpAny_bind (wpAny_pure (wpAny_pure fin)))
theorem checkNe_K {M : Model} {rest : List Value} {Q : Unit → Shared → Prop} (X : K.In s.heap) (I : InstAt s.heap x ox C od) (hsub : subIn K (.ref C) (.type "object") = some true) (ha : argsOk "object.__ne__" ⟨.ref x :: rest, []⟩) (hq : Q () s) :
    wpAny M A (checkBuiltinCall "object.__ne__" ⟨.ref x :: rest, []⟩) Q E s := by
  simp only [checkBuiltinCall, PySem.F.cmpKind_ne, PySem.F.cmpSplit_ne]
  refine wpAny_bind ?_
  unfold isInstance
  refine wpAny_bind (I.type.here ((looks_subIn X hsub).here ?_))
  rw [if_neg (by decide)]
  cases hsig : Manifest.signature? "object.__ne__" with
  | none => exact wpAny_pure hq
  | some sig =>
    simp only [argsOk, hsig] at ha
    have h2 : Bind.checkArgs "object.__ne__" sig ⟨.ref x :: rest, []⟩ = pure () := ha
    show wpAny M A (Bind.checkArgs "object.__ne__" sig ⟨.ref x :: rest, []⟩) Q E s
    rw [h2]
    exact wpAny_pure hq
/-- object.__ne__ of an instance whose own == gives a truth -/
theorem objNe_K {Q : Fin → Shared → Prop} (hu : A.units < cLine) (X : K.In s.heap) (I : InstAt s.heap x ox C od) (hs : findIn K (.ref C) "__eq__" = some (some (.ref f))) (hf : isFn K (.ref f) = true)
    (h : wpAny (model prog w) A (call (.ref f) [.ref x, b]) (fun v s' => ∃ t, v = .bool t ∧ Q (.done (.ret (.bool (!t)))) s') E s) :
    wpAny (model prog w) A (Builtin.«object.__ne__» ⟨[.ref x, b], []⟩) Q E s := by
  unfold Builtin.«object.__ne__»
  have one : wpAny (model prog w) A (callSpecialIfBound? (.ref x) "__eq__" [b]) (fun r s' => ∃ t, r = some (.bool t) ∧ Q (.done (.ret (.bool (!t)))) s') E s :=
    ifBound_K X I hs hf (wpAny_mono h (fun v s' ⟨t, e, q⟩ => ⟨t, by rw [e], q⟩) fun _ _ e => e)
  repeat (first | with_reducible refine wpAny_cRoomFor hu ?_ | (with_reducible refine wpAny_bind (wpAny_mono one (fun r s' z => ?_) fun _ _ e => e)) | wp_step)
  obtain ⟨t, rfl, hq⟩ := z
  show wpAny (model prog w) A (truthy (.bool t) >>= fun t => ret (.bool !t)) Q E s'
  refine wpAny_bind (wpAny_truthy_bool ?_)
  repeat wp_step
  exact hq
/-- x != b, by one's own == -/
theorem cmpNe_K {Q : Value → Shared → Prop} (hu : A.units + 1 < cLine) (F : Fr h₀ L s.heap m) (X₀ : K.In h₀) (I : InstAt s.heap x ox C od) (hb : Looks (model prog w) s.heap (typeOf b) tb) (hn : notFirst K C tb = true)
    (hne : findIn K (.ref C) "__ne__" = some (some (.builtin "object.__ne__"))) (hsub : subIn K (.ref C) (.type "object") = some true) (hs : findIn K (.ref C) "__eq__" = some (some (.ref f))) (hf : isFn K (.ref f) = true)
    (h : wpAny (model prog w) A.in1 (call (.ref f) [.ref x, b]) (fun v s' => ∃ t, v = .bool t ∧ Q (.bool (!t)) s') E s) : wpAny (model prog w) A (richCompare .NotEq (.ref x) b) Q E s := by
  have X := X₀.keeps F.keep
  have hu0 : A.units < cLine := Nat.lt_of_succ_lt hu
  have hcall : wpAny (model prog w) A (call (.builtin "object.__ne__") [.ref x, b]) (fun v s' => ∃ t, v = .bool t ∧ Q (.bool t) s') E s := by
    refine wpAny_call (codeAny_call_builtin PySem.F.cmp_object.ne.plain PySem.F.cmpEntry_ne (checkNe_K X I hsub (PySem.F.cmpArgs_ne _ _) ?_))
    refine objNe_K (A := A.in1) ?_ X I hs hf ?_
    · exact hu
    · exact wpAny_mono h (fun v s' ⟨t, e, q⟩ => ⟨t, e, _, rfl, q⟩) fun _ _ e => e
  have one : wpAny (model prog w) A (tryCompare (.ref x) (cmpInfo .NotEq).2.1 b) (fun r s' => ∃ v, r = some v ∧ Q v s') E s := by
    unfold tryCompare
    refine wpAny_bind (ifBoundNe_K X I hne (wpAny_mono hcall (fun v s' hv => ?_) fun _ _ e => e))
    obtain ⟨t, rfl, hv⟩ := hv
    exact wpAny_pure ⟨_, rfl, hv⟩
  unfold richCompare
  simp only [oneThing_ref]
  refine wpAny_holding (wpAny_bind (wpAny_cRoomFor hu0 ?_))
  refine wpAny_bind (I.type.here (wpAny_bind (hb.here ?_)))
  split
  · rename_i q
    have e : subIn K tb (.ref C) = some false := by
      rcases Bool.or_eq_true_iff.mp hn with e | e
      · rw [beq_iff_eq.mp e] at q; simp at q
      · exact beq_iff_eq.mp e
    refine wpAny_bind ((looks_subIn X e).here ?_)
    simp only [Bool.false_eq_true, if_false]
    refine wpAny_bind (wpAny_mono one (fun r s' z => ?_) fun _ _ e => e)
    obtain ⟨v, rfl, hq⟩ := z
    exact wpAny_pure hq
  · refine wpAny_bind (wpAny_pure ?_)
    simp only [Bool.false_eq_true, if_false]
    refine wpAny_bind (wpAny_mono one (fun r s' z => ?_) fun _ _ e => e)
    obtain ⟨v, rfl, hq⟩ := z
    exact wpAny_pure hq
end
end PySem.W
namespace Y
open PySem L2
section
variable {X : Cx} {CX : CXT} {k : Nat} {f C : Addr} {fd : FuncData} {ps : List Str} {sp : Sp} {E : XK}
/-- a != b of two instances, by their class's own __eq__ -/
def rNeO (C : Addr) (sp : Sp) (E : XK) : R2 := fun x y H Q => ∃ a b dx dy fs gs, x = .ref a ∧ y = .ref b ∧ H a = some (.ins C dx fs) ∧ H b = some (.ins C dy gs) ∧ sp [.ref a, .ref b] H (fun v H' => ∃ t, v = .bl t ∧ Q (.bl (!t)) H') E
theorem op_neO (hne : PySem.W.findIn X.K (.ref C) "__ne__" = some (some (.builtin "object.__ne__"))) (hsub : PySem.W.subIn X.K (.ref C) (.type "object") = some true) (hs : PySem.W.findIn X.K (.ref C) "__eq__" = some (some (.ref f))) (hf : PySem.W.isFn X.K (.ref f) = true) (F : FnOk X.prog X.w X.K X.mg X.base CX k f fd ps sp) (hr : Room (k + 1) X.A) (hb : Binds X.K fd ps []) (hx : Passes CX X E) :
    OpR X (compareOp .NotEq) (rNeO C sp E) := by
  intro pins s σ H x y v u Q I rx ry h
  obtain ⟨a, b, dx, dy, fs, gs, rfl, rfl, ha, hb', q⟩ := h
  obtain rfl : v = Value.ref a := rx
  obtain rfl : u = Value.ref b := ry
  obtain ⟨_, O, _⟩ := ins_get I.hok ha
  obtain ⟨_, J, _⟩ := O.look
  obtain ⟨_, O', _⟩ := ins_get I.hok hb'
  obtain ⟨_, J', _⟩ := O'.look
  obtain ⟨m, fr⟩ := I.fr
  show wpAny (model X.prog X.w) X.A (richCompare .NotEq (.ref a) (.ref b)) _ _ _
  refine PySem.W.cmpNe_K (tb := .ref C) (Room.in1 hr).units0 fr I.ok.mod.kin J J'.type (by simp [PySem.W.notFirst]) hne hsub hs hf (thn (run_fnA (A := X.A.in1) (vs := [.ref a, .ref b]) rfl F (Room.in1 hr) hb hx I (.cons rfl (.cons rfl .nil)) q) fun w s1 hw => ?_)
  obtain ⟨z, H1, I1, rz, t, rfl, q1⟩ := hw
  obtain rfl : w = Value.bool t := rz
  exact ⟨t, rfl, .bl (!t), H1, I1, rfl, q1⟩
end
end Y

set_option Elab.async false
set_option linter.all false
set_option maxRecDepth 100000
namespace PySem.W
open PySem PySem.Spec PyProof.Rows PySem.SeqAt
/-! ### a value of Python's own kinds beside an instance: == and != are declined -/
section
variable {prog : Program} {w : World} {A : Around} {E : Value → Shared → Prop} {s : Shared} {K : Frag} {x C dx : Addr} {od : Option Obj}
theorem isInst_own {M : Model} {T : String} {Q : Bool → Shared → Prop} (X : K.In s.heap) (J : InstAt s.heap x (instObj C dx) C od) (hs : subIn K (.ref C) (.type T) = some false) (q : Q false s) : wpAny M A (isInstance (.ref x) (.type T)) Q E s := by
  unfold isInstance
  exact wpAny_bind (J.type.here ((looks_subIn X hs).here q))
variable {Q : Value → Shared → Prop}
abbrev FinT (Q : Value → Shared → Prop) : Fin → Shared → Prop := fun fin s' => ∃ v, fin = Fin.done (Flow.ret v) ∧ Q v s'
theorem list_eq_own {l : Addr} (X : K.In s.heap) (J : InstAt s.heap x (instObj C dx) C od) (hs : subIn K (.ref C) (.type "list") = some false) (h : Q .notImplemented s) : wpAny (model prog w) A (Builtin.«list.__eq__» ⟨[.ref l, .ref x], []⟩) (FinT Q) E s := by
  obtain ⟨hp, g, d, tk, os⟩ := s
  wp_walk using isInst_own X J hs
  exact ⟨_, rfl, h⟩
theorem list_ne_own {l : Addr} (X : K.In s.heap) (J : InstAt s.heap x (instObj C dx) C od) (hs : subIn K (.ref C) (.type "list") = some false) (h : Q .notImplemented s) : wpAny (model prog w) A (Builtin.«list.__ne__» ⟨[.ref l, .ref x], []⟩) (FinT Q) E s := by
  obtain ⟨hp, g, d, tk, os⟩ := s
  wp_walk using isInst_own X J hs
  exact ⟨_, rfl, h⟩
theorem tuple_eq_own {l : Addr} (X : K.In s.heap) (J : InstAt s.heap x (instObj C dx) C od) (hs : subIn K (.ref C) (.type "tuple") = some false) (h : Q .notImplemented s) : wpAny (model prog w) A (Builtin.«tuple.__eq__» ⟨[.ref l, .ref x], []⟩) (FinT Q) E s := by
  obtain ⟨hp, g, d, tk, os⟩ := s
  wp_walk using isInst_own X J hs
  exact ⟨_, rfl, h⟩
theorem tuple_ne_own {l : Addr} (X : K.In s.heap) (J : InstAt s.heap x (instObj C dx) C od) (hs : subIn K (.ref C) (.type "tuple") = some false) (h : Q .notImplemented s) : wpAny (model prog w) A (Builtin.«tuple.__ne__» ⟨[.ref l, .ref x], []⟩) (FinT Q) E s := by
  obtain ⟨hp, g, d, tk, os⟩ := s
  wp_walk using isInst_own X J hs
  exact ⟨_, rfl, h⟩
theorem dict_eq_own {l : Addr} (X : K.In s.heap) (J : InstAt s.heap x (instObj C dx) C od) (hs : subIn K (.ref C) (.type "dict") = some false) (h : Q .notImplemented s) : wpAny (model prog w) A (Builtin.«dict.__eq__» ⟨[.ref l, .ref x], []⟩) (FinT Q) E s := by
  obtain ⟨hp, g, d, tk, os⟩ := s
  wp_walk using isInst_own X J hs
  exact ⟨_, rfl, h⟩
theorem dict_ne_own {l : Addr} (X : K.In s.heap) (J : InstAt s.heap x (instObj C dx) C od) (hs : subIn K (.ref C) (.type "dict") = some false) (h : Q .notImplemented s) : wpAny (model prog w) A (Builtin.«dict.__ne__» ⟨[.ref l, .ref x], []⟩) (FinT Q) E s := by
  obtain ⟨hp, g, d, tk, os⟩ := s
  wp_walk using isInst_own X J hs
  exact ⟨_, rfl, h⟩
theorem int_eq_own {b : Int} {u : Tok} (J : InstAt s.heap x (instObj C dx) C od) (h : Q .notImplemented s) : wpAny (model prog w) A (Builtin.«int.__eq__» ⟨[.int b u, .ref x], []⟩) (FinT Q) E s := by
  obtain ⟨hp, g, d, tk, os⟩ := s
  have hl := J.at_
  wp_walk using wpAny_load hl
  exact ⟨_, rfl, h⟩
theorem int_ne_own {b : Int} {u : Tok} (J : InstAt s.heap x (instObj C dx) C od) (h : Q .notImplemented s) : wpAny (model prog w) A (Builtin.«int.__ne__» ⟨[.int b u, .ref x], []⟩) (FinT Q) E s := by
  obtain ⟨hp, g, d, tk, os⟩ := s
  have hl := J.at_
  wp_walk using wpAny_load hl
  exact ⟨_, rfl, h⟩
theorem bool_eq_own {b : Bool} (J : InstAt s.heap x (instObj C dx) C od) (h : Q .notImplemented s) : wpAny (model prog w) A (Builtin.«int.__eq__» ⟨[.bool b, .ref x], []⟩) (FinT Q) E s := by
  obtain ⟨hp, g, d, tk, os⟩ := s
  have hl := J.at_
  wp_walk using wpAny_load hl
  exact ⟨_, rfl, h⟩
theorem bool_ne_own {b : Bool} (J : InstAt s.heap x (instObj C dx) C od) (h : Q .notImplemented s) : wpAny (model prog w) A (Builtin.«int.__ne__» ⟨[.bool b, .ref x], []⟩) (FinT Q) E s := by
  obtain ⟨hp, g, d, tk, os⟩ := s
  have hl := J.at_
  wp_walk using wpAny_load hl
  exact ⟨_, rfl, h⟩
theorem str_eq_own {b : Str} {u : Tok} (J : InstAt s.heap x (instObj C dx) C od) (h : Q .notImplemented s) : wpAny (model prog w) A (Builtin.«str.__eq__» ⟨[.str b u, .ref x], []⟩) (FinT Q) E s := by
  obtain ⟨hp, g, d, tk, os⟩ := s
  have hl := J.at_
  wp_walk using wpAny_load hl
  exact ⟨_, rfl, h⟩
theorem str_ne_own {b : Str} {u : Tok} (J : InstAt s.heap x (instObj C dx) C od) (h : Q .notImplemented s) : wpAny (model prog w) A (Builtin.«str.__ne__» ⟨[.str b u, .ref x], []⟩) (FinT Q) E s := by
  obtain ⟨hp, g, d, tk, os⟩ := s
  have hl := J.at_
  wp_walk using wpAny_load hl
  exact ⟨_, rfl, h⟩
theorem non_eq_own (h : Q .notImplemented s) : wpAny (model prog w) A (Builtin.«NoneType.__eq__» ⟨[.none, .ref x], []⟩) (FinT Q) E s := by
  obtain ⟨hp, g, d, tk, os⟩ := s
  wp_walk
  exact ⟨_, rfl, h⟩
theorem non_ne_own (h : Q .notImplemented s) : wpAny (model prog w) A (Builtin.«NoneType.__ne__» ⟨[.none, .ref x], []⟩) (FinT Q) E s := by
  obtain ⟨hp, g, d, tk, os⟩ := s
  wp_walk
  exact ⟨_, rfl, h⟩
end
/-- a's own slot of op declines the instance x -/
def DeclAt (prog : Program) (w : World) (A : Around) (s : Shared) (x : Addr) (op : CmpOp) (T : String) (a : Value) : Prop :=
  ∃ id, Slot T (cmpInfo op).2.1 id ∧ ∀ (E : Value → Shared → Prop) (Q : Value → Shared → Prop), Q .notImplemented s → wpAny (model prog w) A (call (.builtin id) [a, .ref x]) Q E s
section
variable {prog : Program} {w : World} {A A₀ : Around} {E : Value → Shared → Prop} {s : Shared} {K : Frag} {x C L f : Addr} {h₀ : Heap} {m : Str → Option Value} {ox : Obj} {od : Option Obj} {a : Value} {T : String}
/-- a == x, by x's own == -/
theorem rcEq_own {Q : Value → Shared → Prop} (hu : A.units < cLine) (F : Fr h₀ L s.heap m) (X₀ : K.In h₀) (I : InstAt s.heap x ox C od) (ha : s.TypeIs a T) (hsub : subIn K (.ref C) (.type T) = some false) (hd : DeclAt prog w A s x .Eq T a)
    (hs : findIn K (.ref C) "__eq__" = some (some (.ref f))) (hf : isFn K (.ref f) = true)
    (h : wpAny (model prog w) A (call (.ref f) [.ref x, a]) (fun v s' => ∃ t, v = .bool t ∧ Q (.bool t) s') E s) : wpAny (model prog w) A (richCompare .Eq a (.ref x)) Q E s := by
  have X := X₀.keeps F.keep
  obtain ⟨id, h1, hc⟩ := hd
  have one : wpAny (model prog w) A (tryCompare (.ref x) (cmpInfo .Eq).2.2 a) (fun r s' => ∃ v, r = some v ∧ Q v s') E s := by
    unfold tryCompare
    refine wpAny_bind (ifBound_K X I hs hf (wpAny_mono h (fun v s' hv => ?_) fun _ _ e => e))
    obtain ⟨t, rfl, hv⟩ := hv
    exact wpAny_pure ⟨_, rfl, hv⟩
  rcases hi : cmpInfo CmpOp.Eq with ⟨sym, fn, r⟩
  rw [hi] at h1 one
  simp only [richCompare, hi, ha.oneThing_none]
  try with_reducible refine wpAny_holding ?_
  refine wpAny_bind (wpAny_cRoomFor_or (.inr hu) ?_)
  refine wpAny_bind (wpAny_typeOf ha (wpAny_bind (I.type.here ?_)))
  have hne : (Value.type T != Value.ref C) = true := rfl
  simp only [hne, if_true]
  refine wpAny_bind ((looks_subIn X hsub).here ?_)
  simp only [Bool.false_eq_true, if_false, Bool.not_false, if_true]
  refine wpAny_bind (m := tryCompare a _ (.ref x)) (wpAny_tryCompare_declines ha h1 (hc _ _ ⟨rfl, ?_⟩))
  refine wpAny_bind (wpAny_mono one (fun r s' z => ?_) fun _ _ e => e)
  obtain ⟨v, rfl, hq⟩ := z
  exact wpAny_pure hq
/-- a != x, by x's own == -/
theorem rcNe_own {Q : Value → Shared → Prop} (hu : A.units + 1 < cLine) (F : Fr h₀ L s.heap m) (X₀ : K.In h₀) (I : InstAt s.heap x ox C od) (ha : s.TypeIs a T) (hsub : subIn K (.ref C) (.type T) = some false) (hd : DeclAt prog w A s x .NotEq T a)
    (hne : findIn K (.ref C) "__ne__" = some (some (.builtin "object.__ne__"))) (hob : subIn K (.ref C) (.type "object") = some true) (hs : findIn K (.ref C) "__eq__" = some (some (.ref f))) (hf : isFn K (.ref f) = true)
    (h : wpAny (model prog w) A.in1 (call (.ref f) [.ref x, a]) (fun v s' => ∃ t, v = .bool t ∧ Q (.bool (!t)) s') E s) : wpAny (model prog w) A (richCompare .NotEq a (.ref x)) Q E s := by
  have X := X₀.keeps F.keep
  have hu0 : A.units < cLine := Nat.lt_of_succ_lt hu
  obtain ⟨id, h1, hc⟩ := hd
  have hcall : wpAny (model prog w) A (call (.builtin "object.__ne__") [.ref x, a]) (fun v s' => ∃ t, v = .bool t ∧ Q (.bool t) s') E s := by
    refine wpAny_call (codeAny_call_builtin PySem.F.cmp_object.ne.plain PySem.F.cmpEntry_ne (checkNe_K X I hob (PySem.F.cmpArgs_ne _ _) ?_))
    refine objNe_K (A := A.in1) ?_ X I hs hf ?_
    · exact hu
    · exact wpAny_mono h (fun v s' ⟨t, e, q⟩ => ⟨t, e, _, rfl, q⟩) fun _ _ e => e
  have one : wpAny (model prog w) A (tryCompare (.ref x) (cmpInfo .NotEq).2.2 a) (fun r s' => ∃ v, r = some v ∧ Q v s') E s := by
    unfold tryCompare
    refine wpAny_bind (ifBoundNe_K X I hne (wpAny_mono hcall (fun v s' hv => ?_) fun _ _ e => e))
    obtain ⟨t, rfl, hv⟩ := hv
    exact wpAny_pure ⟨_, rfl, hv⟩
  rcases hi : cmpInfo CmpOp.NotEq with ⟨sym, fn, r⟩
  rw [hi] at h1 one
  simp only [richCompare, hi, ha.oneThing_none]
  try with_reducible refine wpAny_holding ?_
  refine wpAny_bind (wpAny_cRoomFor_or (.inr hu0) ?_)
  refine wpAny_bind (wpAny_typeOf ha (wpAny_bind (I.type.here ?_)))
  have hne2 : (Value.type T != Value.ref C) = true := rfl
  simp only [hne2, if_true]
  refine wpAny_bind ((looks_subIn X hsub).here ?_)
  simp only [Bool.false_eq_true, if_false, Bool.not_false, if_true]
  refine wpAny_bind (m := tryCompare a _ (.ref x)) (wpAny_tryCompare_declines ha h1 (hc _ _ ⟨rfl, ?_⟩))
  refine wpAny_bind (wpAny_mono one (fun r s' z => ?_) fun _ _ e => e)
  obtain ⟨v, rfl, hq⟩ := z
  exact wpAny_pure hq
end
end PySem.W
namespace PySem.W
open PySem PySem.Spec PyProof.Rows PySem.SeqAt
def kinds7 : List String := ["NoneType", "bool", "int", "str", "tuple", "list", "dict"]
/-- all that the class C must have to stand beside values of Python's own kinds -/
structure Apart7 (K : Frag) (C : Addr) : Prop where
  up : ∀ T ∈ kinds7, subIn K (.ref C) (.type T) = some false
  dn : ∀ T ∈ kinds7, subIn K (.type T) (.ref C) = some false
theorem seven {p : String → Prop} {T : String} (h : T ∈ kinds7) (a : p "NoneType") (b : p "bool") (c : p "int") (d : p "str") (e : p "tuple") (f : p "list") (g : p "dict") : p T := by
  simp only [kinds7, List.mem_cons, List.not_mem_nil, or_false] at h
  rcases h with rfl | rfl | rfl | rfl | rfl | rfl | rfl <;> assumption
end PySem.W
namespace Y
open PySem L2
section
variable {X : Cx} {pins : List (Addr × Obj)} {σ : L2.St} {H : Hp} {s : Shared}
/-- the type of a value of Python's own kinds -/
theorem typeIs_of {y : V} {u : Value} {T : String} (I : Inv X pins σ H s) (ry : RelV y u) (hT : T ∈ PySem.W.kinds7) (ty : TyX X.K H y (.type T)) : s.TypeIs u T := by
  cases ty with
  | base b =>
    cases b with
    | non => cases (show u = Value.none from ry); exact rfl
    | bl y => cases (show u = Value.bool y from ry); exact rfl
    | int i => obtain ⟨t, q⟩ := (show ∃ t, u = Value.int i t from ry); cases q; exact typeIs_int _ _ _
    | str y => obtain ⟨t, q⟩ := (show ∃ t, u = Value.str y t from ry); cases q; exact typeIs_str _ _ _
    | flt y => exact absurd hT (by decide)
    | @lst a xs ea =>
      cases (show u = Value.ref a from ry)
      obtain ⟨_, _, n, _, h1⟩ := (show ObjOk X.prog X.w H s.heap a (.lst xs) from I.hok a _ ea)
      exact ⟨_, h1, rfl⟩
    | @frz a ob xs ea =>
      cases (show u = Value.ref a from ry)
      obtain ⟨_, _, _, n, _, h1⟩ := (show ObjOk X.prog X.w H s.heap a (.frz ob (.lst xs)) from I.hok a _ ea)
      exact ⟨_, h1, rfl⟩
    | @tup a xs ea =>
      cases (show u = Value.ref a from ry)
      obtain ⟨_, _, _, o, h1, h2, _⟩ := (show ObjOk X.prog X.w H s.heap a (.tup xs) from I.hok a _ ea)
      exact ⟨o, h1, h2⟩
    | @dK a kvs ea =>
      cases (show u = Value.ref a from ry)
      obtain ⟨_, _, vs, _, o, es, ep, h1, h2, _⟩ := (show ObjOk X.prog X.w H s.heap a (.dK kvs) from I.hok a _ ea)
      exact ⟨o, h1, h2.1⟩
    | @dT a kvs ea =>
      cases (show u = Value.ref a from ry)
      obtain ⟨_, _, xs, _, o, es, ep, h1, h2, _⟩ := (show ObjOk X.prog X.w H s.heap a (.dT kvs) from I.hok a _ ea)
      exact ⟨o, h1, h2.1⟩
  | byt y => exact absurd hT (by decide)
  | set ea => exact absurd hT (by decide)
  | @kList a o e c =>
    cases (show u = Value.ref a from ry)
    exact ⟨o, I.kIn a o e, c⟩
  | @kTuple a o e c =>
    cases (show u = Value.ref a from ry)
    exact ⟨o, I.kIn a o e, c⟩
  | @kDict a o e c =>
    cases (show u = Value.ref a from ry)
    exact ⟨o, I.kIn a o e, c⟩
  | @fTuple a ob xs ea =>
    cases (show u = Value.ref a from ry)
    obtain ⟨_, _, _, _, o, h1, h2, _⟩ := (show ObjOk X.prog X.w H s.heap a (.frz ob (.tup xs)) from I.hok a _ ea)
    exact ⟨o, h1, h2⟩
  | @fDict a ob kvs ea =>
    cases (show u = Value.ref a from ry)
    obtain ⟨_, _, _, vs, _, o, es, ep, h1, h2, _⟩ := (show ObjOk X.prog X.w H s.heap a (.frz ob (.dK kvs)) from I.hok a _ ea)
    exact ⟨o, h1, h2.1⟩
theorem shape_of {y : V} {u : Value} {T : String} (ry : RelV y u) (hT : T ∈ PySem.W.kinds7) (ty : TyX X.K H y (.type T)) :
    (T = "NoneType" ∧ u = .none) ∨ (T = "bool" ∧ ∃ b, u = .bool b) ∨ (T = "int" ∧ ∃ b t, u = .int b t) ∨ (T = "str" ∧ ∃ b t, u = .str b t) ∨ ((T = "tuple" ∨ T = "list" ∨ T = "dict") ∧ ∃ l, u = .ref l) := by
  cases ty with
  | base b =>
    cases b with
    | non => exact .inl ⟨rfl, ry⟩
    | bl y => exact .inr (.inl ⟨rfl, _, ry⟩)
    | int i =>
      obtain ⟨t, q⟩ := (show ∃ t, u = Value.int i t from ry)
      exact .inr (.inr (.inl ⟨rfl, _, t, q⟩))
    | str y =>
      obtain ⟨t, q⟩ := (show ∃ t, u = Value.str y t from ry)
      exact .inr (.inr (.inr (.inl ⟨rfl, _, t, q⟩)))
    | flt y => exact absurd hT (by decide)
    | lst ea => exact .inr (.inr (.inr (.inr ⟨.inr (.inl rfl), _, ry⟩)))
    | frz ea => exact .inr (.inr (.inr (.inr ⟨.inr (.inl rfl), _, ry⟩)))
    | tup ea => exact .inr (.inr (.inr (.inr ⟨.inl rfl, _, ry⟩)))
    | dK ea => exact .inr (.inr (.inr (.inr ⟨.inr (.inr rfl), _, ry⟩)))
    | dT ea => exact .inr (.inr (.inr (.inr ⟨.inr (.inr rfl), _, ry⟩)))
  | byt y => exact absurd hT (by decide)
  | set ea => exact absurd hT (by decide)
  | kList e c => exact .inr (.inr (.inr (.inr ⟨.inr (.inl rfl), _, ry⟩)))
  | kTuple e c => exact .inr (.inr (.inr (.inr ⟨.inl rfl, _, ry⟩)))
  | kDict e c => exact .inr (.inr (.inr (.inr ⟨.inr (.inr rfl), _, ry⟩)))
  | fTuple e => exact .inr (.inr (.inr (.inr ⟨.inl rfl, _, ry⟩)))
  | fDict e => exact .inr (.inr (.inr (.inr ⟨.inr (.inr rfl), _, ry⟩)))
end
section
open PySem.Spec PyProof.Rows PySem.SeqAt
variable {X : Cx} {pins : List (Addr × Obj)} {σ : L2.St} {H : Hp} {s : Shared}
theorem decl_eq {A : Around} {y : V} {u : Value} {T : String} {x C dx : Addr} {od : Option Obj} (I : Inv X pins σ H s) (ry : RelV y u) (hT : T ∈ PySem.W.kinds7) (ty : TyX X.K H y (.type T)) (J : PySem.W.InstAt s.heap x (PySem.W.instObj C dx) C od) (A7 : PySem.W.Apart7 X.K C) : PySem.W.DeclAt X.prog X.w A s x .Eq T u := by
  have hs := typeIs_of I ry hT ty
  rcases shape_of ry hT ty with ⟨rfl, rfl⟩ | ⟨rfl, b, rfl⟩ | ⟨rfl, b, t, rfl⟩ | ⟨rfl, b, t, rfl⟩ | ⟨rfl | rfl | rfl, l, rfl⟩
  · exact ⟨_, PySem.F.slot_NoneType_eq, fun E Q h => wpAny_call_entry PySem.F.slot_NoneType_eq hs PySem.F.entry_NoneType_eq (PySem.W.non_eq_own h) (PySem.F.args_NoneType_eq_2 _ _)⟩
  · exact ⟨_, PySem.F.slot_bool_eq, fun E Q h => wpAny_call_entry PySem.F.slot_bool_eq hs PySem.F.entry_int_eq (PySem.W.bool_eq_own J h) (PySem.F.args_int_eq_2 _ _)⟩
  · exact ⟨_, PySem.F.slot_int_eq, fun E Q h => wpAny_call_entry PySem.F.slot_int_eq hs PySem.F.entry_int_eq (PySem.W.int_eq_own J h) (PySem.F.args_int_eq_2 _ _)⟩
  · exact ⟨_, PySem.F.slot_str_eq, fun E Q h => wpAny_call_entry PySem.F.slot_str_eq hs PySem.F.entry_str_eq (PySem.W.str_eq_own J h) (PySem.F.args_str_eq_2 _ _)⟩
  · exact ⟨_, PySem.F.slot_tuple_eq, fun E Q h => wpAny_call_entry PySem.F.slot_tuple_eq hs PySem.F.entry_tuple_eq (PySem.W.tuple_eq_own I.kIn J (A7.up _ hT) h) (PySem.F.args_tuple_eq_2 _ _)⟩
  · exact ⟨_, PySem.F.slot_list_eq, fun E Q h => wpAny_call_entry PySem.F.slot_list_eq hs PySem.F.entry_list_eq (PySem.W.list_eq_own I.kIn J (A7.up _ hT) h) (PySem.F.args_list_eq_2 _ _)⟩
  · exact ⟨_, PySem.F.slot_dict_eq, fun E Q h => wpAny_call_entry PySem.F.slot_dict_eq hs PySem.F.entry_dict_eq (PySem.W.dict_eq_own I.kIn J (A7.up _ hT) h) (PySem.F.args_dict_eq_2 _ _)⟩
theorem decl_ne {A : Around} {y : V} {u : Value} {T : String} {x C dx : Addr} {od : Option Obj} (I : Inv X pins σ H s) (ry : RelV y u) (hT : T ∈ PySem.W.kinds7) (ty : TyX X.K H y (.type T)) (J : PySem.W.InstAt s.heap x (PySem.W.instObj C dx) C od) (A7 : PySem.W.Apart7 X.K C) : PySem.W.DeclAt X.prog X.w A s x .NotEq T u := by
  have hs := typeIs_of I ry hT ty
  rcases shape_of ry hT ty with ⟨rfl, rfl⟩ | ⟨rfl, b, rfl⟩ | ⟨rfl, b, t, rfl⟩ | ⟨rfl, b, t, rfl⟩ | ⟨rfl | rfl | rfl, l, rfl⟩
  · exact ⟨_, PySem.F.slot_NoneType_ne, fun E Q h => wpAny_call_entry PySem.F.slot_NoneType_ne hs PySem.F.entry_NoneType_ne (PySem.W.non_ne_own h) (PySem.F.args_NoneType_ne_2 _ _)⟩
  · exact ⟨_, PySem.F.slot_bool_ne, fun E Q h => wpAny_call_entry PySem.F.slot_bool_ne hs PySem.F.entry_int_ne (PySem.W.bool_ne_own J h) (PySem.F.args_int_ne_2 _ _)⟩
  · exact ⟨_, PySem.F.slot_int_ne, fun E Q h => wpAny_call_entry PySem.F.slot_int_ne hs PySem.F.entry_int_ne (PySem.W.int_ne_own J h) (PySem.F.args_int_ne_2 _ _)⟩
  · exact ⟨_, PySem.F.slot_str_ne, fun E Q h => wpAny_call_entry PySem.F.slot_str_ne hs PySem.F.entry_str_ne (PySem.W.str_ne_own J h) (PySem.F.args_str_ne_2 _ _)⟩
  · exact ⟨_, PySem.F.slot_tuple_ne, fun E Q h => wpAny_call_entry PySem.F.slot_tuple_ne hs PySem.F.entry_tuple_ne (PySem.W.tuple_ne_own I.kIn J (A7.up _ hT) h) (PySem.F.args_tuple_ne_2 _ _)⟩
  · exact ⟨_, PySem.F.slot_list_ne, fun E Q h => wpAny_call_entry PySem.F.slot_list_ne hs PySem.F.entry_list_ne (PySem.W.list_ne_own I.kIn J (A7.up _ hT) h) (PySem.F.args_list_ne_2 _ _)⟩
  · exact ⟨_, PySem.F.slot_dict_ne, fun E Q h => wpAny_call_entry PySem.F.slot_dict_ne hs PySem.F.entry_dict_ne (PySem.W.dict_ne_own I.kIn J (A7.up _ hT) h) (PySem.F.args_dict_ne_2 _ _)⟩
end
/-! ### == and != of an instance and of any value, from both sides -/
section
variable {X : Cx} {CX : CXT} {k : Nat} {f C : Addr} {fd : FuncData} {ps : List Str} {sp : Sp} {E : XK}
/-- an instance of C, or a value of Python's own kinds -/
def Oth (K : PySem.W.Frag) (C : Addr) (H : Hp) (y : V) : Prop := (∃ b dy gs, y = .ref b ∧ H b = some (.ins C dy gs)) ∨ ∃ T, T ∈ PySem.W.kinds7 ∧ TyX K H y (.type T)
theorem oth_look {pins : List (Addr × Obj)} {σ : L2.St} {H : Hp} {s : Shared} {y : V} {u : Value} (A7 : PySem.W.Apart7 X.K C) (I : Inv X pins σ H s) (ry : RelV y u) (h : Oth X.K C H y) : ∃ tb, PySem.W.Looks (model X.prog X.w) s.heap (typeOf u) tb ∧ PySem.W.notFirst X.K C tb = true := by
  rcases h with ⟨b, dy, gs, rfl, hb'⟩ | ⟨T, hT, ty⟩
  · obtain rfl : u = Value.ref b := ry
    obtain ⟨_, O', _⟩ := ins_get I.hok hb'
    obtain ⟨_, J', _⟩ := O'.look
    exact ⟨_, J'.type, by simp [PySem.W.notFirst]⟩
  · obtain ⟨P, Z, p, _⟩ := kit_of I ry ty
    exact ⟨_, Z.ty _ _ I.kIn p, by simp [PySem.W.notFirst, A7.dn T hT]⟩
def rEqA (K : PySem.W.Frag) (C : Addr) (sp : Sp) (E : XK) : R2 := fun x y H Q =>
  (∃ a dx fs, x = .ref a ∧ H a = some (.ins C dx fs) ∧ Oth K C H y ∧ sp [.ref a, y] H (fun v H' => ∃ t, v = .bl t ∧ Q v H') E) ∨
  (∃ b dy gs T, y = .ref b ∧ H b = some (.ins C dy gs) ∧ T ∈ PySem.W.kinds7 ∧ TyX K H x (.type T) ∧ sp [.ref b, x] H (fun v H' => ∃ t, v = .bl t ∧ Q v H') E)
def rNeA (K : PySem.W.Frag) (C : Addr) (sp : Sp) (E : XK) : R2 := fun x y H Q =>
  (∃ a dx fs, x = .ref a ∧ H a = some (.ins C dx fs) ∧ Oth K C H y ∧ sp [.ref a, y] H (fun v H' => ∃ t, v = .bl t ∧ Q (.bl (!t)) H') E) ∨
  (∃ b dy gs T, y = .ref b ∧ H b = some (.ins C dy gs) ∧ T ∈ PySem.W.kinds7 ∧ TyX K H x (.type T) ∧ sp [.ref b, x] H (fun v H' => ∃ t, v = .bl t ∧ Q (.bl (!t)) H') E)
theorem op_eqA (A7 : PySem.W.Apart7 X.K C) (hs : PySem.W.findIn X.K (.ref C) "__eq__" = some (some (.ref f))) (hf : PySem.W.isFn X.K (.ref f) = true) (F : FnOk X.prog X.w X.K X.mg X.base CX k f fd ps sp) (hr : Room k X.A) (hb : Binds X.K fd ps []) (hx : Passes CX X E) :
    OpR X (compareOp .Eq) (rEqA X.K C sp E) := by
  intro pins s σ H x y v u Q I rx ry h
  obtain ⟨m, fr⟩ := I.fr
  show wpAny (model X.prog X.w) X.A (richCompare .Eq v u) _ _ _
  rcases h with ⟨a, dx, fs, rfl, ha, hy, q⟩ | ⟨b, dy, gs, T, rfl, hb', hT, tx, q⟩
  · obtain rfl : v = Value.ref a := rx
    obtain ⟨_, O, _⟩ := ins_get I.hok ha
    obtain ⟨_, J, _⟩ := O.look
    obtain ⟨tb, lk, nf⟩ := oth_look A7 I ry hy
    refine PySem.W.cmp_K (op := .Eq) (tb := tb) hr.units0 fr I.ok.mod.kin J lk nf hs hf (thn (run_fnA (A := X.A) (vs := [.ref a, y]) rfl F hr hb hx I (.cons rfl (.cons ry .nil)) q) fun w s1 hw => ?_)
    obtain ⟨z, H1, I1, rz, t, rfl, q1⟩ := hw
    obtain rfl : w = Value.bool t := rz
    exact ⟨.bl t, H1, I1, rfl, q1⟩
  · obtain rfl : u = Value.ref b := ry
    obtain ⟨_, O, _⟩ := ins_get I.hok hb'
    obtain ⟨_, J, _⟩ := O.look
    refine PySem.W.rcEq_own hr.units0 fr I.ok.mod.kin J (typeIs_of I rx hT tx) (A7.up T hT) (decl_eq I rx hT tx J A7) hs hf (thn (run_fnA (A := X.A) (vs := [.ref b, x]) rfl F hr hb hx I (.cons rfl (.cons rx .nil)) q) fun w s1 hw => ?_)
    obtain ⟨z, H1, I1, rz, t, rfl, q1⟩ := hw
    obtain rfl : w = Value.bool t := rz
    exact ⟨t, rfl, .bl t, H1, I1, rfl, q1⟩
theorem op_neA (A7 : PySem.W.Apart7 X.K C) (hne : PySem.W.findIn X.K (.ref C) "__ne__" = some (some (.builtin "object.__ne__"))) (hsub : PySem.W.subIn X.K (.ref C) (.type "object") = some true) (hs : PySem.W.findIn X.K (.ref C) "__eq__" = some (some (.ref f))) (hf : PySem.W.isFn X.K (.ref f) = true) (F : FnOk X.prog X.w X.K X.mg X.base CX k f fd ps sp) (hr : Room (k + 1) X.A) (hb : Binds X.K fd ps []) (hx : Passes CX X E) :
    OpR X (compareOp .NotEq) (rNeA X.K C sp E) := by
  intro pins s σ H x y v u Q I rx ry h
  obtain ⟨m, fr⟩ := I.fr
  show wpAny (model X.prog X.w) X.A (richCompare .NotEq v u) _ _ _
  rcases h with ⟨a, dx, fs, rfl, ha, hy, q⟩ | ⟨b, dy, gs, T, rfl, hb', hT, tx, q⟩
  · obtain rfl : v = Value.ref a := rx
    obtain ⟨_, O, _⟩ := ins_get I.hok ha
    obtain ⟨_, J, _⟩ := O.look
    obtain ⟨tb, lk, nf⟩ := oth_look A7 I ry hy
    refine PySem.W.cmpNe_K (tb := tb) (Room.in1 hr).units0 fr I.ok.mod.kin J lk nf hne hsub hs hf (thn (run_fnA (A := X.A.in1) (vs := [.ref a, y]) rfl F (Room.in1 hr) hb hx I (.cons rfl (.cons ry .nil)) q) fun w s1 hw => ?_)
    obtain ⟨z, H1, I1, rz, t, rfl, q1⟩ := hw
    obtain rfl : w = Value.bool t := rz
    exact ⟨t, rfl, .bl (!t), H1, I1, rfl, q1⟩
  · obtain rfl : u = Value.ref b := ry
    obtain ⟨_, O, _⟩ := ins_get I.hok hb'
    obtain ⟨_, J, _⟩ := O.look
    refine PySem.W.rcNe_own (Room.in1 hr).units0 fr I.ok.mod.kin J (typeIs_of I rx hT tx) (A7.up T hT) (decl_ne I rx hT tx J A7) hne hsub hs hf (thn (run_fnA (A := X.A.in1) (vs := [.ref b, x]) rfl F (Room.in1 hr) hb hx I (.cons rfl (.cons rx .nil)) q) fun w s1 hw => ?_)
    obtain ⟨z, H1, I1, rz, t, rfl, q1⟩ := hw
    obtain rfl : w = Value.bool t := rz
    exact ⟨t, rfl, .bl (!t), H1, I1, rfl, q1⟩
end
end Y
namespace Y
open PySem L2
theorem mt_popAtk {X : Cx} : MtR X "list.pop" rPopAt := mt_popAt
theorem k_popAt {a : Addr} {xs : List V} {y : V} {i : Int} {Q : VK} {H : Hp} {k : Nat} (h : H a = some (.lst xs)) (hi : i = (k : Int)) (hk : k < 2 ^ 62) (hy : xs[k]? = some y) (q : Q y (upd H a (.lst (xs.eraseIdx k)))) : fBM2 rPopAt (.ref a) Q [.int i] H := by
  have hl := (List.getElem?_eq_some_iff.mp hy).1
  refine ⟨a, xs, i, k, y, rfl, rfl, h, by omega, by omega, ?_, hy, q⟩
  subst hi
  unfold seqIndex?
  have e : (if (k : Int) < 0 then (k : Int) + (xs.length : Int) else (k : Int)) = (k : Int) := if_neg (by omega)
  simp only [e]
  rw [if_pos (by simp [hl])]
  rfl
end Y

set_option Elab.async false
set_option linter.all false
set_option maxRecDepth 100000
namespace Y
open PySem L2
/-! ### list.remove, of data -/
def rRemD (K : PySem.W.Frag) : V → List V → Hp → VK → Prop := fun x vs H Q => ∃ (a : Addr) (xs : List V) (ds : List PyData) (y : V) (d : PyData) (j : Nat), x = .ref a ∧ vs = [y] ∧ H a = some (.lst xs) ∧ DpAll K H xs ds ∧ Dp K H y d ∧ SeqAt.shaped (.list ds) = true ∧ SeqAt.shaped d = true ∧ SeqAt.dataPlace ds d = some j ∧ Q .non (upd H a (.lst (xs.eraseIdx j)))
theorem mt_remDk {X : Cx} (K : PySem.W.Frag) (hu : X.A.units + 65 < cLine) (h : X.K = K := by rfl) : MtR X "list.remove" (rRemD K) := by
  subst h
  intro pins s σ H x xs v us Q I rx rxs h
  obtain ⟨p, xs, ds, y, d, j, rfl, rfl, hH, ha, h2, s1, s2, hp, q⟩ := h
  cases rx
  obtain ⟨u, rfl, ru⟩ := rxs.one
  obtain ⟨z, its, n, r, hl, e⟩ := I.lstM hH
  obtain ⟨as, r1⟩ := Dp.readsAll I ds _ its ha r
  obtain ⟨bs, r2⟩ := Dp.reads I d y u h2 ru
  have c1 := SeqAt.canLay_of_shaped s1
  have c2 := SeqAt.canLay_of_shaped s2
  have c1' : PyData.canLayAll0 ds = true := by simpa [PyData.canLay0] using c1
  have dd := SeqAt.depth_of_shaped s2
  refine SeqAt.remove_list_data (xs := ds) (d := d) (vs := its.toArray) (j := j) ⟨_, e, rfl, n, rfl⟩ (by simpa using r1) r2 (PyData.plainAll_of_canLay0 _ c1') (PyData.plain_of_canLay0 _ c2) ?_ hp (by rw [List.size_toArray]; omega) ?_
  · have := Nat.min_le_right (PyData.depthAll ds) d.depth
    omega
  · refine ⟨.non, _, I.lset (its' := its.eraseIdx j) hH e ?_ (r.eraseIdx j) ?_, rfl, q⟩
    · show its.toArray.eraseIdxIfInBounds j = (its.eraseIdx j).toArray
      rw [List.eraseIdxIfInBounds_toArray]
    · have := len_erase xs j
      omega
theorem k_remD {K : PySem.W.Frag} {H : Hp} {Q : VK} {a : Addr} {xs : List V} {ds : List PyData} {y : V} {d : PyData} {j : Nat} (h : H a = some (.lst xs)) (ha : DpAll K H xs ds) (hy : Dp K H y d) (s1 : SeqAt.shaped (.list ds) = true) (s2 : SeqAt.shaped d = true) (hp : SeqAt.dataPlace ds d = some j) (q : Q .non (upd H a (.lst (xs.eraseIdx j)))) : fBM2 (rRemD K) (.ref a) Q [y] H :=
  ⟨a, xs, ds, y, d, j, rfl, rfl, h, ha, hy, s1, s2, hp, q⟩
end Y

set_option Elab.async false
set_option linter.all false
set_option maxRecDepth 100000
set_option maxHeartbeats 4000000
namespace Y
open PySem L2
/-- tuples are as they were -/
def SameT (H H' : Hp) : Prop := ∀ b xs, (H b = some (.tup xs) → H' b = some (.tup xs)) ∧ ∀ o, H b = some (.frz o (.tup xs)) → H' b = some (.frz o (.tup xs))
theorem SameT.refl (H : Hp) : SameT H H := fun _ _ => ⟨id, fun _ => id⟩
theorem SameT.trans {H H1 H2 : Hp} (a : SameT H H1) (b : SameT H1 H2) : SameT H H2 := fun c xs => ⟨fun h => (b c xs).1 ((a c xs).1 h), fun o h => (b c xs).2 o ((a c xs).2 o h)⟩
theorem SameT.new {H : Hp} {p : Addr} {o : HO} (h : H p = none) : SameT H (upd H p o) := fun c xs => ⟨fun e => by rw [upd_ne (ne_of_none e h)]; exact e, fun _ e => by rw [upd_ne (ne_of_none e h)]; exact e⟩
theorem SameT.lst {H : Hp} {p : Addr} {o : HO} {xs : List V} (h : H p = some (.lst xs)) : SameT H (upd H p o) := fun c ys =>
  ⟨fun e => by rw [upd_ne (fun z => by subst z; rw [h] at e; cases e)]; exact e, fun _ e => by rw [upd_ne (fun z => by subst z; rw [h] at e; cases e)]; exact e⟩
theorem SameT.ins {H : Hp} {p C dx : Addr} {o : HO} {fs : List (Str × V)} (h : H p = some (.ins C dx fs)) : SameT H (upd H p o) := fun c ys =>
  ⟨fun e => by rw [upd_ne (fun z => by subst z; rw [h] at e; cases e)]; exact e, fun _ e => by rw [upd_ne (fun z => by subst z; rw [h] at e; cases e)]; exact e⟩
theorem SameT.of {H H' : Hp} (e : Same H H') : SameT H H' := fun b xs => ⟨fun h => e b _ h, fun o h => e b _ h⟩
theorem SameT.but {H H' : Hp} {a : Addr} {xs : List V} (h : H a = some (.lst xs)) (k : ∀ b o, H b = some o → b ≠ a → H' b = some o) : SameT H H' := fun b ys =>
  ⟨fun e => k b _ e fun z => (by rw [z, h] at e; cases e), fun _ e => k b _ e fun z => (by rw [z, h] at e; cases e)⟩
theorem sqT_mono {K : PySem.W.Frag} {H H' : Hp} {a : Addr} {xs : List V} (e : SameT H H') (h : SqT K H a xs) : SqT K H' a xs := by
  rcases h with (h | ⟨o, h⟩) | h
  · exact .inl (.inl ((e _ _).1 h))
  · exact .inl (.inr ⟨o, (e _ _).2 _ h⟩)
  · exact .inr h
/-- steps: tuples of texts; a row: a tuple of steps -/
def Steps (K : PySem.W.Frag) (H : Hp) (xs : List V) (ws : List (List Str)) : Prop := Paired (fun (x : V) (w : List Str) => ∃ a, x = .ref a ∧ SqT K H a (w.map V.str)) xs ws
def Row (K : PySem.W.Frag) (H : Hp) (r : Addr) (ws : List (List Str)) : Prop := ∃ xs, SqT K H r xs ∧ Steps K H xs ws
theorem Steps.mono {K : PySem.W.Frag} {H H' : Hp} {xs : List V} {ws : List (List Str)} (e : SameT H H') (h : Steps K H xs ws) : Steps K H' xs ws := Paired.mapP h fun _ _ ⟨a, h1, h2⟩ => ⟨a, h1, sqT_mono e h2⟩
theorem Row.mono {K : PySem.W.Frag} {H H' : Hp} {r : Addr} {ws : List (List Str)} (e : SameT H H') : Row K H r ws → Row K H' r ws := fun ⟨xs, h1, h2⟩ => ⟨xs, sqT_mono e h1, h2.mono e⟩
theorem Steps.append {K : PySem.W.Frag} {H : Hp} : ∀ {xs ys : List V} {ws vs : List (List Str)}, Steps K H xs ws → Steps K H ys vs → Steps K H (xs ++ ys) (ws ++ vs)
  | _, _, _, _, .nil, h => h
  | _, _, _, _, .cons a t, h => .cons a (Steps.append t h)
def menu12 : List (List Str) := [["make", "all"], ["make", "standing"], ["drop"], ["start", "new"], ["start", "all"], ["start", "free"], ["label", "new"], ["label", "all"], ["label", "free"], ["tie", "new"], ["tie", "all"], ["tie", "free"]]
def steps12 : List (List Str) := [["make", "all"], ["make", "standing"], ["start", "new"], ["start", "all"], ["start", "free"], ["label", "new"], ["label", "all"], ["label", "free"], ["tie", "new"], ["tie", "all"], ["tie", "free"], ["drop"]]
theorem sqT_K2 {K : PySem.W.Frag} {H : Hp} {a : Addr} {x y : Str} {t u : Tok} {d : Option Addr} {n : Nat} {sl : Array (Option Value)} (h : K.lookup a = some ⟨.type "tuple", d, .seq #[.str x t, .str y u] n, sl⟩) : SqT K H a (([x, y] : List Str).map V.str) :=
  .inr ⟨_, _, n, h, rfl, rfl, (by decide : 2 ≤ sizeLine), .cons ⟨t, rfl⟩ (.cons ⟨u, rfl⟩ .nil)⟩
theorem sqT_K1 {K : PySem.W.Frag} {H : Hp} {a : Addr} {x : Str} {t : Tok} {d : Option Addr} {n : Nat} {sl : Array (Option Value)} (h : K.lookup a = some ⟨.type "tuple", d, .seq #[.str x t] n, sl⟩) : SqT K H a (([x] : List Str).map V.str) :=
  .inr ⟨_, _, n, h, rfl, rfl, (by decide : 1 ≤ sizeLine), .cons ⟨t, rfl⟩ .nil⟩
theorem steps_row {K : PySem.W.Frag} {H : Hp} {a : Addr} {xs : List Addr} {ws : List (List Str)} (h : ∃ (o : Obj), K.lookup a = some o ∧ o.cls = .type "tuple" ∧ ∃ n, o.data = .seq (xs.map Value.ref).toArray n) (hl : xs.length ≤ 1000)
    (hs : Steps K H (xs.map V.ref) ws) : Row K H a ws := by
  obtain ⟨o, h1, h2, n, h3⟩ := h
  refine ⟨_, .inr ⟨o, _, n, h1, h2, h3, ?_, ?_⟩, hs⟩
  · simp only [List.size_toArray, List.length_map]
    exact Nat.le_trans hl (by decide)
  · have : ∀ l : List Addr, Vals (l.map V.ref) (l.map Value.ref) := fun l => by
      induction l with
      | nil => exact .nil
      | cons a l ih => exact .cons rfl ih
    simpa using this xs
theorem Steps.at_ {K : PySem.W.Frag} {H : Hp} : ∀ {xs : List V} {ws : List (List Str)} {j : Nat}, Steps K H xs ws → j < ws.length → ∃ a w, xs[j]? = some (.ref a) ∧ ws[j]? = some w ∧ SqT K H a (w.map V.str)
  | _, _, _, .nil, h => absurd h (Nat.not_lt_zero _)
  | _, _, 0, .cons ⟨a, e, s⟩ _, _ => ⟨a, _, by rw [e]; rfl, rfl, s⟩
  | _, _, j + 1, .cons _ t, h => by
    obtain ⟨a, w, h1, h2, h3⟩ := Steps.at_ (j := j) t (Nat.lt_of_succ_lt_succ h)
    exact ⟨a, w, by simpa using h1, by simpa using h2, h3⟩
def stepD (w : List Str) : PyData := .tuple (w.map PyData.str)
theorem dpa_strs {K : PySem.W.Frag} {H : Hp} : ∀ {w : List Str}, DpAll K H (w.map V.str) (w.map PyData.str)
  | [] => .nil
  | _ :: _ => .cons (.str _) dpa_strs
theorem dp_step {K : PySem.W.Frag} {H : Hp} {a : Addr} {w : List Str} (h : SqT K H a (w.map V.str)) : Dp K H (.ref a) (stepD w) := .tup h dpa_strs
theorem Steps.dpa {K : PySem.W.Frag} {H : Hp} : ∀ {xs : List V} {ws : List (List Str)}, Steps K H xs ws → DpAll K H xs (ws.map stepD)
  | _, _, .nil => .nil
  | _, _, .cons ⟨a, e, s⟩ t => by
    subst e
    exact .cons (dp_step s) (Steps.dpa t)
theorem Row.dp {K : PySem.W.Frag} {H : Hp} {r : Addr} {ws : List (List Str)} : Row K H r ws → Dp K H (.ref r) (.tuple (ws.map stepD)) := fun ⟨_, h1, h2⟩ => .tup h1 h2.dpa
theorem step_shaped : ∀ w ∈ menu12, SeqAt.shaped (stepD w) = true ∧ (steps12.map stepD).any (fun z => PyData.eqv z (stepD w)) = true := by decide +kernel
theorem steps12_shaped : SeqAt.shaped (.tuple (steps12.map stepD)) = true := by decide +kernel

theorem Row.of_dp {K : PySem.W.Frag} {H : Hp} {r : Addr} {ws : List (List Str)} (h : Dp K H (.ref r) (.tuple (ws.map stepD))) : Row K H r ws := by
  obtain ⟨a, xs, e, h1, h2⟩ := Dp.tupS h
  cases e
  refine ⟨xs, h1, ?_⟩
  clear h h1
  induction ws generalizing xs with
  | nil =>
    cases h2
    exact .nil
  | cons w ws ih =>
    cases h2 with
    | cons hd tl =>
      refine .cons ?_ (ih _ tl)
      obtain ⟨b, ys, rfl, g1, g2⟩ := Dp.tupS hd
      refine ⟨b, rfl, ?_⟩
      have e : ys = w.map V.str := by
        clear g1 hd
        induction w generalizing ys with
        | nil =>
          cases g2
          rfl
        | cons z w ih2 =>
          cases g2 with
          | cons gh gt =>
            cases gh
            rw [ih2 _ gt]
            rfl
      rw [← e]
      exact g1
theorem Steps.cut {K : PySem.W.Frag} {H : Hp} {xs : List V} {ws : List (List Str)} {lo hi : Option Int} (h : Steps K H xs ws) : Steps K H (cutG xs lo hi) (cutG ws lo hi) := Paired.cut h
theorem Steps.take {K : PySem.W.Frag} {H : Hp} {xs : List V} {ws : List (List Str)} (n : Nat) (h : Steps K H xs ws) : Steps K H (xs.take n) (ws.take n) := Paired.take n h
theorem Steps.drop {K : PySem.W.Frag} {H : Hp} {xs : List V} {ws : List (List Str)} (n : Nat) (h : Steps K H xs ws) : Steps K H (xs.drop n) (ws.drop n) := Paired.drop n h
theorem Steps.len {K : PySem.W.Frag} {H : Hp} {xs : List V} {ws : List (List Str)} (h : Steps K H xs ws) : xs.length = ws.length := Paired.length h
theorem Steps.one {K : PySem.W.Frag} {H : Hp} {a : Addr} {w : List Str} (h : SqT K H a (w.map V.str)) : Steps K H [.ref a] [w] := .cons ⟨a, rfl, h⟩ .nil

def topS (i : Nat) : Stmt := PySem.Challenge.pw_yearturned_k25_drops.main.body.getD i (.Pass ⟨0, 0, 0, 0⟩)
abbrev s_is_integer : Stmt := (topS 7)
abbrev N_is_integer : List Str := ["value", "low", "high"]
theorem sc_is_integer : FnScope N_is_integer ["value", "low", "high"] (defScope s_is_integer) := ⟨rfl, rfl, rfl, by decide +kernel, rfl, by decide +kernel, by decide +kernel⟩
abbrev s_is_step : Stmt := (topS 39)
abbrev N_is_step : List Str := ["value", "word"]
theorem sc_is_step : FnScope N_is_step ["value"] (defScope s_is_step) := ⟨rfl, rfl, rfl, by decide +kernel, rfl, by decide +kernel, by decide +kernel⟩
abbrev s_Script___init__ : Stmt := (inClass (topS 40) 0)
abbrev N_Script___init__ : List Str := ["self", "steps", "index", "step"]
theorem sc_Script___init__ : FnScope N_Script___init__ ["self", "steps"] (defScope s_Script___init__) := ⟨rfl, rfl, rfl, by decide +kernel, rfl, by decide +kernel, by decide +kernel⟩
abbrev s_Script_steps : Stmt := (inClass (topS 40) 7)
abbrev N_Script_steps : List Str := ["self"]
theorem sc_Script_steps : FnScope N_Script_steps ["self"] (defScope s_Script_steps) := ⟨rfl, rfl, rfl, by decide +kernel, rfl, by decide +kernel, by decide +kernel⟩
abbrev s_is_deed : Stmt := (topS 15)
abbrev N_is_deed : List Str := ["value", "word", "form", "fields", "kind", "field"]
theorem sc_is_deed : FnScope N_is_deed ["value"] (defScope s_is_deed) := ⟨rfl, rfl, rfl, by decide +kernel, rfl, by decide +kernel, by decide +kernel⟩
abbrev s_is_field : Stmt := (topS 16)
abbrev N_is_field : List Str := ["kind", "value"]
theorem sc_is_field : FnScope N_is_field ["kind", "value"] (defScope s_is_field) := ⟨rfl, rfl, rfl, by decide +kernel, rfl, by decide +kernel, by decide +kernel⟩
abbrev s_check_deeds : Stmt := (topS 14)
abbrev N_check_deeds : List Str := ["deeds", "first", "index", "deed"]
theorem sc_check_deeds : FnScope N_check_deeds ["deeds", "first"] (defScope s_check_deeds) := ⟨rfl, rfl, rfl, by decide +kernel, rfl, by decide +kernel, by decide +kernel⟩
abbrev s_named_numbers : Stmt := (topS 17)
abbrev N_named_numbers : List Str := ["deed", "fields", "pairs", "kind", "value", "number"]
theorem sc_named_numbers : FnScope N_named_numbers ["deed"] (defScope s_named_numbers) := ⟨rfl, rfl, rfl, by decide +kernel, rfl, by decide +kernel, by decide +kernel⟩
abbrev s_has_lines : Stmt := (topS 18)
abbrev N_has_lines : List Str := ["ledgers", "deed", "lines", "number"]
theorem sc_has_lines : FnScope N_has_lines ["ledgers", "deed"] (defScope s_has_lines) := ⟨rfl, rfl, rfl, by decide +kernel, rfl, by decide +kernel, by decide +kernel⟩
abbrev s_do_deed : Stmt := (topS 19)
abbrev N_do_deed : List Str := ["ledgers", "deed", "word", "line"]
theorem sc_do_deed : FnScope N_do_deed ["ledgers", "deed"] (defScope s_do_deed) := ⟨rfl, rfl, rfl, by decide +kernel, rfl, by decide +kernel, by decide +kernel⟩
abbrev s_write_new : Stmt := (topS 20)
abbrev N_write_new : List Str := ["line", "field", "value"]
theorem sc_write_new : FnScope N_write_new ["line", "field", "value"] (defScope s_write_new) := ⟨rfl, rfl, rfl, by decide +kernel, rfl, by decide +kernel, by decide +kernel⟩
abbrev s_set_field : Stmt := (topS 21)
abbrev N_set_field : List Str := ["line", "field", "value"]
theorem sc_set_field : FnScope N_set_field ["line", "field", "value"] (defScope s_set_field) := ⟨rfl, rfl, rfl, by decide +kernel, rfl, by decide +kernel, by decide +kernel⟩
abbrev s_OldLine___init__ : Stmt := (inClass (topS 23) 0)
abbrev N_OldLine___init__ : List Str := ["self", "number", "label", "start"]
theorem sc_OldLine___init__ : FnScope N_OldLine___init__ ["self", "number", "label", "start"] (defScope s_OldLine___init__) := ⟨rfl, rfl, rfl, by decide +kernel, rfl, by decide +kernel, by decide +kernel⟩
abbrev s_OldLine_closing : Stmt := (inClass (topS 23) 1)
abbrev N_OldLine_closing : List Str := ["self"]
theorem sc_OldLine_closing : FnScope N_OldLine_closing ["self"] (defScope s_OldLine_closing) := ⟨rfl, rfl, rfl, by decide +kernel, rfl, by decide +kernel, by decide +kernel⟩
abbrev s_OldLine_row : Stmt := (inClass (topS 23) 2)
abbrev N_OldLine_row : List Str := ["self"]
theorem sc_OldLine_row : FnScope N_OldLine_row ["self"] (defScope s_OldLine_row) := ⟨rfl, rfl, rfl, by decide +kernel, rfl, by decide +kernel, by decide +kernel⟩
abbrev s_NewLine___init__ : Stmt := (inClass (topS 24) 0)
abbrev N_NewLine___init__ : List Str := ["self", "number", "label", "start", "source"]
theorem sc_NewLine___init__ : FnScope N_NewLine___init__ ["self", "number", "label", "start", "source"] (defScope s_NewLine___init__) := ⟨rfl, rfl, rfl, by decide +kernel, rfl, by decide +kernel, by decide +kernel⟩
abbrev s_NewLine_row : Stmt := (inClass (topS 24) 1)
abbrev N_NewLine_row : List Str := ["self"]
theorem sc_NewLine_row : FnScope N_NewLine_row ["self"] (defScope s_NewLine_row) := ⟨rfl, rfl, rfl, by decide +kernel, rfl, by decide +kernel, by decide +kernel⟩
abbrev s_Ledgers___init__ : Stmt := (inClass (topS 25) 0)
abbrev N_Ledgers___init__ : List Str := ["self"]
theorem sc_Ledgers___init__ : FnScope N_Ledgers___init__ ["self"] (defScope s_Ledgers___init__) := ⟨rfl, rfl, rfl, by decide +kernel, rfl, by decide +kernel, by decide +kernel⟩
abbrev s_Ledgers_add_old : Stmt := (inClass (topS 25) 1)
abbrev N_Ledgers_add_old : List Str := ["self", "label", "start", "number"]
theorem sc_Ledgers_add_old : FnScope N_Ledgers_add_old ["self", "label", "start"] (defScope s_Ledgers_add_old) := ⟨rfl, rfl, rfl, by decide +kernel, rfl, by decide +kernel, by decide +kernel⟩
abbrev s_Ledgers_add_new : Stmt := (inClass (topS 25) 2)
abbrev N_Ledgers_add_new : List Str := ["self", "label", "start", "source", "line"]
theorem sc_Ledgers_add_new : FnScope N_Ledgers_add_new ["self", "label", "start", "source"] (defScope s_Ledgers_add_new) := ⟨rfl, rfl, rfl, by decide +kernel, rfl, by decide +kernel, by decide +kernel⟩
abbrev s_Ledgers_make_line : Stmt := (inClass (topS 25) 3)
abbrev N_Ledgers_make_line : List Str := ["self", "old"]
theorem sc_Ledgers_make_line : FnScope N_Ledgers_make_line ["self", "old"] (defScope s_Ledgers_make_line) := ⟨rfl, rfl, rfl, by decide +kernel, rfl, by decide +kernel, by decide +kernel⟩
abbrev s_Ledgers_drop_line : Stmt := (inClass (topS 25) 4)
abbrev N_Ledgers_drop_line : List Str := ["self", "line", "other"]
theorem sc_Ledgers_drop_line : FnScope N_Ledgers_drop_line ["self", "line"] (defScope s_Ledgers_drop_line) := ⟨rfl, rfl, rfl, by decide +kernel, rfl, by decide +kernel, by decide +kernel⟩
abbrev s_Ledgers_made_number : Stmt := (inClass (topS 25) 5)
abbrev N_Ledgers_made_number : List Str := ["self", "number"]
theorem sc_Ledgers_made_number : FnScope N_Ledgers_made_number ["self", "number"] (defScope s_Ledgers_made_number) := ⟨rfl, rfl, rfl, by decide +kernel, rfl, by decide +kernel, by decide +kernel⟩
abbrev s_Ledgers_old_rows : Stmt := (inClass (topS 25) 6)
abbrev N_Ledgers_old_rows : List Str := ["self", "line"]
theorem sc_Ledgers_old_rows : FnScope N_Ledgers_old_rows ["self"] (defScope s_Ledgers_old_rows) := ⟨rfl, rfl, rfl, by decide +kernel, rfl, by decide +kernel, by decide +kernel⟩
abbrev s_Ledgers_new_rows : Stmt := (inClass (topS 25) 7)
abbrev N_Ledgers_new_rows : List Str := ["self", "line"]
theorem sc_Ledgers_new_rows : FnScope N_Ledgers_new_rows ["self"] (defScope s_Ledgers_new_rows) := ⟨rfl, rfl, rfl, by decide +kernel, rfl, by decide +kernel, by decide +kernel⟩
abbrev s_run_script : Stmt := (topS 27)
abbrev N_run_script : List Str := ["ledgers", "script", "last", "step"]
theorem sc_run_script : FnScope N_run_script ["ledgers", "script"] (defScope s_run_script) := ⟨rfl, rfl, rfl, by decide +kernel, rfl, by decide +kernel, by decide +kernel⟩
abbrev s_make_lines : Stmt := (topS 28)
abbrev N_make_lines : List Str := ["ledgers", "which", "old"]
theorem sc_make_lines : FnScope N_make_lines ["ledgers", "which"] (defScope s_make_lines) := ⟨rfl, rfl, rfl, by decide +kernel, rfl, by decide +kernel, by decide +kernel⟩
abbrev s_drop_lines : Stmt := (topS 29)
abbrev N_drop_lines : List Str := ["ledgers", "line", "old"]
theorem sc_drop_lines : FnScope N_drop_lines ["ledgers"] (defScope s_drop_lines) := ⟨rfl, rfl, rfl, by decide +kernel, rfl, by decide +kernel, by decide +kernel⟩
abbrev s_renew_lines : Stmt := (topS 30)
abbrev N_renew_lines : List Str := ["ledgers", "field", "scope", "last", "line"]
theorem sc_renew_lines : FnScope N_renew_lines ["ledgers", "field", "scope", "last"] (defScope s_renew_lines) := ⟨rfl, rfl, rfl, by decide +kernel, rfl, by decide +kernel, by decide +kernel⟩
abbrev s_in_scope : Stmt := (topS 31)
abbrev N_in_scope : List Str := ["line", "field", "scope", "last"]
theorem sc_in_scope : FnScope N_in_scope ["line", "field", "scope", "last"] (defScope s_in_scope) := ⟨rfl, rfl, rfl, by decide +kernel, rfl, by decide +kernel, by decide +kernel⟩
abbrev s_renew_line : Stmt := (topS 32)
abbrev N_renew_line : List Str := ["ledgers", "line", "field", "old"]
theorem sc_renew_line : FnScope N_renew_line ["ledgers", "line", "field"] (defScope s_renew_line) := ⟨rfl, rfl, rfl, by decide +kernel, rfl, by decide +kernel, by decide +kernel⟩
abbrev s_carry_out : Stmt := (topS 35)
abbrev N_carry_out : List Str := ["ledgers", "script", "index", "deed"]
theorem sc_carry_out : FnScope N_carry_out ["ledgers", "script", "index", "deed"] (defScope s_carry_out) := ⟨rfl, rfl, rfl, by decide +kernel, rfl, by decide +kernel, by decide +kernel⟩
abbrev s_play : Stmt := (topS 34)
abbrev N_play : List Str := ["script", "deeds", "ledgers", "index", "deed"]
theorem sc_play : FnScope N_play ["script", "deeds"] (defScope s_play) := ⟨rfl, rfl, rfl, by decide +kernel, rfl, by decide +kernel, by decide +kernel⟩
abbrev s__law_well : Stmt := (topS 42)
abbrev N__law_well : List Str := ["script", "k", "cell"]
theorem sc__law_well : FnScope N__law_well ["script", "k"] (defScope s__law_well) := ⟨rfl, rfl, rfl, by decide +kernel, rfl, by decide +kernel, by decide +kernel⟩
abbrev s__law_draw : Stmt := (topS 43)
abbrev N__law_draw : List Str := ["well", "many", "drawn", "mixed"]
theorem sc__law_draw : FnScope N__law_draw ["well", "many"] (defScope s__law_draw) := ⟨rfl, rfl, rfl, by decide +kernel, rfl, by decide +kernel, by decide +kernel⟩
abbrev s__law_label : Stmt := (topS 44)
abbrev N__law_label : List Str := ["well", "far", "great"]
theorem sc__law_label : FnScope N__law_label ["well"] (defScope s__law_label) := ⟨rfl, rfl, rfl, by decide +kernel, rfl, by decide +kernel, by decide +kernel⟩
abbrev s__law_like : Stmt := (topS 46)
abbrev N__law_like : List Str := ["told", "due", "k"]
theorem sc__law_like : FnScope N__law_like ["told", "due"] (defScope s__law_like) := ⟨rfl, rfl, rfl, by decide +kernel, rfl, by decide +kernel, by decide +kernel⟩
abbrev s__law_deed : Stmt := (topS 48)
abbrev N__law_deed : List Str := ["well", "many", "numbers", "way", "tie"]
theorem sc__law_deed : FnScope N__law_deed ["well", "many", "numbers"] (defScope s__law_deed) := ⟨rfl, rfl, rfl, by decide +kernel, rfl, by decide +kernel, by decide +kernel⟩
abbrev s__law_run : Stmt := (topS 47)
abbrev N__law_run : List Str := ["steps", "standing", "news", "ever", "step", "there", "line", "k", "gone"]
theorem sc__law_run : FnScope N__law_run ["steps", "standing", "news", "ever"] (defScope s__law_run) := ⟨rfl, rfl, rfl, by decide +kernel, rfl, by decide +kernel, by decide +kernel⟩
abbrev s_law : Stmt := (topS 49)
abbrev N_law : List Str := ["script", "well", "some", "steps", "turn", "acts", "standing", "news", "ever", "source", "act", "line", "due", "work"]
theorem sc_law : FnScope N_law ["script"] (defScope s_law) := ⟨rfl, rfl, rfl, by decide +kernel, rfl, by decide +kernel, by decide +kernel⟩
set_option genInjectivity false in
set_option genSizeOf false in
/-- what the top has written -/
structure Txt (w : World) (P : Program) (K : PySem.W.Frag) (mg : Str → Option Value) where
  a_STEPS : Addr
  dp_STEPS : ∀ H, Dp K H (.ref a_STEPS) (.tuple [(.tuple [(.str "make"), (.str "all")]), (.tuple [(.str "make"), (.str "standing")]), (.tuple [(.str "start"), (.str "new")]), (.tuple [(.str "start"), (.str "all")]), (.tuple [(.str "start"), (.str "free")]), (.tuple [(.str "label"), (.str "new")]), (.tuple [(.str "label"), (.str "all")]), (.tuple [(.str "label"), (.str "free")]), (.tuple [(.str "tie"), (.str "new")]), (.tuple [(.str "tie"), (.str "all")]), (.tuple [(.str "tie"), (.str "free")]), (.tuple [(.str "drop")])])
  a_OldLine : Addr
  m_OldLine : mg "OldLine" = some (.ref a_OldLine)
  cl_OldLine : Cls K a_OldLine
  na_OldLine_number : NoAttr K a_OldLine "number"
  na_OldLine_label : NoAttr K a_OldLine "label"
  na_OldLine_start : NoAttr K a_OldLine "start"
  na_OldLine_moves : NoAttr K a_OldLine "moves"
  na_OldLine_tie : NoAttr K a_OldLine "tie"
  na_OldLine_standing : NoAttr K a_OldLine "standing"
  a_NewLine : Addr
  m_NewLine : mg "NewLine" = some (.ref a_NewLine)
  cl_NewLine : Cls K a_NewLine
  na_NewLine_number : NoAttr K a_NewLine "number"
  na_NewLine_label : NoAttr K a_NewLine "label"
  na_NewLine_start : NoAttr K a_NewLine "start"
  na_NewLine_moves : NoAttr K a_NewLine "moves"
  na_NewLine_tie : NoAttr K a_NewLine "tie"
  na_NewLine_source : NoAttr K a_NewLine "source"
  na_NewLine_typed : NoAttr K a_NewLine "typed"
  a_Ledgers : Addr
  m_Ledgers : mg "Ledgers" = some (.ref a_Ledgers)
  cl_Ledgers : Cls K a_Ledgers
  na_Ledgers_old_lines : NoAttr K a_Ledgers "old_lines"
  na_Ledgers_new_lines : NoAttr K a_Ledgers "new_lines"
  na_Ledgers_made_lines : NoAttr K a_Ledgers "made_lines"
  na_Ledgers_last_new : NoAttr K a_Ledgers "last_new"
  na_Ledgers_tie : NoAttr K a_Ledgers "tie"
  a_Script : Addr
  m_Script : mg "Script" = some (.ref a_Script)
  cl_Script : Cls K a_Script
  na_Script__steps : NoAttr K a_Script "_steps"
  f_is_integer : Addr
  d_is_integer : FuncData
  F_is_integer : Fun K "is_integer" "is_integer" s_is_integer f_is_integer d_is_integer
  b_is_integer : Binds K d_is_integer ["value", "low", "high"] []
  m_is_integer : mg "is_integer" = some (.ref f_is_integer)
  f_is_step : Addr
  d_is_step : FuncData
  F_is_step : Fun K "is_step" "is_step" s_is_step f_is_step d_is_step
  b_is_step : Binds K d_is_step ["value"] []
  m_is_step : mg "is_step" = some (.ref f_is_step)
  f_Script___init__ : Addr
  d_Script___init__ : FuncData
  F_Script___init__ : Fun K "__init__" "Script.__init__" s_Script___init__ f_Script___init__ d_Script___init__
  b_Script___init__ : Binds K d_Script___init__ ["self", "steps"] []
  M_Script : Mk K a_Script f_Script___init__
  f_Script_steps : Addr
  d_Script_steps : FuncData
  F_Script_steps : Fun K "steps" "Script.steps" s_Script_steps f_Script_steps d_Script_steps
  b_Script_steps : Binds K d_Script_steps ["self"] []
  me_Script_steps : Meth K a_Script "steps" f_Script_steps
  f_is_deed : Addr
  d_is_deed : FuncData
  F_is_deed : Fun K "is_deed" "is_deed" s_is_deed f_is_deed d_is_deed
  b_is_deed : Binds K d_is_deed ["value"] []
  m_is_deed : mg "is_deed" = some (.ref f_is_deed)
  f_is_field : Addr
  d_is_field : FuncData
  F_is_field : Fun K "is_field" "is_field" s_is_field f_is_field d_is_field
  b_is_field : Binds K d_is_field ["kind", "value"] []
  m_is_field : mg "is_field" = some (.ref f_is_field)
  f_check_deeds : Addr
  d_check_deeds : FuncData
  F_check_deeds : FunD K "check_deeds" "check_deeds" (defArgs s_check_deeds) (defBody s_check_deeds) (defScope s_check_deeds) [.int 0] [] f_check_deeds d_check_deeds
  bd_check_deeds : ∃ ds, Vals [.int 0] ds ∧ Binds K d_check_deeds ["deeds", "first"] ds
  b_check_deeds : Binds K d_check_deeds ["deeds", "first"] []
  m_check_deeds : mg "check_deeds" = some (.ref f_check_deeds)
  f_named_numbers : Addr
  d_named_numbers : FuncData
  F_named_numbers : Fun K "named_numbers" "named_numbers" s_named_numbers f_named_numbers d_named_numbers
  b_named_numbers : Binds K d_named_numbers ["deed"] []
  m_named_numbers : mg "named_numbers" = some (.ref f_named_numbers)
  f_has_lines : Addr
  d_has_lines : FuncData
  F_has_lines : Fun K "has_lines" "has_lines" s_has_lines f_has_lines d_has_lines
  b_has_lines : Binds K d_has_lines ["ledgers", "deed"] []
  m_has_lines : mg "has_lines" = some (.ref f_has_lines)
  f_do_deed : Addr
  d_do_deed : FuncData
  F_do_deed : Fun K "do_deed" "do_deed" s_do_deed f_do_deed d_do_deed
  b_do_deed : Binds K d_do_deed ["ledgers", "deed"] []
  m_do_deed : mg "do_deed" = some (.ref f_do_deed)
  f_write_new : Addr
  d_write_new : FuncData
  F_write_new : Fun K "write_new" "write_new" s_write_new f_write_new d_write_new
  b_write_new : Binds K d_write_new ["line", "field", "value"] []
  m_write_new : mg "write_new" = some (.ref f_write_new)
  f_set_field : Addr
  d_set_field : FuncData
  F_set_field : Fun K "set_field" "set_field" s_set_field f_set_field d_set_field
  b_set_field : Binds K d_set_field ["line", "field", "value"] []
  m_set_field : mg "set_field" = some (.ref f_set_field)
  f_OldLine___init__ : Addr
  d_OldLine___init__ : FuncData
  F_OldLine___init__ : Fun K "__init__" "OldLine.__init__" s_OldLine___init__ f_OldLine___init__ d_OldLine___init__
  b_OldLine___init__ : Binds K d_OldLine___init__ ["self", "number", "label", "start"] []
  M_OldLine : Mk K a_OldLine f_OldLine___init__
  f_OldLine_closing : Addr
  d_OldLine_closing : FuncData
  F_OldLine_closing : Fun K "closing" "OldLine.closing" s_OldLine_closing f_OldLine_closing d_OldLine_closing
  b_OldLine_closing : Binds K d_OldLine_closing ["self"] []
  me_OldLine_closing : Meth K a_OldLine "closing" f_OldLine_closing
  f_OldLine_row : Addr
  d_OldLine_row : FuncData
  F_OldLine_row : Fun K "row" "OldLine.row" s_OldLine_row f_OldLine_row d_OldLine_row
  b_OldLine_row : Binds K d_OldLine_row ["self"] []
  me_OldLine_row : Meth K a_OldLine "row" f_OldLine_row
  f_NewLine___init__ : Addr
  d_NewLine___init__ : FuncData
  F_NewLine___init__ : Fun K "__init__" "NewLine.__init__" s_NewLine___init__ f_NewLine___init__ d_NewLine___init__
  b_NewLine___init__ : Binds K d_NewLine___init__ ["self", "number", "label", "start", "source"] []
  M_NewLine : Mk K a_NewLine f_NewLine___init__
  f_NewLine_row : Addr
  d_NewLine_row : FuncData
  F_NewLine_row : Fun K "row" "NewLine.row" s_NewLine_row f_NewLine_row d_NewLine_row
  b_NewLine_row : Binds K d_NewLine_row ["self"] []
  me_NewLine_row : Meth K a_NewLine "row" f_NewLine_row
  f_Ledgers___init__ : Addr
  d_Ledgers___init__ : FuncData
  F_Ledgers___init__ : Fun K "__init__" "Ledgers.__init__" s_Ledgers___init__ f_Ledgers___init__ d_Ledgers___init__
  b_Ledgers___init__ : Binds K d_Ledgers___init__ ["self"] []
  M_Ledgers : Mk K a_Ledgers f_Ledgers___init__
  f_Ledgers_add_old : Addr
  d_Ledgers_add_old : FuncData
  F_Ledgers_add_old : Fun K "add_old" "Ledgers.add_old" s_Ledgers_add_old f_Ledgers_add_old d_Ledgers_add_old
  b_Ledgers_add_old : Binds K d_Ledgers_add_old ["self", "label", "start"] []
  me_Ledgers_add_old : Meth K a_Ledgers "add_old" f_Ledgers_add_old
  f_Ledgers_add_new : Addr
  d_Ledgers_add_new : FuncData
  F_Ledgers_add_new : Fun K "add_new" "Ledgers.add_new" s_Ledgers_add_new f_Ledgers_add_new d_Ledgers_add_new
  b_Ledgers_add_new : Binds K d_Ledgers_add_new ["self", "label", "start", "source"] []
  me_Ledgers_add_new : Meth K a_Ledgers "add_new" f_Ledgers_add_new
  f_Ledgers_make_line : Addr
  d_Ledgers_make_line : FuncData
  F_Ledgers_make_line : Fun K "make_line" "Ledgers.make_line" s_Ledgers_make_line f_Ledgers_make_line d_Ledgers_make_line
  b_Ledgers_make_line : Binds K d_Ledgers_make_line ["self", "old"] []
  me_Ledgers_make_line : Meth K a_Ledgers "make_line" f_Ledgers_make_line
  f_Ledgers_drop_line : Addr
  d_Ledgers_drop_line : FuncData
  F_Ledgers_drop_line : Fun K "drop_line" "Ledgers.drop_line" s_Ledgers_drop_line f_Ledgers_drop_line d_Ledgers_drop_line
  b_Ledgers_drop_line : Binds K d_Ledgers_drop_line ["self", "line"] []
  me_Ledgers_drop_line : Meth K a_Ledgers "drop_line" f_Ledgers_drop_line
  f_Ledgers_made_number : Addr
  d_Ledgers_made_number : FuncData
  F_Ledgers_made_number : Fun K "made_number" "Ledgers.made_number" s_Ledgers_made_number f_Ledgers_made_number d_Ledgers_made_number
  b_Ledgers_made_number : Binds K d_Ledgers_made_number ["self", "number"] []
  me_Ledgers_made_number : Meth K a_Ledgers "made_number" f_Ledgers_made_number
  f_Ledgers_old_rows : Addr
  d_Ledgers_old_rows : FuncData
  F_Ledgers_old_rows : Fun K "old_rows" "Ledgers.old_rows" s_Ledgers_old_rows f_Ledgers_old_rows d_Ledgers_old_rows
  b_Ledgers_old_rows : Binds K d_Ledgers_old_rows ["self"] []
  me_Ledgers_old_rows : Meth K a_Ledgers "old_rows" f_Ledgers_old_rows
  f_Ledgers_new_rows : Addr
  d_Ledgers_new_rows : FuncData
  F_Ledgers_new_rows : Fun K "new_rows" "Ledgers.new_rows" s_Ledgers_new_rows f_Ledgers_new_rows d_Ledgers_new_rows
  b_Ledgers_new_rows : Binds K d_Ledgers_new_rows ["self"] []
  me_Ledgers_new_rows : Meth K a_Ledgers "new_rows" f_Ledgers_new_rows
  f_run_script : Addr
  d_run_script : FuncData
  F_run_script : Fun K "run_script" "run_script" s_run_script f_run_script d_run_script
  b_run_script : Binds K d_run_script ["ledgers", "script"] []
  m_run_script : mg "run_script" = some (.ref f_run_script)
  f_make_lines : Addr
  d_make_lines : FuncData
  F_make_lines : Fun K "make_lines" "make_lines" s_make_lines f_make_lines d_make_lines
  b_make_lines : Binds K d_make_lines ["ledgers", "which"] []
  m_make_lines : mg "make_lines" = some (.ref f_make_lines)
  f_drop_lines : Addr
  d_drop_lines : FuncData
  F_drop_lines : Fun K "drop_lines" "drop_lines" s_drop_lines f_drop_lines d_drop_lines
  b_drop_lines : Binds K d_drop_lines ["ledgers"] []
  m_drop_lines : mg "drop_lines" = some (.ref f_drop_lines)
  f_renew_lines : Addr
  d_renew_lines : FuncData
  F_renew_lines : Fun K "renew_lines" "renew_lines" s_renew_lines f_renew_lines d_renew_lines
  b_renew_lines : Binds K d_renew_lines ["ledgers", "field", "scope", "last"] []
  m_renew_lines : mg "renew_lines" = some (.ref f_renew_lines)
  f_in_scope : Addr
  d_in_scope : FuncData
  F_in_scope : Fun K "in_scope" "in_scope" s_in_scope f_in_scope d_in_scope
  b_in_scope : Binds K d_in_scope ["line", "field", "scope", "last"] []
  m_in_scope : mg "in_scope" = some (.ref f_in_scope)
  f_renew_line : Addr
  d_renew_line : FuncData
  F_renew_line : Fun K "renew_line" "renew_line" s_renew_line f_renew_line d_renew_line
  b_renew_line : Binds K d_renew_line ["ledgers", "line", "field"] []
  m_renew_line : mg "renew_line" = some (.ref f_renew_line)
  f_carry_out : Addr
  d_carry_out : FuncData
  F_carry_out : Fun K "carry_out" "carry_out" s_carry_out f_carry_out d_carry_out
  b_carry_out : Binds K d_carry_out ["ledgers", "script", "index", "deed"] []
  m_carry_out : mg "carry_out" = some (.ref f_carry_out)
  f_play : Addr
  d_play : FuncData
  F_play : Fun K "play" "play" s_play f_play d_play
  b_play : Binds K d_play ["script", "deeds"] []
  m_play : mg "play" = some (.ref f_play)
  f__law_well : Addr
  d__law_well : FuncData
  F__law_well : Fun K "_law_well" "_law_well" s__law_well f__law_well d__law_well
  b__law_well : Binds K d__law_well ["script", "k"] []
  m__law_well : mg "_law_well" = some (.ref f__law_well)
  f__law_draw : Addr
  d__law_draw : FuncData
  F__law_draw : Fun K "_law_draw" "_law_draw" s__law_draw f__law_draw d__law_draw
  b__law_draw : Binds K d__law_draw ["well", "many"] []
  m__law_draw : mg "_law_draw" = some (.ref f__law_draw)
  f__law_label : Addr
  d__law_label : FuncData
  F__law_label : Fun K "_law_label" "_law_label" s__law_label f__law_label d__law_label
  b__law_label : Binds K d__law_label ["well"] []
  m__law_label : mg "_law_label" = some (.ref f__law_label)
  f__law_like : Addr
  d__law_like : FuncData
  F__law_like : Fun K "_law_like" "_law_like" s__law_like f__law_like d__law_like
  b__law_like : Binds K d__law_like ["told", "due"] []
  m__law_like : mg "_law_like" = some (.ref f__law_like)
  f__law_deed : Addr
  d__law_deed : FuncData
  F__law_deed : Fun K "_law_deed" "_law_deed" s__law_deed f__law_deed d__law_deed
  b__law_deed : Binds K d__law_deed ["well", "many", "numbers"] []
  m__law_deed : mg "_law_deed" = some (.ref f__law_deed)
  f__law_run : Addr
  d__law_run : FuncData
  F__law_run : Fun K "_law_run" "_law_run" s__law_run f__law_run d__law_run
  b__law_run : Binds K d__law_run ["steps", "standing", "news", "ever"] []
  m__law_run : mg "_law_run" = some (.ref f__law_run)
  f_law : Addr
  d_law : FuncData
  F_law : Fun K "law" "law" s_law f_law d_law
  b_law : Binds K d_law ["script"] []
  m_law : mg "law" = some (.ref f_law)
  a_NoStep : Addr
  f_NoStep : Addr
  ec_NoStep : ExcC K a_NoStep
  er_NoStep : PySem.ErrX.ErrTxt P K mg "NoStep" "index" "there is no step at this index" a_NoStep f_NoStep
  a_NoDeed : Addr
  f_NoDeed : Addr
  ec_NoDeed : ExcC K a_NoDeed
  er_NoDeed : PySem.ErrX.ErrTxt P K mg "NoDeed" "index" "what stands at this index is not a deed" a_NoDeed f_NoDeed
  a_NoLine : Addr
  f_NoLine : Addr
  ec_NoLine : ExcC K a_NoLine
  er_NoLine : PySem.ErrX.ErrTxt P K mg "NoLine" "index" "the deed with this index names a line that is not there" a_NoLine f_NoLine
  a_FORMS : Addr
  m_FORMS : mg "FORMS" = some (.ref a_FORMS)
  dw_FORMS : DictW K w a_FORMS [("add", ["label", "amount"]), ("label", ["number", "label"]), ("moves", ["number", "amount"]), ("tie", ["number", "other"]), ("end", ["number"]), ("own", ["label"]), ("write label", ["number", "label"]), ("write moves", ["number", "amount"]), ("write tie", ["number", "other"]), ("run", [])]
  m_MOST_AMOUNT : ∃ t, mg "MOST_AMOUNT" = some (.int 1000000000000 t)
  m_MOST_LABEL : ∃ t, mg "MOST_LABEL" = some (.int 999999999999999999999999999999 t)
  m_MOST_NUMBER : ∃ t, mg "MOST_NUMBER" = some (.int 1000000000 t)
  m_MOST_STEPS : ∃ t, mg "MOST_STEPS" = some (.int 12 t)
  m_STEPS : mg "STEPS" = some (.ref a_STEPS)
  m_WRITE : ∃ t, mg "WRITE" = some (.str "write " t)
  m_abs : mg "abs" = none
  m_all : mg "all" = none
  m_bool : mg "bool" = none
  m_enumerate : mg "enumerate" = none
  m_int : mg "int" = none
  m_isinstance : mg "isinstance" = none
  m_len : mg "len" = none
  m_list : mg "list" = none
  m_max : mg "max" = none
  m_min : mg "min" = none
  m_range : mg "range" = none
  m_str : mg "str" = none
  m_tuple : mg "tuple" = none
  m_zip : mg "zip" = none
  ty_Script : ∀ (H : Hp) (a dx : Addr) (fs : List (Str × V)), H a = some (.ins a_Script dx fs) → TyX K H (.ref a) (.ref a_Script)
end Y


set_option Elab.async false
set_option linter.all false
set_option maxRecDepth 100000
namespace Y
open PySem L2
local macro_rules | `(tactic| walk_at "ne") => `(tactic| first
  | with_reducible assumption
  | ((with_reducible apply Ne.symm); (focus with_reducible assumption))
  | ((with_reducible apply ne_new); (focus with_reducible assumption); (focus walk_at "hp"))
  | ((with_reducible apply ne_new'); (focus with_reducible assumption); (focus walk_at "hp")))
local macro_rules | `(tactic| walk_at "hp1") => `(tactic| first
  | ((with_reducible apply lk_new2); (focus with_reducible assumption))
  | ((with_reducible apply lk_ne2); (focus walk_at "ne"))
  | ((with_reducible apply Same.get); (focus with_reducible assumption))
  | ((with_reducible apply But.get2); (focus with_reducible assumption); (focus walk_at "ne")))
local macro_rules | `(tactic| walk_at "hp") => `(tactic| first
  | with_reducible assumption
  | with_reducible exact upd_same
  | ((walk_at "hp1"); (walk_at "hp")))
local macro_rules | `(tactic| walk_at "sm1") => `(tactic| first
  | ((with_reducible apply Same.linkN); (focus with_reducible assumption))
  | ((with_reducible apply Same.linkU); (focus with_reducible assumption))
  | ((with_reducible apply Same.link); (focus with_reducible assumption))
  | ((with_reducible apply Same.linkV); (focus with_reducible assumption); (focus walk_at "sm")))
local macro_rules | `(tactic| walk_at "sm") => `(tactic| first
  | with_reducible assumption
  | with_reducible exact Same.refl _
  | ((walk_at "sm1"); (walk_at "sm")))
local macro_rules | `(tactic| walk_at "bt1") => `(tactic| first
  | ((with_reducible apply But.linkN); (focus with_reducible assumption))
  | ((with_reducible apply But.linkU); (focus with_reducible assumption))
  | (with_reducible apply But.linkA)
  | ((with_reducible apply But.link); (focus with_reducible assumption))
  | ((with_reducible apply But.linkS); (focus with_reducible assumption)))
local macro_rules | `(tactic| walk_at "bt") => `(tactic| first
  | with_reducible assumption
  | with_reducible exact But.refl _ _
  | ((walk_at "bt1"); (walk_at "bt")))
local macro_rules | `(tactic| walk_at "rs") => `(tactic| simp only [e_C, e_var0, e_varS, e_op, e_op1, e_un, e_fld, e_tup, e_lst, e_cons, e_cons1, e_cons2, e_nil, e_call, e_call1, e_CB, e_meth, e_make, e_B, e_test, e_B1, e_if, e_if1, e_ifS, e_ifS1, e_and, e_andc, e_or, e_orc, e_not, e_not1, e_andV, e_andVc, e_orV, e_orVc, e_notV, e_notV1, e_seq, e_next, e_break, e_cont, e_drop, e_drop1, e_ret, e_retN, e_asg, e_name, e_part, e_part1, e_noPart, e_sl, e_sl1, e_sl2, e_sl3, o_add_int, o_I0, o_un, c_int, c_intB, c_abs, c_max, c_min, k_isN, k_notN, k_isB, k_notB, e_sub, e_sub1, cx_K, cx_noxK, e_for, e_rng1, e_rng2, e_seqI, e_enumT, e_enum, e_gname, e_lc, e_lcT, e_yes, e_bm, e_par, e_par1, e_par3, e_par31, e_chain, e_chain1, e_chain2, e_chain3, e_sfld, e_sfld1, List.set, ite_true, ite_false, eq_self, Bool.false_eq_true, decide_eq_true_eq, L2.start, List.map, List.length_cons, List.length_nil, List.replicate, Nat.add_one_sub_one, Nat.sub_self, List.nil_append, List.cons_append, Int.reduceToNat, Int.reducePow, Int.reduceMul, Int.reduceAdd, Int.reduceSub, Int.reduceNeg, Int.reduceLT, Int.reduceLE, Int.reduceEq, Bool.not_false, Bool.not_true, L2.wipe, e_never, e_dput, e_dput1, e_dput2, e_ddel, e_ddel1, e_dget, e_dget1, e_din, e_dnin, e_din1, e_dninN, e_dninN1, e_vals, e_lvals, e_makeS, e_callS, e_methS, e_tupZ, e_tC, e_m1, e_m1a, e_m1b, e_asgT, e_gcons, e_gnil, e_callD, e_opS, e_raise, e_mkErr, e_fldErr, decide_true, decide_false, not_true_eq_false, not_false_eq_true, reduceCtorEq])
local macro_rules | `(tactic| walk_at "sd") => `(tactic| first
  | assumption
  | decide
  | omega
  | (dsimp only; omega)
  | exact wide_div (b := 450) (by omega) (by omega) (by decide) (by decide)
  | exact mulX (a := 450) (b := 450) (by omega) (by omega) (by decide) (by decide) (by decide)
  | exact powW (b := 450) (by omega) (by omega) (by decide) (by decide))
local macro_rules | `(tactic| walk_at "sl") => `(tactic| first | omega | (simp only [List.length_cons, List.length_nil, List.length_append]; omega) | exact Nat.le_of_ble_eq_true rfl)
local macro_rules | `(tactic| walk_at "sqL1") => `(tactic| first
  | ((with_reducible apply sqL_new2); (focus with_reducible assumption))
  | ((with_reducible apply sqL_link); (focus with_reducible assumption)))
local macro_rules | `(tactic| walk_at "sqL") => `(tactic| first
  | with_reducible assumption
  | ((with_reducible apply SqL.of); focus walk_at "hp")
  | ((walk_at "sqL1"); (walk_at "sqL")))
local macro_rules | `(tactic| walk_at "sqT1") => `(tactic| first
  | ((with_reducible apply sqT_new2); (focus with_reducible assumption))
  | ((with_reducible apply sqT_link); (focus with_reducible assumption))
  | ((with_reducible apply sqT_lst); (focus walk_at "hp"))
  | ((with_reducible apply sqT_ins); (focus walk_at "hp")))
local macro_rules | `(tactic| walk_at "sqT") => `(tactic| first
  | with_reducible assumption
  | ((with_reducible apply SqT.of); focus walk_at "hp")
  | ((with_reducible apply SqT.ofZ); focus walk_at "hp")
  | ((walk_at "sqT1"); (walk_at "sqT")))
local macro_rules | `(tactic| walk_at "kt") => `(tactic| first
  | with_reducible exact kt_self
  | with_reducible exact kt_int_bool
  | with_reducible exact kt_int_str
  | with_reducible exact kt_int_list
  | with_reducible exact kt_int_tuple
  | with_reducible exact kt_bool_int
  | with_reducible exact kt_bool_str
  | with_reducible exact kt_bool_list
  | with_reducible exact kt_bool_tuple
  | with_reducible exact kt_str_int
  | with_reducible exact kt_str_bool
  | with_reducible exact kt_str_list
  | with_reducible exact kt_str_tuple
  | with_reducible exact kt_non_int
  | with_reducible exact kt_non_bool
  | with_reducible exact kt_non_str
  | with_reducible exact kt_non_list
  | with_reducible exact kt_non_tuple
  | with_reducible exact kt_tuple_int
  | with_reducible exact kt_tuple_bool
  | with_reducible exact kt_tuple_str
  | with_reducible exact kt_tuple_list
  | with_reducible exact kt_list_int
  | with_reducible exact kt_list_bool
  | with_reducible exact kt_list_str
  | with_reducible exact kt_list_tuple
  | with_reducible exact kt_dict_int
  | with_reducible exact kt_dict_bool
  | with_reducible exact kt_dict_str
  | with_reducible exact kt_dict_list
  | with_reducible exact kt_dict_tuple)
local macro_rules | `(tactic| walk_at "tyx") => `(tactic| first
  | with_reducible exact .base (.int _)
  | with_reducible exact .base (.str _)
  | with_reducible exact .base (.bl _)
  | with_reducible exact .base .non
  | ((with_reducible apply tyx_tup); focus walk_at "sqT")
  | ((with_reducible apply tyx_lst); focus walk_at "sqL")
  | ((with_reducible apply TyX.base); (focus ((with_reducible apply TyOf.dK); focus walk_at "hp"))))
local macro_rules | `(tactic| walk_at "isi") => `(tactic| first
  | ((with_reducible apply k_isi); (focus (with_reducible exact (ClsV.ty _))); (focus (walk_at "tyx")); (focus (walk_at "kt")))
  | ((with_reducible apply k_isiT); (focus (walk_at "hp")); (focus (with_reducible exact (.cons (.ty _) (.cons (.ty _) .nil)))); (focus (walk_at "tyx")); (focus (first | with_reducible exact ka_tuple | with_reducible exact ka_list | ((with_reducible apply ka_no); (focus walk_at "kt"); (focus walk_at "kt"))))))
local macro_rules | `(tactic| walk_at "lk") => `(tactic| rfl)
local macro_rules | `(tactic| walk_at "rd1") => `(tactic| first
  | walk_at "rs"
  | ((with_reducible apply k_ixL); (focus (walk_at "sqL")); (focus rfl))
  | ((with_reducible apply k_ixT); (focus (walk_at "sqT")); (focus rfl))
  | ((with_reducible apply k_fld); (focus (walk_at "hp")); (focus (assumption)); (focus (assumption)); (focus (walk_at "lk")))
  | ((with_reducible apply k_sfld); (focus (walk_at "hp")); (focus (assumption)); (focus (assumption)); (focus (walk_at "sl")))
  | ((with_reducible apply k_meth); (focus (walk_at "hp")); (focus (walk_at "lk")))
  | ((with_reducible apply k_I); (focus (walk_at "sd")))
  | ((with_reducible apply k_unp); (focus (walk_at "sqT")); (focus rfl))
  | ((with_reducible apply k_mul); (focus (walk_at "sd")))
  | ((with_reducible apply k_setL); (focus (walk_at "hp")); (focus rfl))
  | ((with_reducible apply k_bmL); (focus (walk_at "hp")))
  | ((with_reducible apply k_append); (focus (walk_at "hp")); (focus (walk_at "sd")))
  | ((with_reducible apply k_extend); (focus (walk_at "hp")); (focus (walk_at "hp")); (focus (walk_at "sl")))
  | ((with_reducible apply k_tup); (focus (walk_at "sl")); intro _ _)
  | ((with_reducible apply k_dnew); intro _ _)
  | ((with_reducible apply k_tupZ); (focus (walk_at "sl")); intro _ _ _ _ _)
  | ((with_reducible apply k_lst); (focus (walk_at "sl")); intro _ _)
  | ((with_reducible apply k_lenD); (focus walk_at "hp"))
  | ((with_reducible apply k_lenS); (focus ((with_reducible apply Or.inl); walk_at "sqL")))
  | ((with_reducible apply k_lenS); (focus ((with_reducible apply Or.inr); walk_at "sqT")))
  | ((with_reducible apply k_seqL); (focus (walk_at "sqL")))
  | ((with_reducible apply k_seqT); (focus (walk_at "sqT")))
  | ((with_reducible apply k_enumT); (focus (walk_at "sqT")))
  | walk_at "isi"
  | ((with_reducible apply k_tupOfL); (focus (walk_at "sqL")); intro _ _)
  | ((with_reducible apply k_tupOfT); (focus (walk_at "sqT")))
  | ((with_reducible apply k_listOf); (focus ((with_reducible apply Or.inl); walk_at "sqL")); intro _ _)
  | ((with_reducible apply k_listOf); (focus ((with_reducible apply Or.inr); walk_at "sqT")); intro _ _)
  | (with_reducible apply k_eq_int)
  | (with_reducible apply k_ne_int)
  | (with_reducible apply k_eq_str)
  | (with_reducible apply k_ne_str)
  | (with_reducible apply k_eq_bl)
  | (with_reducible apply k_ne_bl))
local macro_rules | `(tactic| walk_at "rd") => `(tactic| repeat walk_at "rd1")

/-- a well at a: what is left of the cell, the stirring, the turns (at most n) -/
def WellAt (H : Hp) (a : Addr) (n : Nat) : Prop := ∃ x y z : Int, H a = some (.lst [.int x, .int y, .int z]) ∧ 0 ≤ y ∧ y < 2 ^ 200 ∧ 0 ≤ z ∧ z ≤ n
def spDraw : Sp := fun vs H Q _ => ∃ (a : Addr) (many : Int) (n : Nat), vs = [.ref a, .int many] ∧ WellAt H a n ∧ n ≤ 1000000 ∧ 0 < many ∧ many < 2 ^ 250 ∧
  ∀ (k : Int) (H' : Hp), 0 ≤ k → k < many → WellAt H' a (n + 1) → (∀ b o, H b = some o → b ≠ a → H' b = some o) → Q (.int k) H'
section
variable {P : Program} {w : World} {K : PySem.W.Frag} {mg : Str → Option Value} {base : Heap}
theorem ok__law_draw (T : Txt w P K mg) : FnOk P w K mg base CX0 1 T.f__law_draw T.d__law_draw ["well", "many"] spDraw := by
  refine T.F__law_draw.ok sc__law_draw (fun vs H Q E h => ?_) (fun cdv A outer s H vs Q E hr h => ?_)
  · obtain ⟨a, m, n, rfl, _⟩ := h
    rfl
  · obtain ⟨a, many, n, rfl, ⟨x, y, z, ha, hy0, hy1, hz0, hz1⟩, hn, hm0, hm1, k⟩ := h
    refine ⟨_, (pss_cons (ps_if (pt_cmpR op_gt (pe_ix (ix_seqk K) (pv 0) pe_int (fun _ _ => rfl)) pe_int (nomark _)) (pss_cons (ps_set (i := 2) sc__law_draw.nd rfl (Or.inl rfl) (pe_op op_mod (pe_callTy call_int1 (by rfl) T.m_int b_int (pa_cons (pe_ix (ix_seqk K) (pv 0) pe_int (fun _ _ => rfl)) pa_nil)) (pv 1)))
  (pss_cons (ps_asg (pe_op op_fdivW (pe_ix (ix_seqk K) (pv 0) pe_int (fun _ _ => rfl)) (pv 1)) (pg_sub (pv 0) pe_int set_list))
  (pss_one (ps_ret (pv 2))))) pss_nil)
  (pss_cons (ps_asg (pe_op (op_addUk K) (pe_ix (ix_seqk K) (pv 0) pe_int (fun _ _ => rfl)) pe_int) (pg_sub (pv 0) pe_int set_list))
  (pss_cons (ps_set (i := 3) sc__law_draw.nd rfl (Or.inl rfl) (pe_op op_mod (pe_callTy call_int1 (by rfl) T.m_int b_int (pa_cons (pe_op op_powW (pe_op (op_addUk K) (pe_ix (ix_seqk K) (pv 0) pe_int (fun _ _ => rfl)) (pe_op op_mulU pe_int (pe_ix (ix_seqk K) (pv 0) pe_int (fun _ _ => rfl)))) pe_int) pa_nil)) pe_int))
  (pss_cons (ps_set (i := 3) sc__law_draw.nd rfl (Or.inl rfl) (pe_op op_mod (pe_callTy call_int1 (by rfl) T.m_int b_int (pa_cons (pe_op op_powW (pe_op (op_addUk K) (pv 3) (pe_op op_mulU pe_int (pe_ix (ix_seqk K) (pv 0) pe_int (fun _ _ => rfl)))) pe_int) pa_nil)) pe_int))
  (pss_one (ps_ret (pe_op op_mod (pe_callTy call_int1 (by rfl) T.m_int b_int (pa_cons (pe_op op_fdivW (pv 3) (pe_op op_powW pe_int pe_int)) pa_nil)) (pv 1)))))))), ?_⟩
    walk_at "rd"
    refine ite2 (fun hx => ?_) (fun hx => ?_)
    · walk_at "rd"
      exact k _ _ (Int.emod_nonneg _ (by omega)) (Int.emod_lt_of_pos _ hm0) ⟨_, _, _, upd_same, hy0, hy1, hz0, by omega⟩ fun b o e hb => by rw [upd_ne hb]; exact e
    · walk_at "rd"
      refine k _ _ (Int.emod_nonneg _ (by omega)) (Int.emod_lt_of_pos _ hm0) ⟨_, _, _, upd_same, hy0, hy1, by omega, by omega⟩ fun b o e hb => by rw [upd_ne hb]; exact e
end
theorem WellAt.sameT {H H' : Hp} {a : Addr} {n : Nat} (h : WellAt H a n) (k : ∀ b o, H b = some o → b ≠ a → H' b = some o) : SameT H H' := by
  obtain ⟨x, y, z, e, _⟩ := h
  exact SameT.but e k
theorem WellAt.same {H H' : Hp} {a : Addr} {n : Nat} (h : WellAt H a n) (k : Same H H') : WellAt H' a n := by
  obtain ⟨x, y, z, e, r⟩ := h
  exact ⟨x, y, z, k _ _ e, r⟩
theorem WellAt.ne {H : Hp} {a p : Addr} {n : Nat} (h : WellAt H a n) (k : H p = none) : p ≠ a := by
  obtain ⟨x, y, z, e, r⟩ := h
  exact (ne_of_none e k).symm
theorem WellAt.new {H : Hp} {a p : Addr} {n : Nat} {o : HO} (h : WellAt H a n) (k : H p = none) : WellAt (upd H p o) a n := by
  obtain ⟨x, y, z, e, r⟩ := h
  exact ⟨x, y, z, lk_new e k, r⟩
theorem WellAt.lst {H : Hp} {a p : Addr} {n : Nat} {o : HO} (h : WellAt H a n) (k : a ≠ p) : WellAt (upd H p o) a n := by
  obtain ⟨x, y, z, e, r⟩ := h
  exact ⟨x, y, z, lk_ne e k, r⟩
theorem WellAt.le {H : Hp} {a : Addr} {n m : Nat} (h : WellAt H a n) (k : n ≤ m) : WellAt H a m := by
  obtain ⟨x, y, z, e, r1, r2, r3, r4⟩ := h
  exact ⟨x, y, z, e, r1, r2, r3, by omega⟩
def spWell (K : PySem.W.Frag) : Sp := fun vs H Q _ => ∃ (a : Addr) (ns : List Int) (k : Nat), vs = [.ref a, .int k] ∧ SqL K H a (ns.map V.int) ∧ (∀ z ∈ ns, Builtin.Int.intBits z ≤ 1048576) ∧ ns.length ≤ 63 ∧ k < 1000 ∧ ∀ (p : Addr) (H' : Hp), H p = none → Same H H' → WellAt H' p 0 → Q (.ref p) H'
set_option maxHeartbeats 2000000
section
variable {P : Program} {w : World} {K : PySem.W.Frag} {mg : Str → Option Value} {base : Heap}
theorem ok__law_well (T : Txt w P K mg) : FnOk P w K mg base CX0 1 T.f__law_well T.d__law_well ["script", "k"] (spWell K) := by
  refine T.F__law_well.ok sc__law_well (fun vs H Q E h => ?_) (fun cdv A outer s H vs Q E hr h => ?_)
  · obtain ⟨a, ns, k, rfl, _⟩ := h
    rfl
  · obtain ⟨a, ns, k, rfl, ha, hb, hl, hk, q⟩ := h
    refine ⟨_, (pss_cons (ps_set (i := 2) sc__law_well.nd rfl (Or.inl rfl) pe_int)
  (pss_cons (ps_if (pt_cmpR op_lt (pv 1) (pe_callB (call_lenUk K) (by rfl) T.m_len b_len (pa_cons (pv 0) pa_nil)) (nomark _)) (pss_one (ps_set (i := 2) sc__law_well.nd rfl (Or.inl rfl) (pe_callTy call_int1 (by rfl) T.m_int b_int (pa_cons (pe_ix (ix_seqk K) (pv 0) (pv 1) (fun _ _ => rfl)) pa_nil)))) pss_nil)
  (pss_one (ps_ret (pe_lst (pa_cons (pe_callB (call_max2 rfl) (by rfl) T.m_max b_max (pa_cons pe_int (pa_cons (pe_op op_sub (pe_callB call_abs (by rfl) T.m_abs b_abs (pa_cons (pv 2) pa_nil)) (pe_op op_powW pe_int pe_int)) pa_nil))) (pa_cons (pe_op (op_addUk K) (pe_op op_mod (pe_callTy call_int1 (by rfl) T.m_int b_int (pa_cons (pv 2) pa_nil)) pe_int) (pe_op op_mulU pe_int (pv 1))) (pa_cons pe_int pa_nil)))))))), ?_⟩
    walk_at "rd"
    refine ite2 (fun hlt => ?_) (fun hge => ?_)
    · rw [List.length_map] at hlt
      have hk' : k < ns.length := by omega
      obtain ⟨z, hz⟩ : ∃ z, ns[k]? = some z := ⟨ns[k], List.getElem?_eq_getElem hk'⟩
      refine k_ixL ha (at_of (j := k) rfl (by rw [List.getElem?_map, hz]; rfl)) ?_
      walk_at "rd"
      rename_i p np
      exact q p _ np (fun b o e => lk_new e np) ⟨_, _, _, upd_same, by omega, by omega, by decide, by decide⟩
    · walk_at "rd"
      rename_i p np
      exact q p _ np (fun b o e => lk_new e np) ⟨_, _, _, upd_same, by omega, by omega, by decide, by decide⟩
end

set_option Elab.async false
set_option linter.all false
set_option maxRecDepth 100000


/-- value is an integer from low to high -/
def spInt : Sp := fun vs H Q _ => ∃ i lo hi : Int, vs = [.int i, .int lo, .int hi] ∧ Q (.bl (decide (lo ≤ i) && decide (i ≤ hi))) H
def spStepT (K : PySem.W.Frag) : Sp := fun vs H Q _ => ∃ (a : Addr) (x : List Str), vs = [.ref a] ∧ SqT K H a (x.map V.str) ∧ x ∈ menu12 ∧ ∀ H', Same H H' → Q (.bl true) H'
def sf (l : Addr) : List (Str × V) := [("_steps", .ref l)]
theorem sf_at (l : Addr) : (sf l).lookup ("_steps" : Str) = some (.ref l) := by
  unfold sf
  simp [List.lookup]
theorem sf_no (l : Addr) {m : Str} (h : ¬ m = "_steps") : (sf l).lookup m = none := by
  have q : (m == ("_steps" : Str)) = false := by simpa using h
  unfold sf
  simp [List.lookup, q]
local macro_rules | `(tactic| walk_at "lk") => `(tactic| first
  | exact sf_at _
  | exact sf_no _ (by decide +kernel))
/-- a Script of the steps ws stands at p -/
structure ScrAt (K : PySem.W.Frag) (C : Addr) (H : Hp) (p : Addr) (ws : List (List Str)) : Prop where
  ex : ∃ (dx l : Addr) (xs : List V), H p = some (.ins C dx (sf l)) ∧ H l = some (.lst xs) ∧ Steps K H xs ws
  len : ws.length ≤ 12
  menu : ∀ x ∈ ws, x ∈ menu12
theorem ScrAt.same {K : PySem.W.Frag} {C p : Addr} {H H' : Hp} {ws : List (List Str)} (h : ScrAt K C H p ws) (e : Same H H') : ScrAt K C H' p ws := by
  obtain ⟨⟨dx, l, xs, h1, h2, h3⟩, h4, h5⟩ := h
  exact ⟨⟨dx, l, xs, e _ _ h1, e _ _ h2, h3.mono (SameT.of e)⟩, h4, h5⟩
/-- the same, its list named -/
def ScrL (K : PySem.W.Frag) (C : Addr) (H : Hp) (p l : Addr) (ws : List (List Str)) : Prop := ∃ (dx : Addr) (xs : List V), H p = some (.ins C dx (sf l)) ∧ H l = some (.lst xs) ∧ Steps K H xs ws ∧ ws.length ≤ 12 ∧ ∀ x ∈ ws, x ∈ menu12
theorem ScrL.at_ {K : PySem.W.Frag} {C p l : Addr} {H : Hp} {ws : List (List Str)} : ScrL K C H p l ws → ScrAt K C H p ws := fun ⟨dx, xs, h1, h2, h3, h4, h5⟩ => ⟨⟨dx, l, xs, h1, h2, h3⟩, h4, h5⟩
theorem ScrL.same {K : PySem.W.Frag} {C p l : Addr} {H H' : Hp} {ws : List (List Str)} (e : Same H H') : ScrL K C H p l ws → ScrL K C H' p l ws := fun ⟨dx, xs, h1, h2, h3, h4, h5⟩ => ⟨dx, xs, e _ _ h1, e _ _ h2, h3.mono (SameT.of e), h4, h5⟩
def spInit (K : PySem.W.Frag) (C CE : Addr) : Sp := fun vs H Q E => ∃ (p r dx : Addr) (ws : List (List Str)), vs = [.ref p, .ref r] ∧ H p = some (.ins C dx []) ∧ Row K H r ws ∧ ws.length ≤ 1000 ∧ (∀ x ∈ ws, x ∈ menu12) ∧
  (ws.length ≤ 12 → ∀ (H' : Hp) (l : Addr), H l = none → ScrL K C H' p l ws → (∀ b o, H b = some o → b ≠ p → H' b = some o) → Q .non H') ∧
  (12 < ws.length → ∀ (H' : Hp) (d : Addr), Same H H' → H' d = none → E (.ref CE) (some d) (upd H' d (.xd [("index", .int 12)])))
def spAdd (K : PySem.W.Frag) (C CE : Addr) : Sp := fun vs H Q E => ∃ (p q : Addr) (ws us : List (List Str)), vs = [.ref p, .ref q] ∧ ScrAt K C H p ws ∧ ScrAt K C H q us ∧
  (ws.length + us.length ≤ 12 → ∀ (x l : Addr) (H' : Hp), H x = none → H l = none → Same H H' → ScrL K C H' x l (ws ++ us) → Q (.ref x) H') ∧
  (12 < ws.length + us.length → ∀ (H' : Hp) (d : Addr), Same H H' → H' d = none → E (.ref CE) (some d) (upd H' d (.xd [("index", .int 12)])))
def spSLen (K : PySem.W.Frag) (C : Addr) : Sp := fun vs H Q _ => ∃ (p : Addr) (ws : List (List Str)), vs = [.ref p] ∧ ScrAt K C H p ws ∧ Q (.int (ws.length : Nat)) H
def spSteps (K : PySem.W.Frag) (C : Addr) : Sp := fun vs H Q _ => ∃ (p : Addr) (ws : List (List Str)), vs = [.ref p] ∧ ScrAt K C H p ws ∧ ∀ (r : Addr) (H' : Hp), H r = none → Same H H' → Row K H' r ws → Q (.ref r) H'
def spHas (K : PySem.W.Frag) (C : Addr) : Sp := fun vs H Q _ => ∃ (p : Addr) (i : Int) (ws : List (List Str)), vs = [.ref p, .int i] ∧ ScrAt K C H p ws ∧ Q (.bl (decide (0 ≤ i) && decide (i ≤ (ws.length : Int) - 1))) H
def spWithout (K : PySem.W.Frag) (C : Addr) : Sp := fun vs H Q _ => ∃ (p : Addr) (i : Nat) (ws : List (List Str)), vs = [.ref p, .int i] ∧ ScrAt K C H p ws ∧ i < ws.length ∧
  ∀ (x l : Addr) (H' : Hp), H x = none → H l = none → Same H H' → ScrL K C H' x l (ws.take i ++ ws.drop (i + 1)) → Q (.ref x) H'
def spWith (K : PySem.W.Frag) (C : Addr) : Sp := fun vs H Q _ => ∃ (p s : Addr) (i : Nat) (y : List Str) (ws : List (List Str)), vs = [.ref p, .int i, .ref s] ∧ ScrAt K C H p ws ∧ SqT K H s (y.map V.str) ∧ y ∈ menu12 ∧ i ≤ ws.length ∧ ws.length < 12 ∧
  ∀ (x l : Addr) (H' : Hp), H x = none → H l = none → Same H H' → ScrL K C H' x l (ws.take i ++ [y] ++ ws.drop i) → Q (.ref x) H'
theorem menu_len : ∀ w ∈ menu12, w.length ≤ 2 := by decide
set_option maxHeartbeats 2000000
section
variable {P : Program} {w : World} {K : PySem.W.Frag} {mg : Str → Option Value} {base : Heap}
theorem ok_is_integer (T : Txt w P K mg) : FnOk P w K mg base CX0 1 T.f_is_integer T.d_is_integer ["value", "low", "high"] spInt := by
  refine T.F_is_integer.ok sc_is_integer (fun vs H Q E h => ?_) (fun cdv A outer s H vs Q E hr h => ?_)
  · obtain ⟨i, lo, hi, rfl, _⟩ := h
    rfl
  · obtain ⟨i, lo, hi, rfl, k⟩ := h
    refine ⟨_, (pss_one (ps_ret (pe_and (pe_callB (call_isiUk K) (by rfl) T.m_isinstance b_isinstance (pa_cons (pv 0) (pa_cons (pe_bty (by rfl) T.m_int b_int) pa_nil))) (pe_and (pe_not (pe_callB (call_isiUk K) (by rfl) T.m_isinstance b_isinstance (pa_cons (pv 0) (pa_cons (pe_bty (by rfl) T.m_bool b_bool) pa_nil)))) (pe_one (pe_chain op_le op_le (pv 1) (pv 0) (pv 2))))))), ?_⟩
    walk_at "rd"
    refine ite2 (fun h => ?_) (fun h => ?_)
    · rw [decide_eq_true h, Bool.true_and] at k
      exact k
    · rw [decide_eq_false h, Bool.false_and] at k
      exact k
theorem ok_is_step (T : Txt w P K mg) : FnOk P w K mg base CX0 1 T.f_is_step T.d_is_step ["value"] (spStepT K) := by
  refine T.F_is_step.ok sc_is_step (fun vs H Q E h => ?_) (fun cdv A outer s H vs Q E hr h => ?_)
  · obtain ⟨a, x, rfl, _⟩ := h
    rfl
  · obtain ⟨a, x, rfl, ha, hx, k⟩ := h
    refine ⟨_, (pss_one (ps_ret (pe_and (pe_callB (call_isiUk K) (by rfl) T.m_isinstance b_isinstance (pa_cons (pv 0) (pa_cons (pe_bty (by rfl) T.m_tuple b_tuple) pa_nil))) (pe_and (pe_callB (cr_allk K rfl) (by rfl) T.m_all b_all (pa_cons (pe_lc (own := [("word", 1)]) (g := (gName 1)) (tt := tYes) rfl sc_is_step.nd (pi_seqk K (pv 0)) (blkOk_by (own := [("word", 1)]) (N := N_is_step) (sc := defScope s_is_step) (by decide +kernel)) (fun _ _ _ _ _ => (pg_name (i := 1) sc_is_step.nd rfl (Or.inl rfl))) (fun _ _ _ _ _ => pts_nil) (fun _ _ _ _ _ => (pe_callB (call_isiUk K) (by rfl) T.m_isinstance b_isinstance (pa_cons (pv 1) (pa_cons (pe_bty (by rfl) T.m_str b_str) pa_nil))))) pa_nil)) (pe_one (pe_cmpR (op_inUk K (hu65 hr)) (pv 0) (pe_glob (by rfl) T.m_STEPS (show RelV (.ref _) (.ref _) from rfl)) (by rfl))))))), ?_⟩
    walk_at "rd"
    refine k_lc (walk_tup (xs := x.map V.str)) fun l nl => ⟨fun i H' => Same H H' ∧ H' l = some (.lst ((List.replicate i true).map V.bl)), ⟨fun b o e => lk_new e nl, upd_same⟩, fun i H' _ h => sqT_mono (SameT.of h.1) ha, ?_, ?_⟩
    · rintro i y H1 H2 hi ⟨s1, h1⟩ ⟨rfl, hy⟩
      obtain ⟨z, rfl⟩ : ∃ z, y = V.str z := by
        rw [List.getElem?_map] at hy
        cases e : x[i]? with
        | none =>
          rw [e] at hy
          cases hy
        | some z =>
          rw [e] at hy
          exact ⟨z, (Option.some.inj hy).symm⟩
      have hxl : x.length ≤ 2 := menu_len x hx
      have hi2 : i < 2 := by
        rw [List.length_map] at hi
        omega
      walk_at "rs"
      refine ⟨trivial, ?_⟩
      walk_at "rd"
      refine k_acc h1 (by rw [List.length_map, List.length_replicate]; omega) ⟨fun b o e => lk_ne (s1 b o e) (ne_of_none e nl), ?_⟩
      rw [upd_same, List.map_replicate, ← List.replicate_succ, List.replicate_succ']
    · rintro H1 ⟨s1, h1⟩
      walk_at "rd"
      refine k_all (SqL.of h1) ?_
      have e : (List.replicate (x.map V.str).length true).all id = true := by simp
      rw [e]
      walk_at "rd"
      obtain ⟨h3, h4⟩ := step_shaped x hx
      refine k_inT (dp_step (sqT_mono (SameT.of s1) ha)) (show Dp K H1 (.ref T.a_STEPS) (.tuple (steps12.map stepD)) from T.dp_STEPS H1) h3 steps12_shaped ?_
      rw [h4]
      exact k H1 s1
theorem menu_lay : ∀ x ∈ menu12, (stepD x).canLay0 = true ∧ (stepD x).depth ≤ 2 := by decide +kernel
theorem lay_all : ∀ {ws : List (List Str)}, (∀ x ∈ ws, x ∈ menu12) → PyData.canLayAll0 (ws.map stepD) = true ∧ PyData.depthAll (ws.map stepD) ≤ 2
  | [], _ => ⟨by simp [PyData.canLayAll0], by simp [PyData.depthAll]⟩
  | x :: ws, h => by
    obtain ⟨h1, h2⟩ := lay_all (ws := ws) fun y hy => h y (List.mem_cons_of_mem _ hy)
    obtain ⟨h3, h4⟩ := menu_lay x (h x List.mem_cons_self)
    refine ⟨by simp [PyData.canLayAll0, h1, h3], ?_⟩
    simp only [List.map_cons, PyData.depthAll]
    omega
theorem steps_shaped {ws : List (List Str)} (h : ∀ x ∈ ws, x ∈ menu12) : SeqAt.shaped (.list (ws.map stepD)) = true ∧ SeqAt.shaped (.tuple (ws.map stepD)) = true := by
  obtain ⟨h1, h2⟩ := lay_all h
  have d1 : PyData.depth (.list (ws.map stepD)) ≤ 64 := by
    simp only [PyData.depth]
    omega
  have d2 : PyData.depth (.tuple (ws.map stepD)) ≤ 64 := by
    simp only [PyData.depth]
    omega
  exact ⟨by unfold SeqAt.shaped; rw [Bool.and_eq_true]; exact ⟨by simp only [PyData.canLay0]; exact h1, decide_eq_true d1⟩, by unfold SeqAt.shaped; rw [Bool.and_eq_true]; exact ⟨by simp only [PyData.canLay0]; exact h1, decide_eq_true d2⟩⟩
theorem ok_Script___init__ (T : Txt w P K mg) : FnOk P w K mg base (L2.CX P w) 2 T.f_Script___init__ T.d_Script___init__ ["self", "steps"] (spInit K T.a_Script T.a_NoStep) := by
  refine T.F_Script___init__.okX sc_Script___init__ (fun vs H Q E h => ?_) (fun cdv A outer s H vs Q E hr h => ?_)
  · obtain ⟨p, r, dx, ws, rfl, _⟩ := h
    rfl
  · obtain ⟨p, r, dx, ws, rfl, hp, ⟨xs, hr1, hr2⟩, hl, hm, k, kE⟩ := h
    refine ⟨_, (pss_cons (ps_if (pt_not (pt_val (pe_callB (call_isiUk K) (by rfl) T.m_isinstance b_isinstance (pa_cons (pv 1) (pa_cons (pe_bty (by rfl) T.m_tuple b_tuple) pa_nil))))) (pss_one (ps_raiseErr rfl T.er_NoStep (by simp) hr (takes_of rfl rfl rfl rfl) (pa_cons pe_int pa_nil) (by rfl) (by decide))) pss_nil)
  (pss_cons (ps_for (passes_of rfl) rfl (pi_enumT (by rfl) T.m_enumerate (pa_cons (pv 1) pa_nil)) (pg_tup (n := 2) rfl (pgs_cons (pg_name (i := 2) sc_Script___init__.nd rfl (Or.inl rfl)) (pgs_cons (pg_name (i := 3) sc_Script___init__.nd rfl (Or.inl rfl)) pgs_nil)))
  (pss_one (ps_if (PW.pt (pw_or (pt_cmpR op_ge (pv 2) (pe_gint (by rfl) T.m_MOST_STEPS) (nomark _)) (pw_or1 (pt_not (pt_val (pe_call (ok_is_step T) (hr.mono (by decide)) (by rfl) T.m_is_step T.F_is_step.kp T.b_is_step .nil pass0 (pa_cons (pv 3) pa_nil))))))) (pss_one (ps_raiseErr rfl T.er_NoStep (by simp) hr (takes_of rfl rfl rfl rfl) (pa_cons (pv 2) pa_nil) (by rfl) (by decide))) pss_nil)))
  (pss_one (ps_fld (pv 0) (pe_callTy (call_list_ofk K) (by rfl) T.m_list b_list (pa_cons (pv 1) pa_nil)) rfl)))), ?_⟩
    have c1 := T.cl_Script
    have c2 := T.na_Script__steps
    walk_at "rd"
    have hlen : xs.length = ws.length := Paired.length hr2
    refine k_for walk_enumT (fun i σ H' => i ≤ 12 ∧ ∃ v1 v2 : Option V, σ = [some (.ref p), some (.ref r), v1, v2] ∧ Same H H') ⟨by omega, none, none, rfl, Same.refl H⟩ (fun i σ H' _ ⟨_, _, _, _, e⟩ => sqT_mono (SameT.of e) hr1) ?_ ?_
    · rintro i x σ H1 H2 hi ⟨h12, v1, v2, rfl, s1⟩ ⟨q, x0, x1, rfl, nq, rfl, e0, e1⟩
      cases e0
      obtain ⟨b, wd, hb1, hb2, hb3⟩ := Steps.at_ (j := i) hr2 (by omega)
      have e1' : xs[i]? = some x1 := e1
      rw [hb1] at e1'
      cases e1'
      refine k_pair upd_same ?_
      have s2 : Same H (upd H1 q (.tup [.int (i : Nat), .ref b])) := fun c o e => lk_new (s1 c o e) nq
      by_cases h13 : i = 12
      · subst h13
        walk_at "rd"
        exact fun d hd => kE (by omega) _ d s2 hd
      · have hi12 : ¬ (12 : Int) ≤ (i : Int) := by omega
        walk_at "rd"
        simp only [if_neg hi12]
        walk_at "rd"
        refine ⟨b, wd, rfl, sqT_mono (SameT.of s2) hb3, hm _ (List.mem_of_getElem? hb2), fun H3 s3 => ?_⟩
        walk_at "rd"
        exact ⟨by omega, _, _, rfl, fun c o e => s3 c o (s2 c o e)⟩
    · rintro σ H1 ⟨h12, v1, v2, rfl, s1⟩
      have hr3 := sqT_mono (SameT.of s1) hr1
      have hp1 := s1 _ _ hp
      walk_at "rd"
      rename_i l nl
      have npl : p ≠ l := ne_of_none hp1 nl
      have nlH : H l = none := by
        cases e : H l with
        | none => rfl
        | some o =>
          rw [s1 _ _ e] at nl
          cases nl
      refine k (by omega) _ l nlH ⟨dx, xs, upd_same, lk_ne upd_same npl.symm, ?_, by omega, hm⟩ fun b o e hb => lk_ne (lk_new (s1 b o e) nl) hb
      exact ((hr2.mono (SameT.of s1)).mono (SameT.new nl)).mono (SameT.ins (lk_new hp1 nl))
theorem ok_Script_steps (T : Txt w P K mg) : FnOk P w K mg base CX0 1 T.f_Script_steps T.d_Script_steps ["self"] (spSteps K T.a_Script) := by
  refine T.F_Script_steps.ok sc_Script_steps (fun vs H Q E h => ?_) (fun cdv A outer s H vs Q E hr h => ?_)
  · obtain ⟨p, ws, rfl, _⟩ := h
    rfl
  · obtain ⟨p, ws, rfl, ⟨⟨dx, l, xs, h1, h2, h3⟩, h4, h5⟩, k⟩ := h
    refine ⟨_, (pss_one (ps_ret (pe_callTy (call_tuple_ofk K) (by rfl) T.m_tuple b_tuple (pa_cons (pe_fldk K (pv 0) rfl) pa_nil)))), ?_⟩
    have c1 := T.cl_Script
    have c2 := T.na_Script__steps
    walk_at "rd"
    rename_i r nr
    exact k r _ nr (fun b o e => lk_new e nr) ⟨xs, SqT.of upd_same, h3.mono (SameT.new nr)⟩
end

set_option Elab.async false
set_option linter.all false
set_option maxRecDepth 100000


/-! ### the ledgers, mirrored -/
structure OL where
  label : Int
  start : Int
  moves : Int
  tie : Option Nat
  standing : Bool
structure NL where
  number : Nat
  label : Int
  start : Int
  moves : Int
  tie : Option Nat
  source : Option Nat
  typed : List Str
structure LG where
  old : List OL
  new : List NL
  last : Nat
def oV : Option Nat → V
  | none => .non
  | some i => .int (i : Nat)
def ofs (n : Nat) (l : OL) : List (Str × V) := [("number", .int (n : Nat)), ("label", .int l.label), ("start", .int l.start), ("moves", .int l.moves), ("tie", oV l.tie), ("standing", .bl l.standing)]
def nfs (l : NL) (t : Addr) : List (Str × V) := [("number", .int (l.number : Nat)), ("label", .int l.label), ("start", .int l.start), ("moves", .int l.moves), ("tie", oV l.tie), ("source", oV l.source), ("typed", .ref t)]
def OldAt (C : Addr) (H : Hp) (a : Addr) (n : Nat) (l : OL) : Prop := ∃ dx, H a = some (.ins C dx (ofs n l))
def NewAt (C : Addr) (H : Hp) (a t : Addr) (l : NL) : Prop := ∃ dx, H a = some (.ins C dx (nfs l t))
def closing (l : OL) : Int := l.start + l.moves
def orow (n : Nat) (l : OL) : List V := [.int (n : Nat), .int l.label, .int l.start, .int l.moves, oV l.tie, .bl l.standing]
def nrow (l : NL) : List V := [.int (l.number : Nat), .int l.label, .int l.start, .int l.moves, oV l.tie, oV l.source]
theorem ofs_number (n : Nat) (l : OL) : (ofs n l).lookup ("number" : Str) = some (.int (n : Nat)) := rfl
theorem ofs_label (n : Nat) (l : OL) : (ofs n l).lookup ("label" : Str) = some (.int l.label) := rfl
theorem ofs_start (n : Nat) (l : OL) : (ofs n l).lookup ("start" : Str) = some (.int l.start) := rfl
theorem ofs_moves (n : Nat) (l : OL) : (ofs n l).lookup ("moves" : Str) = some (.int l.moves) := rfl
theorem ofs_tie (n : Nat) (l : OL) : (ofs n l).lookup ("tie" : Str) = some (oV l.tie) := rfl
theorem ofs_standing (n : Nat) (l : OL) : (ofs n l).lookup ("standing" : Str) = some (.bl l.standing) := rfl
theorem nfs_number (l : NL) (t : Addr) : (nfs l t).lookup ("number" : Str) = some (.int (l.number : Nat)) := rfl
theorem nfs_label (l : NL) (t : Addr) : (nfs l t).lookup ("label" : Str) = some (.int l.label) := rfl
theorem nfs_start (l : NL) (t : Addr) : (nfs l t).lookup ("start" : Str) = some (.int l.start) := rfl
theorem nfs_moves (l : NL) (t : Addr) : (nfs l t).lookup ("moves" : Str) = some (.int l.moves) := rfl
theorem nfs_tie (l : NL) (t : Addr) : (nfs l t).lookup ("tie" : Str) = some (oV l.tie) := rfl
theorem nfs_source (l : NL) (t : Addr) : (nfs l t).lookup ("source" : Str) = some (oV l.source) := rfl
theorem nfs_typed (l : NL) (t : Addr) : (nfs l t).lookup ("typed" : Str) = some (.ref t) := rfl
local macro_rules | `(tactic| walk_at "lk") => `(tactic| first
  | exact ofs_number _ _ | exact ofs_label _ _ | exact ofs_start _ _ | exact ofs_moves _ _ | exact ofs_tie _ _ | exact ofs_standing _ _
  | exact nfs_number _ _ | exact nfs_label _ _ | exact nfs_start _ _ | exact nfs_moves _ _ | exact nfs_tie _ _ | exact nfs_source _ _ | exact nfs_typed _ _
  | rfl)
def spClosing (C : Addr) : Sp := fun vs H Q _ => ∃ (a : Addr) (n : Nat) (l : OL), vs = [.ref a] ∧ OldAt C H a n l ∧ Q (.int (closing l)) H
def spOldRow (C : Addr) : Sp := fun vs H Q _ => ∃ (a : Addr) (n : Nat) (l : OL), vs = [.ref a] ∧ OldAt C H a n l ∧ ∀ p, H p = none → Q (.ref p) (upd H p (.tup (orow n l)))
def spNewRow (C : Addr) : Sp := fun vs H Q _ => ∃ (a t : Addr) (l : NL), vs = [.ref a] ∧ NewAt C H a t l ∧ ∀ p, H p = none → Q (.ref p) (upd H p (.tup (nrow l)))
def spOldInit (C : Addr) : Sp := fun vs H Q _ => ∃ (a dx : Addr) (n : Nat) (b s : Int), vs = [.ref a, .int (n : Nat), .int b, .int s] ∧ H a = some (.ins C dx []) ∧ Q .non (upd H a (.ins C dx (ofs n ⟨b, s, 0, none, true⟩)))
def spNewInit (C : Addr) : Sp := fun vs H Q _ => ∃ (a dx : Addr) (n : Nat) (b s : Int) (o : Option Nat), vs = [.ref a, .int (n : Nat), .int b, .int s, oV o] ∧ H a = some (.ins C dx []) ∧
  ∀ t, H t = none → Q .non (upd (upd H t (.dK [])) a (.ins C dx (nfs ⟨n, b, s, 0, none, o, []⟩ t)))
theorem upd_upd {H : Hp} {a : Addr} {o u : HO} : upd (upd H a o) a u = upd H a u := by
  funext b
  by_cases h : b = a
  · subst h
    rw [upd_same, upd_same]
  · rw [upd_ne h, upd_ne h, upd_ne h]
/-- a store at a, one at t, one at a again -/
theorem upd_under {H : Hp} {a t : Addr} {o u v : HO} (n : a ≠ t) : upd (upd (upd H a o) t u) a v = upd (upd H t u) a v := by
  funext b
  by_cases h : b = a
  · subst h
    rw [upd_same, upd_same]
  · rw [upd_ne h, upd_ne h]
    by_cases h2 : b = t
    · subst h2
      rw [upd_same, upd_same]
    · rw [upd_ne h2, upd_ne h2, upd_ne h]
set_option maxHeartbeats 4000000
section
variable {P : Program} {w : World} {K : PySem.W.Frag} {mg : Str → Option Value} {base : Heap}
theorem ok_OldLine_closing (T : Txt w P K mg) : FnOk P w K mg base CX0 1 T.f_OldLine_closing T.d_OldLine_closing ["self"] (spClosing T.a_OldLine) := by
  refine T.F_OldLine_closing.ok sc_OldLine_closing (fun vs H Q E h => ?_) (fun cdv A outer s H vs Q E hr h => ?_)
  · obtain ⟨a, n, l, rfl, _⟩ := h
    rfl
  · obtain ⟨a, n, l, rfl, ⟨dx, ha⟩, k⟩ := h
    refine ⟨_, (pss_one (ps_ret (pe_op (op_addUk K) (pe_fldk K (pv 0) rfl) (pe_fldk K (pv 0) rfl)))), ?_⟩
    have c1 := T.cl_OldLine
    have c2 := T.na_OldLine_start
    have c3 := T.na_OldLine_moves
    walk_at "rd"
    exact k
theorem ok_OldLine_row (T : Txt w P K mg) : FnOk P w K mg base CX0 1 T.f_OldLine_row T.d_OldLine_row ["self"] (spOldRow T.a_OldLine) := by
  refine T.F_OldLine_row.ok sc_OldLine_row (fun vs H Q E h => ?_) (fun cdv A outer s H vs Q E hr h => ?_)
  · obtain ⟨a, n, l, rfl, _⟩ := h
    rfl
  · obtain ⟨a, n, l, rfl, ⟨dx, ha⟩, k⟩ := h
    refine ⟨_, (pss_one (ps_ret (pe_tup (pa_cons (pe_fldk K (pv 0) rfl) (pa_cons (pe_fldk K (pv 0) rfl) (pa_cons (pe_fldk K (pv 0) rfl) (pa_cons (pe_fldk K (pv 0) rfl) (pa_cons (pe_fldk K (pv 0) rfl) (pa_cons (pe_fldk K (pv 0) rfl) pa_nil))))))))), ?_⟩
    have c1 := T.cl_OldLine
    have c2 := T.na_OldLine_start
    have c3 := T.na_OldLine_moves
    have c4 := T.na_OldLine_number
    have c5 := T.na_OldLine_label
    have c6 := T.na_OldLine_tie
    have c7 := T.na_OldLine_standing
    walk_at "rd"
    rename_i p np
    exact k p np
theorem ok_NewLine_row (T : Txt w P K mg) : FnOk P w K mg base CX0 1 T.f_NewLine_row T.d_NewLine_row ["self"] (spNewRow T.a_NewLine) := by
  refine T.F_NewLine_row.ok sc_NewLine_row (fun vs H Q E h => ?_) (fun cdv A outer s H vs Q E hr h => ?_)
  · obtain ⟨a, n, l, rfl, _⟩ := h
    rfl
  · obtain ⟨a, t, l, rfl, ⟨dx, ha⟩, k⟩ := h
    refine ⟨_, (pss_one (ps_ret (pe_tup (pa_cons (pe_fldk K (pv 0) rfl) (pa_cons (pe_fldk K (pv 0) rfl) (pa_cons (pe_fldk K (pv 0) rfl) (pa_cons (pe_fldk K (pv 0) rfl) (pa_cons (pe_fldk K (pv 0) rfl) (pa_cons (pe_fldk K (pv 0) rfl) pa_nil))))))))), ?_⟩
    have c1 := T.cl_NewLine
    have c2 := T.na_NewLine_start
    have c3 := T.na_NewLine_moves
    have c4 := T.na_NewLine_number
    have c5 := T.na_NewLine_label
    have c6 := T.na_NewLine_tie
    have c7 := T.na_NewLine_source
    walk_at "rd"
    rename_i p np
    exact k p np
theorem ok_OldLine___init__ (T : Txt w P K mg) : FnOk P w K mg base CX0 1 T.f_OldLine___init__ T.d_OldLine___init__ ["self", "number", "label", "start"] (spOldInit T.a_OldLine) := by
  refine T.F_OldLine___init__.ok sc_OldLine___init__ (fun vs H Q E h => ?_) (fun cdv A outer s H vs Q E hr h => ?_)
  · obtain ⟨a, dx, n, b, s, rfl, _⟩ := h
    rfl
  · obtain ⟨a, dx, n, b, st, rfl, ha, k⟩ := h
    refine ⟨_, (pss_cons (ps_fld (pv 0) (pv 1) rfl)
  (pss_cons (ps_fld (pv 0) (pv 2) rfl)
  (pss_cons (ps_fld (pv 0) (pv 3) rfl)
  (pss_cons (ps_fld (pv 0) pe_int rfl)
  (pss_cons (ps_fld (pv 0) pe_non rfl)
  (pss_one (ps_fld (pv 0) pe_bl rfl))))))), ?_⟩
    have c1 := T.cl_OldLine
    have c2 := T.na_OldLine_start
    have c3 := T.na_OldLine_moves
    have c4 := T.na_OldLine_number
    have c5 := T.na_OldLine_label
    have c6 := T.na_OldLine_tie
    have c7 := T.na_OldLine_standing
    walk_at "rd"
    simp only [upd_upd]
    exact k
theorem ok_NewLine___init__ (T : Txt w P K mg) : FnOk P w K mg base CX0 1 T.f_NewLine___init__ T.d_NewLine___init__ ["self", "number", "label", "start", "source"] (spNewInit T.a_NewLine) := by
  refine T.F_NewLine___init__.ok sc_NewLine___init__ (fun vs H Q E h => ?_) (fun cdv A outer s H vs Q E hr h => ?_)
  · obtain ⟨a, dx, n, b, s, o, rfl, _⟩ := h
    rfl
  · obtain ⟨a, dx, n, b, st, o, rfl, ha, k⟩ := h
    refine ⟨_, (pss_cons (ps_fld (pv 0) (pv 1) rfl)
  (pss_cons (ps_fld (pv 0) (pv 2) rfl)
  (pss_cons (ps_fld (pv 0) (pv 3) rfl)
  (pss_cons (ps_fld (pv 0) pe_int rfl)
  (pss_cons (ps_fld (pv 0) pe_non rfl)
  (pss_cons (ps_fld (pv 0) (pv 4) rfl)
  (pss_one (ps_fld (pv 0) pe_dnewK rfl)))))))), ?_⟩
    have c1 := T.cl_NewLine
    have c2 := T.na_NewLine_start
    have c3 := T.na_NewLine_moves
    have c4 := T.na_NewLine_number
    have c5 := T.na_NewLine_label
    have c6 := T.na_NewLine_tie
    have c7 := T.na_NewLine_source
    have c8 := T.na_NewLine_typed
    walk_at "rd"
    rename_i t nt
    simp only [upd_upd] at nt ⊢
    have hta : t ≠ a := fun e => by
      subst e
      rw [upd_same] at nt
      cases nt
    have htH : H t = none := by rw [upd_ne hta] at nt; exact nt
    rw [upd_under hta.symm]
    exact k t htH
end

set_option Elab.async false
set_option linter.all false
set_option maxRecDepth 100000


/-! ### the ledgers in the heap -/
structure LA where
  dx : Addr
  od : Addr
  nd : Addr
  md : Addr
  mkv : List (Key × V)
  oa : Nat → Addr
  na : Nat → Addr
  ta : Nat → Addr
/-- the dicts that a walk holds: by their objects -/
structure Fz where
  o : Option Obj
  n : Option Obj
  m : Option Obj
def noFz : Fz := ⟨none, none, none⟩
def lck (f : Option Obj) (u : HO) : HO := match f with
  | none => u
  | some o => .frz o u
def olds (g : LG) (A : LA) : List (Key × V) := (List.range g.old.length).map fun i => (Sum.inl ((i + 1 : Nat) : Int), V.ref (A.oa i))
def news (g : LG) (A : LA) : List (Key × V) := g.new.map fun l => (Sum.inl ((l.number : Nat) : Int), V.ref (A.na l.number))
def madeKV (A : LA) (l : NL) : Option (Key × V) := l.source.map fun s => (Sum.inl ((s : Nat) : Int), V.ref (A.na l.number))
def mades (g : LG) (A : LA) : List (Key × V) := g.new.filterMap (madeKV A)
def typedK (l : NL) : List (Key × V) := l.typed.map fun k => (Sum.inr k, V.bl true)
def lfs (g : LG) (A : LA) : List (Str × V) := [("old_lines", .ref A.od), ("new_lines", .ref A.nd), ("made_lines", .ref A.md), ("last_new", .int (g.last : Nat))]
structure LedA (CL CO CN : Addr) (H : Hp) (p : Addr) (g : LG) (A : LA) (z : Fz) (S : Addr → Prop) : Prop where
  self : H p = some (.ins CL A.dx (lfs g A))
  od : H A.od = some (lck z.o (.dK (olds g A)))
  nd : H A.nd = some (lck z.n (.dK (news g A)))
  md : H A.md = some (lck z.m (.dK A.mkv))
  old : ∀ i l, g.old[i]? = some l → OldAt CO H (A.oa i) (i + 1) l
  new : ∀ l ∈ g.new, NewAt CN H (A.na l.number) (A.ta l.number) l
  typ : ∀ l ∈ g.new, H (A.ta l.number) = some (.dK (typedK l))
  d1 : A.od ≠ A.nd
  d2 : A.od ≠ A.md
  d3 : A.nd ≠ A.md
  dt : ∀ l ∈ g.new, A.ta l.number ≠ A.od ∧ A.ta l.number ≠ A.nd ∧ A.ta l.number ≠ A.md
  dtt : ∀ l ∈ g.new, ∀ l' ∈ g.new, A.ta l.number = A.ta l'.number → l.number = l'.number
  sp : S p
  so : S A.od
  sn : S A.nd
  sm : S A.md
  sold : ∀ i, i < g.old.length → S (A.oa i)
  snew : ∀ l ∈ g.new, S (A.na l.number) ∧ S (A.ta l.number)
def MK (g : LG) (A : LA) : Prop := A.mkv = mades g A
structure WF (g : LG) : Prop where
  num : g.new.Pairwise fun l l' => l.number < l'.number
  last : ∀ l ∈ g.new, 1 ≤ l.number ∧ l.number ≤ g.last
  src : ∀ l ∈ g.new, ∀ s, l.source = some s → 1 ≤ s ∧ s ≤ g.old.length
  one : g.new.Pairwise fun l l' => ∀ s, l.source = some s → l'.source ≠ some s
  few : g.old.length ≤ 1000
  most : g.last ≤ 900000
def Frm (S : Addr → Prop) (H H' : Hp) : Prop := ∀ b o, H b = some o → ¬ S b → H' b = some o
def Grow (S S' : Addr → Prop) (H : Hp) : Prop := ∀ b, S' b → S b ∨ H b = none
theorem Frm.refl (S : Addr → Prop) (H : Hp) : Frm S H H := fun _ _ e _ => e
theorem Grow.refl (S : Addr → Prop) (H : Hp) : Grow S S H := fun _ h => .inl h
theorem Frm.trans {S S1 : Addr → Prop} {H H1 H2 : Hp} (h : Frm S H H1) (g : Grow S S1 H) (k : Frm S1 H1 H2) : Frm S H H2 := fun b o e n => k b o (h b o e n) fun s => (g b s).elim n fun z => by rw [z] at e; cases e
theorem Grow.trans {S S1 S2 : Addr → Prop} {H H1 : Hp} (g : Grow S S1 H) (h : Frm S H H1) (k : Grow S1 S2 H1) : Grow S S2 H := fun b s => (k b s).elim (g b) fun z => by
  by_cases q : S b
  · exact .inl q
  · refine .inr ?_
    cases e : H b with
    | none => rfl
    | some o =>
      rw [h b o e q] at z
      cases z
/-- what stands outside stays, so what holds of it -/
theorem Frm.same {S : Addr → Prop} {H0 H H' : Hp} (h : Frm S H H') (s : Same H0 H) (n : ∀ b, S b → H0 b = none) : Same H0 H' := fun b o e => h b o (s b o e) fun q => by rw [n b q] at e; cases e
theorem OldAt.num {C : Addr} {H : Hp} {a : Addr} {n m : Nat} {l k : OL} : OldAt C H a n l → OldAt C H a m k → n = m := by
  rintro ⟨d1, h1⟩ ⟨d2, h2⟩
  rw [h1] at h2
  have e := HO.ins.inj (Option.some.inj h2)
  have e2 := e.2.2
  unfold ofs at e2
  have e3 := (List.cons.inj e2).1
  have e4 : V.int (n : Nat) = V.int (m : Nat) := (Prod.mk.inj e3).2
  have e5 : ((n : Nat) : Int) = ((m : Nat) : Int) := V.int.inj e4
  omega
theorem NewAt.num {C : Addr} {H : Hp} {a t u : Addr} {l k : NL} : NewAt C H a t l → NewAt C H a u k → l.number = k.number := by
  rintro ⟨d1, h1⟩ ⟨d2, h2⟩
  rw [h1] at h2
  have e := HO.ins.inj (Option.some.inj h2)
  have e2 := e.2.2
  unfold nfs at e2
  have e3 := (List.cons.inj e2).1
  have e4 : V.int (l.number : Nat) = V.int (k.number : Nat) := (Prod.mk.inj e3).2
  have e5 : ((l.number : Nat) : Int) = ((k.number : Nat) : Int) := V.int.inj e4
  omega
def spLInit (CL CO CN : Addr) : Sp := fun vs H Q _ => ∃ (p dx : Addr), vs = [.ref p] ∧ H p = some (.ins CL dx []) ∧
  ∀ (A : LA) (H' : Hp), LedA CL CO CN H' p ⟨[], [], 0⟩ A noFz (fun b => b = p ∨ b = A.od ∨ b = A.nd ∨ b = A.md) → MK ⟨[], [], 0⟩ A → H A.od = none → H A.nd = none → H A.md = none → (∀ b o, H b = some o → b ≠ p → H' b = some o) → Q .non H'
set_option maxHeartbeats 4000000
section
variable {P : Program} {w : World} {K : PySem.W.Frag} {mg : Str → Option Value} {base : Heap}
theorem ok_Ledgers___init__ (T : Txt w P K mg) : FnOk P w K mg base CX0 1 T.f_Ledgers___init__ T.d_Ledgers___init__ ["self"] (spLInit T.a_Ledgers T.a_OldLine T.a_NewLine) := by
  refine T.F_Ledgers___init__.ok sc_Ledgers___init__ (fun vs H Q E h => ?_) (fun cdv A outer s H vs Q E hr h => ?_)
  · obtain ⟨p, dx, rfl, _⟩ := h
    rfl
  · obtain ⟨p, dx, rfl, hp, k⟩ := h
    refine ⟨_, (pss_cons (ps_fld (pv 0) pe_dnewK rfl)
  (pss_cons (ps_fld (pv 0) pe_dnewK rfl)
  (pss_cons (ps_fld (pv 0) pe_dnewK rfl)
  (pss_one (ps_fld (pv 0) pe_int rfl))))), ?_⟩
    have c1 := T.cl_Ledgers
    have c2 := T.na_Ledgers_old_lines
    have c3 := T.na_Ledgers_new_lines
    have c4 := T.na_Ledgers_made_lines
    have c5 := T.na_Ledgers_last_new
    walk_at "rd"
    rename_i d1 n1 d2 n2 d3 n3
    have e1 : d1 ≠ p := fun e => by rw [e, hp] at n1; cases n1
    simp only [upd_upd, upd_under e1.symm] at n2 n3 ⊢
    have e2 : d2 ≠ p := fun e => by rw [e, upd_same] at n2; cases n2
    simp only [upd_upd, upd_under e1.symm, upd_under e2.symm] at n3 ⊢
    have e3 : d3 ≠ p := fun e => by rw [e, upd_same] at n3; cases n3
    simp only [upd_upd, upd_under e3.symm] at ⊢
    have f2 : (upd H d1 (.dK [])) d2 = none := by rw [upd_ne e2] at n2; exact n2
    have e21 : d2 ≠ d1 := fun e => by rw [e, upd_same] at f2; cases f2
    have f2' : H d2 = none := by rw [upd_ne e21] at f2; exact f2
    have f3 : (upd (upd H d1 (.dK [])) d2 (.dK [])) d3 = none := by rw [upd_ne e3] at n3; exact n3
    have e32 : d3 ≠ d2 := fun e => by rw [e, upd_same] at f3; cases f3
    rw [upd_ne e32] at f3
    have e31 : d3 ≠ d1 := fun e => by rw [e, upd_same] at f3; cases f3
    rw [upd_ne e31] at f3
    refine k ⟨dx, d1, d2, d3, [], fun _ => p, fun _ => p, fun _ => p⟩ _ { self := upd_same, od := ?_, nd := ?_, md := ?_, old := fun i l h => by simp at h, new := fun l h => absurd h List.not_mem_nil, typ := fun l h => absurd h List.not_mem_nil, d1 := e21.symm, d2 := e31.symm, d3 := e32.symm, dt := fun l h => absurd h List.not_mem_nil, dtt := fun l h => absurd h List.not_mem_nil, sp := .inl rfl, so := .inr (.inl rfl), sn := .inr (.inr (.inl rfl)), sm := .inr (.inr (.inr rfl)), sold := fun i h => absurd h (Nat.not_lt_zero i), snew := fun l h => absurd h List.not_mem_nil } rfl n1 f2' f3 ?_
    · show upd _ _ _ d1 = _
      rw [upd_ne e1, upd_ne e31.symm, upd_ne e21.symm, upd_same]
      rfl
    · show upd _ _ _ d2 = _
      rw [upd_ne e2, upd_ne e32.symm, upd_same]
      rfl
    · show upd _ _ _ d3 = _
      rw [upd_ne e3, upd_same]
      rfl
    · intro b o e hb
      rw [upd_ne hb, upd_ne (ne_of_none e f3), upd_ne (ne_of_none e f2'), upd_ne (ne_of_none e n1)]
      exact e
end

set_option Elab.async false
set_option linter.all false
set_option maxRecDepth 100000


local macro_rules | `(tactic| walk_at "lk") => `(tactic| first
  | exact ofs_number _ _ | exact ofs_label _ _ | exact ofs_start _ _ | exact ofs_moves _ _ | exact ofs_tie _ _ | exact ofs_standing _ _
  | exact nfs_number _ _ | exact nfs_label _ _ | exact nfs_start _ _ | exact nfs_moves _ _ | exact nfs_tie _ _ | exact nfs_source _ _ | exact nfs_typed _ _
  | rfl)
/-! ### addresses that differ by what stands there -/
theorem at_ne {H : Hp} {a b : Addr} {o u : HO} (h : H a = some o) (k : H b = some u) (n : o ≠ u) : a ≠ b := fun e => by
  rw [e, k] at h
  exact n (Option.some.inj h).symm
theorem lck_ins {f : Option Obj} {k : List (Key × V)} {C d : Addr} {fs : List (Str × V)} : lck f (.dK k) ≠ .ins C d fs := by
  cases f <;> exact fun h => by cases h
theorem lck_dK {o : Obj} {k k' : List (Key × V)} : lck (some o) (.dK k) ≠ .dK k' := fun h => by cases h
theorem fs_ne {C C' d d' : Addr} {fs fs' : List (Str × V)} (h : fs.length ≠ fs'.length) : HO.ins C d fs ≠ .ins C' d' fs' := fun e => h (by rw [(HO.ins.inj e).2.2])
section
variable {CL CO CN : Addr} {H : Hp} {p : Addr} {g : LG} {A : LA} {z : Fz} {S : Addr → Prop}
theorem LedA.oldAt (L : LedA CL CO CN H p g A z S) {i : Nat} (h : i < g.old.length) : ∃ dx l, g.old[i]? = some l ∧ H (A.oa i) = some (.ins CO dx (ofs (i + 1) l)) := by
  obtain ⟨dx, e⟩ := L.old i (g.old[i]) (List.getElem?_eq_getElem h)
  exact ⟨dx, _, List.getElem?_eq_getElem h, e⟩
theorem LedA.od_p (L : LedA CL CO CN H p g A z S) : A.od ≠ p := at_ne L.od L.self lck_ins
theorem LedA.nd_p (L : LedA CL CO CN H p g A z S) : A.nd ≠ p := at_ne L.nd L.self lck_ins
theorem LedA.md_p (L : LedA CL CO CN H p g A z S) : A.md ≠ p := at_ne L.md L.self lck_ins
theorem LedA.od_oa (L : LedA CL CO CN H p g A z S) {i : Nat} (h : i < g.old.length) : A.od ≠ A.oa i := by
  obtain ⟨dx, l, _, e⟩ := L.oldAt h
  exact at_ne L.od e lck_ins
theorem LedA.nd_oa (L : LedA CL CO CN H p g A z S) {i : Nat} (h : i < g.old.length) : A.nd ≠ A.oa i := by
  obtain ⟨dx, l, _, e⟩ := L.oldAt h
  exact at_ne L.nd e lck_ins
theorem LedA.md_oa (L : LedA CL CO CN H p g A z S) {i : Nat} (h : i < g.old.length) : A.md ≠ A.oa i := by
  obtain ⟨dx, l, _, e⟩ := L.oldAt h
  exact at_ne L.md e lck_ins
theorem LedA.oa_p (L : LedA CL CO CN H p g A z S) {i : Nat} (h : i < g.old.length) : A.oa i ≠ p := by
  obtain ⟨dx, l, _, e⟩ := L.oldAt h
  exact at_ne e L.self (fs_ne (fun h => by cases h))
theorem LedA.od_na (L : LedA CL CO CN H p g A z S) {l : NL} (h : l ∈ g.new) : A.od ≠ A.na l.number := by
  obtain ⟨dx, e⟩ := L.new l h
  exact at_ne L.od e lck_ins
theorem LedA.nd_na (L : LedA CL CO CN H p g A z S) {l : NL} (h : l ∈ g.new) : A.nd ≠ A.na l.number := by
  obtain ⟨dx, e⟩ := L.new l h
  exact at_ne L.nd e lck_ins
theorem LedA.md_na (L : LedA CL CO CN H p g A z S) {l : NL} (h : l ∈ g.new) : A.md ≠ A.na l.number := by
  obtain ⟨dx, e⟩ := L.new l h
  exact at_ne L.md e lck_ins
theorem LedA.na_p (L : LedA CL CO CN H p g A z S) {l : NL} (h : l ∈ g.new) : A.na l.number ≠ p := by
  obtain ⟨dx, e⟩ := L.new l h
  exact at_ne e L.self (fs_ne (fun h => by cases h))
theorem LedA.ta_p (L : LedA CL CO CN H p g A z S) {l : NL} (h : l ∈ g.new) : A.ta l.number ≠ p := at_ne (L.typ l h) L.self (fun h => by cases h)
theorem LedA.oa_na (L : LedA CL CO CN H p g A z S) {i : Nat} (hi : i < g.old.length) {l : NL} (h : l ∈ g.new) : A.oa i ≠ A.na l.number := by
  obtain ⟨dx, l', _, e⟩ := L.oldAt hi
  obtain ⟨d2, e2⟩ := L.new l h
  exact at_ne e e2 (fs_ne (fun h => by cases h))
theorem LedA.oa_ta (L : LedA CL CO CN H p g A z S) {i : Nat} (hi : i < g.old.length) {l : NL} (h : l ∈ g.new) : A.oa i ≠ A.ta l.number := by
  obtain ⟨dx, l', _, e⟩ := L.oldAt hi
  exact at_ne e (L.typ l h) (fun h => by cases h)
theorem LedA.na_ta (L : LedA CL CO CN H p g A z S) {l l' : NL} (h : l ∈ g.new) (h' : l' ∈ g.new) : A.na l.number ≠ A.ta l'.number := by
  obtain ⟨dx, e⟩ := L.new l h
  exact at_ne e (L.typ l' h') (fun h => by cases h)
theorem LedA.oa_inj (L : LedA CL CO CN H p g A z S) {i j : Nat} (hi : i < g.old.length) (hj : j < g.old.length) (e : A.oa i = A.oa j) : i = j := by
  have h1 := L.old i _ (List.getElem?_eq_getElem hi)
  have h2 := L.old j _ (List.getElem?_eq_getElem hj)
  rw [e] at h1
  have := h1.num h2
  omega
theorem LedA.na_inj (L : LedA CL CO CN H p g A z S) {l l' : NL} (h : l ∈ g.new) (h' : l' ∈ g.new) (e : A.na l.number = A.na l'.number) : l.number = l'.number := by
  have h1 := L.new l h
  have h2 := L.new l' h'
  rw [e] at h1
  exact h1.num h2
/-- all that the ledgers own stands as it stood -/
theorem LedA.move {H' : Hp} (L : LedA CL CO CN H p g A z S) (f : ∀ b o, H b = some o → S b → H' b = some o) : LedA CL CO CN H' p g A z S := { L with
  self := f _ _ L.self L.sp
  od := f _ _ L.od L.so
  nd := f _ _ L.nd L.sn
  md := f _ _ L.md L.sm
  old := fun i l h => by
    obtain ⟨dx, e⟩ := L.old i l h
    exact ⟨dx, f _ _ e (L.sold i (List.getElem?_eq_some_iff.mp h).1)⟩
  new := fun l h => by
    obtain ⟨dx, e⟩ := L.new l h
    exact ⟨dx, f _ _ e (L.snew l h).1⟩
  typ := fun l h => f _ _ (L.typ l h) (L.snew l h).2 }
/-- more may be owned -/
theorem LedA.grow {S' : Addr → Prop} (L : LedA CL CO CN H p g A z S) (f : ∀ b, S b → S' b) : LedA CL CO CN H p g A z S' := { L with
  sp := f _ L.sp
  so := f _ L.so
  sn := f _ L.sn
  sm := f _ L.sm
  sold := fun i h => f _ (L.sold i h)
  snew := fun l h => ⟨f _ (L.snew l h).1, f _ (L.snew l h).2⟩ }
theorem LedA.free (L : LedA CL CO CN H p g A z S) {x : Addr} (h : H x = none) : x ≠ p ∧ x ≠ A.od ∧ x ≠ A.nd ∧ x ≠ A.md := ⟨(ne_of_none L.self h).symm, (ne_of_none L.od h).symm, (ne_of_none L.nd h).symm, (ne_of_none L.md h).symm⟩
theorem olds_len (g : LG) (A : LA) : (olds g A).length = g.old.length := by unfold olds; rw [List.length_map, List.length_range]
theorem olds_key (g : LG) (A : LA) {q : Key × V} (h : q ∈ olds g A) : ∃ i, i < g.old.length ∧ q = (Sum.inl ((i + 1 : Nat) : Int), V.ref (A.oa i)) := by
  unfold olds at h
  obtain ⟨i, hi, rfl⟩ := List.mem_map.mp h
  exact ⟨i, List.mem_range.mp hi, rfl⟩
/-- one old line more -/
theorem LedA.addOld (L : LedA CL CO CN H p g A z S) (hz : z.o = none) {x dx : Addr} {l : OL} (nx : H x = none) (ndx : H dx = none) (nxd : dx ≠ x) :
    let A' : LA := { A with oa := fun i => if i = g.old.length then x else A.oa i }
    let H' := upd (upd (upd H dx (.own x)) x (.ins CO dx (ofs (g.old.length + 1) l))) A.od (.dK (putK (olds g A) (Sum.inl ((g.old.length + 1 : Nat) : Int)) (.ref x)))
    LedA CL CO CN H' p { g with old := g.old ++ [l] } A' z (fun b => S b ∨ b = x) ∧ Frm S H H' ∧ Grow S (fun b => S b ∨ b = x) H := by
  intro A' H'
  have fr : ∀ b o, H b = some o → b ≠ A.od → H' b = some o := fun b o e n => by
    show upd _ _ _ b = _
    rw [upd_ne n, upd_ne (ne_of_none e nx), upd_ne (ne_of_none e ndx), e]
  have hx := L.free nx
  have oas : ∀ i, i < g.old.length → A'.oa i = A.oa i := fun i h => if_neg (by omega)
  refine ⟨{ self := fr _ _ L.self L.od_p.symm, od := ?_, nd := fr _ _ L.nd L.d1.symm, md := fr _ _ L.md L.d2.symm, old := ?_, new := ?_, typ := ?_, d1 := L.d1, d2 := L.d2, d3 := L.d3, dt := L.dt, dtt := L.dtt, sp := .inl L.sp, so := .inl L.so, sn := .inl L.sn, sm := .inl L.sm, sold := ?_, snew := fun l h => ⟨.inl (L.snew l h).1, .inl (L.snew l h).2⟩ }, ?_, ?_⟩
  · rw [hz]
    show upd _ _ _ A.od = _
    rw [upd_same]
    congr 2
    rw [putK_new]
    · show _ = List.map _ (List.range (g.old ++ [l]).length)
      rw [List.length_append, List.length_cons, List.length_nil, List.range_succ, List.map_append]
      congr 1
      · unfold olds
        refine List.map_congr_left fun i hi => ?_
        rw [oas i (List.mem_range.mp hi)]
      · show _ = [(Sum.inl ((g.old.length + 1 : Nat) : Int), V.ref (if g.old.length = g.old.length then x else _))]
        rw [if_pos rfl]
    · intro q hq e
      obtain ⟨i, hi, rfl⟩ := olds_key g A hq
      have := Sum.inl.inj e
      omega
  · intro i k hk
    by_cases hi : i < g.old.length
    · rw [oas i hi]
      have hk' : g.old[i]? = some k := by
        rw [← hk]
        exact (List.getElem?_append_left hi).symm
      obtain ⟨d, e⟩ := L.old i k hk'
      exact ⟨d, fr _ _ e (L.od_oa hi).symm⟩
    · have hlt := (List.getElem?_eq_some_iff.mp hk).1
      rw [List.length_append, List.length_cons, List.length_nil] at hlt
      obtain rfl : i = g.old.length := by omega
      have hk2 : k = l := by
        have : (g.old ++ [l])[g.old.length]? = some l := by simp
        rw [this] at hk
        exact (Option.some.inj hk).symm
      subst hk2
      refine ⟨dx, ?_⟩
      show upd _ _ _ (if g.old.length = g.old.length then x else _) = _
      rw [if_pos rfl, upd_ne hx.2.1, upd_same]
  · intro k hk
    obtain ⟨d, e⟩ := L.new k hk
    exact ⟨d, fr _ _ e (L.od_na hk).symm⟩
  · exact fun k hk => fr _ _ (L.typ k hk) (L.dt k hk).1
  · intro i hi
    by_cases h : i < g.old.length
    · rw [oas i h]
      exact .inl (L.sold i h)
    · refine .inr ?_
      rw [List.length_append, List.length_cons, List.length_nil] at hi
      exact if_pos (by omega)
  · intro b o e n
    exact fr b o e fun h => n (by rw [h]; exact L.so)
  · rintro b (h | rfl)
    · exact .inl h
    · exact .inr nx
end
def spAddOld (CL CO CN : Addr) : Sp := fun vs H Q _ => ∃ (p : Addr) (b s : Int) (g : LG) (A : LA) (z : Fz) (S : Addr → Prop), vs = [.ref p, .int b, .int s] ∧ LedA CL CO CN H p g A z S ∧ WF g ∧ z.o = none ∧ g.old.length < 1000 ∧
  ∀ (A' : LA) (S' : Addr → Prop) (H' : Hp), LedA CL CO CN H' p { g with old := g.old ++ [⟨b, s, 0, none, true⟩] } A' z S' → A'.mkv = A.mkv → A'.na = A.na → Frm S H H' → Grow S S' H → Q .non H'
set_option maxHeartbeats 4000000
section
variable {P : Program} {w : World} {K : PySem.W.Frag} {mg : Str → Option Value} {base : Heap}
theorem ok_Ledgers_add_old (T : Txt w P K mg) : FnOk P w K mg base CX0 3 T.f_Ledgers_add_old T.d_Ledgers_add_old ["self", "label", "start"] (spAddOld T.a_Ledgers T.a_OldLine T.a_NewLine) := by
  refine T.F_Ledgers_add_old.ok sc_Ledgers_add_old (fun vs H Q E h => ?_) (fun cdv A outer s H vs Q E hr h => ?_)
  · obtain ⟨p, b, s, g, A, z, S, rfl, _⟩ := h
    rfl
  · obtain ⟨p, b, st, g, A, z, S, rfl, L, W, hz, hlen, k⟩ := h
    refine ⟨_, (pss_cons (ps_set (i := 3) sc_Ledgers_add_old.nd rfl (Or.inl rfl) (pe_op (op_addUk K) (pe_callB (call_lenUk K) (by rfl) T.m_len b_len (pa_cons (pe_fldk K (pv 0) rfl) pa_nil)) pe_int))
  (pss_one (ps_dput (hu_of hr) (pe_fldk K (pv 0) rfl) (pv 3) (pe_make T.M_OldLine (ok_OldLine___init__ T) (hr.mono (by decide)) (by rfl) T.m_OldLine T.b_OldLine___init__ .nil pass0 (pa_cons (pv 3) (pa_cons (pv 1) (pa_cons (pv 2) pa_nil)))) rfl))), ?_⟩
    have c1 := T.cl_Ledgers
    have c2 := T.na_Ledgers_old_lines
    have c0 := L.self
    have c3 : H A.od = some (.dK (olds g A)) := by
      have h := L.od
      rw [hz] at h
      exact h
    have hl := olds_len g A
    walk_at "rd"
    rw [hl]
    intro x dx nx ndx nxd
    refine ⟨x, dx, g.old.length + 1, b, st, rfl, upd_same, ⟨rfl, ?_⟩⟩
    simp only [upd_upd]
    walk_at "rd"
    have hx := L.free nx
    have hd := L.free ndx
    refine k_dputI (kvs := olds g A) (by rw [upd_ne hx.2.1.symm, upd_ne hd.2.1.symm]; exact c3) (by rw [hl]; omega) ?_
    obtain ⟨h1, h2, h3⟩ := L.addOld hz (l := ⟨b, st, 0, none, true⟩) nx ndx nxd
    exact k _ _ _ h1 rfl rfl h2 h3
end

set_option Elab.async false
set_option linter.all false
set_option maxRecDepth 100000


local macro_rules | `(tactic| walk_at "lk") => `(tactic| first
  | exact ofs_number _ _ | exact ofs_label _ _ | exact ofs_start _ _ | exact ofs_moves _ _ | exact ofs_tie _ _ | exact ofs_standing _ _
  | exact nfs_number _ _ | exact nfs_label _ _ | exact nfs_start _ _ | exact nfs_moves _ _ | exact nfs_tie _ _ | exact nfs_source _ _ | exact nfs_typed _ _
  | rfl)
def LA.addN (A : LA) (n : Nat) (x t : Addr) : LA := { A with na := fun i => if i = n then x else A.na i, ta := fun i => if i = n then t else A.ta i }
def LG.addN (g : LG) (b s : Int) (o : Option Nat) : LG := { g with new := g.new ++ [⟨g.last + 1, b, s, 0, none, o, []⟩], last := g.last + 1 }
section
variable {CL CO CN : Addr} {H : Hp} {p : Addr} {g : LG} {A : LA} {z : Fz} {S : Addr → Prop}
theorem news_key (g : LG) (A : LA) {q : Key × V} (h : q ∈ news g A) : ∃ l ∈ g.new, q = (Sum.inl ((l.number : Nat) : Int), V.ref (A.na l.number)) := by
  unfold news at h
  obtain ⟨l, hl, rfl⟩ := List.mem_map.mp h
  exact ⟨l, hl, rfl⟩
/-- one new line more -/
theorem LedA.addNew (L : LedA CL CO CN H p g A z S) (W : WF g) (hz : z.n = none) {x dx t : Addr} {b s : Int} {o : Option Nat} (nx : H x = none) (ndx : H dx = none) (nxd : dx ≠ x) (nt : H t = none) (ntx : t ≠ x) (ntd : t ≠ dx) :
    let H' := upd (upd (upd (upd (upd H p (.ins CL A.dx (lfs (g.addN b s o) A))) dx (.own x)) t (.dK [])) x (.ins CN dx (nfs ⟨g.last + 1, b, s, 0, none, o, []⟩ t))) A.nd (.dK (putK (news g A) (Sum.inl ((g.last + 1 : Nat) : Int)) (.ref x)))
    LedA CL CO CN H' p (g.addN b s o) (A.addN (g.last + 1) x t) z (fun b => S b ∨ b = x ∨ b = t) ∧ Frm S H H' ∧ Grow S (fun b => S b ∨ b = x ∨ b = t) H := by
  intro H'
  have fr : ∀ b o, H b = some o → b ≠ A.nd → b ≠ p → H' b = some o := fun b o e n n2 => by
    show upd _ _ _ b = _
    rw [upd_ne n, upd_ne (ne_of_none e nx), upd_ne (ne_of_none e nt), upd_ne (ne_of_none e ndx), upd_ne n2, e]
  have hx := L.free nx
  have ht := L.free nt
  have hd := L.free ndx
  have old : ∀ l ∈ g.new, (A.addN (g.last + 1) x t).na l.number = A.na l.number ∧ (A.addN (g.last + 1) x t).ta l.number = A.ta l.number := fun l h => by
    have := W.last l h
    exact ⟨if_neg (by omega), if_neg (by omega)⟩
  have nw1 : (A.addN (g.last + 1) x t).na (g.last + 1) = x := if_pos rfl
  have nw2 : (A.addN (g.last + 1) x t).ta (g.last + 1) = t := if_pos rfl
  have mem : ∀ l ∈ (g.addN b s o).new, l ∈ g.new ∨ l = ⟨g.last + 1, b, s, 0, none, o, []⟩ := fun l h => (List.mem_append.mp h).elim .inl fun h => .inr (List.mem_singleton.mp h)
  have ta_free : ∀ l ∈ g.new, A.ta l.number ≠ t := fun l h => ne_of_none (L.typ l h) nt
  refine ⟨{ self := ?_, od := fr _ _ L.od L.d1 L.od_p, nd := ?_, md := fr _ _ L.md L.d3.symm L.md_p, old := ?_, new := ?_, typ := ?_, d1 := L.d1, d2 := L.d2, d3 := L.d3, dt := ?_, dtt := ?_, sp := .inl L.sp, so := .inl L.so, sn := .inl L.sn, sm := .inl L.sm, sold := fun i h => .inl (L.sold i h), snew := ?_ }, ?_, ?_⟩
  · show upd _ _ _ p = _
    rw [upd_ne L.nd_p.symm, upd_ne hx.1.symm, upd_ne ht.1.symm, upd_ne hd.1.symm, upd_same]
    rfl
  · rw [hz]
    show upd _ _ _ A.nd = _
    rw [upd_same]
    congr 2
    rw [putK_new]
    · show _ = List.map _ (g.new ++ [_])
      rw [List.map_append]
      congr 1
      · unfold news
        refine List.map_congr_left fun l hl => ?_
        rw [(old l hl).1]
      · show _ = [(Sum.inl ((g.last + 1 : Nat) : Int), V.ref ((A.addN (g.last + 1) x t).na (g.last + 1)))]
        rw [nw1]
    · intro q hq e
      obtain ⟨l, hl, rfl⟩ := news_key g A hq
      have := Sum.inl.inj e
      have := W.last l hl
      omega
  · intro i k hk
    have hi := (List.getElem?_eq_some_iff.mp hk).1
    obtain ⟨d, e⟩ := L.old i k hk
    exact ⟨d, fr _ _ e (L.nd_oa hi).symm (L.oa_p hi)⟩
  · intro l hl
    rcases mem l hl with h | rfl
    · obtain ⟨d, e⟩ := L.new l h
      rw [(old l h).1, (old l h).2]
      exact ⟨d, fr _ _ e (L.nd_na h).symm (L.na_p h)⟩
    · refine ⟨dx, ?_⟩
      show H' ((A.addN (g.last + 1) x t).na (g.last + 1)) = some (.ins CN dx (nfs _ ((A.addN (g.last + 1) x t).ta (g.last + 1))))
      rw [nw1, nw2]
      show upd _ _ _ x = _
      rw [upd_ne hx.2.2.1, upd_same]
  · intro l hl
    rcases mem l hl with h | rfl
    · rw [(old l h).2]
      exact fr _ _ (L.typ l h) (L.dt l h).2.1 (L.ta_p h)
    · show H' ((A.addN (g.last + 1) x t).ta (g.last + 1)) = _
      rw [nw2]
      show upd _ _ _ t = _
      rw [upd_ne ht.2.2.1, upd_ne ntx, upd_same]
      rfl
  · intro l hl
    rcases mem l hl with h | rfl
    · rw [(old l h).2]
      exact L.dt l h
    · show (A.addN (g.last + 1) x t).ta (g.last + 1) ≠ _ ∧ (A.addN (g.last + 1) x t).ta (g.last + 1) ≠ _ ∧ (A.addN (g.last + 1) x t).ta (g.last + 1) ≠ _
      rw [nw2]
      exact ht.2
  · intro l hl l' hl' e
    rcases mem l hl with h | rfl
    · rcases mem l' hl' with h' | rfl
      · rw [(old l h).2, (old l' h').2] at e
        exact L.dtt l h l' h' e
      · rw [(old l h).2] at e
        exact absurd (e.trans nw2) (ta_free l h)
    · rcases mem l' hl' with h' | rfl
      · rw [(old l' h').2] at e
        exact absurd (e.symm.trans nw2) (ta_free l' h')
      · rfl
  · intro l hl
    rcases mem l hl with h | rfl
    · rw [(old l h).1, (old l h).2]
      exact ⟨.inl (L.snew l h).1, .inl (L.snew l h).2⟩
    · exact ⟨.inr (.inl nw1), .inr (.inr nw2)⟩
  · intro b o e n
    exact fr b o e (fun h => n (by rw [h]; exact L.sn)) fun h => n (by rw [h]; exact L.sp)
  · rintro b (h | rfl | rfl)
    · exact .inl h
    · exact .inr nx
    · exact .inr nt
/-- the made line is known under its source -/
theorem LedA.putMade (L : LedA CL CO CN H p g A z S) (hz : z.m = none) (kvs : List (Key × V)) :
    let A' : LA := { A with mkv := kvs }
    let H' := upd H A.md (.dK kvs)
    LedA CL CO CN H' p g A' z S ∧ Frm S H H' := by
  intro A' H'
  have fr : ∀ b o, H b = some o → b ≠ A.md → H' b = some o := fun b o e n => by
    show upd _ _ _ b = _
    rw [upd_ne n, e]
  refine ⟨{ L with self := fr _ _ L.self L.md_p.symm, od := fr _ _ L.od L.d2, nd := fr _ _ L.nd L.d3, md := ?_, old := ?_, new := ?_, typ := fun l h => fr _ _ (L.typ l h) (L.dt l h).2.2 }, ?_⟩
  · rw [hz]
    exact upd_same
  · intro i k hk
    obtain ⟨d, e⟩ := L.old i k hk
    exact ⟨d, fr _ _ e (L.md_oa (List.getElem?_eq_some_iff.mp hk).1).symm⟩
  · intro l h
    obtain ⟨d, e⟩ := L.new l h
    exact ⟨d, fr _ _ e (L.md_na h).symm⟩
  · intro b o e n
    exact fr b o e fun h => n (by rw [h]; exact L.sm)
theorem fm_congr {α β : Type} {f h : α → Option β} : ∀ {xs : List α}, (∀ x ∈ xs, f x = h x) → xs.filterMap f = xs.filterMap h
  | [], _ => rfl
  | x :: r, e => by
    rw [List.filterMap_cons, List.filterMap_cons, e x List.mem_cons_self, fm_congr fun y hy => e y (List.mem_cons_of_mem _ hy)]
theorem mades_addN (g : LG) (A : LA) (W : WF g) {b s : Int} {o : Option Nat} {x t : Addr} : mades (g.addN b s o) (A.addN (g.last + 1) x t) = mades g A ++ (o.map fun i => (Sum.inl ((i : Nat) : Int), V.ref x)).toList := by
  show List.filterMap _ (g.new ++ [_]) = _
  rw [List.filterMap_append]
  congr 1
  · unfold mades
    refine fm_congr fun l hl => ?_
    have := W.last l hl
    unfold madeKV
    show Option.map (fun s => (Sum.inl ((s : Nat) : Int), V.ref (if l.number = g.last + 1 then x else A.na l.number))) _ = _
    rw [if_neg (by omega)]
  · cases o with
    | none => rfl
    | some i =>
      show [(Sum.inl ((i : Nat) : Int), V.ref (if g.last + 1 = g.last + 1 then x else A.na (g.last + 1)))] = _
      rw [if_pos rfl]
      rfl
theorem mades_key (g : LG) (A : LA) {q : Key × V} (h : q ∈ mades g A) : ∃ l ∈ g.new, ∃ s : Nat, l.source = some s ∧ q = (Sum.inl ((s : Nat) : Int), V.ref (A.na l.number)) := by
  unfold mades madeKV at h
  obtain ⟨l, hl, e⟩ := List.mem_filterMap.mp h
  obtain ⟨s, hs, e⟩ := Option.map_eq_some_iff.mp e
  exact ⟨l, hl, s, hs, e.symm⟩
end
theorem free_upd {H : Hp} {a x : Addr} {o : HO} (h : upd H a o x = none) : x ≠ a ∧ H x = none := by
  have n : x ≠ a := fun e => by rw [e, upd_same] at h; cases h
  rw [upd_ne n] at h
  exact ⟨n, h⟩
theorem inc_len : ∀ (xs : List NL) (lo hi : Nat), xs.Pairwise (fun l l' => l.number < l'.number) → (∀ l ∈ xs, lo ≤ l.number ∧ l.number ≤ hi) → xs.length + lo ≤ hi + 1 ∨ xs = []
  | [], _, _, _, _ => .inr rfl
  | x :: r, lo, hi, hp, hb => by
    left
    have h1 := hb x List.mem_cons_self
    rcases inc_len r (x.number + 1) hi (List.pairwise_cons.mp hp).2 (fun l hl => ⟨(List.pairwise_cons.mp hp).1 l hl, (hb l (List.mem_cons_of_mem _ hl)).2⟩) with h | h
    · rw [List.length_cons]
      omega
    · rw [h, List.length_cons, List.length_nil]
      omega
theorem WF.newLen {g : LG} (W : WF g) : g.new.length ≤ g.last := by
  rcases inc_len g.new 1 g.last W.num W.last with h | h
  · omega
  · rw [h]
    exact Nat.zero_le _
theorem news_len (g : LG) (A : LA) : (news g A).length = g.new.length := by unfold news; rw [List.length_map]
theorem mades_len (g : LG) (A : LA) : (mades g A).length ≤ g.new.length := by unfold mades; exact List.length_filterMap_le _ _
def fAug (K : PySem.W.Frag) (tv : TE) (rd : V → V → Hp → VK → Prop) (f : Str) (nx : L2.St → Hp → Prop) (σ : L2.St) : VK := fun x H1 => ∃ a C dx fs v, x = .ref a ∧ H1 a = some (.ins C dx fs) ∧ Cls K C ∧ NoAttr K C f ∧ List.lookup f fs = some v ∧ tv σ H1 fun y H2 => rd v y H2 fun z H3 => ∃ dx' fs', H3 a = some (.ins C dx' fs') ∧ fs'.length < 1000 ∧ nx σ (upd H3 a (.ins C dx' (putF f z fs')))
theorem e_aug {K : PySem.W.Frag} {ta tv : TE} {rd : V → V → Hp → VK → Prop} {f : Str} {nx : L2.St → Hp → Prop} {rt : VK} {bk ct : L2.St → Hp → Prop} {σ : L2.St} {H : Hp} : sFldAug K ta tv rd f ⟨nx, rt, bk, ct⟩ σ H = ta σ H (fAug K tv rd f nx σ) := rfl
def spAddNew (CL CO CN : Addr) : Sp := fun vs H Q _ => ∃ (p : Addr) (b s : Int) (o : Option Nat) (g : LG) (A : LA) (z : Fz) (S : Addr → Prop), vs = [.ref p, .int b, .int s, oV o] ∧ LedA CL CO CN H p g A z S ∧ WF g ∧ z.n = none ∧ g.last < 900000 ∧
  ∀ (x t : Addr) (S' : Addr → Prop) (H' : Hp), LedA CL CO CN H' p (g.addN b s o) (A.addN (g.last + 1) x t) z S' → Frm S H H' → Grow S S' H → Q (.ref x) H'
set_option maxHeartbeats 4000000
section
variable {P : Program} {w : World} {K : PySem.W.Frag} {mg : Str → Option Value} {base : Heap}
theorem ok_Ledgers_add_new (T : Txt w P K mg) : FnOk P w K mg base CX0 3 T.f_Ledgers_add_new T.d_Ledgers_add_new ["self", "label", "start", "source"] (spAddNew T.a_Ledgers T.a_OldLine T.a_NewLine) := by
  refine T.F_Ledgers_add_new.ok sc_Ledgers_add_new (fun vs H Q E h => ?_) (fun cdv A outer s H vs Q E hr h => ?_)
  · obtain ⟨p, b, s, o, g, A, z, S, rfl, _⟩ := h
    rfl
  · obtain ⟨p, b, st, o, g, A, z, S, rfl, L, W, hz, hlast, k⟩ := h
    refine ⟨_, (pss_cons (ps_fldaug (pv 0) pe_int in_add)
  (pss_cons (ps_set (i := 4) sc_Ledgers_add_new.nd rfl (Or.inl rfl) (pe_make T.M_NewLine (ok_NewLine___init__ T) (hr.mono (by decide)) (by rfl) T.m_NewLine T.b_NewLine___init__ .nil pass0 (pa_cons (pe_fldk K (pv 0) rfl) (pa_cons (pv 1) (pa_cons (pv 2) (pa_cons (pv 3) pa_nil))))))
  (pss_cons (ps_dput (hu_of hr) (pe_fldk K (pv 0) rfl) (pe_fldk K (pv 4) rfl) (pv 4) rfl)
  (pss_one (ps_ret (pv 4)))))), ?_⟩
    have c1 := T.cl_Ledgers
    have c2 := T.na_Ledgers_last_new
    have c3 := T.na_Ledgers_new_lines
    have c4 := T.cl_NewLine
    have c5 := T.na_NewLine_number
    have c0 := L.self
    walk_at "rd"
    rw [e_aug]
    walk_at "rd"
    refine ⟨p, _, A.dx, lfs g A, .int (g.last : Nat), rfl, c0, c1, c2, rfl, ?_⟩
    walk_at "rd"
    refine ⟨_, _, rfl, rfl, A.dx, lfs g A, c0, Nat.le_of_ble_eq_true rfl, ?_⟩
    have c6 : upd H p (.ins T.a_Ledgers A.dx (lfs (g.addN b st o) A)) p = some (.ins T.a_Ledgers A.dx (lfs (g.addN b st o) A)) := upd_same
    show fFld _ _ _ _ (upd H p (.ins T.a_Ledgers A.dx (lfs (g.addN b st o) A)))
    generalize hH1 : upd H p (.ins T.a_Ledgers A.dx (lfs (g.addN b st o) A)) = H1 at c6
    walk_at "rd"
    intro x dx nx ndx nxd
    refine ⟨x, dx, g.last + 1, b, st, o, rfl, upd_same, fun t nt => ⟨rfl, ?_⟩⟩
    obtain ⟨ntx, nt1⟩ := free_upd nt
    obtain ⟨ntd, nt2⟩ := free_upd nt1
    rw [upd_under ntx.symm]
    have f1 := fun y (h : H1 y = none) => free_upd (H := H) (a := p) (by rw [hH1]; exact h)
    have hx := L.free (f1 x nx).2
    have hd := L.free (f1 dx ndx).2
    have ht := L.free (f1 t nt2).2
    have c7 : upd (upd (upd H1 dx (HO.own x)) t (.dK [])) x (.ins T.a_NewLine dx (nfs ⟨g.last + 1, b, st, 0, none, o, []⟩ t)) p = some (.ins T.a_Ledgers A.dx (lfs (g.addN b st o) A)) := by
      rw [upd_ne hx.1.symm, upd_ne ht.1.symm, upd_ne hd.1.symm]
      exact c6
    have c8 : upd (upd (upd H1 dx (HO.own x)) t (.dK [])) x (.ins T.a_NewLine dx (nfs ⟨g.last + 1, b, st, 0, none, o, []⟩ t)) x = some (.ins T.a_NewLine dx (nfs ⟨g.last + 1, b, st, 0, none, o, []⟩ t)) := upd_same
    have c9 : upd (upd (upd H1 dx (HO.own x)) t (.dK [])) x (.ins T.a_NewLine dx (nfs ⟨g.last + 1, b, st, 0, none, o, []⟩ t)) A.nd = some (.dK (news g A)) := by
      rw [upd_ne hx.2.2.1.symm, upd_ne ht.2.2.1.symm, upd_ne hd.2.2.1.symm, ← hH1, upd_ne L.nd_p]
      have h := L.nd
      rw [hz] at h
      exact h
    obtain ⟨h1, h2, h3⟩ := L.addNew W hz (b := b) (s := st) (o := o) (f1 x nx).2 (f1 dx ndx).2 nxd (f1 t nt2).2 ntx ntd
    rw [hH1] at h1 h2
    generalize upd (upd (upd H1 dx (HO.own x)) t (.dK [])) x (.ins T.a_NewLine dx (nfs ⟨g.last + 1, b, st, 0, none, o, []⟩ t)) = H2 at c7 c8 c9 h1 h2 ⊢
    walk_at "rd"
    refine k_dputI c9 (by rw [news_len]; have := W.newLen; omega) ?_
    walk_at "rd"
    exact k x t _ _ h1 h2 h3
def spMakeLine (CL CO CN : Addr) : Sp := fun vs H Q _ => ∃ (p : Addr) (i : Nat) (l : OL) (g : LG) (A : LA) (z : Fz) (S : Addr → Prop), vs = [.ref p, .ref (A.oa i)] ∧ g.old[i]? = some l ∧ LedA CL CO CN H p g A z S ∧ MK g A ∧ WF g ∧ z.n = none ∧ z.m = none ∧ g.last < 900000 ∧ (∀ l' ∈ g.new, l'.source ≠ some (i + 1)) ∧
  ∀ (A' : LA) (S' : Addr → Prop) (H' : Hp), LedA CL CO CN H' p (g.addN l.label (closing l) (some (i + 1))) A' z S' → MK (g.addN l.label (closing l) (some (i + 1))) A' → (∀ j, A'.oa j = A.oa j) → A'.od = A.od → Frm S H H' → Grow S S' H → Q .non H'
theorem ok_Ledgers_make_line (T : Txt w P K mg) : FnOk P w K mg base CX0 4 T.f_Ledgers_make_line T.d_Ledgers_make_line ["self", "old"] (spMakeLine T.a_Ledgers T.a_OldLine T.a_NewLine) := by
  refine T.F_Ledgers_make_line.ok sc_Ledgers_make_line (fun vs H Q E h => ?_) (fun cdv A outer s H vs Q E hr h => ?_)
  · obtain ⟨p, i, l, g, A, z, S, rfl, _⟩ := h
    rfl
  · obtain ⟨p, i, l, g, A, z, S, rfl, hi, L, M, W, hn, hm, hlast, hs, k⟩ := h
    refine ⟨_, (pss_one (ps_dput (hu_of hr) (pe_fldk K (pv 0) rfl) (pe_fldk K (pv 1) rfl) (pe_meth (pv 0) T.cl_Ledgers T.me_Ledgers_add_new (ok_Ledgers_add_new T) (hr.mono (by decide)) T.b_Ledgers_add_new .nil pass0 (pa_cons (pe_fldk K (pv 1) rfl) (pa_cons (pe_meth0 (pv 1) T.cl_OldLine T.me_OldLine_closing (ok_OldLine_closing T) (hr.mono (by decide)) T.b_OldLine_closing .nil pass0) (pa_cons (pe_fldk K (pv 1) rfl) pa_nil)))) rfl)), ?_⟩
    have c1 := T.cl_Ledgers
    have c3 := T.na_Ledgers_made_lines
    have c4 := T.cl_OldLine
    have c5 := T.na_OldLine_number
    have c6 := T.na_OldLine_label
    have c0 := L.self
    obtain ⟨dx, c7⟩ := L.old i l hi
    walk_at "rd"
    refine ⟨A.oa i, i + 1, l, rfl, ⟨dx, c7⟩, ?_⟩
    walk_at "rd"
    refine ⟨p, l.label, closing l, some (i + 1), g, A, z, S, rfl, L, W, hn, hlast, fun x t S' H' L1 f1 g1 => ?_⟩
    have d0 := L1.self
    obtain ⟨dx2, d7⟩ := L1.old i l hi
    have d8 : H' A.md = some (.dK A.mkv) := by
      have h := L1.md
      rw [hm] at h
      exact h
    have d9 : H' (A.oa i) = some (.ins T.a_OldLine dx2 (ofs (i + 1) l)) := d7
    walk_at "rd"
    refine k_dputI (kvs := A.mkv) d8 ?_ ?_
    · rw [M]
      have := mades_len g A
      have := W.newLen
      omega
    · obtain ⟨h1, h2⟩ := L1.putMade hm (putK A.mkv (Sum.inl ((i + 1 : Nat) : Int)) (.ref x))
      refine k _ _ _ h1 ?_ (fun _ => rfl) rfl (f1.trans g1 h2) g1
      show putK A.mkv (Sum.inl ((i + 1 : Nat) : Int)) (.ref x) = mades _ (A.addN (g.last + 1) x t)
      rw [M, mades_addN g A W, putK_new]
      · rfl
      · intro q hq e
        obtain ⟨l', hl', s', hs', rfl⟩ := mades_key g A hq
        have := Sum.inl.inj e
        have h : s' = i + 1 := by omega
        subst h
        exact hs l' hl' hs'
end

set_option Elab.async false
set_option linter.all false
set_option maxRecDepth 100000


local macro_rules | `(tactic| walk_at "lk") => `(tactic| first
  | exact ofs_number _ _ | exact ofs_label _ _ | exact ofs_start _ _ | exact ofs_moves _ _ | exact ofs_tie _ _ | exact ofs_standing _ _
  | exact nfs_number _ _ | exact nfs_label _ _ | exact nfs_start _ _ | exact nfs_moves _ _ | exact nfs_tie _ _ | exact nfs_source _ _ | exact nfs_typed _ _
  | rfl)
/-! ### a dict held while its values are walked -/
section
variable {CL CO CN : Addr} {H : Hp} {p : Addr} {g : LG} {A : LA} {z : Fz} {S : Addr → Prop}
theorem LedA.setO (L : LedA CL CO CN H p g A z S) (f : Option Obj) : LedA CL CO CN (upd H A.od (lck f (.dK (olds g A)))) p g A { z with o := f } S := { L with
  self := by rw [upd_ne L.od_p.symm]; exact L.self
  od := upd_same
  nd := by rw [upd_ne L.d1.symm]; exact L.nd
  md := by rw [upd_ne L.d2.symm]; exact L.md
  old := fun i l h => by
    obtain ⟨d, e⟩ := L.old i l h
    exact ⟨d, by rw [upd_ne (L.od_oa (List.getElem?_eq_some_iff.mp h).1).symm]; exact e⟩
  new := fun l h => by
    obtain ⟨d, e⟩ := L.new l h
    exact ⟨d, by rw [upd_ne (L.od_na h).symm]; exact e⟩
  typ := fun l h => by rw [upd_ne (L.dt l h).1]; exact L.typ l h }
theorem LedA.setN (L : LedA CL CO CN H p g A z S) (f : Option Obj) : LedA CL CO CN (upd H A.nd (lck f (.dK (news g A)))) p g A { z with n := f } S := { L with
  self := by rw [upd_ne L.nd_p.symm]; exact L.self
  nd := upd_same
  od := by rw [upd_ne L.d1]; exact L.od
  md := by rw [upd_ne L.d3.symm]; exact L.md
  old := fun i l h => by
    obtain ⟨d, e⟩ := L.old i l h
    exact ⟨d, by rw [upd_ne (L.nd_oa (List.getElem?_eq_some_iff.mp h).1).symm]; exact e⟩
  new := fun l h => by
    obtain ⟨d, e⟩ := L.new l h
    exact ⟨d, by rw [upd_ne (L.nd_na h).symm]; exact e⟩
  typ := fun l h => by rw [upd_ne (L.dt l h).2.1]; exact L.typ l h }
theorem LedA.setM (L : LedA CL CO CN H p g A z S) (f : Option Obj) : LedA CL CO CN (upd H A.md (lck f (.dK A.mkv))) p g A { z with m := f } S := { L with
  self := by rw [upd_ne L.md_p.symm]; exact L.self
  md := upd_same
  od := by rw [upd_ne L.d2]; exact L.od
  nd := by rw [upd_ne L.d3]; exact L.nd
  old := fun i l h => by
    obtain ⟨d, e⟩ := L.old i l h
    exact ⟨d, by rw [upd_ne (L.md_oa (List.getElem?_eq_some_iff.mp h).1).symm]; exact e⟩
  new := fun l h => by
    obtain ⟨d, e⟩ := L.new l h
    exact ⟨d, by rw [upd_ne (L.md_na h).symm]; exact e⟩
  typ := fun l h => by rw [upd_ne (L.dt l h).2.2]; exact L.typ l h }
end
/-! ### the rows -/
def Rows (H : Hp) (acc : List V) (row : Nat → List V) : Prop := ∀ j, j < acc.length → ∃ r, acc[j]? = some (.ref r) ∧ H r = some (.tup (row j))
def RowsL (H : Hp) (q : Addr) (n : Nat) (row : Nat → List V) : Prop := ∃ acc, H q = some (.lst acc) ∧ acc.length = n ∧ Rows H acc row
def orows (g : LG) (i : Nat) : List V := match g.old[i]? with
  | some l => orow (i + 1) l
  | none => []
def nrows (g : LG) (i : Nat) : List V := match g.new[i]? with
  | some l => nrow l
  | none => []
theorem rowsStep {Hf H2 : Hp} {l r : Addr} {acc : List V} {i : Nat} {row : Nat → List V} {ys : List V} (s1 : Same Hf H2) (nl : Hf l = none) (hl : H2 l = some (.lst acc)) (nr : H2 r = none) (hrl : r ≠ l) (hac : acc.length = i) (hr1 : Rows H2 acc row) (e : ys = row acc.length) :
    Same Hf (upd (upd H2 r (.tup ys)) l (.lst (acc ++ [.ref r]))) ∧ ∃ acc', upd (upd H2 r (.tup ys)) l (.lst (acc ++ [.ref r])) l = some (.lst acc') ∧ acc'.length = i + 1 ∧ Rows (upd (upd H2 r (.tup ys)) l (.lst (acc ++ [.ref r]))) acc' row := by
  refine ⟨fun b o e => ?_, _, upd_same, by rw [List.length_append, hac]; rfl, fun j hj => ?_⟩
  · rw [upd_ne (ne_of_none e nl), upd_ne (ne_of_none (s1 _ _ e) nr)]
    exact s1 _ _ e
  · rw [List.length_append, List.length_cons, List.length_nil] at hj
    by_cases h : j < acc.length
    · obtain ⟨q, h1, h2⟩ := hr1 j h
      refine ⟨q, by rw [List.getElem?_append_left h]; exact h1, ?_⟩
      rw [upd_ne (at_ne h2 hl (fun h => by cases h)), upd_ne (ne_of_none h2 nr)]
      exact h2
    · obtain rfl : j = acc.length := by omega
      refine ⟨r, by simp, ?_⟩
      rw [upd_ne hrl, upd_same, e]
theorem rowsEnd {Hf H' : Hp} {d l : Addr} {o : Obj} {u w : HO} {acc : List V} {n : Nat} {row : Nat → List V} {G : Prop} (s1 : Same Hf H') (nl : Hf l = none) (c4 : Hf d = some (.frz o u)) (hl : H' l = some (.lst acc)) (hac : acc.length = n) (hr1 : Rows H' acc row) (k : RowsL (upd H' d w) l n row → G) : G := by
  refine k ⟨acc, ?_, hac, fun j hj => ?_⟩
  · rw [upd_ne (at_ne hl (s1 _ _ c4) (fun h => by cases h))]
    exact hl
  · obtain ⟨r, h1, h2⟩ := hr1 j hj
    refine ⟨r, h1, ?_⟩
    rw [upd_ne (at_ne h2 (s1 _ _ c4) (fun h => by cases h))]
    exact h2
theorem heldBack {H : Hp} {d : Addr} {od : Obj} {u : HO} (c3 : H d = some u) : ∀ H', Same (upd H d (.frz od u)) H' → Same H (upd H' d u) := fun H' s b o e => by
  by_cases hb : b = d
  · rw [hb, upd_same, ← c3, ← hb, e]
  · rw [upd_ne hb]
    exact s b o (by rw [upd_ne hb]; exact e)
def spNewRows (CL CO CN : Addr) : Sp := fun vs H Q _ => ∃ (p : Addr) (g : LG) (A : LA) (z : Fz) (S : Addr → Prop), vs = [.ref p] ∧ LedA CL CO CN H p g A z S ∧ z.n = none ∧ g.new.length ≤ 900000 ∧
  ∀ (q : Addr) (H' : Hp), H q = none → Same H H' → RowsL H' q g.new.length (nrows g) → Q (.ref q) H'
def spOldRows (CL CO CN : Addr) : Sp := fun vs H Q _ => ∃ (p : Addr) (g : LG) (A : LA) (z : Fz) (S : Addr → Prop), vs = [.ref p] ∧ LedA CL CO CN H p g A z S ∧ z.o = none ∧ g.old.length ≤ 900000 ∧
  ∀ (q : Addr) (H' : Hp), H q = none → Same H H' → RowsL H' q g.old.length (orows g) → Q (.ref q) H'
set_option maxHeartbeats 4000000
section
variable {P : Program} {w : World} {K : PySem.W.Frag} {mg : Str → Option Value} {base : Heap}
theorem ok_Ledgers_old_rows (T : Txt w P K mg) : FnOk P w K mg base CX0 3 T.f_Ledgers_old_rows T.d_Ledgers_old_rows ["self"] (spOldRows T.a_Ledgers T.a_OldLine T.a_NewLine) := by
  refine T.F_Ledgers_old_rows.ok sc_Ledgers_old_rows (fun vs H Q E h => ?_) (fun cdv A outer s H vs Q E hr h => ?_)
  · obtain ⟨p, g, A, z, S, rfl, _⟩ := h
    rfl
  · obtain ⟨p, g, A, z, S, rfl, L, hz, hlen, k⟩ := h
    refine ⟨_, (pss_one (ps_ret (pe_lock (pe_lc (own := [("line", 1)]) (g := (gName 1)) (tt := tYes) rfl sc_Ledgers_old_rows.nd (pi_values (pe_fldk K (pv 0) rfl)) (blkOk_by (own := [("line", 1)]) (N := N_Ledgers_old_rows) (sc := defScope s_Ledgers_old_rows) (by decide +kernel)) (fun _ _ _ _ _ => (pg_name (i := 1) sc_Ledgers_old_rows.nd rfl (Or.inl rfl))) (fun _ _ _ _ _ => pts_nil) (fun _ _ _ _ _ => (pe_meth0 (pv 1) T.cl_OldLine T.me_OldLine_row (ok_OldLine_row T) (hr.mono (by decide)) T.b_OldLine_row .nil pass0)))))), ?_⟩
    have c1 := T.cl_Ledgers
    have c2 := T.na_Ledgers_old_lines
    have c3 : H A.od = some (.dK (olds g A)) := by
      have h := L.od
      rw [hz] at h
      exact h
    walk_at "rd"
    refine ⟨A.od, _, c3, trivial, fun od => ?_⟩
    have L1 : LedA T.a_Ledgers T.a_OldLine T.a_NewLine (upd H A.od (.frz od (.dK (olds g A)))) p g A { z with o := some od } S := L.setO (some od)
    have c4 : upd H A.od (.frz od (.dK (olds g A))) A.od = some (.frz od (.dK (olds g A))) := upd_same
    have back := heldBack (od := od) c3
    have fr1 : ∀ b, upd H A.od (.frz od (.dK (olds g A))) b = none → H b = none := fun b h => (free_upd h).2
    generalize upd H A.od (.frz od (.dK (olds g A))) = Hf at L1 c4 back fr1 ⊢
    have c0 := L1.self
    walk_at "rd"
    refine k_vals c4 ?_
    refine k_lc walk_values fun l nl => ⟨fun i H' => Same Hf H' ∧ ∃ acc, H' l = some (.lst acc) ∧ acc.length = i ∧ Rows H' acc (orows g), ⟨Same.new nl, [], upd_same, rfl, fun j hj => absurd hj (Nat.not_lt_zero j)⟩, fun i H' _ h => h.1 _ _ c4, ?_, ?_⟩
    · rintro i x H1 H2 hi ⟨s1, acc, hl, hac, hr1⟩ ⟨rfl, key, hk⟩
      rw [olds_len] at hi
      have hx : x = .ref (A.oa i) := by
        unfold olds at hk
        rw [List.getElem?_map, List.getElem?_range hi] at hk
        exact (Prod.mk.inj (Option.some.inj hk)).2.symm
      subst hx
      obtain ⟨dx, ol, hol, ho⟩ := L1.oldAt hi
      have ho1 := s1 _ _ ho
      have c5 := T.cl_OldLine
      walk_at "rd"
      refine ⟨trivial, ?_⟩
      walk_at "rd"
      refine ⟨A.oa i, i + 1, ol, rfl, ⟨dx, ho1⟩, fun r nr => ?_⟩
      have hrl : r ≠ l := fun e => by rw [e, hl] at nr; cases nr
      refine k_accM (acc := acc) (by rw [upd_ne hrl.symm]; exact hl) (by omega) ?_
      exact rowsStep s1 nl hl nr hrl hac hr1 (by unfold orows; rw [hac, hol])
    · rintro H' ⟨s1, acc, hl, hac, hr1⟩
      refine ⟨s1 _ _ c4, ?_⟩
      exact rowsEnd s1 nl c4 hl (hac.trans (olds_len g A)) hr1 fun h => k l _ (fr1 l nl) (back H' s1) h
theorem ok_Ledgers_new_rows (T : Txt w P K mg) : FnOk P w K mg base CX0 3 T.f_Ledgers_new_rows T.d_Ledgers_new_rows ["self"] (spNewRows T.a_Ledgers T.a_OldLine T.a_NewLine) := by
  refine T.F_Ledgers_new_rows.ok sc_Ledgers_new_rows (fun vs H Q E h => ?_) (fun cdv A outer s H vs Q E hr h => ?_)
  · obtain ⟨p, g, A, z, S, rfl, _⟩ := h
    rfl
  · obtain ⟨p, g, A, z, S, rfl, L, hz, hlen, k⟩ := h
    refine ⟨_, (pss_one (ps_ret (pe_lock (pe_lc (own := [("line", 1)]) (g := (gName 1)) (tt := tYes) rfl sc_Ledgers_new_rows.nd (pi_values (pe_fldk K (pv 0) rfl)) (blkOk_by (own := [("line", 1)]) (N := N_Ledgers_new_rows) (sc := defScope s_Ledgers_new_rows) (by decide +kernel)) (fun _ _ _ _ _ => (pg_name (i := 1) sc_Ledgers_new_rows.nd rfl (Or.inl rfl))) (fun _ _ _ _ _ => pts_nil) (fun _ _ _ _ _ => (pe_meth0 (pv 1) T.cl_NewLine T.me_NewLine_row (ok_NewLine_row T) (hr.mono (by decide)) T.b_NewLine_row .nil pass0)))))), ?_⟩
    have c1 := T.cl_Ledgers
    have c2 := T.na_Ledgers_new_lines
    have c3 : H A.nd = some (.dK (news g A)) := by
      have h := L.nd
      rw [hz] at h
      exact h
    walk_at "rd"
    refine ⟨A.nd, _, c3, trivial, fun od => ?_⟩
    have L1 : LedA T.a_Ledgers T.a_OldLine T.a_NewLine (upd H A.nd (.frz od (.dK (news g A)))) p g A { z with n := some od } S := L.setN (some od)
    have c4 : upd H A.nd (.frz od (.dK (news g A))) A.nd = some (.frz od (.dK (news g A))) := upd_same
    have back := heldBack (od := od) c3
    have fr1 : ∀ b, upd H A.nd (.frz od (.dK (news g A))) b = none → H b = none := fun b h => (free_upd h).2
    generalize upd H A.nd (.frz od (.dK (news g A))) = Hf at L1 c4 back fr1 ⊢
    have c0 := L1.self
    walk_at "rd"
    refine k_vals c4 ?_
    refine k_lc walk_values fun l nl => ⟨fun i H' => Same Hf H' ∧ ∃ acc, H' l = some (.lst acc) ∧ acc.length = i ∧ Rows H' acc (nrows g), ⟨Same.new nl, [], upd_same, rfl, fun j hj => absurd hj (Nat.not_lt_zero j)⟩, fun i H' _ h => h.1 _ _ c4, ?_, ?_⟩
    · rintro i x H1 H2 hi ⟨s1, acc, hl, hac, hr1⟩ ⟨rfl, key, hk⟩
      rw [news_len] at hi
      have hm : g.new[i] ∈ g.new := List.getElem_mem hi
      have hx : x = .ref (A.na g.new[i].number) := by
        unfold news at hk
        rw [List.getElem?_map, List.getElem?_eq_getElem hi] at hk
        exact (Prod.mk.inj (Option.some.inj hk)).2.symm
      subst hx
      obtain ⟨dx, ho⟩ := L1.new _ hm
      have ho1 := s1 _ _ ho
      have c5 := T.cl_NewLine
      walk_at "rd"
      refine ⟨trivial, ?_⟩
      walk_at "rd"
      refine ⟨A.na g.new[i].number, A.ta g.new[i].number, g.new[i], rfl, ⟨dx, ho1⟩, fun r nr => ?_⟩
      have hrl : r ≠ l := fun e => by rw [e, hl] at nr; cases nr
      refine k_accM (acc := acc) (by rw [upd_ne hrl.symm]; exact hl) (by omega) ?_
      exact rowsStep s1 nl hl nr hrl hac hr1 (by unfold nrows; rw [hac, List.getElem?_eq_getElem hi])
    · rintro H' ⟨s1, acc, hl, hac, hr1⟩
      refine ⟨s1 _ _ c4, ?_⟩
      exact rowsEnd s1 nl c4 hl (hac.trans (news_len g A)) hr1 fun h => k l _ (fr1 l nl) (back H' s1) h
end

set_option Elab.async false
set_option linter.all false
set_option maxRecDepth 100000


local macro_rules | `(tactic| walk_at "lk") => `(tactic| first
  | exact ofs_number _ _ | exact ofs_label _ _ | exact ofs_start _ _ | exact ofs_moves _ _ | exact ofs_tie _ _ | exact ofs_standing _ _
  | exact nfs_number _ _ | exact nfs_label _ _ | exact nfs_start _ _ | exact nfs_moves _ _ | exact nfs_tie _ _ | exact nfs_source _ _ | exact nfs_typed _ _
  | rfl)
def madeL (g : LG) (s : Nat) : Option NL := g.new.find? fun l => decide (l.source = some s)
def madeN (g : LG) (tie : Option Nat) : Option Nat := tie.bind fun s => (madeL g s).map (·.number)
theorem lck_rd {H : Hp} {a : Addr} {f : Option Obj} {u : HO} (h : H a = some (lck f u)) : Rd H a u := by
  cases f with
  | none => exact .inl h
  | some o => exact .inr ⟨o, h⟩
theorem madeL_some {g : LG} {s : Nat} {l : NL} (h : madeL g s = some l) : l ∈ g.new ∧ l.source = some s := ⟨List.mem_of_find?_eq_some h, by simpa using List.find?_some h⟩
theorem madeL_none {g : LG} {s : Nat} (h : madeL g s = none) : ∀ l ∈ g.new, l.source ≠ some s := by simpa [madeL] using h
theorem pair_one {xs : List NL} {s : Nat} : xs.Pairwise (fun l l' => ∀ s, l.source = some s → l'.source ≠ some s) → ∀ {a b : NL}, a ∈ xs → b ∈ xs → a.source = some s → b.source = some s → a = b := by
  induction xs with
  | nil => exact fun _ _ _ h => absurd h List.not_mem_nil
  | cons x r ih =>
    intro hp a b ha hb ea eb
    obtain ⟨h1, h2⟩ := List.pairwise_cons.mp hp
    rcases List.mem_cons.mp ha with xa | xa
    · rcases List.mem_cons.mp hb with xb | xb
      · rw [xa, xb]
      · rw [xa] at ea
        exact absurd eb (h1 b xb s ea)
    · rcases List.mem_cons.mp hb with xb | xb
      · rw [xb] at eb
        exact absurd ea (h1 a xa s eb)
      · exact ih h2 xa xb ea eb
theorem mades_get {g : LG} {A : LA} (W : WF g) {s : Nat} {l : NL} (h : madeL g s = some l) : valV (mades g A) (Sum.inl ((s : Nat) : Int)) = some (.ref (A.na l.number)) := by
  obtain ⟨h1, h2⟩ := madeL_some h
  refine valV_some ?_ ?_
  · unfold mades madeKV
    exact List.mem_filterMap.mpr ⟨l, h1, by rw [h2]; rfl⟩
  · intro q hq e
    obtain ⟨l', hl', s', hs', rfl⟩ := mades_key g A hq
    have := Sum.inl.inj e
    have e2 : s' = s := by omega
    subst e2
    rw [pair_one W.one hl' h1 hs' h2]
theorem mades_non {g : LG} {A : LA} {s : Nat} (h : madeL g s = none) : valV (mades g A) (Sum.inl ((s : Nat) : Int)) = none := by
  refine valV_none fun q hq e => ?_
  obtain ⟨l', hl', s', hs', rfl⟩ := mades_key g A hq
  have := Sum.inl.inj e
  have e2 : s' = s := by omega
  subst e2
  exact madeL_none h l' hl' hs'
def spMadeNum (CL CO CN : Addr) : Sp := fun vs H Q _ => ∃ (p : Addr) (tie : Option Nat) (g : LG) (A : LA) (z : Fz) (S : Addr → Prop), vs = [.ref p, oV tie] ∧ LedA CL CO CN H p g A z S ∧ MK g A ∧ WF g ∧ Q (oV (madeN g tie)) H
set_option maxHeartbeats 4000000
section
variable {P : Program} {w : World} {K : PySem.W.Frag} {mg : Str → Option Value} {base : Heap}
theorem ok_Ledgers_made_number (T : Txt w P K mg) : FnOk P w K mg base CX0 1 T.f_Ledgers_made_number T.d_Ledgers_made_number ["self", "number"] (spMadeNum T.a_Ledgers T.a_OldLine T.a_NewLine) := by
  refine T.F_Ledgers_made_number.ok sc_Ledgers_made_number (fun vs H Q E h => ?_) (fun cdv A outer s H vs Q E hr h => ?_)
  · obtain ⟨p, tie, g, A, z, S, rfl, _⟩ := h
    rfl
  · obtain ⟨p, tie, g, A, z, S, rfl, L, M, W, k⟩ := h
    refine ⟨_, (pss_cons (ps_if (pt_cmp (pc_dnotinN (hu_of hr) (pv 1) (pe_fldk K (pv 0) rfl))) (pss_one (ps_ret pe_non)) pss_nil)
  (pss_one (ps_ret (pe_fldk K (pe_dget (hu_of hr) (pe_fldk K (pv 0) rfl) (pv 1) (fun _ _ => rfl)) rfl)))), ?_⟩
    have c1 := T.cl_Ledgers
    have c2 := T.na_Ledgers_made_lines
    have c3 := T.cl_NewLine
    have c4 := T.na_NewLine_number
    have c0 := L.self
    have c5 := lck_rd L.md
    rw [M] at c5
    cases tie with
    | none =>
      walk_at "rd"
      refine k_dninN c5 ?_
      walk_at "rd"
      exact k
    | some s =>
      show _
      have e0 : oV (some s) = V.int (s : Nat) := rfl
      rw [e0]
      walk_at "rd"
      refine k_dninI c5 ?_
      cases h : madeL g s with
      | none =>
        rw [mades_non h]
        walk_at "rd"
        have : madeN g (some s) = none := by
          show (madeL g s).map _ = _
          rw [h]
          rfl
        rw [this] at k
        exact k
      | some l =>
        rw [mades_get W h]
        walk_at "rd"
        rw [if_neg (fun h => by cases h)]
        walk_at "rd"
        refine k_dgetI c5 (mades_get W h) ?_
        obtain ⟨dx, c6⟩ := L.new l (madeL_some h).1
        walk_at "rd"
        have : madeN g (some s) = some l.number := by
          show (madeL g s).map _ = _
          rw [h]
          rfl
        rw [this] at k
        exact k
end

set_option Elab.async false
set_option linter.all false
set_option maxRecDepth 100000


local macro_rules | `(tactic| walk_at "lk") => `(tactic| first
  | exact ofs_number _ _ | exact ofs_label _ _ | exact ofs_start _ _ | exact ofs_moves _ _ | exact ofs_tie _ _ | exact ofs_standing _ _
  | exact nfs_number _ _ | exact nfs_label _ _ | exact nfs_start _ _ | exact nfs_moves _ _ | exact nfs_tie _ _ | exact nfs_source _ _ | exact nfs_typed _ _
  | rfl)
/-! ### new lines changed one after another -/
def mapTo (f : NL → NL) (xs : List NL) (i : Nat) : List NL := xs.mapIdx fun j o => if j < i then f o else o
theorem mapTo_zero (f : NL → NL) (xs : List NL) : mapTo f xs 0 = xs := by
  unfold mapTo
  refine List.ext_getElem? fun j => ?_
  rw [List.getElem?_mapIdx]
  cases xs[j]? with
  | none => rfl
  | some o => rfl
theorem mapTo_len (f : NL → NL) (xs : List NL) : mapTo f xs xs.length = xs.map f := by
  unfold mapTo
  refine List.ext_getElem? fun j => ?_
  rw [List.getElem?_mapIdx, List.getElem?_map]
  cases h : xs[j]? with
  | none => rfl
  | some o =>
    show some (if j < xs.length then f o else o) = _
    rw [if_pos (List.getElem?_eq_some_iff.mp h).1]
    rfl
theorem mapTo_get (f : NL → NL) (xs : List NL) (i : Nat) : (mapTo f xs i)[i]? = xs[i]? := by
  unfold mapTo
  rw [List.getElem?_mapIdx]
  cases h : xs[i]? with
  | none => rfl
  | some o =>
    show some (if i < i then f o else o) = _
    rw [if_neg (Nat.lt_irrefl i)]
theorem mapTo_set (f : NL → NL) (xs : List NL) (i : Nat) {x : NL} (h : xs[i]? = some x) : (mapTo f xs i).set i (f x) = mapTo f xs (i + 1) := by
  unfold mapTo
  refine List.ext_getElem? fun j => ?_
  have hi := (List.getElem?_eq_some_iff.mp h).1
  rw [List.getElem?_set, List.getElem?_mapIdx, List.getElem?_mapIdx, List.length_mapIdx]
  by_cases e : i = j
  · subst e
    rw [if_pos rfl, if_pos hi, h]
    show _ = some (if i < i + 1 then f x else x)
    rw [if_pos (Nat.lt_succ_self i)]
  · rw [if_neg e]
    cases xs[j]? with
    | none => rfl
    | some o =>
      show some (if j < i then f o else o) = some (if j < i + 1 then f o else o)
      by_cases hj : j < i
      · rw [if_pos hj, if_pos (by omega)]
      · rw [if_neg hj, if_neg (by omega)]
theorem mapTo_same (f : NL → NL) (xs : List NL) (i : Nat) {x : NL} (h : xs[i]? = some x) (e : f x = x) : mapTo f xs (i + 1) = mapTo f xs i := by
  rw [← mapTo_set f xs i h, e]
  refine List.ext_getElem? fun j => ?_
  rw [List.getElem?_set]
  by_cases e : i = j
  · subst e
    have hi := (List.getElem?_eq_some_iff.mp h).1
    have hl : i < (mapTo f xs i).length := by unfold mapTo; rw [List.length_mapIdx]; exact hi
    rw [if_pos rfl, if_pos hl, mapTo_get, h]
  · rw [if_neg e]
def key (l : NL) : Nat × Option Nat × List Str := (l.number, l.source, l.typed)
theorem mapTo_key {f : NL → NL} (hf : ∀ o, key (f o) = key o) (xs : List NL) (i : Nat) : (mapTo f xs i).map key = xs.map key := by
  unfold mapTo
  refine List.ext_getElem? fun j => ?_
  rw [List.getElem?_map, List.getElem?_map, List.getElem?_mapIdx]
  cases xs[j]? with
  | none => rfl
  | some o =>
    show some (key (if j < i then f o else o)) = some (key o)
    split
    · rw [hf]
    · rfl
theorem set_key {xs : List NL} {i : Nat} {l l' : NL} (h : xs[i]? = some l) (e : key l' = key l) : (xs.set i l').map key = xs.map key := by
  refine List.ext_getElem? fun j => ?_
  rw [List.getElem?_map, List.getElem?_map, List.getElem?_set]
  by_cases q : i = j
  · subst q
    rw [if_pos rfl, if_pos (List.getElem?_eq_some_iff.mp h).1, h]
    show some (key l') = some (key l)
    rw [e]
  · rw [if_neg q]
theorem news_congr {g g' : LG} (A : LA) (h : g.new.map key = g'.new.map key) : news g A = news g' A := by
  have e : ∀ g : LG, news g A = (g.new.map key).map fun k => ((Sum.inl ((k.1 : Nat) : Int) : Key), V.ref (A.na k.1)) := fun g => by
    unfold news
    rw [List.map_map]
    rfl
  rw [e, e, h]
theorem mades_congr {g g' : LG} (A : LA) (h : g.new.map key = g'.new.map key) : mades g A = mades g' A := by
  have e : ∀ g : LG, mades g A = (g.new.map key).filterMap fun k => k.2.1.map fun s => ((Sum.inl ((s : Nat) : Int) : Key), V.ref (A.na k.1)) := fun g => by
    unfold mades madeKV
    rw [List.filterMap_map]
    rfl
  rw [e, e, h]
theorem MK.congr {g g' : LG} {A : LA} (h : g.new.map key = g'.new.map key) (M : MK g A) : MK g' A := by
  unfold MK at *
  rw [M, mades_congr A h]
theorem key_mem {xs ys : List NL} (h : xs.map key = ys.map key) {l : NL} (m : l ∈ ys) : ∃ l' ∈ xs, key l' = key l := by
  have : key l ∈ ys.map key := List.mem_map.mpr ⟨l, m, rfl⟩
  rw [← h] at this
  exact List.mem_map.mp this
theorem key_pair {R : Nat × Option Nat × List Str → Nat × Option Nat × List Str → Prop} {xs ys : List NL} (h : xs.map key = ys.map key) (p : xs.Pairwise fun l l' => R (key l) (key l')) : ys.Pairwise fun l l' => R (key l) (key l') := by
  rw [← List.pairwise_map (f := key) (R := R)] at p ⊢
  rw [← h]
  exact p
theorem WF.congr {g g' : LG} (h : g.new.map key = g'.new.map key) (ho : g'.old.length = g.old.length) (hl : g'.last = g.last) (W : WF g) : WF g' := {
  num := key_pair (R := fun a b => a.1 < b.1) h W.num
  last := fun l m => by
    obtain ⟨l', m', e⟩ := key_mem h m
    have e1 : l'.number = l.number := congrArg (·.1) e
    have := W.last l' m'
    omega
  src := fun l m s hs => by
    obtain ⟨l', m', e⟩ := key_mem h m
    have e1 : l'.source = l.source := congrArg (·.2.1) e
    have := W.src l' m' s (by rw [e1]; exact hs)
    omega
  one := key_pair (R := fun a b => ∀ s, a.2.1 = some s → b.2.1 ≠ some s) h W.one
  few := by rw [ho]; exact W.few
  most := by rw [hl]; exact W.most }
section
variable {CL CO CN : Addr} {H : Hp} {p : Addr} {g : LG} {A : LA} {z : Fz} {S : Addr → Prop}
theorem WF.inj (W : WF g) {i j : Nat} {l l' : NL} (hi : g.new[i]? = some l) (hj : g.new[j]? = some l') (e : l.number = l'.number) : i = j := by
  obtain ⟨h1, e1⟩ := List.getElem?_eq_some_iff.mp hi
  obtain ⟨h2, e2⟩ := List.getElem?_eq_some_iff.mp hj
  have q := List.pairwise_iff_getElem.mp W.num
  rcases Nat.lt_trichotomy i j with h | h | h
  · have := q i j h1 h2 h
    rw [e1, e2] at this
    omega
  · exact h
  · have := q j i h2 h1 h
    rw [e1, e2] at this
    omega
/-- one new line gets other fields -/
theorem LedA.setNew (L : LedA CL CO CN H p g A z S) (W : WF g) {i : Nat} {l l' : NL} (hi : g.new[i]? = some l) (hk : key l' = key l) (dx : Addr) :
    LedA CL CO CN (upd H (A.na l.number) (.ins CN dx (nfs l' (A.ta l.number)))) p { g with new := g.new.set i l' } A z S ∧ Frm S H (upd H (A.na l.number) (.ins CN dx (nfs l' (A.ta l.number)))) := by
  have hm : l ∈ g.new := List.mem_of_getElem? hi
  have kn : l'.number = l.number := congrArg (·.1) hk
  have kt : l'.typed = l.typed := congrArg (·.2.2) hk
  have kk := set_key hi hk
  have fr : ∀ b o, H b = some o → b ≠ A.na l.number → upd H (A.na l.number) (.ins CN dx (nfs l' (A.ta l.number))) b = some o := fun b o e n => by rw [upd_ne n, e]
  have mem : ∀ k ∈ g.new.set i l', (∃ j, j ≠ i ∧ g.new[j]? = some k) ∨ k = l' := fun k hk => by
    obtain ⟨j, hj⟩ := List.getElem?_of_mem hk
    rw [List.getElem?_set] at hj
    by_cases e : i = j
    · subst e
      rw [if_pos rfl, if_pos (List.getElem?_eq_some_iff.mp hi).1] at hj
      exact .inr (Option.some.inj hj).symm
    · rw [if_neg e] at hj
      exact .inl ⟨j, fun h => e h.symm, hj⟩
  have num : ∀ k ∈ g.new.set i l', ∃ k' ∈ g.new, key k' = key k := fun k hk => key_mem kk.symm hk
  refine ⟨{ L with self := fr _ _ L.self (L.na_p hm).symm, od := fr _ _ L.od (L.od_na hm), nd := ?_, md := fr _ _ L.md (L.md_na hm), old := ?_, new := ?_, typ := ?_, dt := ?_, dtt := ?_, snew := ?_ }, ?_⟩
  · rw [← news_congr (g := g) A kk.symm]
    exact fr _ _ L.nd (L.nd_na hm)
  · intro j o hj
    obtain ⟨d, e⟩ := L.old j o hj
    exact ⟨d, fr _ _ e (L.oa_na (List.getElem?_eq_some_iff.mp hj).1 hm)⟩
  · intro k hk'
    rcases mem k hk' with ⟨j, hj, hg⟩ | rfl
    · have hkm := List.mem_of_getElem? hg
      obtain ⟨d, e⟩ := L.new k hkm
      exact ⟨d, fr _ _ e fun h => hj (W.inj hg hi (L.na_inj hkm hm h))⟩
    · refine ⟨dx, ?_⟩
      rw [kn]
      exact upd_same
  · intro k hk'
    obtain ⟨k', hm', e⟩ := num k hk'
    have e1 : k'.number = k.number := congrArg (·.1) e
    have e2 : k'.typed = k.typed := congrArg (·.2.2) e
    have := fr _ _ (L.typ k' hm') (L.na_ta hm hm').symm
    unfold typedK at *
    rw [← e1, ← e2]
    exact this
  · intro k hk'
    obtain ⟨k', hm', e⟩ := num k hk'
    have e1 : k'.number = k.number := congrArg (·.1) e
    rw [← e1]
    exact L.dt k' hm'
  · intro k hk' q hq he
    obtain ⟨k', hm', e⟩ := num k hk'
    obtain ⟨q', hq', e'⟩ := num q hq
    have e1 : k'.number = k.number := congrArg (·.1) e
    have e2 : q'.number = q.number := congrArg (·.1) e'
    rw [← e1, ← e2] at he ⊢
    exact L.dtt k' hm' q' hq' he
  · intro k hk'
    obtain ⟨k', hm', e⟩ := num k hk'
    have e1 : k'.number = k.number := congrArg (·.1) e
    rw [← e1]
    exact L.snew k' hm'
  · intro b o e n
    exact fr b o e fun h => n (by rw [h]; exact (L.snew l hm).1)
end

set_option Elab.async false
set_option linter.all false
set_option maxRecDepth 100000


local macro_rules | `(tactic| walk_at "lk") => `(tactic| first
  | exact ofs_number _ _ | exact ofs_label _ _ | exact ofs_start _ _ | exact ofs_moves _ _ | exact ofs_tie _ _ | exact ofs_standing _ _
  | exact nfs_number _ _ | exact nfs_label _ _ | exact nfs_start _ _ | exact nfs_moves _ _ | exact nfs_tie _ _ | exact nfs_source _ _ | exact nfs_typed _ _
  | rfl)
/-! ### a line dropped -/
def LG.cut (g : LG) (n : Nat) : LG := { g with new := g.new.filter fun l => decide (l.number ≠ n) }
def untie (n : Nat) (o : NL) : NL := if o.tie = some n then { o with tie := none } else o
def LG.drop (g : LG) (n : Nat) : LG := { g with new := (g.cut n).new.map (untie n) }
def LG.upTo (g : LG) (f : NL → NL) (i : Nat) : LG := ⟨g.old, mapTo f g.new i, g.last⟩
theorem LG.upTo_zero (g : LG) (f : NL → NL) : g.upTo f 0 = g := by
  unfold LG.upTo
  rw [mapTo_zero]
theorem LG.upTo_set (g : LG) (f : NL → NL) {i : Nat} {x : NL} (h : g.new[i]? = some x) : { (g.upTo f i) with new := (g.upTo f i).new.set i (f x) } = g.upTo f (i + 1) := by
  unfold LG.upTo
  rw [mapTo_set f g.new i h]
theorem LG.upTo_same (g : LG) (f : NL → NL) {i : Nat} {x : NL} (h : g.new[i]? = some x) (e : f x = x) : g.upTo f (i + 1) = g.upTo f i := by
  unfold LG.upTo
  rw [mapTo_same f g.new i h e]
theorem LG.upTo_key (g : LG) {f : NL → NL} (hf : ∀ o, key (f o) = key o) (i : Nat) : (g.upTo f i).new.map key = g.new.map key := mapTo_key hf _ i
def LA.drop (A : LA) (s : Nat) : LA := { A with mkv := dropK A.mkv (Sum.inl ((s : Nat) : Int)) }
theorem untie_key (n : Nat) (o : NL) : key (untie n o) = key o := by
  unfold untie
  split <;> rfl
theorem cut_mem {g : LG} {n : Nat} {l : NL} : l ∈ (g.cut n).new ↔ l ∈ g.new ∧ l.number ≠ n := by
  unfold LG.cut
  rw [List.mem_filter]
  simp
section
variable {CL CO CN : Addr} {H : Hp} {p : Addr} {g : LG} {A : LA} {z : Fz} {S : Addr → Prop}
theorem WF.eq (W : WF g) {l l' : NL} (h : l ∈ g.new) (h' : l' ∈ g.new) (e : l.number = l'.number) : l = l' := by
  obtain ⟨i, hi⟩ := List.getElem?_of_mem h
  obtain ⟨j, hj⟩ := List.getElem?_of_mem h'
  have := W.inj hi hj e
  subst this
  rw [hi] at hj
  exact Option.some.inj hj
theorem WF.cut (W : WF g) (n : Nat) : WF (g.cut n) := {
  num := W.num.sublist List.filter_sublist
  last := fun l h => W.last l (cut_mem.mp h).1
  src := fun l h => W.src l (cut_mem.mp h).1
  one := W.one.sublist List.filter_sublist
  few := W.few
  most := W.most }
theorem news_cut (g : LG) (A : LA) (n : Nat) : news (g.cut n) A = dropK (news g A) (Sum.inl ((n : Nat) : Int)) := by
  unfold news dropK LG.cut
  rw [List.filter_map]
  congr 1
  refine List.filter_congr fun l _ => ?_
  show decide (l.number ≠ n) = decide ((Sum.inl ((l.number : Nat) : Int) : Key) ≠ Sum.inl ((n : Nat) : Int))
  refine decide_eq_decide.mpr (not_congr ⟨fun h => by rw [h], fun h => ?_⟩)
  have := Sum.inl.inj h
  omega
theorem mades_cut (W : WF g) (A : LA) {l : NL} {s : Nat} (h : l ∈ g.new) (hs : l.source = some s) : mades (g.cut l.number) A = dropK (mades g A) (Sum.inl ((s : Nat) : Int)) := by
  unfold mades dropK LG.cut
  rw [List.filterMap_filter, List.filter_filterMap]
  refine fm_congr fun x hx => ?_
  by_cases e : x.number = l.number
  · have := W.eq hx h e
    subst this
    rw [if_neg (by simp)]
    unfold madeKV
    rw [hs]
    show none = Option.filter _ (some _)
    rw [Option.filter_some, if_neg (by simp)]
  · rw [if_pos (by simpa using e)]
    unfold madeKV
    cases hx2 : x.source with
    | none => rfl
    | some t =>
      show some _ = Option.filter _ (some _)
      rw [Option.filter_some, if_pos]
      refine decide_eq_true fun q => ?_
      have := Sum.inl.inj q
      have et : t = s := by omega
      subst et
      exact e (by rw [pair_one W.one hx h hx2 hs])
theorem LedA.cut (L : LedA CL CO CN H p g A z S) (W : WF g) (M : MK g A) (hz : z.n = none) (hm : z.m = none) {l : NL} {s : Nat} (h : l ∈ g.new) (hs : l.source = some s) :
    let H' := upd (upd H A.nd (.dK (dropK (news g A) (Sum.inl ((l.number : Nat) : Int))))) A.md (.dK (dropK A.mkv (Sum.inl ((s : Nat) : Int))))
    LedA CL CO CN H' p (g.cut l.number) (A.drop s) z S ∧ Frm S H H' ∧ MK (g.cut l.number) (A.drop s) ∧ WF (g.cut l.number) ∧ (∀ b o, H b = some o → b ≠ A.nd → b ≠ A.md → H' b = some o) := by
  intro H'
  have fr : ∀ b o, H b = some o → b ≠ A.nd → b ≠ A.md → H' b = some o := fun b o e n1 n2 => by
    show upd _ _ _ b = _
    rw [upd_ne n2, upd_ne n1, e]
  refine ⟨{ L with self := fr _ _ L.self L.nd_p.symm L.md_p.symm, od := fr _ _ L.od L.d1 L.d2, nd := ?_, md := ?_, old := ?_, new := ?_, typ := ?_, dt := fun k hk => L.dt k (cut_mem.mp hk).1, dtt := fun k hk k' hk' => L.dtt k (cut_mem.mp hk).1 k' (cut_mem.mp hk').1, snew := fun k hk => L.snew k (cut_mem.mp hk).1 }, ?_, ?_, W.cut _, fr⟩
  · rw [hz]
    show upd _ _ _ A.nd = _
    rw [upd_ne L.d3, upd_same, show news (g.cut l.number) (A.drop s) = news (g.cut l.number) A from rfl, news_cut]
    rfl
  · rw [hm]
    exact upd_same
  · intro i o hi
    obtain ⟨d, e⟩ := L.old i o hi
    have hl := (List.getElem?_eq_some_iff.mp hi).1
    exact ⟨d, fr _ _ e (L.nd_oa hl).symm (L.md_oa hl).symm⟩
  · intro k hk
    obtain ⟨d, e⟩ := L.new k (cut_mem.mp hk).1
    exact ⟨d, fr _ _ e (L.nd_na (cut_mem.mp hk).1).symm (L.md_na (cut_mem.mp hk).1).symm⟩
  · intro k hk
    have := L.dt k (cut_mem.mp hk).1
    exact fr _ _ (L.typ k (cut_mem.mp hk).1) this.2.1 this.2.2
  · intro b o e n
    exact fr b o e (fun h => n (by rw [h]; exact L.sn)) fun h => n (by rw [h]; exact L.sm)
  · show dropK A.mkv _ = mades (g.cut l.number) A
    rw [M, mades_cut W A h hs]
end
theorem k_eq_non {K : PySem.W.Frag} {Q : VK} {j : Int} {H : Hp} (q : Q (.bl false) H) : fOp2 (rEqU K) .non Q (.int j) H := .inl ⟨rfl, by
  have e : decide (V.non = V.int j) = false := by simp
  rw [e]
  exact q⟩
def spDropLine (CL CO CN : Addr) : Sp := fun vs H Q _ => ∃ (p : Addr) (l : NL) (s : Nat) (g : LG) (A : LA) (z : Fz) (S : Addr → Prop), vs = [.ref p, .ref (A.na l.number)] ∧ l ∈ g.new ∧ l.source = some s ∧ LedA CL CO CN H p g A z S ∧ MK g A ∧ WF g ∧ z.n = none ∧ z.m = none ∧
  ∀ (H' : Hp), LedA CL CO CN H' p (g.drop l.number) (A.drop s) z S → MK (g.drop l.number) (A.drop s) → WF (g.drop l.number) → Frm S H H' → Q .non H'
set_option maxHeartbeats 4000000
section
variable {P : Program} {w : World} {K : PySem.W.Frag} {mg : Str → Option Value} {base : Heap}
theorem ok_Ledgers_drop_line (T : Txt w P K mg) : FnOk P w K mg base CX0 1 T.f_Ledgers_drop_line T.d_Ledgers_drop_line ["self", "line"] (spDropLine T.a_Ledgers T.a_OldLine T.a_NewLine) := by
  refine T.F_Ledgers_drop_line.ok sc_Ledgers_drop_line (fun vs H Q E h => ?_) (fun cdv A outer s H vs Q E hr h => ?_)
  · obtain ⟨p, l, s, g, A, z, S, rfl, _⟩ := h
    rfl
  · obtain ⟨p, l, so, g, A, z, S, rfl, hl, hs, L, M, W, hz, hm, k⟩ := h
    refine ⟨_, (pss_cons (ps_ddel (pe_fldk K (pv 0) rfl) (pe_fldk K (pv 1) rfl))
  (pss_cons (ps_ddel (pe_fldk K (pv 0) rfl) (pe_fldk K (pv 1) rfl))
  (pss_one (ps_lock (ps_for PassesOwn.never rfl (pi_values (pe_fldk K (pv 0) rfl)) (pg_name (i := 2) sc_Ledgers_drop_line.nd rfl (Or.inl rfl))
  (pss_one (ps_if (pt_cmpR (op_eqUk K (hu65 hr)) (pe_fldk K (pv 2) rfl) (pe_fldk K (pv 1) rfl) (nomark _)) (pss_one (ps_fld (pv 2) pe_non rfl)) pss_nil))))))), ?_⟩
    have c1 := T.cl_Ledgers
    have c2 := T.na_Ledgers_made_lines
    have c3 := T.na_Ledgers_new_lines
    have c4 := T.cl_NewLine
    have c5 := T.na_NewLine_number
    have c6 := T.na_NewLine_source
    have c7 := T.na_NewLine_tie
    have c0 := L.self
    obtain ⟨dx, ho⟩ := L.new l hl
    have d1 : H A.nd = some (.dK (news g A)) := by
      have h := L.nd
      rw [hz] at h
      exact h
    have d2 : H A.md = some (.dK A.mkv) := by
      have h := L.md
      rw [hm] at h
      exact h
    have n1 := L.nd_p
    have n2 := L.md_p
    have n3 := L.nd_na hl
    have n4 := L.md_na hl
    have e1 : oV l.source = V.int (so : Nat) := by rw [hs]; rfl
    walk_at "rd"
    refine k_ddelI d1 ?_ ?_
    · rw [show valV (news g A) (Sum.inl ((l.number : Nat) : Int)) = some (.ref (A.na l.number)) from valV_some (List.mem_map.mpr ⟨l, hl, rfl⟩) ?_]
      · rfl
      · intro q hq e
        obtain ⟨l', hl', rfl⟩ := news_key g A hq
        have := Sum.inl.inj e
        have h : l'.number = l.number := by omega
        rw [h]
    have c0a : upd H A.nd (.dK (dropK (news g A) (Sum.inl ((l.number : Nat) : Int)))) p = some (.ins T.a_Ledgers A.dx (lfs g A)) := by
      rw [upd_ne n1.symm]
      exact c0
    have hoa : upd H A.nd (.dK (dropK (news g A) (Sum.inl ((l.number : Nat) : Int)))) (A.na l.number) = some (.ins T.a_NewLine dx (nfs l (A.ta l.number))) := by
      rw [upd_ne n3.symm]
      exact ho
    walk_at "rd"
    rw [e1]
    refine k_ddelI (kvs := A.mkv) (by rw [upd_ne L.d3.symm]; exact d2) ?_ ?_
    · rw [M, mades_get W (l := l)]
      · rfl
      · unfold madeL
        cases h : g.new.find? (fun l => decide (l.source = some so)) with
        | none => exact absurd hs (madeL_none h l hl)
        | some l' =>
          have := madeL_some h
          rw [pair_one W.one this.1 hl this.2 hs]
    obtain ⟨L1, F1, M1, W1, fr⟩ := L.cut W M hz hm hl hs
    have ho1 := fr _ _ ho n3.symm n4.symm
    generalize upd (upd H A.nd (.dK (dropK (news g A) (Sum.inl ((l.number : Nat) : Int))))) A.md (.dK (dropK A.mkv (Sum.inl ((so : Nat) : Int)))) = H1 at L1 F1 ho1 ⊢
    have d3 : H1 A.nd = some (.dK (news (g.cut l.number) (A.drop so))) := by
      have h := L1.nd
      rw [hz] at h
      exact h
    walk_at "rd"
    refine ⟨A.nd, _, d3, trivial, fun od => ?_⟩
    have L2 : LedA T.a_Ledgers T.a_OldLine T.a_NewLine (upd H1 A.nd (.frz od (.dK (news (g.cut l.number) (A.drop so))))) p (g.cut l.number) (A.drop so) { z with n := some od } S := L1.setN (some od)
    have F2 : Frm S H (upd H1 A.nd (.frz od (.dK (news (g.cut l.number) (A.drop so))))) := fun b o e n => by
      rw [upd_ne fun h => n (by rw [h]; exact L.sn)]
      exact F1 b o e n
    have ho2 : upd H1 A.nd (.frz od (.dK (news (g.cut l.number) (A.drop so)))) (A.na l.number) = some (.ins T.a_NewLine dx (nfs l (A.ta l.number))) := by
      rw [upd_ne n3.symm]
      exact ho1
    have c8 : upd H1 A.nd (.frz od (.dK (news (g.cut l.number) (A.drop so)))) A.nd = some (.frz od (.dK (news (g.cut l.number) (A.drop so)))) := upd_same
    generalize upd H1 A.nd (.frz od (.dK (news (g.cut l.number) (A.drop so)))) = Hf at L2 F2 ho2 c8 ⊢
    have c9 : Hf p = some (.ins T.a_Ledgers A.dx (lfs g A)) := L2.self
    have kg : ∀ i, news ((g.cut l.number).upTo (untie l.number) i) (A.drop so) = news (g.cut l.number) (A.drop so) := fun i => news_congr _ (mapTo_key (untie_key l.number) _ i)
    walk_at "rd"
    refine k_vals c8 ?_
    refine k_for walk_values (fun i σ H' => (∃ v, σ = [some (.ref p), some (.ref (A.na l.number)), v]) ∧ LedA T.a_Ledgers T.a_OldLine T.a_NewLine H' p ((g.cut l.number).upTo (untie l.number) i) (A.drop so) { z with n := some od } S ∧ Frm S H H' ∧ H' (A.na l.number) = some (.ins T.a_NewLine dx (nfs l (A.ta l.number)))) ⟨⟨_, rfl⟩, by rw [LG.upTo_zero]; exact L2, F2, ho2⟩ (fun i σ H' _ h => ?_) ?_ ?_
    · have := h.2.1.nd
      rw [kg i] at this
      exact this
    · rintro i x σ H2 H3 hi ⟨⟨v, rfl⟩, L3, F3, ho3⟩ ⟨rfl, ky, hk⟩
      rw [news_len] at hi
      have hg : (g.cut l.number).new[i]? = some ((g.cut l.number).new[i]) := List.getElem?_eq_getElem hi
      generalize (g.cut l.number).new[i] = o at hg
      have hx : x = .ref (A.na o.number) := by
        unfold news at hk
        rw [List.getElem?_map, hg] at hk
        exact (Prod.mk.inj (Option.some.inj hk)).2.symm
      subst hx
      have hg2 : ((g.cut l.number).upTo (untie l.number) i).new[i]? = some o := (mapTo_get _ _ _).trans hg
      obtain ⟨d, hob⟩ := L3.new o (List.mem_of_getElem? hg2)
      have hob' : H3 (A.na o.number) = some (.ins T.a_NewLine d (nfs o (A.ta o.number))) := hob
      have hno : o.number ≠ l.number := (cut_mem.mp (List.mem_of_getElem? hg)).2
      have hna : A.na o.number ≠ A.na l.number := fun h => hno (NewAt.num (t := A.ta o.number) (u := A.ta l.number) (k := l) ⟨d, by rw [← h]; exact hob'⟩ ⟨dx, ho3⟩).symm.symm
      have W3 : WF ((g.cut l.number).upTo (untie l.number) i) := W1.congr ((g.cut l.number).upTo_key (untie_key l.number) i).symm rfl rfl
      have stay : untie l.number o = o → (∃ v, [some (V.ref p), some (V.ref (A.na l.number)), some (V.ref (A.na o.number))] = [some (.ref p), some (.ref (A.na l.number)), v]) ∧ LedA T.a_Ledgers T.a_OldLine T.a_NewLine H3 p ((g.cut l.number).upTo (untie l.number) (i + 1)) (A.drop so) { z with n := some od } S ∧ Frm S H H3 ∧ H3 (A.na l.number) = some (.ins T.a_NewLine dx (nfs l (A.ta l.number))) := fun e => ⟨⟨_, rfl⟩, by rw [LG.upTo_same _ _ hg e]; exact L3, F3, ho3⟩
      walk_at "rd"
      cases ht : o.tie with
      | none =>
        refine k_eq_non ?_
        walk_at "rd"
        exact stay (by unfold untie; rw [if_neg (by rw [ht]; exact fun h => by cases h)])
      | some t =>
        refine k_eq_int ?_
        walk_at "rd"
        by_cases e : t = l.number
        · rw [if_pos (by rw [e])]
          walk_at "rd"
          have hu : untie l.number o = { o with tie := none } := by
            unfold untie
            rw [if_pos (by rw [ht, e])]
          obtain ⟨L4, F4⟩ := L3.setNew W3 hg2 (untie_key l.number o) d
          rw [LG.upTo_set _ _ hg] at L4
          refine ⟨⟨_, rfl⟩, ?_, ?_, ?_⟩
          · rw [hu] at L4
            exact L4
          · rw [hu] at F4
            exact fun b u e n => F4 b u (F3 b u e n) n
          · rw [upd_ne hna.symm]
            exact ho3
        · rw [if_neg (by omega)]
          walk_at "rd"
          exact stay (by unfold untie; rw [if_neg (by rw [ht]; exact fun h => e (Option.some.inj h))])
    · rintro σ H2 ⟨⟨v, rfl⟩, L3, F3, ho3⟩
      have ek : news ((g.cut l.number).upTo (untie l.number) (news (g.cut l.number) (A.drop so)).length) (A.drop so) = news (g.cut l.number) (A.drop so) := kg _
      have ed : (g.cut l.number).upTo (untie l.number) (news (g.cut l.number) (A.drop so)).length = g.drop l.number := by
        unfold LG.upTo LG.drop
        rw [news_len, mapTo_len]
        rfl
      have L4 := L3.setN none
      have c10 := L3.nd
      rw [ek] at L4 c10
      rw [ed] at L4
      have ez : ({ ({ z with n := some od } : Fz) with n := none } : Fz) = z := by
        cases z
        cases hz
        rfl
      rw [ez] at L4
      refine ⟨c10, k _ L4 ?_ ?_ fun b o e n => ?_⟩
      · rw [← ed]
        exact M1.congr ((g.cut l.number).upTo_key (untie_key l.number) _).symm
      · rw [← ed]
        exact W1.congr ((g.cut l.number).upTo_key (untie_key l.number) _).symm rfl rfl
      · show upd _ A.nd _ b = _
        rw [upd_ne fun h => n (by rw [h]; exact L.sn)]
        exact F3 b o e n
end

set_option Elab.async false
set_option linter.all false
set_option maxRecDepth 100000


local macro_rules | `(tactic| walk_at "lk") => `(tactic| first
  | exact ofs_number _ _ | exact ofs_label _ _ | exact ofs_start _ _ | exact ofs_moves _ _ | exact ofs_tie _ _ | exact ofs_standing _ _
  | exact nfs_number _ _ | exact nfs_label _ _ | exact nfs_start _ _ | exact nfs_moves _ _ | exact nfs_tie _ _ | exact nfs_source _ _ | exact nfs_typed _ _
  | rfl)
def inScope (l : NL) (fld scope : Str) (last : Nat) : Bool := if scope = "new" then decide (last < l.number) else decide (scope = "all") || !(valV (typedK l) (Sum.inr fld)).isSome
def spInScope (CN : Addr) : Sp := fun vs H Q _ => ∃ (a t : Addr) (l : NL) (fld scope : Str) (last : Nat), vs = [.ref a, .str fld, .str scope, .int (last : Nat)] ∧ NewAt CN H a t l ∧ H t = some (.dK (typedK l)) ∧ Q (.bl (inScope l fld scope last)) H
def renewL (g : LG) (fld : Str) (l : NL) : NL := match l.source.bind fun s => g.old[s - 1]? with
  | none => l
  | some o => if fld = "start" then { l with start := closing o } else if fld = "label" then { l with label := o.label } else { l with tie := madeN g o.tie }
theorem renewL_key (g : LG) (fld : Str) (l : NL) : key (renewL g fld l) = key l := by
  unfold renewL
  split
  · rfl
  · split
    · rfl
    · split <;> rfl
def spRenewLine (CL CO CN : Addr) : Sp := fun vs H Q _ => ∃ (p : Addr) (i : Nat) (l : NL) (s : Nat) (fld : Str) (g : LG) (A : LA) (z : Fz) (S : Addr → Prop), vs = [.ref p, .ref (A.na l.number), .str fld] ∧ g.new[i]? = some l ∧ l.source = some s ∧ LedA CL CO CN H p g A z S ∧ MK g A ∧ WF g ∧
  ∀ (H' : Hp), LedA CL CO CN H' p { g with new := g.new.set i (renewL g fld l) } A z S → Frm S H H' → Q .non H'
section
variable {CL CO CN : Addr} {H : Hp} {p : Addr} {g : LG} {A : LA} {z : Fz} {S : Addr → Prop}
theorem olds_get (g : LG) (A : LA) {i : Nat} (h : i < g.old.length) : valV (olds g A) (Sum.inl ((i + 1 : Nat) : Int)) = some (.ref (A.oa i)) := by
  refine valV_some ?_ ?_
  · unfold olds
    exact List.mem_map.mpr ⟨i, List.mem_range.mpr h, rfl⟩
  · intro q hq e
    obtain ⟨j, hj, rfl⟩ := olds_key g A hq
    have := Sum.inl.inj e
    have : j = i := by omega
    rw [this]
end
set_option maxHeartbeats 4000000
section
variable {P : Program} {w : World} {K : PySem.W.Frag} {mg : Str → Option Value} {base : Heap}
theorem ok_in_scope (T : Txt w P K mg) : FnOk P w K mg base CX0 1 T.f_in_scope T.d_in_scope ["line", "field", "scope", "last"] (spInScope T.a_NewLine) := by
  refine T.F_in_scope.ok sc_in_scope (fun vs H Q E h => ?_) (fun cdv A outer s H vs Q E hr h => ?_)
  · obtain ⟨a, t, l, fld, scope, last, rfl, _⟩ := h
    rfl
  · obtain ⟨a, t, l, fld, scope, last, rfl, ⟨dx, ha⟩, ht, k⟩ := h
    refine ⟨_, (pss_cons (ps_if (pt_cmpR (op_eqUk K (hu65 hr)) (pv 2) pe_str (nomark _)) (pss_one (ps_ret (pe_cmpR op_gt (pe_fldk K (pv 0) rfl) (pv 3) (nomark _)))) pss_nil)
  (pss_one (ps_ret (pe_or (pe_cmpR (op_eqUk K (hu65 hr)) (pv 2) pe_str (nomark _)) (pe_one (pe_cmp (pc_dnotin (hu_of hr) (pv 1) (pe_fldk K (pv 0) rfl)))))))), ?_⟩
    have c1 := T.cl_NewLine
    have c2 := T.na_NewLine_number
    have c3 := T.na_NewLine_typed
    walk_at "rd"
    by_cases h1 : scope = Str.ofString "new"
    · rw [if_pos h1]
      walk_at "rd"
      have : inScope l fld scope last = decide ((last : Int) < (l.number : Int)) := by
        unfold inScope
        rw [if_pos h1]
        exact decide_eq_decide.mpr (by omega)
      rw [this] at k
      exact k
    · rw [if_neg h1]
      refine k_eq_str ?_
      walk_at "rd"
      have e : inScope l fld scope last = (decide (scope = Str.ofString "all") || !(valV (typedK l) (Sum.inr fld)).isSome) := by
        unfold inScope
        rw [if_neg h1]
      rw [e] at k
      by_cases h2 : scope = Str.ofString "all"
      · rw [decide_eq_true h2] at k
        rw [if_pos h2]
        walk_at "rd"
        exact k
      · rw [decide_eq_false h2] at k
        rw [if_neg h2]
        walk_at "rd"
        refine k_dinS (.inl ht) ?_
        walk_at "rd"
        exact k
theorem ok_renew_line (T : Txt w P K mg) : FnOk P w K mg base CX0 2 T.f_renew_line T.d_renew_line ["ledgers", "line", "field"] (spRenewLine T.a_Ledgers T.a_OldLine T.a_NewLine) := by
  refine T.F_renew_line.ok sc_renew_line (fun vs H Q E h => ?_) (fun cdv A outer s H vs Q E hr h => ?_)
  · obtain ⟨p, i, l, so, fld, g, A, z, S, rfl, _⟩ := h
    rfl
  · obtain ⟨p, i, l, so, fld, g, A, z, S, rfl, hi, hs, L, M, W, k⟩ := h
    refine ⟨_, (pss_cons (ps_set (i := 3) sc_renew_line.nd rfl (Or.inl rfl) (pe_dget (hu_of hr) (pe_fldk K (pv 0) rfl) (pe_fldk K (pv 1) rfl) (fun _ _ => rfl)))
  (pss_one (ps_if (pt_cmpR (op_eqUk K (hu65 hr)) (pv 2) pe_str (nomark _)) (pss_one (ps_fld (pv 1) (pe_meth0 (pv 3) T.cl_OldLine T.me_OldLine_closing (ok_OldLine_closing T) (hr.mono (by decide)) T.b_OldLine_closing .nil pass0) rfl)) (pss_one (ps_if (pt_cmpR (op_eqUk K (hu65 hr)) (pv 2) pe_str (nomark _)) (pss_one (ps_fld (pv 1) (pe_fldk K (pv 3) rfl) rfl)) (pss_one (ps_fld (pv 1) (pe_meth (pv 0) T.cl_Ledgers T.me_Ledgers_made_number (ok_Ledgers_made_number T) (hr.mono (by decide)) T.b_Ledgers_made_number .nil pass0 (pa_cons (pe_fldk K (pv 3) rfl) pa_nil)) rfl))))))), ?_⟩
    have c1 := T.cl_Ledgers
    have c2 := T.na_Ledgers_old_lines
    have c4 := T.cl_NewLine
    have c6 := T.na_NewLine_source
    have c7 := T.na_NewLine_tie
    have c8 := T.na_NewLine_label
    have c9 := T.na_NewLine_start
    have c10 := T.cl_OldLine
    have c11 := T.na_OldLine_label
    have c12 := T.na_OldLine_tie
    have c0 := L.self
    have hm := List.mem_of_getElem? hi
    obtain ⟨dx, ho⟩ := L.new l hm
    have e1 : oV l.source = V.int (so : Nat) := by rw [hs]; rfl
    have hso := W.src l hm so hs
    obtain ⟨so, rfl⟩ : ∃ j, so = j + 1 := ⟨so - 1, by omega⟩
    have hlt : so < g.old.length := by omega
    walk_at "rd"
    rw [e1]
    refine k_dgetI (lck_rd L.od) (olds_get g A hlt) ?_
    obtain ⟨d2, o, hol, h2⟩ := L.oldAt hlt
    have er : renewL g fld l = if fld = "start" then { l with start := closing o } else if fld = "label" then { l with label := o.label } else { l with tie := madeN g o.tie } := by
      unfold renewL
      rw [hs]
      show (match g.old[so + 1 - 1]? with | none => l | some o => _) = _
      rw [Nat.add_sub_cancel, hol]
    obtain ⟨h3, h4⟩ := L.setNew W hi (renewL_key g fld l) dx
    walk_at "rd"
    by_cases f1 : fld = Str.ofString "start"
    · rw [if_pos f1] at er ⊢
      rw [er] at h3 h4 k
      walk_at "rd"
      refine ⟨A.oa so, so + 1, o, rfl, ⟨d2, h2⟩, ?_⟩
      walk_at "rd"
      exact k _ h3 h4
    · rw [if_neg f1] at er ⊢
      refine k_eq_str ?_
      walk_at "rd"
      by_cases f2 : fld = Str.ofString "label"
      · rw [if_pos f2] at er ⊢
        rw [er] at h3 h4 k
        walk_at "rd"
        exact k _ h3 h4
      · rw [if_neg f2] at er ⊢
        rw [er] at h3 h4 k
        walk_at "rd"
        refine ⟨p, o.tie, g, A, z, S, rfl, L, M, W, ?_⟩
        walk_at "rd"
        exact k _ h3 h4
end

set_option Elab.async false
set_option linter.all false
set_option maxRecDepth 100000


local macro_rules | `(tactic| walk_at "lk") => `(tactic| first
  | exact ofs_number _ _ | exact ofs_label _ _ | exact ofs_start _ _ | exact ofs_moves _ _ | exact ofs_tie _ _ | exact ofs_standing _ _
  | exact nfs_number _ _ | exact nfs_label _ _ | exact nfs_start _ _ | exact nfs_moves _ _ | exact nfs_tie _ _ | exact nfs_source _ _ | exact nfs_typed _ _
  | rfl)
/-! ### lines made from the old ones -/
def makeStep (all : Bool) (i : Nat) (g : LG) : LG := match g.old[i]? with
  | none => g
  | some o => if madeL g (i + 1) = none ∧ (all || o.standing) = true then g.addN o.label (closing o) (some (i + 1)) else g
def makeTo (all : Bool) (g : LG) : Nat → LG
  | 0 => g
  | i + 1 => makeStep all i (makeTo all g i)
theorem makeStep_old (all : Bool) (i : Nat) (g : LG) : (makeStep all i g).old = g.old := by
  unfold makeStep
  split
  · rfl
  · split <;> rfl
theorem makeTo_old (all : Bool) (g : LG) : ∀ i, (makeTo all g i).old = g.old
  | 0 => rfl
  | i + 1 => (makeStep_old all i _).trans (makeTo_old all g i)
theorem makeTo_last (all : Bool) (g : LG) : ∀ i, (makeTo all g i).last ≤ g.last + i
  | 0 => Nat.le_refl _
  | i + 1 => by
    have := makeTo_last all g i
    show (makeStep all i (makeTo all g i)).last ≤ _
    unfold makeStep
    split
    · omega
    · split
      · show (makeTo all g i).last + 1 ≤ _
        omega
      · omega
theorem WF.addN {g : LG} (W : WF g) {b s : Int} {i : Nat} (hi : i < g.old.length) (hl : g.last < 900000) (hn : madeL g (i + 1) = none) : WF (g.addN b s (some (i + 1))) := by
  have mem : ∀ l ∈ (g.addN b s (some (i + 1))).new, l ∈ g.new ∨ l = ⟨g.last + 1, b, s, 0, none, some (i + 1), []⟩ := fun l h => (List.mem_append.mp h).elim .inl fun h => .inr (List.mem_singleton.mp h)
  refine { num := ?_, last := ?_, src := ?_, one := ?_, few := W.few, most := ?_ }
  · refine List.pairwise_append.mpr ⟨W.num, List.pairwise_singleton _ _, fun a ha c hc => ?_⟩
    rw [List.mem_singleton.mp hc]
    have := W.last a ha
    show a.number < g.last + 1
    omega
  · intro l h
    show 1 ≤ l.number ∧ l.number ≤ g.last + 1
    rcases mem l h with h | rfl
    · have := W.last l h
      omega
    · exact ⟨Nat.le_add_left _ _, Nat.le_refl _⟩
  · intro l h s' hs
    rcases mem l h with h | rfl
    · exact W.src l h s' hs
    · obtain rfl : i + 1 = s' := Option.some.inj hs
      exact ⟨Nat.le_add_left _ _, hi⟩
  · refine List.pairwise_append.mpr ⟨W.one, List.pairwise_singleton _ _, fun a ha c hc s' hs => ?_⟩
    rw [List.mem_singleton.mp hc]
    intro e
    obtain rfl : i + 1 = s' := Option.some.inj e
    exact madeL_none hn a ha hs
  · show g.last + 1 ≤ _
    omega
def spMakeLines (CL CO CN : Addr) : Sp := fun vs H Q _ => ∃ (p : Addr) (which : Str) (g : LG) (A : LA) (z : Fz) (S : Addr → Prop), vs = [.ref p, .str which] ∧ LedA CL CO CN H p g A z S ∧ MK g A ∧ WF g ∧ z = noFz ∧ g.last + g.old.length < 900000 ∧
  ∀ (A' : LA) (S' : Addr → Prop) (H' : Hp), LedA CL CO CN H' p (makeTo (decide (which = "all")) g g.old.length) A' z S' → MK (makeTo (decide (which = "all")) g g.old.length) A' → WF (makeTo (decide (which = "all")) g g.old.length) → Frm S H H' → Grow S S' H → Q .non H'
set_option maxHeartbeats 4000000
section
variable {P : Program} {w : World} {K : PySem.W.Frag} {mg : Str → Option Value} {base : Heap}
theorem ok_make_lines (T : Txt w P K mg) : FnOk P w K mg base CX0 5 T.f_make_lines T.d_make_lines ["ledgers", "which"] (spMakeLines T.a_Ledgers T.a_OldLine T.a_NewLine) := by
  refine T.F_make_lines.ok sc_make_lines (fun vs H Q E h => ?_) (fun cdv A outer s H vs Q E hr h => ?_)
  · obtain ⟨p, which, g, A, z, S, rfl, _⟩ := h
    rfl
  · obtain ⟨p, which, g, A, z, S, rfl, L, M, W, rfl, hlast, k⟩ := h
    refine ⟨_, (pss_one (ps_lock (ps_for PassesOwn.never rfl (pi_values (pe_fldk K (pv 0) rfl)) (pg_name (i := 2) sc_make_lines.nd rfl (Or.inl rfl))
  (pss_one (ps_if (PW.pt (pw_and (pt_cmp (pc_dnotin (hu_of hr) (pe_fldk K (pv 2) rfl) (pe_fldk K (pv 0) rfl))) (pw_and1 (PW.pt (pw_or (pt_cmpR (op_eqUk K (hu65 hr)) (pv 1) pe_str (nomark _)) (pw_or1 (pt_val (pe_fldk K (pv 2) rfl)))))))) (pss_one (ps_expr (pe_meth (pv 0) T.cl_Ledgers T.me_Ledgers_make_line (ok_Ledgers_make_line T) (hr.mono (by decide)) T.b_Ledgers_make_line .nil pass0 (pa_cons (pv 2) pa_nil)))) pss_nil))))), ?_⟩
    have c1 := T.cl_Ledgers
    have c2 := T.na_Ledgers_old_lines
    have c3 := T.na_Ledgers_made_lines
    have c4 := T.cl_OldLine
    have c5 := T.na_OldLine_number
    have c6 := T.na_OldLine_standing
    have d3 : H A.od = some (.dK (olds g A)) := L.od
    walk_at "rd"
    refine ⟨A.od, _, d3, trivial, fun od => ?_⟩
    have L2 : LedA T.a_Ledgers T.a_OldLine T.a_NewLine (upd H A.od (.frz od (.dK (olds g A)))) p g A { noFz with o := some od } S := L.setO (some od)
    have F2 : Frm S H (upd H A.od (.frz od (.dK (olds g A)))) := fun b o e n => by
      rw [upd_ne fun h => n (by rw [h]; exact L.so)]
      exact e
    have c8 : upd H A.od (.frz od (.dK (olds g A))) A.od = some (.frz od (.dK (olds g A))) := upd_same
    generalize upd H A.od (.frz od (.dK (olds g A))) = Hf at L2 F2 c8 ⊢
    have c9 := L2.self
    walk_at "rd"
    refine k_vals c8 ?_
    refine k_for walk_values (fun i σ H' => (∃ v, σ = [some (.ref p), some (.str which), v]) ∧ ∃ A' S', LedA T.a_Ledgers T.a_OldLine T.a_NewLine H' p (makeTo (decide (which = "all")) g i) A' { noFz with o := some od } S' ∧ MK (makeTo (decide (which = "all")) g i) A' ∧ WF (makeTo (decide (which = "all")) g i) ∧ (∀ j, A'.oa j = A.oa j) ∧ A'.od = A.od ∧ Frm S H H' ∧ Grow S S' H) ⟨⟨_, rfl⟩, A, S, L2, M, W, fun _ => rfl, rfl, F2, Grow.refl S H⟩ (fun i σ H' hi h => ?_) ?_ ?_
    · obtain ⟨_, A', S', L3, _, _, ho, hd, _⟩ := h
      have := L3.od
      rw [hd] at this
      have e : olds (makeTo (decide (which = "all")) g i) A' = olds g A := by
        unfold olds
        rw [makeTo_old]
        refine List.map_congr_left fun j _ => ?_
        rw [ho]
      rw [e] at this
      exact this
    · rintro i x σ H2 H3 hi ⟨⟨v, rfl⟩, A', S', L3, M3, W3, ho, hd, F3, G3⟩ ⟨rfl, ky, hk⟩
      rw [olds_len] at hi
      have hx : x = .ref (A.oa i) := by
        unfold olds at hk
        rw [List.getElem?_map, List.getElem?_range hi] at hk
        exact (Prod.mk.inj (Option.some.inj hk)).2.symm
      subst hx
      have hold : (makeTo (decide (which = Str.ofString "all")) g i).old = g.old := makeTo_old _ _ _
      have hlst := makeTo_last (decide (which = Str.ofString "all")) g i
      have hstep : makeTo (decide (which = Str.ofString "all")) g (i + 1) = makeStep (decide (which = Str.ofString "all")) i (makeTo (decide (which = Str.ofString "all")) g i) := rfl
      have hol : (makeTo (decide (which = Str.ofString "all")) g i).old[i]? = some g.old[i] := by rw [hold]; exact List.getElem?_eq_getElem hi
      rw [hstep]
      have hi2 : i < (makeTo (decide (which = Str.ofString "all")) g i).old.length := by rw [hold]; exact hi
      generalize g.old[i] = o at hol
      generalize makeTo (decide (which = Str.ofString "all")) g i = gi at L3 M3 W3 hold hlst hol hi2 ⊢
      obtain ⟨dx, hob⟩ := L3.old i o hol
      rw [ho] at hob
      have c0 : H3 p = some (.ins T.a_Ledgers A'.dx (lfs gi A')) := L3.self
      have c7 := lck_rd L3.md
      rw [M3] at c7
      have no : ¬ (madeL gi (i + 1) = none ∧ (decide (which = Str.ofString "all") || o.standing) = true) → makeStep (decide (which = Str.ofString "all")) i gi = gi := fun h => by
        unfold makeStep
        rw [hol]
        exact if_neg h
      have yes : (madeL gi (i + 1) = none ∧ (decide (which = Str.ofString "all") || o.standing) = true) → makeStep (decide (which = Str.ofString "all")) i gi = gi.addN o.label (closing o) (some (i + 1)) := fun h => by
        unfold makeStep
        rw [hol]
        exact if_pos h
      walk_at "rd"
      refine k_dinI c7 ?_
      cases hmd : madeL gi (i + 1) with
      | some l =>
        rw [mades_get W3 hmd]
        walk_at "rd"
        rw [no fun h => by rw [hmd] at h; cases h.1]
        exact ⟨⟨_, rfl⟩, A', S', L3, M3, W3, ho, hd, F3, G3⟩
      | none =>
        rw [mades_non hmd]
        walk_at "rd"
        rw [if_pos (show (!(none : Option V).isSome) = true from rfl)]
        have mk : ∀ A2 S2 H4, LedA T.a_Ledgers T.a_OldLine T.a_NewLine H4 p (gi.addN o.label (closing o) (some (i + 1))) A2 { noFz with o := some od } S2 → MK (gi.addN o.label (closing o) (some (i + 1))) A2 → (∀ j, A2.oa j = A'.oa j) → A2.od = A'.od → Frm S' H3 H4 → Grow S' S2 H3 → (decide (which = Str.ofString "all") || o.standing) = true → _ :=
          fun A2 S2 H4 a b c d e f q => (⟨A2, S2, by rw [yes ⟨hmd, q⟩]; exact a, by rw [yes ⟨hmd, q⟩]; exact b, by rw [yes ⟨hmd, q⟩]; exact W3.addN hi2 (by omega) hmd, fun j => (c j).trans (ho j), d.trans hd, F3.trans G3 e, G3.trans F3 f⟩ :
            ∃ A2 S2, LedA T.a_Ledgers T.a_OldLine T.a_NewLine H4 p (makeStep (decide (which = Str.ofString "all")) i gi) A2 { noFz with o := some od } S2 ∧ MK (makeStep (decide (which = Str.ofString "all")) i gi) A2 ∧ WF (makeStep (decide (which = Str.ofString "all")) i gi) ∧ (∀ j, A2.oa j = A.oa j) ∧ A2.od = A.od ∧ Frm S H H4 ∧ Grow S S2 H)
        refine k_eq_str ?_
        walk_at "rd"
        by_cases hw : which = Str.ofString "all"
        · rw [if_pos hw]
          walk_at "rd"
          exact ⟨p, i, o, gi, A', _, S', by rw [ho], hol, L3, M3, W3, rfl, rfl, by omega, madeL_none hmd, fun A2 S2 H4 a b c d e f => ⟨⟨_, rfl⟩, mk A2 S2 H4 a b c d e f (by rw [decide_eq_true hw]; rfl)⟩⟩
        · rw [if_neg hw]
          walk_at "rd"
          cases hst : o.standing with
          | true =>
            walk_at "rd"
            exact ⟨p, i, o, gi, A', _, S', by rw [ho], hol, L3, M3, W3, rfl, rfl, by omega, madeL_none hmd, fun A2 S2 H4 a b c d e f => ⟨⟨_, rfl⟩, mk A2 S2 H4 a b c d e f (by rw [hst, Bool.or_true])⟩⟩
          | false =>
            walk_at "rd"
            rw [no fun h => by rw [decide_eq_false hw, hst] at h; cases h.2]
            exact ⟨⟨_, rfl⟩, A', S', L3, M3, W3, ho, hd, F3, G3⟩
    · rintro σ H2 ⟨⟨v, rfl⟩, A', S', L3, M3, W3, ho, hd, F3, G3⟩
      rw [olds_len] at L3 M3 W3
      have eo : olds (makeTo (decide (which = Str.ofString "all")) g g.old.length) A' = olds g A := by
        unfold olds
        rw [makeTo_old]
        refine List.map_congr_left fun j _ => ?_
        rw [ho]
      have L4 := L3.setO none
      have c10 := L3.od
      rw [eo] at L4 c10
      rw [hd] at L4 c10
      refine ⟨c10, k A' S' _ L4 M3 W3 (fun b o e n => ?_) G3⟩
      show upd _ A.od _ b = _
      rw [upd_ne fun h => n (by rw [h]; exact L.so)]
      exact F3 b o e n
end

set_option Elab.async false
set_option linter.all false
set_option maxRecDepth 100000


local macro_rules | `(tactic| walk_at "lk") => `(tactic| first
  | exact ofs_number _ _ | exact ofs_label _ _ | exact ofs_start _ _ | exact ofs_moves _ _ | exact ofs_tie _ _ | exact ofs_standing _ _
  | exact nfs_number _ _ | exact nfs_label _ _ | exact nfs_start _ _ | exact nfs_moves _ _ | exact nfs_tie _ _ | exact nfs_source _ _ | exact nfs_typed _ _
  | rfl)
/-! ### lines renewed, those of some numbers -/
def upOn (f : NL → NL) (ns : List Nat) (xs : List NL) : List NL := xs.map fun l => if l.number ∈ ns then f l else l
theorem upOn_nil (f : NL → NL) (xs : List NL) : upOn f [] xs = xs := by
  unfold upOn
  simp
theorem upOn_key {f : NL → NL} (hf : ∀ o, key (f o) = key o) (ns : List Nat) (xs : List NL) : (upOn f ns xs).map key = xs.map key := by
  unfold upOn
  rw [List.map_map]
  refine List.map_congr_left fun l _ => ?_
  show key (if l.number ∈ ns then f l else l) = key l
  split
  · exact hf l
  · rfl
theorem upOn_get {f : NL → NL} {ns : List Nat} {xs : List NL} {j : Nat} {k : NL} (h : xs[j]? = some k) (hn : k.number ∉ ns) : (upOn f ns xs)[j]? = some k := by
  unfold upOn
  rw [List.getElem?_map, h]
  show some (if k.number ∈ ns then f k else k) = _
  rw [if_neg hn]
theorem upOn_set {g : LG} (W : WF g) {f : NL → NL} {ns : List Nat} {j : Nat} {k : NL} (h : g.new[j]? = some k) : (upOn f ns g.new).set j (f k) = upOn f (ns ++ [k.number]) g.new := by
  unfold upOn
  refine List.ext_getElem? fun m => ?_
  have hj := (List.getElem?_eq_some_iff.mp h).1
  rw [List.getElem?_set, List.getElem?_map, List.getElem?_map, List.length_map]
  by_cases e : j = m
  · subst e
    rw [if_pos rfl, if_pos hj, h]
    show _ = some (if k.number ∈ ns ++ [k.number] then f k else k)
    rw [if_pos (by simp)]
  · rw [if_neg e]
    cases ho : g.new[m]? with
    | none => rfl
    | some o =>
      have hne : o.number ≠ k.number := fun q => e (W.inj ho h q).symm
      show some (if o.number ∈ ns then f o else o) = some (if o.number ∈ ns ++ [k.number] then f o else o)
      by_cases hm : o.number ∈ ns
      · rw [if_pos hm, if_pos (List.mem_append_left _ hm)]
      · rw [if_neg hm, if_neg fun q => (List.mem_append.mp q).elim hm fun q => hne (List.mem_singleton.mp q)]
theorem set_same {α : Type} {xs : List α} {j : Nat} {k : α} (h : xs[j]? = some k) : xs.set j k = xs := by
  refine List.ext_getElem? fun m => ?_
  rw [List.getElem?_set]
  by_cases e : j = m
  · subst e
    rw [if_pos rfl, if_pos (List.getElem?_eq_some_iff.mp h).1, h]
  · rw [if_neg e]
def ms (g : LG) : List NL := g.new.filter fun l => l.source.isSome
theorem ms_mades (g : LG) (A : LA) : mades g A = (ms g).map fun l => ((Sum.inl ((l.source.getD 0 : Nat) : Int) : Key), V.ref (A.na l.number)) := by
  unfold mades ms
  induction g.new with
  | nil => rfl
  | cons x r ih =>
    rw [List.filterMap_cons, List.filter_cons]
    unfold madeKV at ih ⊢
    cases h : x.source with
    | none => exact ih
    | some s =>
      show _ :: _ = (x :: _).map _
      rw [List.map_cons, h, ih]
      rfl
theorem ms_mem {g : LG} {l : NL} : l ∈ ms g ↔ l ∈ g.new ∧ l.source.isSome = true := by
  unfold ms
  rw [List.mem_filter]
theorem ms_fresh {g : LG} (W : WF g) {i : Nat} {k : NL} (h : (ms g)[i]? = some k) : k.number ∉ ((ms g).take i).map (·.number) := by
  intro q
  obtain ⟨a, ha, e⟩ := List.mem_map.mp q
  obtain ⟨j, hj⟩ := List.getElem?_of_mem ha
  rw [List.getElem?_take] at hj
  split at hj
  · rename_i hji
    obtain ⟨h1, e1⟩ := List.getElem?_eq_some_iff.mp hj
    obtain ⟨h2, e2⟩ := List.getElem?_eq_some_iff.mp h
    have pw : (ms g).Pairwise fun l l' => l.number < l'.number := W.num.sublist List.filter_sublist
    have := List.pairwise_iff_getElem.mp pw j i h1 h2 hji
    rw [e1, e2] at this
    omega
  · cases hj
theorem ms_take {g : LG} {i : Nat} {k : NL} (h : (ms g)[i]? = some k) : ((ms g).take (i + 1)).map (·.number) = ((ms g).take i).map (·.number) ++ [k.number] := by
  rw [List.take_succ, h, List.map_append]
  rfl
theorem madeN_congr {g g' : LG} (h : g.new.map key = g'.new.map key) (t : Option Nat) : madeN g t = madeN g' t := by
  have e : ∀ g : LG, ∀ s, (madeL g s).map (·.number) = ((g.new.map key).find? fun k => decide (k.2.1 = some s)).map (·.1) := fun g s => by
    unfold madeL
    rw [List.find?_map, Option.map_map]
    rfl
  unfold madeN
  cases t with
  | none => rfl
  | some s =>
    show (madeL g s).map _ = (madeL g' s).map _
    rw [e, e, h]
theorem renewL_congr {g g' : LG} (ho : g'.old = g.old) (h : g.new.map key = g'.new.map key) (fld : Str) (l : NL) : renewL g' fld l = renewL g fld l := by
  unfold renewL
  rw [ho]
  split
  · rfl
  · rw [madeN_congr h]
def renewF (g : LG) (fld scope : Str) (last : Nat) (l : NL) : NL := if inScope l fld scope last = true then renewL g fld l else l
theorem renewF_key (g : LG) (fld scope : Str) (last : Nat) (l : NL) : key (renewF g fld scope last l) = key l := by
  unfold renewF
  split
  · exact renewL_key g fld l
  · rfl
def LG.on (g : LG) (f : NL → NL) (ns : List Nat) : LG := ⟨g.old, upOn f ns g.new, g.last⟩
def renewAll (g : LG) (fld scope : Str) (last : Nat) : LG := g.on (renewF g fld scope last) ((ms g).map (·.number))
theorem renewAll_new (g : LG) (W : WF g) (fld scope : Str) (last : Nat) : (renewAll g fld scope last).new = g.new.map fun l => if l.source.isSome = true then renewF g fld scope last l else l := by
  show upOn _ _ _ = _
  unfold upOn
  refine List.map_congr_left fun l hl => ?_
  by_cases h : l.source.isSome = true
  · rw [if_pos h, if_pos (List.mem_map.mpr ⟨l, ms_mem.mpr ⟨hl, h⟩, rfl⟩)]
  · rw [if_neg h, if_neg fun q => ?_]
    obtain ⟨a, ha, e⟩ := List.mem_map.mp q
    have := ms_mem.mp ha
    rw [W.eq this.1 hl e] at this
    exact h this.2
def spRenewLines (CL CO CN : Addr) : Sp := fun vs H Q _ => ∃ (p : Addr) (fld scope : Str) (last : Nat) (g : LG) (A : LA) (z : Fz) (S : Addr → Prop), vs = [.ref p, .str fld, .str scope, .int (last : Nat)] ∧ LedA CL CO CN H p g A z S ∧ MK g A ∧ WF g ∧ z.m = none ∧
  ∀ (H' : Hp), LedA CL CO CN H' p (renewAll g fld scope last) A z S → MK (renewAll g fld scope last) A → WF (renewAll g fld scope last) → Frm S H H' → Q .non H'
set_option maxHeartbeats 4000000
section
variable {P : Program} {w : World} {K : PySem.W.Frag} {mg : Str → Option Value} {base : Heap}
theorem ok_renew_lines (T : Txt w P K mg) : FnOk P w K mg base CX0 3 T.f_renew_lines T.d_renew_lines ["ledgers", "field", "scope", "last"] (spRenewLines T.a_Ledgers T.a_OldLine T.a_NewLine) := by
  refine T.F_renew_lines.ok sc_renew_lines (fun vs H Q E h => ?_) (fun cdv A outer s H vs Q E hr h => ?_)
  · obtain ⟨p, fld, scope, last, g, A, z, S, rfl, _⟩ := h
    rfl
  · obtain ⟨p, fld, scope, last, g, A, z, S, rfl, L, M, W, hz, k⟩ := h
    refine ⟨_, (pss_one (ps_lock (ps_for PassesOwn.never rfl (pi_values (pe_fldk K (pv 0) rfl)) (pg_name (i := 4) sc_renew_lines.nd rfl (Or.inl rfl))
  (pss_one (ps_if (pt_val (pe_call (ok_in_scope T) (hr.mono (by decide)) (by rfl) T.m_in_scope T.F_in_scope.kp T.b_in_scope .nil pass0 (pa_cons (pv 4) (pa_cons (pv 1) (pa_cons (pv 2) (pa_cons (pv 3) pa_nil)))))) (pss_one (ps_expr (pe_call (ok_renew_line T) (hr.mono (by decide)) (by rfl) T.m_renew_line T.F_renew_line.kp T.b_renew_line .nil pass0 (pa_cons (pv 0) (pa_cons (pv 4) (pa_cons (pv 1) pa_nil)))))) pss_nil))))), ?_⟩
    have c1 := T.cl_Ledgers
    have c2 := T.na_Ledgers_made_lines
    have d3 : H A.md = some (.dK (mades g A)) := by
      have h := L.md
      rw [hz, M] at h
      exact h
    walk_at "rd"
    refine ⟨A.md, _, d3, trivial, fun od => ?_⟩
    have L2 : LedA T.a_Ledgers T.a_OldLine T.a_NewLine (upd H A.md (.frz od (.dK (mades g A)))) p g A { z with m := some od } S := by
      have h := L.setM (some od)
      rw [M] at h
      exact h
    have F2 : Frm S H (upd H A.md (.frz od (.dK (mades g A)))) := fun b o e n => by
      rw [upd_ne fun h => n (by rw [h]; exact L.sm)]
      exact e
    have c8 : upd H A.md (.frz od (.dK (mades g A))) A.md = some (.frz od (.dK (mades g A))) := upd_same
    generalize upd H A.md (.frz od (.dK (mades g A))) = Hf at L2 F2 c8 ⊢
    have c9 := L2.self
    walk_at "rd"
    refine k_vals c8 ?_
    refine k_for walk_values (fun i σ H' => (∃ v, σ = [some (.ref p), some (.str fld), some (.str scope), some (.int (last : Nat)), v]) ∧ LedA T.a_Ledgers T.a_OldLine T.a_NewLine H' p (g.on (renewF g fld scope last) (((ms g).take i).map (·.number))) A { z with m := some od } S ∧ Frm S H H') ⟨⟨_, rfl⟩, by show LedA _ _ _ _ _ ⟨g.old, upOn _ [] g.new, g.last⟩ _ _ _; rw [upOn_nil]; exact L2, F2⟩ (fun i σ H' _ h => ?_) ?_ ?_
    · have := h.2.1.md
      rw [M] at this
      exact this
    · rintro i x σ H2 H3 hi ⟨⟨v, rfl⟩, L3, F3⟩ ⟨rfl, ky, hk⟩
      rw [ms_mades, List.length_map] at hi
      have hg : (ms g)[i]? = some ((ms g)[i]) := List.getElem?_eq_getElem hi
      generalize (ms g)[i] = o at hg
      have hx : x = .ref (A.na o.number) := by
        rw [ms_mades, List.getElem?_map, hg] at hk
        exact (Prod.mk.inj (Option.some.inj hk)).2.symm
      subst hx
      obtain ⟨hm, hsrc⟩ := ms_mem.mp (List.mem_of_getElem? hg)
      obtain ⟨so, hso⟩ := Option.isSome_iff_exists.mp hsrc
      obtain ⟨j, hj⟩ := List.getElem?_of_mem hm
      rw [ms_take hg]
      have hfr := ms_fresh W hg
      generalize ((ms g).take i).map (·.number) = ns at L3 hfr ⊢
      have hj2 : (g.on (renewF g fld scope last) ns).new[j]? = some o := upOn_get hj hfr
      have hset : (g.on (renewF g fld scope last) ns).new.set j (renewF g fld scope last o) = upOn (renewF g fld scope last) (ns ++ [o.number]) g.new := upOn_set W hj
      have hkey : g.new.map key = (g.on (renewF g fld scope last) ns).new.map key := (upOn_key (renewF_key g fld scope last) ns g.new).symm
      have W3 : WF (g.on (renewF g fld scope last) ns) := W.congr hkey rfl rfl
      have M3 : MK (g.on (renewF g fld scope last) ns) A := M.congr hkey
      obtain ⟨dx, hob⟩ := L3.new o (List.mem_of_getElem? hj2)
      have hty := L3.typ o (List.mem_of_getElem? hj2)
      walk_at "rd"
      refine ⟨A.na o.number, A.ta o.number, o, fld, scope, last, rfl, ⟨dx, hob⟩, hty, ?_⟩
      cases hin : inScope o fld scope last with
      | false =>
        walk_at "rd"
        refine ⟨⟨_, rfl⟩, ?_, F3⟩
        have e : renewF g fld scope last o = o := by
          unfold renewF
          rw [hin]
          rfl
        rw [e, set_same hj2] at hset
        have e2 : g.on (renewF g fld scope last) (ns ++ [o.number]) = g.on (renewF g fld scope last) ns := by
          show (⟨_, upOn _ _ _, _⟩ : LG) = _
          rw [← hset]
          rfl
        rw [e2]
        exact L3
      | true =>
        walk_at "rd"
        refine ⟨p, j, o, so, fld, g.on (renewF g fld scope last) ns, A, _, S, rfl, hj2, hso, L3, M3, W3, fun H4 L4 F4 => ⟨⟨_, rfl⟩, ?_, fun b u e n => F4 b u (F3 b u e n) n⟩⟩
        have e : renewL (g.on (renewF g fld scope last) ns) fld o = renewF g fld scope last o := by
          unfold renewF
          rw [hin, if_pos rfl]
          exact renewL_congr (g := g) (g' := g.on (renewF g fld scope last) ns) rfl hkey fld o
        rw [e, hset] at L4
        exact L4
    · rintro σ H2 ⟨⟨v, rfl⟩, L3, F3⟩
      rw [ms_mades, List.length_map, List.take_length] at L3
      have hkey : g.new.map key = (renewAll g fld scope last).new.map key := (upOn_key (renewF_key g fld scope last) _ g.new).symm
      have L4 := L3.setM none
      have c10 := L3.md
      rw [M] at L4 c10
      have ez : ({ ({ z with m := some od } : Fz) with m := none } : Fz) = z := by
        cases z
        cases hz
        rfl
      rw [ez] at L4
      refine ⟨c10, k _ L4 (M.congr hkey) (W.congr hkey rfl rfl) fun b o e n => ?_⟩
      show upd _ A.md _ b = _
      rw [upd_ne fun h => n (by rw [h]; exact L.sm)]
      exact F3 b o e n
end

set_option Elab.async false
set_option linter.all false
set_option maxRecDepth 100000


local macro_rules | `(tactic| walk_at "lk") => `(tactic| first
  | exact ofs_number _ _ | exact ofs_label _ _ | exact ofs_start _ _ | exact ofs_moves _ _ | exact ofs_tie _ _ | exact ofs_standing _ _
  | exact nfs_number _ _ | exact nfs_label _ _ | exact nfs_start _ _ | exact nfs_moves _ _ | exact nfs_tie _ _ | exact nfs_source _ _ | exact nfs_typed _ _
  | rfl)
/-! ### lines dropped whose source stands no more -/
def stands (g : LG) (k : NL) : Bool := match k.source.bind fun s => g.old[s - 1]? with
  | none => true
  | some o => o.standing
def dropStep (g : LG) (k : NL) : LG := if stands g k = true then g else g.drop k.number
def dropAll (g : LG) : LG := (ms g).foldl dropStep g
theorem drop_key {g : LG} {n : Nat} {l : NL} (h : l ∈ g.new) (hn : l.number ≠ n) : ∃ l' ∈ (g.drop n).new, key l' = key l := ⟨untie n l, List.mem_map.mpr ⟨l, cut_mem.mpr ⟨h, hn⟩, rfl⟩, untie_key n l⟩
theorem dropStep_old (g : LG) (k : NL) : (dropStep g k).old = g.old := by
  unfold dropStep
  split <;> rfl
theorem LedA.except {CL CO CN : Addr} {H : Hp} {p : Addr} {g : LG} {A : LA} {z : Fz} {S : Addr → Prop} (L : LedA CL CO CN H p g A z S) {q : Addr} (nq : H q = none) : LedA CL CO CN H p g A z (fun b => S b ∧ b ≠ q) := { L with
  sp := ⟨L.sp, ne_of_none L.self nq⟩
  so := ⟨L.so, ne_of_none L.od nq⟩
  sn := ⟨L.sn, ne_of_none L.nd nq⟩
  sm := ⟨L.sm, ne_of_none L.md nq⟩
  sold := fun i h => by
    obtain ⟨dx, l, _, e⟩ := L.oldAt h
    exact ⟨L.sold i h, ne_of_none e nq⟩
  snew := fun l h => by
    obtain ⟨dx, e⟩ := L.new l h
    exact ⟨⟨(L.snew l h).1, ne_of_none e nq⟩, ⟨(L.snew l h).2, ne_of_none (L.typ l h) nq⟩⟩ }
def spDropLines (CL CO CN : Addr) : Sp := fun vs H Q _ => ∃ (p : Addr) (g : LG) (A : LA) (z : Fz) (S : Addr → Prop), vs = [.ref p] ∧ LedA CL CO CN H p g A z S ∧ MK g A ∧ WF g ∧ z = noFz ∧
  ∀ (A' : LA) (H' : Hp), LedA CL CO CN H' p (dropAll g) A' z S → MK (dropAll g) A' → WF (dropAll g) → Frm S H H' → Q .non H'
set_option maxHeartbeats 4000000
section
variable {P : Program} {w : World} {K : PySem.W.Frag} {mg : Str → Option Value} {base : Heap}
theorem ok_drop_lines (T : Txt w P K mg) : FnOk P w K mg base CX0 2 T.f_drop_lines T.d_drop_lines ["ledgers"] (spDropLines T.a_Ledgers T.a_OldLine T.a_NewLine) := by
  refine T.F_drop_lines.ok sc_drop_lines (fun vs H Q E h => ?_) (fun cdv A outer s H vs Q E hr h => ?_)
  · obtain ⟨p, g, A, z, S, rfl, _⟩ := h
    rfl
  · obtain ⟨p, g, A, z, S, rfl, L, M, W, rfl, k⟩ := h
    refine ⟨_, (pss_one (ps_for PassesOwn.never rfl (pi_seqk K (pe_lvals rfl (by rfl) T.m_list (pe_fldk K (pv 0) rfl))) (pg_name (i := 1) sc_drop_lines.nd rfl (Or.inl rfl))
  (pss_cons (ps_set (i := 2) sc_drop_lines.nd rfl (Or.inl rfl) (pe_dget (hu_of hr) (pe_fldk K (pv 0) rfl) (pe_fldk K (pv 1) rfl) (fun _ _ => rfl)))
  (pss_one (ps_if (pt_not (pt_val (pe_fldk K (pv 2) rfl))) (pss_one (ps_expr (pe_meth (pv 0) T.cl_Ledgers T.me_Ledgers_drop_line (ok_Ledgers_drop_line T) (hr.mono (by decide)) T.b_Ledgers_drop_line .nil pass0 (pa_cons (pv 1) pa_nil)))) pss_nil))))), ?_⟩
    have c1 := T.cl_Ledgers
    have c2 := T.na_Ledgers_made_lines
    have c3 := T.na_Ledgers_old_lines
    have c4 := T.cl_NewLine
    have c5 := T.na_NewLine_source
    have c6 := T.cl_OldLine
    have c7 := T.na_OldLine_standing
    have c0 := L.self
    have d3 : H A.md = some (.dK (mades g A)) := by
      have h := L.md
      rw [M] at h
      exact h
    walk_at "rd"
    refine ⟨A.md, mades g A, rfl, d3, ?_, fun q nq => ?_⟩
    · have h1 := mades_len g A
      have h2 := W.newLen
      have h3 := W.most
      omega
    have eq : (mades g A).map (·.2) = (ms g).map fun l => V.ref (A.na l.number) := by
      rw [ms_mades, List.map_map]
      rfl
    rw [eq]
    have hq : upd H q (.lst ((ms g).map fun l => V.ref (A.na l.number))) q = some (.lst ((ms g).map fun l => V.ref (A.na l.number))) := upd_same
    have L1 : LedA T.a_Ledgers T.a_OldLine T.a_NewLine (upd H q (.lst ((ms g).map fun l => V.ref (A.na l.number)))) p g A noFz (fun b => S b ∧ b ≠ q) := (L.except nq).move fun b o e h => by rw [upd_ne h.2]; exact e
    have F1 : ∀ b o, H b = some o → upd H q (.lst ((ms g).map fun l => V.ref (A.na l.number))) b = some o := fun b o e => by rw [upd_ne (ne_of_none e nq)]; exact e
    generalize upd H q (.lst ((ms g).map fun l => V.ref (A.na l.number))) = H1 at hq L1 F1 ⊢
    refine k_seqL (SqL.of hq) ?_
    refine k_for walk_list (fun i σ H' => (∃ v v', σ = [some (.ref p), v, v']) ∧ H' q = some (.lst ((ms g).map fun l => V.ref (A.na l.number))) ∧ ∃ A', LedA T.a_Ledgers T.a_OldLine T.a_NewLine H' p (((ms g).take i).foldl dropStep g) A' noFz (fun b => S b ∧ b ≠ q) ∧ MK (((ms g).take i).foldl dropStep g) A' ∧ WF (((ms g).take i).foldl dropStep g) ∧ A'.na = A.na ∧ (∀ j k, i ≤ j → (ms g)[j]? = some k → ∃ l' ∈ (((ms g).take i).foldl dropStep g).new, key l' = key k) ∧ Frm (fun b => S b ∧ b ≠ q) H1 H') ⟨⟨_, _, rfl⟩, hq, A, L1, M, W, rfl, fun j k _ h => ⟨k, (ms_mem.mp (List.mem_of_getElem? h)).1, rfl⟩, Frm.refl _ _⟩ (fun i σ H' _ h => SqL.of h.2.1) ?_ ?_
    · rintro i x σ H2 H3 hi ⟨⟨v, v', rfl⟩, hq3, A', L3, M3, W3, hna, hrest, F3⟩ ⟨rfl, hk⟩
      rw [List.length_map] at hi
      have hg : (ms g)[i]? = some ((ms g)[i]) := List.getElem?_eq_getElem hi
      generalize (ms g)[i] = o at hg
      have hx : x = .ref (A.na o.number) := by
        rw [List.getElem?_map, hg] at hk
        exact (Option.some.inj hk).symm
      subst hx
      have hfold : ((ms g).take (i + 1)).foldl dropStep g = dropStep (((ms g).take i).foldl dropStep g) o := by
        rw [List.take_succ, hg, List.foldl_append]
        rfl
      have hfresh : ∀ j k, i + 1 ≤ j → (ms g)[j]? = some k → k.number ≠ o.number := fun j k hij hj => by
        obtain ⟨h1, e1⟩ := List.getElem?_eq_some_iff.mp hg
        obtain ⟨h2, e2⟩ := List.getElem?_eq_some_iff.mp hj
        have pw : (ms g).Pairwise fun l l' => l.number < l'.number := W.num.sublist List.filter_sublist
        have := List.pairwise_iff_getElem.mp pw i j h1 h2 hij
        rw [e1, e2] at this
        omega
      rw [hfold]
      obtain ⟨l', hl', hkey⟩ := hrest i o (Nat.le_refl _) hg
      have hrest2 : ∀ j k, i + 1 ≤ j → (ms g)[j]? = some k → ∃ l' ∈ (((ms g).take i).foldl dropStep g).new, key l' = key k := fun j k hij hj => hrest j k (by omega) hj
      generalize ((ms g).take i).foldl dropStep g = gi at L3 M3 W3 hl' hrest2 ⊢
      have kn : l'.number = o.number := congrArg (·.1) hkey
      have ks : l'.source = o.source := congrArg (·.2.1) hkey
      obtain ⟨so, hso⟩ := Option.isSome_iff_exists.mp (ms_mem.mp (List.mem_of_getElem? hg)).2
      have hso' : l'.source = some so := ks.trans hso
      obtain ⟨dx, hob⟩ := L3.new l' hl'
      rw [hna, kn] at hob
      have e1 : oV l'.source = V.int (so : Nat) := by rw [hso']; rfl
      have hb := W3.src l' hl' so hso'
      obtain ⟨so, rfl⟩ : ∃ j, so = j + 1 := ⟨so - 1, by omega⟩
      have hlt : so < gi.old.length := by omega
      obtain ⟨d2, ol, hol, ho2⟩ := L3.oldAt hlt
      have d0 := L3.self
      have hst : stands gi o = ol.standing := by
        unfold stands
        rw [hso]
        show (match gi.old[so + 1 - 1]? with | none => true | some o => o.standing) = _
        rw [Nat.add_sub_cancel, hol]
      walk_at "rd"
      rw [e1]
      refine k_dgetI (lck_rd L3.od) (olds_get gi A' hlt) ?_
      walk_at "rd"
      cases hs : ol.standing with
      | true =>
        walk_at "rd"
        have e : dropStep gi o = gi := by
          unfold dropStep
          rw [hst, hs]
          rfl
        rw [e]
        exact ⟨⟨_, _, rfl⟩, hq3, A', L3, M3, W3, hna, hrest2, F3⟩
      | false =>
        walk_at "rd"
        have e : dropStep gi o = gi.drop l'.number := by
          unfold dropStep
          rw [hst, hs, kn]
          rfl
        rw [e]
        refine ⟨p, l', so + 1, gi, A', noFz, _, by rw [hna, kn], hl', hso', L3, M3, W3, rfl, rfl, fun H4 L4 M4 W4 F4 => ⟨⟨_, _, rfl⟩, F4 _ _ hq3 (fun h => h.2 rfl), _, L4, M4, W4, hna, fun j k hij hj => ?_, fun b u e n => F4 b u (F3 b u e n) n⟩⟩
        obtain ⟨m, hm, em⟩ := hrest2 j k hij hj
        have e3 : m.number = k.number := congrArg (·.1) em
        obtain ⟨m', hm', em'⟩ := drop_key (n := l'.number) hm (by rw [e3, kn]; exact hfresh j k hij hj)
        exact ⟨m', hm', em'.trans em⟩
    · rintro σ H2 ⟨⟨v, v', rfl⟩, hq3, A', L3, M3, W3, hna, hrest, F3⟩
      rw [List.length_map, List.take_length] at L3 M3 W3
      exact k A' H2 (L3.grow fun b h => h.1) M3 W3 fun b o e n => F3 b o (F1 b o e) fun h => n h.1
end
end Y


set_option Elab.async false
set_option linter.all false
set_option maxRecDepth 100000
namespace Y
open PySem L2
local macro_rules | `(tactic| walk_at "ne") => `(tactic| first
  | with_reducible assumption
  | ((with_reducible apply Ne.symm); (focus with_reducible assumption))
  | ((with_reducible apply ne_new); (focus with_reducible assumption); (focus walk_at "hp"))
  | ((with_reducible apply ne_new'); (focus with_reducible assumption); (focus walk_at "hp")))
local macro_rules | `(tactic| walk_at "hp1") => `(tactic| first
  | ((with_reducible apply lk_new2); (focus with_reducible assumption))
  | ((with_reducible apply lk_ne2); (focus walk_at "ne"))
  | ((with_reducible apply Same.get); (focus with_reducible assumption))
  | ((with_reducible apply But.get2); (focus with_reducible assumption); (focus walk_at "ne")))
local macro_rules | `(tactic| walk_at "hp") => `(tactic| first
  | with_reducible assumption
  | with_reducible exact upd_same
  | ((walk_at "hp1"); (walk_at "hp")))
local macro_rules | `(tactic| walk_at "sm1") => `(tactic| first
  | ((with_reducible apply Same.linkN); (focus with_reducible assumption))
  | ((with_reducible apply Same.linkU); (focus with_reducible assumption))
  | ((with_reducible apply Same.link); (focus with_reducible assumption))
  | ((with_reducible apply Same.linkV); (focus with_reducible assumption); (focus walk_at "sm")))
local macro_rules | `(tactic| walk_at "sm") => `(tactic| first
  | with_reducible assumption
  | with_reducible exact Same.refl _
  | ((walk_at "sm1"); (walk_at "sm")))
local macro_rules | `(tactic| walk_at "bt1") => `(tactic| first
  | ((with_reducible apply But.linkN); (focus with_reducible assumption))
  | ((with_reducible apply But.linkU); (focus with_reducible assumption))
  | (with_reducible apply But.linkA)
  | ((with_reducible apply But.link); (focus with_reducible assumption))
  | ((with_reducible apply But.linkS); (focus with_reducible assumption)))
local macro_rules | `(tactic| walk_at "bt") => `(tactic| first
  | with_reducible assumption
  | with_reducible exact But.refl _ _
  | ((walk_at "bt1"); (walk_at "bt")))
local macro_rules | `(tactic| walk_at "rs") => `(tactic| simp only [e_C, e_var0, e_varS, e_op, e_op1, e_un, e_fld, e_tup, e_lst, e_cons, e_cons1, e_cons2, e_nil, e_call, e_call1, e_CB, e_meth, e_make, e_B, e_test, e_B1, e_if, e_if1, e_ifS, e_ifS1, e_and, e_andc, e_or, e_orc, e_not, e_not1, e_andV, e_andVc, e_orV, e_orVc, e_notV, e_notV1, e_seq, e_next, e_break, e_cont, e_drop, e_drop1, e_ret, e_retN, e_asg, e_name, e_part, e_part1, e_noPart, e_sl, e_sl1, e_sl2, e_sl3, o_add_int, o_I0, o_un, c_int, c_intB, c_abs, c_max, c_min, k_isN, k_notN, k_isB, k_notB, e_sub, e_sub1, cx_K, cx_noxK, e_for, e_rng1, e_rng2, e_seqI, e_enumT, e_enum, e_gname, e_lc, e_lc2, e_lcT, e_yes, e_bm, e_par, e_par1, e_par3, e_par31, e_chain, e_chain1, e_chain2, e_chain3, e_sfld, e_sfld1, List.set, ite_true, ite_false, eq_self, Bool.false_eq_true, decide_eq_true_eq, L2.start, List.map, List.length_cons, List.length_nil, List.replicate, Nat.add_one_sub_one, Nat.sub_self, List.nil_append, List.cons_append, Int.reduceToNat, Int.reducePow, Int.reduceMul, Int.reduceAdd, Int.reduceSub, Int.reduceNeg, Int.reduceLT, Int.reduceLE, Int.reduceEq, Bool.not_false, Bool.not_true, L2.wipe, e_never, e_dput, e_dput1, e_dput2, e_ddel, e_ddel1, e_dget, e_dget1, e_din, e_dnin, e_din1, e_dninN, e_dninN1, e_vals, e_lvals, e_makeS, e_callS, e_methS, e_tupZ, e_tC, e_m1, e_m1a, e_m1b, e_asgT, e_gcons, e_gnil, e_callD, e_opS, e_raise, e_mkErr, e_enumS, e_enumS1, e_zipA, e_fldErr, e_callK, e_callK1, e_callK2, decide_true, decide_false, not_true_eq_false, not_false_eq_true, reduceCtorEq])
local macro_rules | `(tactic| walk_at "sd") => `(tactic| first
  | assumption
  | decide
  | omega
  | (dsimp only; omega)
  | exact wide_div (b := 450) (by omega) (by omega) (by decide) (by decide)
  | exact mulX (a := 450) (b := 450) (by omega) (by omega) (by decide) (by decide) (by decide)
  | exact powW (b := 450) (by omega) (by omega) (by decide) (by decide))
local macro_rules | `(tactic| walk_at "sl") => `(tactic| first | omega | (simp only [List.length_cons, List.length_nil, List.length_append]; omega) | exact Nat.le_of_ble_eq_true rfl)
local macro_rules | `(tactic| walk_at "sqL1") => `(tactic| first
  | ((with_reducible apply sqL_new2); (focus with_reducible assumption))
  | ((with_reducible apply sqL_link); (focus with_reducible assumption)))
local macro_rules | `(tactic| walk_at "sqL") => `(tactic| first
  | with_reducible assumption
  | ((with_reducible apply SqL.of); focus walk_at "hp")
  | ((walk_at "sqL1"); (walk_at "sqL")))
local macro_rules | `(tactic| walk_at "sqT1") => `(tactic| first
  | ((with_reducible apply sqT_new2); (focus with_reducible assumption))
  | ((with_reducible apply sqT_link); (focus with_reducible assumption))
  | ((with_reducible apply sqT_lst); (focus walk_at "hp"))
  | ((with_reducible apply sqT_ins); (focus walk_at "hp")))
local macro_rules | `(tactic| walk_at "sqT") => `(tactic| first
  | with_reducible assumption
  | ((with_reducible apply SqT.of); focus walk_at "hp")
  | ((with_reducible apply SqT.ofZ); focus walk_at "hp")
  | ((walk_at "sqT1"); (walk_at "sqT")))
local macro_rules | `(tactic| walk_at "kt") => `(tactic| first
  | with_reducible exact kt_self
  | with_reducible exact kt_int_bool
  | with_reducible exact kt_int_str
  | with_reducible exact kt_int_list
  | with_reducible exact kt_int_tuple
  | with_reducible exact kt_bool_int
  | with_reducible exact kt_bool_str
  | with_reducible exact kt_bool_list
  | with_reducible exact kt_bool_tuple
  | with_reducible exact kt_str_int
  | with_reducible exact kt_str_bool
  | with_reducible exact kt_str_list
  | with_reducible exact kt_str_tuple
  | with_reducible exact kt_non_int
  | with_reducible exact kt_non_bool
  | with_reducible exact kt_non_str
  | with_reducible exact kt_non_list
  | with_reducible exact kt_non_tuple
  | with_reducible exact kt_tuple_int
  | with_reducible exact kt_tuple_bool
  | with_reducible exact kt_tuple_str
  | with_reducible exact kt_tuple_list
  | with_reducible exact kt_list_int
  | with_reducible exact kt_list_bool
  | with_reducible exact kt_list_str
  | with_reducible exact kt_list_tuple
  | with_reducible exact kt_dict_int
  | with_reducible exact kt_dict_bool
  | with_reducible exact kt_dict_str
  | with_reducible exact kt_dict_list
  | with_reducible exact kt_dict_tuple)
local macro_rules | `(tactic| walk_at "tyx") => `(tactic| first
  | with_reducible exact .base (.int _)
  | with_reducible exact .base (.str _)
  | with_reducible exact .base (.bl _)
  | with_reducible exact .base .non
  | ((with_reducible apply tyx_tup); focus walk_at "sqT")
  | ((with_reducible apply tyx_lst); focus walk_at "sqL")
  | ((with_reducible apply TyX.base); (focus ((with_reducible apply TyOf.dK); focus walk_at "hp"))))
local macro_rules | `(tactic| walk_at "isi") => `(tactic| first
  | ((with_reducible apply k_isi); (focus (with_reducible exact (ClsV.ty _))); (focus (walk_at "tyx")); (focus (walk_at "kt")))
  | ((with_reducible apply k_isiT); (focus (walk_at "hp")); (focus (with_reducible exact (.cons (.ty _) (.cons (.ty _) .nil)))); (focus (walk_at "tyx")); (focus (first | with_reducible exact ka_tuple | with_reducible exact ka_list | ((with_reducible apply ka_no); (focus walk_at "kt"); (focus walk_at "kt"))))))
local macro_rules | `(tactic| walk_at "lk") => `(tactic| rfl)
local macro_rules | `(tactic| walk_at "rd1") => `(tactic| first
  | walk_at "rs"
  | ((with_reducible apply k_ixL); (focus (walk_at "sqL")); (focus rfl))
  | ((with_reducible apply k_ixT); (focus (walk_at "sqT")); (focus rfl))
  | ((with_reducible apply k_fld); (focus (walk_at "hp")); (focus (assumption)); (focus (assumption)); (focus (walk_at "lk")))
  | ((with_reducible apply k_sfld); (focus (walk_at "hp")); (focus (assumption)); (focus (assumption)); (focus (walk_at "sl")))
  | ((with_reducible apply k_meth); (focus (walk_at "hp")); (focus (walk_at "lk")))
  | ((with_reducible apply k_I); (focus (walk_at "sd")))
  | ((with_reducible apply k_unp); (focus (walk_at "sqT")); (focus rfl))
  | ((with_reducible apply k_mul); (focus (walk_at "sd")))
  | ((with_reducible apply k_setL); (focus (walk_at "hp")); (focus rfl))
  | ((with_reducible apply k_bmL); (focus (walk_at "hp")))
  | ((with_reducible apply k_append); (focus (walk_at "hp")); (focus (walk_at "sd")))
  | ((with_reducible apply k_extend); (focus (walk_at "hp")); (focus (walk_at "hp")); (focus (walk_at "sl")))
  | ((with_reducible apply k_tup); (focus (walk_at "sl")); intro _ _)
  | ((with_reducible apply k_dnew); intro _ _)
  | ((with_reducible apply k_tupZ); (focus (walk_at "sl")); intro _ _ _ _ _)
  | ((with_reducible apply k_lst); (focus (walk_at "sl")); intro _ _)
  | ((with_reducible apply k_lenD); (focus walk_at "hp"))
  | ((with_reducible apply k_lenS); (focus ((with_reducible apply Or.inl); walk_at "sqL")))
  | ((with_reducible apply k_lenS); (focus ((with_reducible apply Or.inr); walk_at "sqT")))
  | ((with_reducible apply k_seqL); (focus (walk_at "sqL")))
  | ((with_reducible apply k_seqT); (focus (walk_at "sqT")))
  | ((with_reducible apply k_enumT); (focus (walk_at "sqT")))
  | walk_at "isi"
  | ((with_reducible apply k_tupOfL); (focus (walk_at "sqL")); intro _ _)
  | ((with_reducible apply k_tupOfT); (focus (walk_at "sqT")))
  | ((with_reducible apply k_listOf); (focus ((with_reducible apply Or.inl); walk_at "sqL")); intro _ _)
  | ((with_reducible apply k_listOf); (focus ((with_reducible apply Or.inr); walk_at "sqT")); intro _ _)
  | ((with_reducible apply k_zipT); (focus (walk_at "sqT")); (focus (walk_at "sqT")))
  | (with_reducible apply k_bmS)
  | ((with_reducible apply k_starts))
  | ((with_reducible apply k_rmpre); (focus (walk_at "sl")))
  | (with_reducible apply k_eq_int)
  | (with_reducible apply k_ne_int)
  | (with_reducible apply k_eq_str)
  | (with_reducible apply k_ne_str)
  | (with_reducible apply k_eq_bl)
  | (with_reducible apply k_ne_bl))
local macro_rules | `(tactic| walk_at "rd") => `(tactic| repeat walk_at "rd1")

/-! ### deeds -/
inductive Dd where
  | add (b s : Int)
  | label (n : Nat) (b : Int)
  | moves (n : Nat) (s : Int)
  | tie (n : Nat) (o : Option Nat)
  | stop (n : Nat)
  | own (b : Int)
  | wlabel (n : Nat) (b : Int)
  | wmoves (n : Nat) (s : Int)
  | wtie (n : Nat) (o : Option Nat)
  | run
def Dd.word : Dd → Str
  | .add .. => "add"
  | .label .. => "label"
  | .moves .. => "moves"
  | .tie .. => "tie"
  | .stop .. => "end"
  | .own .. => "own"
  | .wlabel .. => "write label"
  | .wmoves .. => "write moves"
  | .wtie .. => "write tie"
  | .run => "run"
def Dd.kinds : Dd → List Str
  | .add .. => ["label", "amount"]
  | .label .. => ["number", "label"]
  | .moves .. => ["number", "amount"]
  | .tie .. => ["number", "other"]
  | .stop .. => ["number"]
  | .own .. => ["label"]
  | .wlabel .. => ["number", "label"]
  | .wmoves .. => ["number", "amount"]
  | .wtie .. => ["number", "other"]
  | .run => []
def Dd.vals : Dd → List V
  | .add b s => [.int b, .int s]
  | .label n b => [.int (n : Nat), .int b]
  | .moves n s => [.int (n : Nat), .int s]
  | .tie n o => [.int (n : Nat), oV o]
  | .stop n => [.int (n : Nat)]
  | .own b => [.int b]
  | .wlabel n b => [.int (n : Nat), .int b]
  | .wmoves n s => [.int (n : Nat), .int s]
  | .wtie n o => [.int (n : Nat), oV o]
  | .run => []
def forms10 : List (Str × List Str) := [("add", ["label", "amount"]), ("label", ["number", "label"]), ("moves", ["number", "amount"]), ("tie", ["number", "other"]), ("end", ["number"]), ("own", ["label"]), ("write label", ["number", "label"]), ("write moves", ["number", "amount"]), ("write tie", ["number", "other"]), ("run", [])]
theorem Dd.form (d : Dd) : (d.word, d.kinds) ∈ forms10 := by
  cases d <;> simp [Dd.word, Dd.kinds, forms10]
theorem Dd.kv (d : Dd) : d.kinds.length = d.vals.length := by cases d <;> rfl
def DeedAt (K : PySem.W.Frag) (H : Hp) (a : Addr) (d : Dd) : Prop := SqT K H a (.str d.word :: d.vals)
def FieldOk (k : Str) (v : V) : Prop := (k = "label" ∧ ∃ i, v = .int i ∧ 0 ≤ i ∧ i ≤ 999999999999999999999999999999) ∨ (k = "amount" ∧ ∃ i, v = .int i ∧ -1000000000000 ≤ i ∧ i ≤ 1000000000000) ∨
  (k = "number" ∧ ∃ i, v = .int i ∧ 1 ≤ i ∧ i ≤ 1000000000) ∨ (k = "other" ∧ v = .non) ∨ (k = "other" ∧ ∃ i, v = .int i ∧ 1 ≤ i ∧ i ≤ 1000000000)
def Dd.Ok (d : Dd) : Prop := Paired FieldOk d.kinds d.vals
theorem Paired.get2 {α β : Type} {R : α → β → Prop} : ∀ {xs : List α} {ys : List β} {i : Nat} {x : α} {y : β}, Paired R xs ys → xs[i]? = some x → ys[i]? = some y → R x y
  | _, _, 0, _, _, .cons h _, e, f => by
    cases e
    cases f
    exact h
  | _, _, i + 1, _, _, .cons _ t, e, f => Paired.get2 (i := i) t (by simpa using e) (by simpa using f)
def spField : Sp := fun vs H Q _ => ∃ (k : Str) (v : V), vs = [.str k, v] ∧ FieldOk k v ∧ Q (.bl true) H
def spIsDeed (K : PySem.W.Frag) : Sp := fun vs H Q _ => ∃ (a : Addr) (d : Dd), vs = [.ref a] ∧ DeedAt K H a d ∧ d.Ok ∧ ∀ H', Same H H' → Q (.bl true) H'
def Deeds (K : PySem.W.Frag) (H : Hp) (xs : List V) (ds : List Dd) : Prop := Paired (fun (x : V) (d : Dd) => ∃ a, x = .ref a ∧ DeedAt K H a d) xs ds
theorem Deeds.mono {K : PySem.W.Frag} {H H' : Hp} {xs : List V} {ds : List Dd} (e : SameT H H') (h : Deeds K H xs ds) : Deeds K H' xs ds := Paired.mapP h fun _ _ ⟨a, h1, h2⟩ => ⟨a, h1, sqT_mono e h2⟩
theorem Deeds.at_ {K : PySem.W.Frag} {H : Hp} : ∀ {xs : List V} {ds : List Dd} {j : Nat}, Deeds K H xs ds → j < ds.length → ∃ a d, xs[j]? = some (.ref a) ∧ ds[j]? = some d ∧ DeedAt K H a d
  | _, _, _, .nil, h => absurd h (Nat.not_lt_zero _)
  | _, _, 0, .cons ⟨a, e, s⟩ _, _ => ⟨a, _, by rw [e]; rfl, rfl, s⟩
  | _, _, j + 1, .cons _ t, h => by
    obtain ⟨a, w, h1, h2, h3⟩ := Deeds.at_ (j := j) t (Nat.lt_of_succ_lt_succ h)
    exact ⟨a, w, by simpa using h1, by simpa using h2, h3⟩
def spCheck (K : PySem.W.Frag) : Sp := fun vs H Q _ => ∃ (l : Addr) (k : Int) (xs : List V) (ds : List Dd), vs = [.ref l, .int k] ∧ SqL K H l xs ∧ 0 ≤ k ∧ k < 1000000 ∧ Deeds K H xs ds ∧ (∀ d ∈ ds, d.Ok) ∧ ∀ H', Same H H' → Q .non H'
set_option maxHeartbeats 4000000
section
variable {P : Program} {w : World} {K : PySem.W.Frag} {mg : Str → Option Value} {base : Heap}
theorem ok_is_field (T : Txt w P K mg) : FnOk P w K mg base CX0 2 T.f_is_field T.d_is_field ["kind", "value"] spField := by
  refine T.F_is_field.ok sc_is_field (fun vs H Q E h => ?_) (fun cdv A outer s H vs Q E hr h => ?_)
  · obtain ⟨k, v, rfl, _⟩ := h
    rfl
  · obtain ⟨k, v, rfl, ho, q⟩ := h
    refine ⟨_, (pss_cons (ps_if (pt_cmpR (op_eqUk K (hu65 hr)) (pv 0) pe_str (nomark _)) (pss_one (ps_ret (pe_call (ok_is_integer T) (hr.mono (by decide)) (by rfl) T.m_is_integer T.F_is_integer.kp T.b_is_integer .nil pass0 (pa_cons (pv 1) (pa_cons pe_int (pa_cons (pe_gint (by rfl) T.m_MOST_LABEL) pa_nil)))))) pss_nil)
  (pss_cons (ps_if (pt_cmpR (op_eqUk K (hu65 hr)) (pv 0) pe_str (nomark _)) (pss_one (ps_ret (pe_call (ok_is_integer T) (hr.mono (by decide)) (by rfl) T.m_is_integer T.F_is_integer.kp T.b_is_integer .nil pass0 (pa_cons (pv 1) (pa_cons (pe_un un_neg (pe_gint (by rfl) T.m_MOST_AMOUNT)) (pa_cons (pe_gint (by rfl) T.m_MOST_AMOUNT) pa_nil)))))) pss_nil)
  (pss_cons (ps_if (PW.pt (pw_and (pt_cmpR (op_eqUk K (hu65 hr)) (pv 0) pe_str (nomark _)) (pw_and1 (pt_cmpR op_isU (pv 1) pe_non (nomark _))))) (pss_one (ps_ret pe_bl)) pss_nil)
  (pss_one (ps_ret (pe_call (ok_is_integer T) (hr.mono (by decide)) (by rfl) T.m_is_integer T.F_is_integer.kp T.b_is_integer .nil pass0 (pa_cons (pv 1) (pa_cons pe_int (pa_cons (pe_gint (by rfl) T.m_MOST_NUMBER) pa_nil))))))))), ?_⟩
    rcases ho with ⟨rfl, i, rfl, h0, h1⟩ | ⟨rfl, i, rfl, h0, h1⟩ | ⟨rfl, i, rfl, h0, h1⟩ | ⟨rfl, rfl⟩ | ⟨rfl, i, rfl, h0, h1⟩
    · walk_at "rd"
      refine ⟨i, _, _, rfl, ?_⟩
      rw [decide_eq_true h0, decide_eq_true h1]
      exact q
    · walk_at "rd"
      rw [if_neg (by decide +kernel)]
      walk_at "rd"
      refine ⟨i, _, _, rfl, ?_⟩
      rw [decide_eq_true h0, decide_eq_true h1]
      exact q
    · walk_at "rd"
      rw [if_neg (by decide +kernel)]
      walk_at "rd"
      rw [if_neg (by decide +kernel)]
      walk_at "rd"
      rw [if_neg (by decide +kernel)]
      refine ⟨i, _, _, rfl, ?_⟩
      rw [decide_eq_true h0, decide_eq_true h1]
      exact q
    · walk_at "rd"
      rw [if_neg (by decide +kernel)]
      walk_at "rd"
      rw [if_neg (by decide +kernel)]
      walk_at "rd"
      exact q
    · walk_at "rd"
      rw [if_neg (by decide +kernel)]
      walk_at "rd"
      rw [if_neg (by decide +kernel)]
      walk_at "rd"
      refine ⟨i, _, _, rfl, ?_⟩
      rw [decide_eq_true h0, decide_eq_true h1]
      exact q
theorem ok_is_deed (T : Txt w P K mg) : FnOk P w K mg base CX0 3 T.f_is_deed T.d_is_deed ["value"] (spIsDeed K) := by
  refine T.F_is_deed.ok sc_is_deed (fun vs H Q E h => ?_) (fun cdv A outer s H vs Q E hr h => ?_)
  · obtain ⟨a, d, rfl, _⟩ := h
    rfl
  · obtain ⟨a, d, rfl, ha, ho, q⟩ := h
    refine ⟨_, (pss_cons (ps_if (PW.pt (pw_or (pt_not (pt_val (pe_callB (call_isiUk K) (by rfl) T.m_isinstance b_isinstance (pa_cons (pv 0) (pa_cons (pe_bty (by rfl) T.m_tuple b_tuple) pa_nil))))) (pw_or1 (pt_cmpR (op_eqUk K (hu65 hr)) (pe_callB (call_lenUk K) (by rfl) T.m_len b_len (pa_cons (pv 0) pa_nil)) pe_int (nomark _))))) (pss_one (ps_ret pe_bl)) pss_nil)
  (pss_cons (ps_set (i := 1) sc_is_deed.nd rfl (Or.inl rfl) (pe_ix (ix_seqk K) (pv 0) pe_int (fun _ _ => rfl)))
  (pss_cons (ps_if (PW.pt (pw_or (pt_not (pt_val (pe_callB (call_isiUk K) (by rfl) T.m_isinstance b_isinstance (pa_cons (pv 1) (pa_cons (pe_bty (by rfl) T.m_str b_str) pa_nil))))) (pw_or1 (pt_cmpR (op_ninKd K w) (pv 1) (pe_glob (by rfl) T.m_FORMS (show RelV (.ref _) (.ref _) from rfl)) (by rfl))))) (pss_one (ps_ret pe_bl)) pss_nil)
  (pss_cons (ps_set (i := 2) sc_is_deed.nd rfl (Or.inl rfl) (pe_ix (ix_kd K w) (pe_glob (by rfl) T.m_FORMS (show RelV (.ref _) (.ref _) from rfl)) (pv 1) (fun _ _ => rfl)))
  (pss_cons (ps_set (i := 3) sc_is_deed.nd rfl (Or.inl rfl) (pe_slice (sl_Uk K) (pv 0) (po_some pe_int) po_none))
  (pss_one (ps_ret (pe_and (pe_cmpR (op_eqUk K (hu65 hr)) (pe_callB (call_lenUk K) (by rfl) T.m_len b_len (pa_cons (pv 3) pa_nil)) (pe_callB (call_lenUk K) (by rfl) T.m_len b_len (pa_cons (pv 2) pa_nil)) (nomark _)) (pe_one (pe_callB (cr_allk K rfl) (by rfl) T.m_all b_all (pa_cons (pe_lc (own := [("kind", 4), ("field", 5)]) (g := gTup K 2 (gCons (gName 4) (gCons (gName 5) gNil))) (tt := tYes) rfl sc_is_deed.nd (pi_zipAk K (by rfl) T.m_zip (pa_cons (pv 2) (pa_cons (pv 3) pa_nil))) (blkOk_by (own := [("kind", 4), ("field", 5)]) (N := N_is_deed) (sc := defScope s_is_deed) (by decide +kernel)) (fun _ _ _ _ _ => (pg_tup (n := 2) rfl (pgs_cons (pg_name (i := 4) sc_is_deed.nd rfl (Or.inl rfl)) (pgs_cons (pg_name (i := 5) sc_is_deed.nd rfl (Or.inl rfl)) pgs_nil)))) (fun _ _ _ _ _ => pts_nil) (fun _ _ _ _ _ => (pe_call (ok_is_field T) (hr.mono (by decide)) (by rfl) T.m_is_field T.F_is_field.kp T.b_is_field .nil pass0 (pa_cons (pv 4) (pa_cons (pv 5) pa_nil))))) pa_nil))))))))))), ?_⟩
    obtain ⟨es, n, D⟩ := T.dw_FORMS.dict
    obtain ⟨t, e1, e2⟩ := T.dw_FORMS.row _ d.form
    have ha' : SqT K H a (.str d.word :: d.vals) := ha
    walk_at "rd"
    rw [if_neg (by omega)]
    refine k_ixT ha' (at_of (j := 0) rfl rfl) ?_
    walk_at "rd"
    refine k_inKd D e1 ?_
    walk_at "rd"
    refine k_ixKd D e1 ?_
    walk_at "rd"
    refine k_slT ha' fun b H2 s2 b1 => ?_
    rw [cutV_eq, show (1 : Int) = ((1 : Nat) : Int) from rfl, cutG_from] at b1
    have b2 : SqT K H2 b d.vals := b1
    have b3 := e2 H2
    walk_at "rd"
    rw [if_pos (by rw [List.length_map, d.kv])]
    walk_at "rd"
    refine k_lc (walk_zipT (n := d.vals.length) (by show _ = min (List.map V.str d.kinds).length _; rw [List.length_map, d.kv]; exact (Nat.min_self _).symm)) fun l nl => ⟨fun i H' => Same H2 H' ∧ H' l = some (.lst ((List.replicate i true).map V.bl)), ⟨Same.new nl, upd_same⟩, fun i H' _ h => ⟨sqT_mono (SameT.of h.1) b3, sqT_mono (SameT.of h.1) b2⟩, ?_, ?_⟩
    · rintro i x H3 H4 hi ⟨s3, h3⟩ ⟨p, x0, x1, rfl, np, rfl, f0, f1⟩
      have f0' : (d.kinds.map V.str)[i]? = some x0 := f0
      rw [List.getElem?_map] at f0'
      obtain ⟨kd, hkd, rfl⟩ := Option.map_eq_some_iff.mp f0'
      have hf : FieldOk kd x1 := Paired.get2 ho hkd f1
      have hlen : d.vals.length ≤ 2 := by cases d <;> simp [Dd.vals]
      refine k_pair upd_same ?_
      walk_at "rd"
      refine ⟨trivial, ?_⟩
      walk_at "rd"
      refine ⟨kd, x1, rfl, hf, ?_⟩
      have hpl : l ≠ p := ne_of_none h3 np
      refine k_acc (acc := (List.replicate i true).map V.bl) (by rw [upd_ne hpl]; exact h3) (by rw [List.length_map, List.length_replicate]; omega) ⟨fun b o e => lk_ne (lk_new (s3 b o e) np) (ne_of_none e nl), ?_⟩
      rw [upd_same, List.map_replicate, ← List.replicate_succ, List.replicate_succ']
    · rintro H3 ⟨s3, h3⟩
      walk_at "rd"
      refine k_all (SqL.of h3) ?_
      have e : (List.replicate d.vals.length true).all id = true := by simp
      rw [e]
      exact q H3 (s2.trans s3)
theorem ok_check_deeds (T : Txt w P K mg) : FnOk P w K mg base (L2.CX P w) 4 T.f_check_deeds T.d_check_deeds ["deeds", "first"] (spCheck K) := by
  refine T.F_check_deeds.ok sc_check_deeds (fun vs H Q E h => ?_) (fun cdv A outer s H vs Q E hr h => ?_)
  · obtain ⟨l, k, xs, ds, rfl, _⟩ := h
    rfl
  · obtain ⟨l, k, xs, ds, rfl, hl, hk0, hk1, hd, ho, q⟩ := h
    refine ⟨_, (pss_cons (ps_if (pt_not (pt_val (pe_callB (call_isiUk K) (by rfl) T.m_isinstance b_isinstance (pa_cons (pv 0) (pa_cons (pe_bty (by rfl) T.m_list b_list) pa_nil))))) (pss_one (ps_raiseErr rfl T.er_NoDeed (by simp) hr (takes_of rfl rfl rfl rfl) (pa_cons (pv 1) pa_nil) (by rfl) (by decide))) pss_nil)
  (pss_one (ps_for (passes_of rfl) rfl (pi_enumS (by rfl) T.m_enumerate (pa_cons (pv 0) pa_nil) (pk_cons (pv 1) pk_nil)) (pg_tup (n := 2) rfl (pgs_cons (pg_name (i := 2) sc_check_deeds.nd rfl (Or.inl rfl)) (pgs_cons (pg_name (i := 3) sc_check_deeds.nd rfl (Or.inl rfl)) pgs_nil)))
  (pss_one (ps_if (pt_not (pt_val (pe_call (ok_is_deed T) (hr.mono (by decide)) (by rfl) T.m_is_deed T.F_is_deed.kp T.b_is_deed .nil pass0 (pa_cons (pv 3) pa_nil)))) (pss_one (ps_raiseErr rfl T.er_NoDeed (by simp) hr (takes_of rfl rfl rfl rfl) (pa_cons (pv 2) pa_nil) (by rfl) (by decide))) pss_nil))))), ?_⟩
    walk_at "rd"
    refine k_enumS hl (by omega) (by omega) ?_
    have hlen : xs.length = ds.length := Paired.length hd
    refine k_for walk_enumS (fun i σ H' => Same H H' ∧ ∃ v1 v2 : Option V, σ = [some (.ref l), some (.int k), v1, v2]) ⟨Same.refl H, none, none, rfl⟩ (fun i σ H' _ h => sqL_same h.1 hl) ?_ ?_
    · rintro i x σ H1 H2 hi ⟨s1, v1, v2, rfl⟩ ⟨p, x0, x1, rfl, np, rfl, e0, e1⟩
      cases e0
      obtain ⟨a, d, hb1, hb2, hb3⟩ := Deeds.at_ (j := i) hd (by omega)
      have e1' : xs[i]? = some x1 := e1
      rw [hb1] at e1'
      cases e1'
      refine k_pair upd_same ?_
      have s2 : Same H (upd H1 p (.tup [.int (k + (i : Nat)), .ref a])) := fun c o e => lk_new (s1 c o e) np
      walk_at "rd"
      refine ⟨a, d, rfl, sqT_mono (SameT.of s2) hb3, ho d (List.mem_of_getElem? hb2), fun H3 s3 => ?_⟩
      walk_at "rd"
      exact ⟨s2.trans s3, _, _, rfl⟩
    · rintro σ H1 ⟨s1, v1, v2, rfl⟩
      exact q H1 s1
end

set_option Elab.async false
set_option linter.all false
set_option maxRecDepth 100000


local macro_rules | `(tactic| walk_at "lk") => `(tactic| rfl)
/-! ### the lines that a deed names -/
def Dd.named : Dd → List Nat
  | .add .. => []
  | .label n _ => [n]
  | .moves n _ => [n]
  | .tie n o => n :: o.toList
  | .stop n => [n]
  | .own _ => []
  | .wlabel n _ => [n]
  | .wmoves n _ => [n]
  | .wtie n o => n :: o.toList
  | .run => []
def nm (k : Str) : Bool := decide (k = "number") || decide (k = "other")
def Dd.prs (d : Dd) : List (Str × V) := (d.kinds.zip d.vals).filter fun p => nm p.1
def someV (v : V) : Option V := if v = .non then none else some v
theorem Dd.named_prs (d : Dd) : (d.prs.map (·.2)).filterMap someV = d.named.map fun n => V.int (n : Nat) := by
  have a1 : nm "label" = false := by decide +kernel
  have a2 : nm "amount" = false := by decide +kernel
  have a3 : nm "number" = true := by decide +kernel
  have a4 : nm "other" = true := by decide +kernel
  have s1 : ∀ i, someV (.int i) = some (.int i) := fun i => if_neg (by simp)
  have s2 : someV .non = none := if_pos rfl
  cases d with
  | tie n o => cases o <;> simp [Dd.prs, Dd.kinds, Dd.vals, Dd.named, oV, a1, a2, a3, a4, s1, s2]
  | wtie n o => cases o <;> simp [Dd.prs, Dd.kinds, Dd.vals, Dd.named, oV, a1, a2, a3, a4, s1, s2]
  | _ => simp [Dd.prs, Dd.kinds, Dd.vals, Dd.named, oV, a1, a2, a3, a4, s1, s2]
def PairsAt (K : PySem.W.Frag) (H : Hp) (xs : List V) (ps : List (Str × V)) : Prop := Paired (fun (x : V) (p : Str × V) => ∃ a, x = .ref a ∧ SqT K H a [.str p.1, p.2]) xs ps
theorem PairsAt.mono {K : PySem.W.Frag} {H H' : Hp} {xs : List V} {ds : List (Str × V)} (e : SameT H H') (h : PairsAt K H xs ds) : PairsAt K H' xs ds := Paired.mapP h fun _ _ ⟨a, h1, h2⟩ => ⟨a, h1, sqT_mono e h2⟩
theorem PairsAt.append {K : PySem.W.Frag} {H : Hp} : ∀ {xs ys : List V} {ws vs : List (Str × V)}, PairsAt K H xs ws → PairsAt K H ys vs → PairsAt K H (xs ++ ys) (ws ++ vs)
  | _, _, _, _, .nil, h => h
  | _, _, _, _, .cons a t, h => .cons a (PairsAt.append t h)
def kinds4 : List Str := ["label", "amount", "number", "other"]
theorem Dd.kinds_mem (d : Dd) : ∀ k ∈ d.kinds, k ∈ kinds4 := by
  cases d <;> simp [Dd.kinds, kinds4]
theorem kinds4_sh : ∀ k ∈ kinds4, SeqAt.shaped (.str k) = true ∧ ([.str "number", .str "other"] : List PyData).any (fun z => PyData.eqv z (.str k)) = nm k := by decide +kernel
theorem two_sh : SeqAt.shaped (.tuple [.str "number", .str "other"]) = true := by decide +kernel
def spNamed (K : PySem.W.Frag) : Sp := fun vs H Q _ => ∃ (a : Addr) (d : Dd), vs = [.ref a] ∧ DeedAt K H a d ∧ ∀ (l : Addr) (H' : Hp), H l = none → Same H H' → H' l = some (.lst (d.named.map fun n => V.int (n : Nat))) → Q (.ref l) H'
def isNew : Dd → Bool
  | .wlabel .. => true
  | .wmoves .. => true
  | .wtie .. => true
  | _ => false
theorem Dd.starts (d : Dd) : Txt.startswith d.word "write " = isNew d := by
  cases d with
  | add b s => exact (show Txt.startswith "add" "write " = false by decide +kernel)
  | label n b => exact (show Txt.startswith "label" "write " = false by decide +kernel)
  | moves n s => exact (show Txt.startswith "moves" "write " = false by decide +kernel)
  | tie n o => exact (show Txt.startswith "tie" "write " = false by decide +kernel)
  | stop n => exact (show Txt.startswith "end" "write " = false by decide +kernel)
  | own b => exact (show Txt.startswith "own" "write " = false by decide +kernel)
  | wlabel n b => exact (show Txt.startswith "write label" "write " = true by decide +kernel)
  | wmoves n s => exact (show Txt.startswith "write moves" "write " = true by decide +kernel)
  | wtie n o => exact (show Txt.startswith "write tie" "write " = true by decide +kernel)
  | run => exact (show Txt.startswith "run" "write " = false by decide +kernel)
theorem Rd.same {H H' : Hp} {a : Addr} {u : HO} (s : Same H H') (h : Rd H a u) : Rd H' a u := h.elim (fun h => .inl (s _ _ h)) fun ⟨o, h⟩ => .inr ⟨o, s _ _ h⟩
/-- the lines that the deed names are there -/
def Dd.there (g : LG) (d : Dd) : Prop := ∀ n ∈ d.named, if isNew d = true then ∃ l ∈ g.new, l.number = n else 1 ≤ n ∧ n ≤ g.old.length
def spHasLines (K : PySem.W.Frag) (CL CO CN : Addr) : Sp := fun vs H Q _ => ∃ (p a : Addr) (d : Dd) (g : LG) (A : LA) (z : Fz) (S : Addr → Prop), vs = [.ref p, .ref a] ∧ DeedAt K H a d ∧ LedA CL CO CN H p g A z S ∧ d.there g ∧ ∀ H', Same H H' → Q (.bl true) H'
set_option maxHeartbeats 4000000
section
variable {P : Program} {w : World} {K : PySem.W.Frag} {mg : Str → Option Value} {base : Heap}
theorem ok_named_numbers (T : Txt w P K mg) : FnOk P w K mg base CX0 1 T.f_named_numbers T.d_named_numbers ["deed"] (spNamed K) := by
  refine T.F_named_numbers.ok sc_named_numbers (fun vs H Q E h => ?_) (fun cdv A outer s H vs Q E hr h => ?_)
  · obtain ⟨a, d, rfl, _⟩ := h
    rfl
  · obtain ⟨a, d, rfl, ha, q⟩ := h
    refine ⟨_, (pss_cons (ps_set (i := 1) sc_named_numbers.nd rfl (Or.inl rfl) (pe_slice (sl_Uk K) (pv 0) (po_some pe_int) po_none))
  (pss_cons (ps_setLc (i := 2) (own := [("kind", 3), ("value", 4)]) (g := gTup K 2 (gCons (gName 3) (gCons (gName 4) gNil))) rfl sc_named_numbers.nd rfl rfl (sw_true rfl rfl rfl (by decide +kernel)) (pi_zipAk K (by rfl) T.m_zip (pa_cons (pe_ix (ix_kd K w) (pe_glob (by rfl) T.m_FORMS (show RelV (.ref _) (.ref _) from rfl)) (pe_ix (ix_seqk K) (pv 0) pe_int (fun _ _ => rfl)) (fun _ _ => rfl)) (pa_cons (pv 1) pa_nil))) (blkOk_by (own := [("kind", 3), ("value", 4)]) (N := N_named_numbers) (sc := defScope s_named_numbers) (by decide +kernel)) (fun _ _ _ _ _ => (pg_tup (n := 2) rfl (pgs_cons (pg_name (i := 3) sc_named_numbers.nd rfl (Or.inl rfl)) (pgs_cons (pg_name (i := 4) sc_named_numbers.nd rfl (Or.inl rfl)) pgs_nil)))) (fun _ _ _ _ _ => (pts_one (pt_cmpR (op_inUk K (hu65 hr)) (pv 3) (pe_tup (pa_cons pe_str (pa_cons pe_str pa_nil))) (by rfl)))) (fun _ _ _ _ _ => (pe_tup (pa_cons (pv 3) (pa_cons (pv 4) pa_nil)))))
  (pss_one (ps_ret (pe_lc (own := [("kind", 3), ("number", 5)]) (g := gTup K 2 (gCons (gName 3) (gCons (gName 5) gNil))) rfl sc_named_numbers.nd (pi_seqk K (pv 2)) (blkOk_by (own := [("kind", 3), ("number", 5)]) (N := N_named_numbers) (sc := defScope s_named_numbers) (by decide +kernel)) (fun _ _ _ _ _ => (pg_tup (n := 2) rfl (pgs_cons (pg_name (i := 3) sc_named_numbers.nd rfl (Or.inl rfl)) (pgs_cons (pg_name (i := 5) sc_named_numbers.nd rfl (Or.inl rfl)) pgs_nil)))) (fun _ _ _ _ _ => (pts_one (pt_cmpR op_isNotU (pv 5) pe_non (nomark _)))) (fun _ _ _ _ _ => (pv 5))))))), ?_⟩
    obtain ⟨es, n, D⟩ := T.dw_FORMS.dict
    obtain ⟨t, e1, e2⟩ := T.dw_FORMS.row _ d.form
    have ha' : SqT K H a (.str d.word :: d.vals) := ha
    walk_at "rd"
    refine k_slT ha' fun b H2 s2 b1 => ?_
    rw [cutV_eq, show (1 : Int) = ((1 : Nat) : Int) from rfl, cutG_from] at b1
    have b2 : SqT K H2 b d.vals := b1
    have b3 := e2 H2
    have ha2 : SqT K H2 a (.str d.word :: d.vals) := sqT_mono (SameT.of s2) ha'
    walk_at "rd"
    refine k_ixT ha2 (at_of (j := 0) rfl rfl) ?_
    walk_at "rd"
    refine k_ixKd D e1 ?_
    walk_at "rd"
    have hlen : d.vals.length ≤ 2 := by cases d <;> simp [Dd.vals]
    have hkv := d.kv
    refine k_lc (walk_zipT (n := d.vals.length) (by show _ = min (List.map V.str d.kinds).length _; rw [List.length_map, d.kv]; exact (Nat.min_self _).symm)) fun l nl => ⟨fun i H' => Same H2 H' ∧ ∃ acc, H' l = some (.lst acc) ∧ PairsAt K H' acc (((d.kinds.zip d.vals).take i).filter fun p => nm p.1), ⟨Same.new nl, [], upd_same, .nil⟩, fun i H' _ h => ⟨sqT_mono (SameT.of h.1) b3, sqT_mono (SameT.of h.1) b2⟩, ?_, ?_⟩
    · rintro i x H3 H4 hi ⟨s3, acc, h3, hp3⟩ ⟨p, x0, x1, rfl, np, rfl, f0, f1⟩
      have f0' : (d.kinds.map V.str)[i]? = some x0 := f0
      have f1' : d.vals[i]? = some x1 := f1
      rw [List.getElem?_map] at f0'
      obtain ⟨kd, hkd, rfl⟩ := Option.map_eq_some_iff.mp f0'
      have hz : (d.kinds.zip d.vals)[i]? = some (kd, x1) := by
        rw [List.getElem?_zip_eq_some]
        exact ⟨hkd, f1'⟩
      have htk : ((d.kinds.zip d.vals).take (i + 1)).filter (fun p => nm p.1) = ((d.kinds.zip d.vals).take i).filter (fun p => nm p.1) ++ if nm kd = true then [(kd, x1)] else [] := by
        rw [List.take_succ, hz, List.filter_append]
        congr 1
        show List.filter _ [(kd, x1)] = _
        cases hn : nm kd <;> simp [List.filter, hn]
      have h4 := kinds4_sh kd (d.kinds_mem kd (List.mem_of_getElem? hkd))
      have hpl : l ≠ p := ne_of_none h3 np
      have hle : acc.length ≤ 2 := by
        rw [Paired.length hp3]
        refine Nat.le_trans (List.length_filter_le _ _) ?_
        rw [List.length_take, List.length_zip]
        omega
      refine k_pair upd_same ?_
      walk_at "rd"
      refine ⟨trivial, ?_⟩
      walk_at "rd"
      rename_i r nr
      refine k_inT (.str _) (.tup (SqT.of upd_same) (.cons (.str _) (.cons (.str _) .nil))) h4.1 two_sh ?_
      rw [h4.2]
      have s4 : Same H3 (upd H3 p (.tup [.str kd, x1])) := Same.new np
      have s5 : Same H3 (upd (upd H3 p (.tup [.str kd, x1])) r (.tup [.str (Str.ofString "number"), .str (Str.ofString "other")])) := s4.trans (Same.new nr)
      generalize upd (upd H3 p (.tup [.str kd, x1])) r (.tup [.str (Str.ofString "number"), .str (Str.ofString "other")]) = H5 at s5 ⊢
      walk_at "rd"
      cases hn : nm kd with
      | false =>
        walk_at "rd"
        refine ⟨s3.trans s5, acc, s5 _ _ h3, ?_⟩
        rw [htk, hn, if_neg (by simp), List.append_nil]
        exact hp3.mono (SameT.of s5)
      | true =>
        walk_at "rd"
        rename_i u nu
        have s6 : Same H3 (upd H5 u (.tup [.str kd, x1])) := s5.trans (Same.new nu)
        have hl6 := s6 _ _ h3
        refine k_acc (acc := acc) hl6 (by omega) ⟨fun b o e => lk_ne (s6 b o (s3 b o e)) (ne_of_none e nl), _, upd_same, ?_⟩
        have hp6 := (hp3.mono (SameT.of s6)).mono (SameT.lst hl6 (o := .lst (acc ++ [.ref u])))
        rw [htk, hn, if_pos rfl]
        exact hp6.append (.cons ⟨u, rfl, sqT_mono (SameT.lst hl6) (SqT.of upd_same)⟩ .nil)
    · rintro H3 ⟨s3, acc, h3, hp3⟩
      have hp : PairsAt K H3 acc d.prs := by
        have e : (d.kinds.zip d.vals).take d.vals.length = d.kinds.zip d.vals := List.take_of_length_le (by rw [List.length_zip]; omega)
        rw [e] at hp3
        exact hp3
      have s03 : Same H H3 := s2.trans s3
      walk_at "rd"
      refine k_lc (walk_list (K := K) (a := l) (xs := acc)) fun m nmm => ⟨fun i H' => Same H3 H' ∧ H' m = some (.lst (((d.prs.take i).map (·.2)).filterMap someV)), ⟨Same.new nmm, upd_same⟩, fun i H' _ h => SqL.of (h.1 _ _ h3), ?_, ?_⟩
      · rintro i x H4 H5 hi ⟨s4, h4⟩ ⟨rfl, hx⟩
        obtain ⟨pr, hpr⟩ : ∃ pr, d.prs[i]? = some pr := ⟨_, List.getElem?_eq_getElem (by rw [← Paired.length hp]; exact hi)⟩
        obtain ⟨r, rfl, hr2⟩ := Paired.get2 hp hx hpr
        have htk : ((d.prs.take (i + 1)).map (·.2)).filterMap someV = ((d.prs.take i).map (·.2)).filterMap someV ++ (someV pr.2).toList := by
          rw [List.take_succ, hpr, List.map_append, List.filterMap_append]
          cases hv : someV pr.2 <;> simp [hv]
        have hle : (((d.prs.take i).map (·.2)).filterMap someV).length ≤ 2 := by
          refine Nat.le_trans (List.length_filterMap_le _ _) ?_
          rw [List.length_map, List.length_take]
          refine Nat.le_trans (Nat.min_le_right _ _) (Nat.le_trans (List.length_filter_le _ _) ?_)
          rw [List.length_zip]
          omega
        refine k_pairS (sqT_mono (SameT.of s4) hr2) ?_
        walk_at "rd"
        refine ⟨trivial, ?_⟩
        walk_at "rd"
        by_cases hv : pr.2 = .non
        · rw [decide_eq_true hv]
          walk_at "rd"
          refine ⟨s4, ?_⟩
          rw [htk, show someV pr.2 = none from if_pos hv]
          simpa using h4
        · rw [decide_eq_false hv]
          walk_at "rd"
          refine k_acc h4 (by omega) ⟨fun b o e => lk_ne (s4 b o e) (ne_of_none e nmm), ?_⟩
          rw [htk, show someV pr.2 = some pr.2 from if_neg hv]
          exact upd_same
      · rintro H4 ⟨s4, h4⟩
        have e : acc.length = d.prs.length := Paired.length hp
        rw [e, List.take_length, d.named_prs] at h4
        exact q m H4 (Same.none_of s03 nmm) (s03.trans s4) h4
theorem ok_has_lines (T : Txt w P K mg) : FnOk P w K mg base CX0 2 T.f_has_lines T.d_has_lines ["ledgers", "deed"] (spHasLines K T.a_Ledgers T.a_OldLine T.a_NewLine) := by
  refine T.F_has_lines.ok sc_has_lines (fun vs H Q E h => ?_) (fun cdv A outer s H vs Q E hr h => ?_)
  · obtain ⟨p, a, d, g, A, z, S, rfl, _⟩ := h
    rfl
  · obtain ⟨p, a, d, g, A, z, S, rfl, ha, L, ht, q⟩ := h
    refine ⟨_, (pss_cons (ps_set (i := 2) sc_has_lines.nd rfl (Or.inr rfl) (pe_ifExp (pt_val (pe_bm PySem.F.plainAttrs_str PySem.F.slot_str_startswith PySem.F.type_str_startswith mt_startswith (pe_ix (ix_seqk K) (pv 1) pe_int (fun _ _ => rfl)) (pa_cons (pe_gstr (by rfl) T.m_WRITE) pa_nil))) (pe_fldk K (pv 0) rfl) (pe_fldk K (pv 0) rfl)))
  (pss_one (ps_ret (pe_callB (cr_allk K rfl) (by rfl) T.m_all b_all (pa_cons (pe_lc (own := [("number", 3)]) (g := (gName 3)) (tt := tYes) rfl sc_has_lines.nd (pi_seqk K (pe_call (ok_named_numbers T) (hr.mono (by decide)) (by rfl) T.m_named_numbers T.F_named_numbers.kp T.b_named_numbers .nil pass0 (pa_cons (pv 1) pa_nil))) (blkOk_by (own := [("number", 3)]) (N := N_has_lines) (sc := defScope s_has_lines) (by decide +kernel)) (fun _ _ _ _ _ => (pg_name (i := 3) sc_has_lines.nd rfl (Or.inl rfl))) (fun _ _ _ _ _ => pts_nil) (fun _ _ _ _ _ => (pe_cmp (pc_din (hu_of hr) (pv 3) (pv 2))))) pa_nil))))), ?_⟩
    have c1 := T.cl_Ledgers
    have c2 := T.na_Ledgers_old_lines
    have c3 := T.na_Ledgers_new_lines
    have c0 := L.self
    have ha' : SqT K H a (.str d.word :: d.vals) := ha
    walk_at "rd"
    refine k_ixT ha' (at_of (j := 0) rfl rfl) ?_
    walk_at "rd"
    rw [d.starts]
    cases hn : isNew d with
    | true =>
      have c5 := lck_rd L.nd
      have hv : ∀ n ∈ d.named, (valV (news g A) (Sum.inl ((n : Nat) : Int))).isSome = true := fun n hm => by
        have h := ht n hm
        rw [if_pos hn] at h
        obtain ⟨l, hl, rfl⟩ := h
        rw [show valV (news g A) (Sum.inl ((l.number : Nat) : Int)) = some (.ref (A.na l.number)) from valV_some (List.mem_map.mpr ⟨l, hl, rfl⟩) ?_]
        · rfl
        · intro q hq e
          obtain ⟨l', hl', rfl⟩ := news_key g A hq
          have := Sum.inl.inj e
          have h : l'.number = l.number := by omega
          rw [h]
      rw [if_pos rfl]
      walk_at "rd"
      refine ⟨a, d, rfl, ha', fun l H1 nl s1 h1 => ?_⟩
      walk_at "rd"
      have hnl : d.named.length ≤ 2 := by
        cases d with
        | tie n o => cases o <;> simp [Dd.named]
        | wtie n o => cases o <;> simp [Dd.named]
        | _ => simp [Dd.named]
      refine k_lc (walk_list (K := K) (a := l) (xs := d.named.map fun n => V.int (n : Nat))) fun m nmm => ⟨fun i H' => Same H1 H' ∧ H' m = some (.lst ((List.replicate i true).map V.bl)), ⟨Same.new nmm, upd_same⟩, fun i H' _ h => SqL.of (h.1 _ _ h1), ?_, ?_⟩
      · rintro i x H2 H3 hi ⟨s2, h2⟩ ⟨rfl, hx⟩
        rw [List.getElem?_map] at hx
        obtain ⟨n, hn2, rfl⟩ := Option.map_eq_some_iff.mp hx
        rw [List.length_map] at hi
        walk_at "rd"
        refine ⟨trivial, ?_⟩
        walk_at "rd"
        refine k_dinI (Rd.same (s1.trans s2) c5) ?_
        rw [hv n (List.mem_of_getElem? hn2)]
        refine k_acc h2 (by rw [List.length_map, List.length_replicate]; omega) ⟨fun b o e => lk_ne (s2 b o e) (ne_of_none e nmm), ?_⟩
        rw [upd_same, List.map_replicate, ← List.replicate_succ, List.replicate_succ']
        rfl
      · rintro H2 ⟨s2, h2⟩
        walk_at "rd"
        refine k_all (SqL.of h2) ?_
        have e : (List.replicate (d.named.map fun n => V.int (n : Nat)).length true).all id = true := by simp
        rw [e]
        exact q H2 (s1.trans s2)
    | false =>
      have c5 := lck_rd L.od
      have hv : ∀ n ∈ d.named, (valV (olds g A) (Sum.inl ((n : Nat) : Int))).isSome = true := fun n hm => by
        have h := ht n hm
        rw [if_neg (by rw [hn]; exact fun h => by cases h)] at h
        obtain ⟨j, rfl⟩ : ∃ j, n = j + 1 := ⟨n - 1, by omega⟩
        rw [olds_get g A (by omega)]
        rfl
      rw [if_neg (fun h => by cases h)]
      walk_at "rd"
      refine ⟨a, d, rfl, ha', fun l H1 nl s1 h1 => ?_⟩
      walk_at "rd"
      have hnl : d.named.length ≤ 2 := by
        cases d with
        | tie n o => cases o <;> simp [Dd.named]
        | wtie n o => cases o <;> simp [Dd.named]
        | _ => simp [Dd.named]
      refine k_lc (walk_list (K := K) (a := l) (xs := d.named.map fun n => V.int (n : Nat))) fun m nmm => ⟨fun i H' => Same H1 H' ∧ H' m = some (.lst ((List.replicate i true).map V.bl)), ⟨Same.new nmm, upd_same⟩, fun i H' _ h => SqL.of (h.1 _ _ h1), ?_, ?_⟩
      · rintro i x H2 H3 hi ⟨s2, h2⟩ ⟨rfl, hx⟩
        rw [List.getElem?_map] at hx
        obtain ⟨n, hn2, rfl⟩ := Option.map_eq_some_iff.mp hx
        rw [List.length_map] at hi
        walk_at "rd"
        refine ⟨trivial, ?_⟩
        walk_at "rd"
        refine k_dinI (Rd.same (s1.trans s2) c5) ?_
        rw [hv n (List.mem_of_getElem? hn2)]
        refine k_acc h2 (by rw [List.length_map, List.length_replicate]; omega) ⟨fun b o e => lk_ne (s2 b o e) (ne_of_none e nmm), ?_⟩
        rw [upd_same, List.map_replicate, ← List.replicate_succ, List.replicate_succ']
        rfl
      · rintro H2 ⟨s2, h2⟩
        walk_at "rd"
        refine k_all (SqL.of h2) ?_
        have e : (List.replicate (d.named.map fun n => V.int (n : Nat)).length true).all id = true := by simp
        rw [e]
        exact q H2 (s1.trans s2)
end

set_option Elab.async false
set_option linter.all false
set_option maxRecDepth 100000


local macro_rules | `(tactic| walk_at "lk") => `(tactic| first
  | exact ofs_number _ _ | exact ofs_label _ _ | exact ofs_start _ _ | exact ofs_moves _ _ | exact ofs_tie _ _ | exact ofs_standing _ _
  | exact nfs_number _ _ | exact nfs_label _ _ | exact nfs_start _ _ | exact nfs_moves _ _ | exact nfs_tie _ _ | exact nfs_source _ _ | exact nfs_typed _ _
  | rfl)
/-! ### what a deed does -/
def tyAdd (ts : List Str) (f : Str) : List Str := if f ∈ ts then ts else ts ++ [f]
def LG.onOld (g : LG) (n : Nat) (f : OL → OL) : LG := match g.old[n - 1]? with
  | none => g
  | some l => { g with old := g.old.set (n - 1) (f l) }
def LG.onNew (g : LG) (n : Nat) (f : NL → NL) : LG := { g with new := g.new.map fun l => if l.number = n then f l else l }
def doG (g : LG) : Dd → LG
  | .add b s => { g with old := g.old ++ [⟨b, s, 0, none, true⟩] }
  | .label n b => g.onOld n fun l => { l with label := b }
  | .moves n s => g.onOld n fun l => { l with moves := s }
  | .tie n o => g.onOld n fun l => { l with tie := o }
  | .stop n => g.onOld n fun l => { l with standing := false }
  | .own b => g.addN b 0 none
  | .wlabel n b => g.onNew n fun l => { l with label := b, typed := tyAdd l.typed "label" }
  | .wmoves n s => g.onNew n fun l => { l with moves := s }
  | .wtie n o => g.onNew n fun l => { l with tie := o, typed := tyAdd l.typed "tie" }
  | .run => g
theorem putK_typed (ts : List Str) (f : Str) : putK (ts.map fun k => (Sum.inr k, V.bl true)) (Sum.inr f : Key) (V.bl true) = (tyAdd ts f).map fun k => ((Sum.inr k : Key), V.bl true) := by
  unfold putK tyAdd
  by_cases h : f ∈ ts
  · rw [if_pos h, if_pos]
    · rw [List.map_map]
      refine List.map_congr_left fun k _ => ?_
      show (if _ then _ else _) = _
      split
      · rfl
      · rfl
    · simp only [List.any_eq_true, decide_eq_true_eq]
      exact ⟨_, List.mem_map.mpr ⟨f, h, rfl⟩, rfl⟩
  · rw [if_neg h, if_neg]
    · rw [List.map_append]
      rfl
    · simp only [List.any_eq_true, decide_eq_true_eq, not_exists, not_and]
      intro p hp e
      obtain ⟨k, hk, rfl⟩ := List.mem_map.mp hp
      exact h (by rw [← Sum.inr.inj e]; exact hk)
def k2 (l : NL) : Nat × Option Nat := (l.number, l.source)
theorem news_congr2 {g g' : LG} (A : LA) (h : g.new.map k2 = g'.new.map k2) : news g A = news g' A := by
  have e : ∀ g : LG, news g A = (g.new.map k2).map fun k => ((Sum.inl ((k.1 : Nat) : Int) : Key), V.ref (A.na k.1)) := fun g => by
    unfold news
    rw [List.map_map]
    rfl
  rw [e, e, h]
theorem mades_congr2 {g g' : LG} (A : LA) (h : g.new.map k2 = g'.new.map k2) : mades g A = mades g' A := by
  have e : ∀ g : LG, mades g A = (g.new.map k2).filterMap fun k => k.2.map fun s => ((Sum.inl ((s : Nat) : Int) : Key), V.ref (A.na k.1)) := fun g => by
    unfold mades madeKV
    rw [List.filterMap_map]
    rfl
  rw [e, e, h]
theorem k2_mem {xs ys : List NL} (h : xs.map k2 = ys.map k2) {l : NL} (m : l ∈ ys) : ∃ l' ∈ xs, k2 l' = k2 l := by
  have : k2 l ∈ ys.map k2 := List.mem_map.mpr ⟨l, m, rfl⟩
  rw [← h] at this
  exact List.mem_map.mp this
theorem k2_pair {R : Nat × Option Nat → Nat × Option Nat → Prop} {xs ys : List NL} (h : xs.map k2 = ys.map k2) (p : xs.Pairwise fun l l' => R (k2 l) (k2 l')) : ys.Pairwise fun l l' => R (k2 l) (k2 l') := by
  rw [← List.pairwise_map (f := k2) (R := R)] at p ⊢
  rw [← h]
  exact p
theorem WF.congr2 {g g' : LG} (h : g.new.map k2 = g'.new.map k2) (ho : g'.old.length = g.old.length) (hl : g'.last = g.last) (W : WF g) : WF g' := {
  num := k2_pair (R := fun a b => a.1 < b.1) h W.num
  last := fun l m => by
    obtain ⟨l', m', e⟩ := k2_mem h m
    have e1 : l'.number = l.number := congrArg (·.1) e
    have := W.last l' m'
    omega
  src := fun l m s hs => by
    obtain ⟨l', m', e⟩ := k2_mem h m
    have e1 : l'.source = l.source := congrArg (·.2) e
    have := W.src l' m' s (by rw [e1]; exact hs)
    omega
  one := k2_pair (R := fun a b => ∀ s, a.2 = some s → b.2 ≠ some s) h W.one
  few := by rw [ho]; exact W.few
  most := by rw [hl]; exact W.most }
theorem onNew_set {g : LG} (W : WF g) {i : Nat} {l : NL} (h : g.new[i]? = some l) (f : NL → NL) : g.onNew l.number f = { g with new := g.new.set i (f l) } := by
  unfold LG.onNew
  congr 1
  refine List.ext_getElem? fun j => ?_
  have hi := (List.getElem?_eq_some_iff.mp h).1
  rw [List.getElem?_map, List.getElem?_set]
  by_cases e : i = j
  · subst e
    rw [if_pos rfl, if_pos hi, h]
    show some (if l.number = l.number then f l else l) = _
    rw [if_pos rfl]
  · rw [if_neg e]
    cases hj : g.new[j]? with
    | none => rfl
    | some o =>
      show some (if o.number = l.number then f o else o) = _
      rw [if_neg fun q => e (W.inj hj h q).symm]
theorem onNew_k2 (g : LG) (n : Nat) (f : NL → NL) (hf : ∀ l, k2 (f l) = k2 l) : (g.onNew n f).new.map k2 = g.new.map k2 := by
  unfold LG.onNew
  show List.map k2 (List.map _ _) = _
  rw [List.map_map]
  refine List.map_congr_left fun l _ => ?_
  show k2 (if l.number = n then f l else l) = k2 l
  split
  · exact hf l
  · rfl
section
variable {CL CO CN : Addr} {H : Hp} {p : Addr} {g : LG} {A : LA} {z : Fz} {S : Addr → Prop}
theorem LedA.setOld (L : LedA CL CO CN H p g A z S) {i : Nat} {l : OL} (hi : g.old[i]? = some l) (l' : OL) (dx : Addr) :
    LedA CL CO CN (upd H (A.oa i) (.ins CO dx (ofs (i + 1) l'))) p { g with old := g.old.set i l' } A z S ∧ Frm S H (upd H (A.oa i) (.ins CO dx (ofs (i + 1) l'))) := by
  have hlt := (List.getElem?_eq_some_iff.mp hi).1
  have fr : ∀ b o, H b = some o → b ≠ A.oa i → upd H (A.oa i) (.ins CO dx (ofs (i + 1) l')) b = some o := fun b o e n => by rw [upd_ne n, e]
  refine ⟨{ L with self := fr _ _ L.self (L.oa_p hlt).symm, od := ?_, nd := fr _ _ L.nd (L.nd_oa hlt), md := fr _ _ L.md (L.md_oa hlt), old := ?_, new := ?_, typ := ?_, sold := ?_ }, ?_⟩
  · have e : olds { g with old := g.old.set i l' } A = olds g A := by
      unfold olds
      show List.map _ (List.range (g.old.set i l').length) = _
      rw [List.length_set]
    rw [e]
    exact fr _ _ L.od (L.od_oa hlt)
  · intro j k hj
    have hj' : (g.old.set i l')[j]? = some k := hj
    rw [List.getElem?_set] at hj'
    by_cases e : i = j
    · subst e
      rw [if_pos rfl, if_pos hlt] at hj'
      cases hj'
      exact ⟨dx, upd_same⟩
    · rw [if_neg e] at hj'
      obtain ⟨d, q⟩ := L.old j k hj'
      exact ⟨d, fr _ _ q fun h => e (L.oa_inj (List.getElem?_eq_some_iff.mp hj').1 hlt h).symm⟩
  · intro k hk
    obtain ⟨d, e⟩ := L.new k hk
    exact ⟨d, fr _ _ e (L.oa_na hlt hk).symm⟩
  · intro k hk
    exact fr _ _ (L.typ k hk) (L.oa_ta hlt hk).symm
  · intro j hj
    have hj' : j < (g.old.set i l').length := hj
    rw [List.length_set] at hj'
    exact L.sold j hj'
  · intro b o e n
    exact fr b o e fun h => n (by rw [h]; exact L.sold i hlt)
/-- one new line gets other fields, and other marks of what was typed -/
theorem LedA.setNew2 (L : LedA CL CO CN H p g A z S) (W : WF g) {i : Nat} {l l' : NL} (hi : g.new[i]? = some l) (hk : k2 l' = k2 l) (dx : Addr) :
    let H' := upd (upd H (A.na l.number) (.ins CN dx (nfs l' (A.ta l.number)))) (A.ta l.number) (.dK (typedK l'))
    LedA CL CO CN H' p { g with new := g.new.set i l' } A z S ∧ Frm S H H' := by
  intro H'
  have hm : l ∈ g.new := List.mem_of_getElem? hi
  have kn : l'.number = l.number := congrArg (·.1) hk
  have hlt := (List.getElem?_eq_some_iff.mp hi).1
  have hnt := L.na_ta hm hm
  have fr : ∀ b o, H b = some o → b ≠ A.na l.number → b ≠ A.ta l.number → H' b = some o := fun b o e n n2 => by
    show upd _ _ _ b = _
    rw [upd_ne n2, upd_ne n, e]
  have kk : (g.new.set i l').map k2 = g.new.map k2 := by
    refine List.ext_getElem? fun j => ?_
    rw [List.getElem?_map, List.getElem?_map, List.getElem?_set]
    by_cases q : i = j
    · subst q
      rw [if_pos rfl, if_pos hlt, hi]
      show some (k2 l') = some (k2 l)
      rw [hk]
    · rw [if_neg q]
  have mem : ∀ k ∈ g.new.set i l', (∃ j, j ≠ i ∧ g.new[j]? = some k) ∨ k = l' := fun k hk => by
    obtain ⟨j, hj⟩ := List.getElem?_of_mem hk
    rw [List.getElem?_set] at hj
    by_cases e : i = j
    · subst e
      rw [if_pos rfl, if_pos hlt] at hj
      exact .inr (Option.some.inj hj).symm
    · rw [if_neg e] at hj
      exact .inl ⟨j, fun h => e h.symm, hj⟩
  have num : ∀ k ∈ g.new.set i l', ∃ k' ∈ g.new, k2 k' = k2 k := fun k hk => k2_mem kk.symm hk
  refine ⟨{ L with self := fr _ _ L.self (L.na_p hm).symm (L.ta_p hm).symm, od := fr _ _ L.od (L.od_na hm) (L.dt l hm).1.symm, nd := ?_, md := fr _ _ L.md (L.md_na hm) (L.dt l hm).2.2.symm, old := ?_, new := ?_, typ := ?_, dt := ?_, dtt := ?_, snew := ?_ }, ?_⟩
  · rw [← news_congr2 (g := g) A kk.symm]
    exact fr _ _ L.nd (L.nd_na hm) (L.dt l hm).2.1.symm
  · intro j o hj
    obtain ⟨d, e⟩ := L.old j o hj
    have := (List.getElem?_eq_some_iff.mp hj).1
    exact ⟨d, fr _ _ e (L.oa_na this hm) (L.oa_ta this hm)⟩
  · intro k hk'
    rcases mem k hk' with ⟨j, hj, hg⟩ | rfl
    · have hkm := List.mem_of_getElem? hg
      obtain ⟨d, e⟩ := L.new k hkm
      exact ⟨d, fr _ _ e (fun h => hj (W.inj hg hi (L.na_inj hkm hm h))) (L.na_ta hkm hm)⟩
    · refine ⟨dx, ?_⟩
      rw [kn]
      show upd _ _ _ _ = _
      rw [upd_ne hnt, upd_same]
  · intro k hk'
    rcases mem k hk' with ⟨j, hj, hg⟩ | rfl
    · have hkm := List.mem_of_getElem? hg
      exact fr _ _ (L.typ k hkm) (L.na_ta hm hkm).symm fun h => hj (W.inj hg hi (L.dtt k hkm l hm h))
    · rw [kn]
      exact upd_same
  · intro k hk'
    obtain ⟨k', hm', e⟩ := num k hk'
    have e1 : k'.number = k.number := congrArg (·.1) e
    rw [← e1]
    exact L.dt k' hm'
  · intro k hk' q hq he
    obtain ⟨k', hm', e⟩ := num k hk'
    obtain ⟨q', hq', e'⟩ := num q hq
    have e1 : k'.number = k.number := congrArg (·.1) e
    have e2 : q'.number = q.number := congrArg (·.1) e'
    rw [← e1, ← e2] at he ⊢
    exact L.dtt k' hm' q' hq' he
  · intro k hk'
    obtain ⟨k', hm', e⟩ := num k hk'
    have e1 : k'.number = k.number := congrArg (·.1) e
    rw [← e1]
    exact L.snew k' hm'
  · intro b o e n
    exact fr b o e (fun h => n (by rw [h]; exact (L.snew l hm).1)) fun h => n (by rw [h]; exact (L.snew l hm).2)
end
def fieldOf (f : Str) : Str := if f = "label" then "label" else if f = "moves" then "moves" else "tie"
def spSetField (CO CN : Addr) : Sp := fun vs H Q _ => ∃ (a C dx : Addr) (f : Str) (v : V) (fs : List (Str × V)), vs = [.ref a, .str f, v] ∧ H a = some (.ins C dx fs) ∧ (C = CO ∨ C = CN) ∧ fs.length < 1000 ∧ Q .non (upd H a (.ins C dx (putF (fieldOf f) v fs)))
set_option maxHeartbeats 4000000
section
variable {P : Program} {w : World} {K : PySem.W.Frag} {mg : Str → Option Value} {base : Heap}
theorem ok_set_field (T : Txt w P K mg) : FnOk P w K mg base CX0 1 T.f_set_field T.d_set_field ["line", "field", "value"] (spSetField T.a_OldLine T.a_NewLine) := by
  refine T.F_set_field.ok sc_set_field (fun vs H Q E h => ?_) (fun cdv A outer s H vs Q E hr h => ?_)
  · obtain ⟨a, C, dx, f, v, fs, rfl, _⟩ := h
    rfl
  · obtain ⟨a, C, dx, f, v, fs, rfl, ha, hC, hl, q⟩ := h
    refine ⟨_, (pss_one (ps_if (pt_cmpR (op_eqUk K (hu65 hr)) (pv 1) pe_str (nomark _)) (pss_one (ps_fld (pv 0) (pv 2) rfl)) (pss_one (ps_if (pt_cmpR (op_eqUk K (hu65 hr)) (pv 1) pe_str (nomark _)) (pss_one (ps_fld (pv 0) (pv 2) rfl)) (pss_one (ps_fld (pv 0) (pv 2) rfl)))))), ?_⟩
    have c1 : Cls K C := hC.elim (fun e => by rw [e]; exact T.cl_OldLine) fun e => by rw [e]; exact T.cl_NewLine
    have c2 : NoAttr K C "label" := hC.elim (fun e => by rw [e]; exact T.na_OldLine_label) fun e => by rw [e]; exact T.na_NewLine_label
    have c3 : NoAttr K C "moves" := hC.elim (fun e => by rw [e]; exact T.na_OldLine_moves) fun e => by rw [e]; exact T.na_NewLine_moves
    have c4 : NoAttr K C "tie" := hC.elim (fun e => by rw [e]; exact T.na_OldLine_tie) fun e => by rw [e]; exact T.na_NewLine_tie
    walk_at "rd"
    by_cases h1 : f = Str.ofString "label"
    · rw [if_pos h1]
      rw [show fieldOf f = "label" from if_pos h1] at q
      walk_at "rd"
      exact q
    · rw [if_neg h1]
      walk_at "rd"
      by_cases h2 : f = Str.ofString "moves"
      · rw [if_pos h2]
        rw [show fieldOf f = "moves" from (if_neg h1).trans (if_pos h2)] at q
        walk_at "rd"
        exact q
      · rw [if_neg h2]
        rw [show fieldOf f = "tie" from (if_neg h1).trans (if_neg h2)] at q
        walk_at "rd"
        exact q
def spWriteNew (CN : Addr) : Sp := fun vs H Q _ => ∃ (a t dx : Addr) (f : Str) (v : V) (l : NL), vs = [.ref a, .str f, v] ∧ H a = some (.ins CN dx (nfs l t)) ∧ H t = some (.dK (typedK l)) ∧ l.typed.length < 1000 ∧
  Q .non (if f = "moves" then upd H a (.ins CN dx (putF (fieldOf f) v (nfs l t))) else upd (upd H a (.ins CN dx (putF (fieldOf f) v (nfs l t)))) t (.dK ((tyAdd l.typed f).map fun k => (Sum.inr k, V.bl true))))
theorem ok_write_new (T : Txt w P K mg) : FnOk P w K mg base CX0 2 T.f_write_new T.d_write_new ["line", "field", "value"] (spWriteNew T.a_NewLine) := by
  refine T.F_write_new.ok sc_write_new (fun vs H Q E h => ?_) (fun cdv A outer s H vs Q E hr h => ?_)
  · obtain ⟨a, t, dx, f, v, l, rfl, _⟩ := h
    rfl
  · obtain ⟨a, t, dx, f, v, l, rfl, ha, ht, hl, q⟩ := h
    refine ⟨_, (pss_cons (ps_expr (pe_call (ok_set_field T) (hr.mono (by decide)) (by rfl) T.m_set_field T.F_set_field.kp T.b_set_field .nil pass0 (pa_cons (pv 0) (pa_cons (pv 1) (pa_cons (pv 2) pa_nil)))))
  (pss_one (ps_if (pt_cmpR (op_neUk K (hu65 hr)) (pv 1) pe_str (nomark _)) (pss_one (ps_dput (hu_of hr) (pe_fldk K (pv 0) rfl) (pv 1) pe_bl rfl)) pss_nil))), ?_⟩
    have c1 := T.cl_NewLine
    have c2 := T.na_NewLine_typed
    have hat : a ≠ t := at_ne ha ht (fun h => by cases h)
    walk_at "rd"
    refine ⟨a, T.a_NewLine, dx, f, v, nfs l t, rfl, ha, .inr rfl, Nat.le_of_ble_eq_true rfl, ?_⟩
    walk_at "rd"
    have hty : (putF (fieldOf f) v (nfs l t)).lookup ("typed" : Str) = some (.ref t) := by
      unfold fieldOf
      split
      · rfl
      · split <;> rfl
    by_cases hf : f = Str.ofString "moves"
    · rw [if_pos hf] at q
      rw [decide_eq_true hf, if_neg (fun h => by cases h)]
      exact q
    · rw [if_neg hf] at q
      rw [decide_eq_false hf, if_pos (show (!false) = true from rfl)]
      refine k_fld upd_same c1 c2 hty ?_
      walk_at "rd"
      refine k_dputS (kvs := typedK l) (by rw [upd_ne hat.symm]; exact ht) (by unfold typedK; rw [List.length_map]; omega) ?_
      unfold typedK
      rw [putK_typed]
      exact q
def spDoDeed (K : PySem.W.Frag) (CL CO CN : Addr) : Sp := fun vs H Q _ => ∃ (p a : Addr) (d : Dd) (g : LG) (A : LA) (S : Addr → Prop), vs = [.ref p, .ref a] ∧ DeedAt K H a d ∧ d ≠ .run ∧ LedA CL CO CN H p g A noFz S ∧ WF g ∧ MK g A ∧ d.there g ∧ g.old.length < 1000 ∧ g.last < 900000 ∧ (∀ l : NL, l ∈ g.new → l.typed.length < 1000) ∧
  ∀ (A' : LA) (S' : Addr → Prop) (H' : Hp), LedA CL CO CN H' p (doG g d) A' noFz S' → WF (doG g d) → MK (doG g d) A' → Frm S H H' → Grow S S' H → Q .non H'
theorem there_old {g : LG} {d : Dd} (h : d.there g) (hn : isNew d = false) {n : Nat} (hm : n ∈ d.named) : ∃ j l, n = j + 1 ∧ g.old[j]? = some l := by
  have := h n hm
  rw [if_neg (by rw [hn]; exact fun h => by cases h)] at this
  obtain ⟨j, rfl⟩ : ∃ j, n = j + 1 := ⟨n - 1, by omega⟩
  exact ⟨j, _, rfl, List.getElem?_eq_getElem (by omega)⟩
theorem there_new {g : LG} {d : Dd} (h : d.there g) (hn : isNew d = true) {n : Nat} (hm : n ∈ d.named) : ∃ (i : Nat) (l : NL), g.new[i]? = some l ∧ l.number = n := by
  have := h n hm
  rw [if_pos hn] at this
  obtain ⟨l, hl, e⟩ := this
  obtain ⟨i, hi⟩ := List.getElem?_of_mem hl
  exact ⟨i, l, hi, e⟩
theorem news_get {g : LG} {A : LA} {l : NL} (hl : l ∈ g.new) : valV (news g A) (Sum.inl ((NL.number l : Nat) : Int)) = some (.ref (A.na (NL.number l))) := by
  refine valV_some (List.mem_map.mpr ⟨l, hl, rfl⟩) ?_
  intro q hq e
  obtain ⟨l', hl', rfl⟩ := news_key g A hq
  have := Sum.inl.inj e
  have h : l'.number = l.number := by omega
  rw [h]
theorem WF.setOld {g : LG} (W : WF g) (j : Nat) (l : OL) : WF { g with old := g.old.set j l } := WF.congr2 (g := g) rfl (by show (g.old.set j l).length = _; rw [List.length_set]) rfl W
theorem MK.setOld {g : LG} {A : LA} (M : MK g A) (os : List OL) : MK { g with old := os } A := M
theorem MK.congr2 {g g' : LG} {A : LA} (h : g.new.map k2 = g'.new.map k2) (M : MK g A) : MK g' A := by
  unfold MK at *
  rw [M, mades_congr2 A h]
theorem onOld_at {g : LG} {j : Nat} {l : OL} (h : g.old[j]? = some l) (f : OL → OL) : g.onOld (j + 1) f = { g with old := g.old.set j (f l) } := by
  unfold LG.onOld
  rw [Nat.add_sub_cancel, h]
theorem WF.addOwn {g : LG} (W : WF g) {b s : Int} (hl : g.last < 900000) : WF (g.addN b s none) := by
  have mem : ∀ l ∈ (g.addN b s none).new, l ∈ g.new ∨ l = ⟨g.last + 1, b, s, 0, none, none, []⟩ := fun l h => (List.mem_append.mp h).elim .inl fun h => .inr (List.mem_singleton.mp h)
  refine { num := ?_, last := ?_, src := ?_, one := ?_, few := W.few, most := ?_ }
  · refine List.pairwise_append.mpr ⟨W.num, List.pairwise_singleton _ _, fun a ha c hc => ?_⟩
    rw [List.mem_singleton.mp hc]
    have := W.last a ha
    show a.number < g.last + 1
    omega
  · intro l h
    show 1 ≤ l.number ∧ l.number ≤ g.last + 1
    rcases mem l h with h | rfl
    · have := W.last l h
      omega
    · exact ⟨Nat.le_add_left _ _, Nat.le_refl _⟩
  · intro l h s' hs
    rcases mem l h with h | rfl
    · exact W.src l h s' hs
    · cases hs
  · refine List.pairwise_append.mpr ⟨W.one, List.pairwise_singleton _ _, fun a ha c hc s' hs => ?_⟩
    rw [List.mem_singleton.mp hc]
    exact fun e => by cases e
  · show g.last + 1 ≤ _
    omega
local macro_rules | `(tactic| walk_at "lit") => `(tactic| (rw [if_neg (by decide +kernel)]; walk_at "rd"))
theorem ok_do_deed (T : Txt w P K mg) : FnOk P w K mg base CX0 4 T.f_do_deed T.d_do_deed ["ledgers", "deed"] (spDoDeed K T.a_Ledgers T.a_OldLine T.a_NewLine) := by
  refine T.F_do_deed.ok sc_do_deed (fun vs H Q E h => ?_) (fun cdv A outer s H vs Q E hr h => ?_)
  · obtain ⟨p, a, d, g, A, S, rfl, _⟩ := h
    rfl
  · obtain ⟨p, a, d, g, A, S, rfl, ha, hd, L, W, M, ht, ho, hlast, hty, k⟩ := h
    refine ⟨_, (pss_cons (ps_set (i := 2) sc_do_deed.nd rfl (Or.inl rfl) (pe_ix (ix_seqk K) (pv 1) pe_int (fun _ _ => rfl)))
  (pss_one (ps_if (pt_cmpR (op_eqUk K (hu65 hr)) (pv 2) pe_str (nomark _)) (pss_one (ps_expr (pe_meth (pv 0) T.cl_Ledgers T.me_Ledgers_add_old (ok_Ledgers_add_old T) (hr.mono (by decide)) T.b_Ledgers_add_old .nil pass0 (pa_cons (pe_ix (ix_seqk K) (pv 1) pe_int (fun _ _ => rfl)) (pa_cons (pe_ix (ix_seqk K) (pv 1) pe_int (fun _ _ => rfl)) pa_nil))))) (pss_one (ps_if (pt_cmpR (op_eqUk K (hu65 hr)) (pv 2) pe_str (nomark _)) (pss_one (ps_expr (pe_meth (pv 0) T.cl_Ledgers T.me_Ledgers_add_new (ok_Ledgers_add_new T) (hr.mono (by decide)) T.b_Ledgers_add_new .nil pass0 (pa_cons (pe_ix (ix_seqk K) (pv 1) pe_int (fun _ _ => rfl)) (pa_cons pe_int (pa_cons pe_non pa_nil)))))) (pss_one (ps_if (pt_cmpR (op_eqUk K (hu65 hr)) (pv 2) pe_str (nomark _)) (pss_cons (ps_set (i := 3) sc_do_deed.nd rfl (Or.inl rfl) (pe_dget (hu_of hr) (pe_fldk K (pv 0) rfl) (pe_ix (ix_seqk K) (pv 1) pe_int (fun _ _ => rfl)) (fun _ _ => rfl)))
  (pss_one (ps_fld (pv 3) pe_bl rfl))) (pss_one (ps_if (pt_val (pe_bm PySem.F.plainAttrs_str PySem.F.slot_str_startswith PySem.F.type_str_startswith mt_startswith (pv 2) (pa_cons (pe_gstr (by rfl) T.m_WRITE) pa_nil))) (pss_one (ps_expr (pe_call (ok_write_new T) (hr.mono (by decide)) (by rfl) T.m_write_new T.F_write_new.kp T.b_write_new .nil pass0 (pa_cons (pe_dget (hu_of hr) (pe_fldk K (pv 0) rfl) (pe_ix (ix_seqk K) (pv 1) pe_int (fun _ _ => rfl)) (fun _ _ => rfl)) (pa_cons (pe_bm PySem.F.plainAttrs_str PySem.F.slot_str_removeprefix PySem.F.type_str_removeprefix mt_removeprefix (pv 2) (pa_cons (pe_gstr (by rfl) T.m_WRITE) pa_nil)) (pa_cons (pe_ix (ix_seqk K) (pv 1) pe_int (fun _ _ => rfl)) pa_nil)))))) (pss_one (ps_expr (pe_call (ok_set_field T) (hr.mono (by decide)) (by rfl) T.m_set_field T.F_set_field.kp T.b_set_field .nil pass0 (pa_cons (pe_dget (hu_of hr) (pe_fldk K (pv 0) rfl) (pe_ix (ix_seqk K) (pv 1) pe_int (fun _ _ => rfl)) (fun _ _ => rfl)) (pa_cons (pv 2) (pa_cons (pe_ix (ix_seqk K) (pv 1) pe_int (fun _ _ => rfl)) pa_nil))))))))))))))), ?_⟩
    have c1 := T.cl_Ledgers
    have c2 := T.na_Ledgers_old_lines
    have c3 := T.na_Ledgers_new_lines
    have c4 := T.cl_OldLine
    have c5 := T.na_OldLine_standing
    have c0 := L.self
    cases d with
    | run => exact absurd rfl hd
    | add b st =>
      have ha' : SqT K H a [.str "add", .int b, .int st] := ha
      walk_at "rd"
      refine ⟨p, b, st, g, A, noFz, S, rfl, L, W, rfl, ho, fun A' S' H' L' e1 e2 F G => ?_⟩
      refine k A' S' H' L' { W with src := fun l hl s hs => ?_, few := ?_ } ?_ F G
      · have := W.src l hl s hs
        show _ ∧ s ≤ (g.old ++ [_]).length
        rw [List.length_append, List.length_cons, List.length_nil]
        omega
      · show (g.old ++ [_]).length ≤ _
        rw [List.length_append, List.length_cons, List.length_nil]
        omega
      · show A'.mkv = mades _ A'
        rw [e1, M]
        unfold mades madeKV
        rw [e2]
        rfl
    | label n b =>
      have ha' : SqT K H a [.str "label", .int (n : Nat), .int b] := ha
      obtain ⟨j, l, rfl, hl⟩ := there_old ht rfl (n := n) (by simp [Dd.named])
      obtain ⟨dx, hob⟩ := L.old j l hl
      have hlt := (List.getElem?_eq_some_iff.mp hl).1
      have e4 : doG g (.label (j + 1) b) = { g with old := g.old.set j { l with label := b } } := onOld_at hl fun l => { l with label := b }
      obtain ⟨L2, F2⟩ := L.setOld hl { l with label := b } dx
      rw [e4] at k
      have ef : fieldOf "label" = "label" := by decide +kernel
      walk_at "rd"
      walk_at "lit"
      walk_at "lit"
      walk_at "lit"
      walk_at "lit"
      refine k_dgetI (.inl L.od) (olds_get g A hlt) ?_
      walk_at "rd"
      refine ⟨A.oa j, T.a_OldLine, dx, _, _, ofs (j + 1) l, rfl, hob, .inl rfl, Nat.le_of_ble_eq_true rfl, ?_⟩
      rw [ef]
      exact k A S _ L2 (W.setOld j _) M F2 (Grow.refl S H)
    | moves n st =>
      have ha' : SqT K H a [.str "moves", .int (n : Nat), .int st] := ha
      obtain ⟨j, l, rfl, hl⟩ := there_old ht rfl (n := n) (by simp [Dd.named])
      obtain ⟨dx, hob⟩ := L.old j l hl
      have hlt := (List.getElem?_eq_some_iff.mp hl).1
      have e4 : doG g (.moves (j + 1) st) = { g with old := g.old.set j { l with moves := st } } := onOld_at hl fun l => { l with moves := st }
      obtain ⟨L2, F2⟩ := L.setOld hl { l with moves := st } dx
      rw [e4] at k
      have ef : fieldOf "moves" = "moves" := by decide +kernel
      walk_at "rd"
      walk_at "lit"
      walk_at "lit"
      walk_at "lit"
      walk_at "lit"
      refine k_dgetI (.inl L.od) (olds_get g A hlt) ?_
      walk_at "rd"
      refine ⟨A.oa j, T.a_OldLine, dx, _, _, ofs (j + 1) l, rfl, hob, .inl rfl, Nat.le_of_ble_eq_true rfl, ?_⟩
      rw [ef]
      exact k A S _ L2 (W.setOld j _) M F2 (Grow.refl S H)
    | tie n o =>
      have ha' : SqT K H a [.str "tie", .int (n : Nat), oV o] := ha
      obtain ⟨j, l, rfl, hl⟩ := there_old ht rfl (n := n) (by simp [Dd.named])
      obtain ⟨dx, hob⟩ := L.old j l hl
      have hlt := (List.getElem?_eq_some_iff.mp hl).1
      have e4 : doG g (.tie (j + 1) o) = { g with old := g.old.set j { l with tie := o } } := onOld_at hl fun l => { l with tie := o }
      obtain ⟨L2, F2⟩ := L.setOld hl { l with tie := o } dx
      rw [e4] at k
      have ef : fieldOf "tie" = "tie" := by decide +kernel
      walk_at "rd"
      walk_at "lit"
      walk_at "lit"
      walk_at "lit"
      walk_at "lit"
      refine k_dgetI (.inl L.od) (olds_get g A hlt) ?_
      walk_at "rd"
      refine ⟨A.oa j, T.a_OldLine, dx, _, _, ofs (j + 1) l, rfl, hob, .inl rfl, Nat.le_of_ble_eq_true rfl, ?_⟩
      rw [ef]
      exact k A S _ L2 (W.setOld j _) M F2 (Grow.refl S H)
    | stop n =>
      have ha' : SqT K H a [.str "end", .int (n : Nat)] := ha
      obtain ⟨j, l, rfl, hl⟩ := there_old ht rfl (n := n) (by simp [Dd.named])
      obtain ⟨dx, hob⟩ := L.old j l hl
      have hlt := (List.getElem?_eq_some_iff.mp hl).1
      have e4 : doG g (.stop (j + 1)) = { g with old := g.old.set j { l with standing := false } } := onOld_at hl fun l => { l with standing := false }
      obtain ⟨L2, F2⟩ := L.setOld hl { l with standing := false } dx
      rw [e4] at k
      walk_at "rd"
      walk_at "lit"
      walk_at "lit"
      refine k_dgetI (.inl L.od) (olds_get g A hlt) ?_
      walk_at "rd"
      exact k A S _ L2 (W.setOld j _) M F2 (Grow.refl S H)
    | own b =>
      have ha' : SqT K H a [.str "own", .int b] := ha
      walk_at "rd"
      walk_at "lit"
      refine ⟨p, b, 0, none, g, A, noFz, S, rfl, L, W, rfl, hlast, fun x t S' H' L' F G => ?_⟩
      refine k _ S' H' L' ?_ ?_ F G
      · exact W.addOwn hlast
      · show A.mkv = mades (g.addN b 0 none) (A.addN (g.last + 1) x t)
        rw [M, mades_addN g A W]
        exact (List.append_nil _).symm
    | wlabel n b =>
      have ha' : SqT K H a [.str "write label", .int (n : Nat), .int b] := ha
      obtain ⟨i, l, hi, rfl⟩ := there_new ht rfl (n := n) (by simp [Dd.named])
      have hm := List.mem_of_getElem? hi
      obtain ⟨dx, hob⟩ := L.new l hm
      have e4 : doG g (.wlabel l.number b) = { g with new := g.new.set i { l with label := b, typed := tyAdd l.typed "label" } } := onNew_set W hi (fun l => { l with label := b, typed := tyAdd l.typed "label" })
      have e5 := onNew_k2 g l.number (fun l => { l with label := b, typed := tyAdd l.typed "label" }) fun _ => rfl
      rw [onNew_set W hi] at e5
      rw [e4] at k
      have ef : fieldOf "label" = "label" := by decide +kernel
      have er : Txt.removeprefix "write label" "write " = "label" := by decide +kernel
      walk_at "rd"
      walk_at "lit"
      walk_at "lit"
      walk_at "lit"
      rw [if_pos (show Txt.startswith "write label" "write " = true by decide +kernel)]
      walk_at "rd"
      refine k_dgetI (.inl L.nd) (news_get hm) ?_
      walk_at "rd"
      rw [er]
      refine ⟨A.na l.number, A.ta l.number, dx, _, _, l, rfl, hob, L.typ l hm, hty l hm, ?_⟩
      rw [ef]
      rw [if_neg (by decide +kernel)]
      obtain ⟨L2, F2⟩ := L.setNew2 W hi (l' := { l with label := b, typed := tyAdd l.typed "label" }) rfl dx
      exact k A S _ L2 (W.congr2 e5.symm rfl rfl) (M.congr2 e5.symm) F2 (Grow.refl S H)
    | wmoves n st =>
      have ha' : SqT K H a [.str "write moves", .int (n : Nat), .int st] := ha
      obtain ⟨i, l, hi, rfl⟩ := there_new ht rfl (n := n) (by simp [Dd.named])
      have hm := List.mem_of_getElem? hi
      obtain ⟨dx, hob⟩ := L.new l hm
      have e4 : doG g (.wmoves l.number st) = { g with new := g.new.set i { l with moves := st } } := onNew_set W hi (fun l => { l with moves := st })
      have e5 := onNew_k2 g l.number (fun l => { l with moves := st }) fun _ => rfl
      rw [onNew_set W hi] at e5
      rw [e4] at k
      have ef : fieldOf "moves" = "moves" := by decide +kernel
      have er : Txt.removeprefix "write moves" "write " = "moves" := by decide +kernel
      walk_at "rd"
      walk_at "lit"
      walk_at "lit"
      walk_at "lit"
      rw [if_pos (show Txt.startswith "write moves" "write " = true by decide +kernel)]
      walk_at "rd"
      refine k_dgetI (.inl L.nd) (news_get hm) ?_
      walk_at "rd"
      rw [er]
      refine ⟨A.na l.number, A.ta l.number, dx, _, _, l, rfl, hob, L.typ l hm, hty l hm, ?_⟩
      rw [ef]
      rw [if_pos rfl]
      obtain ⟨L2, F2⟩ := L.setNew W hi (l' := { l with moves := st }) rfl dx
      exact k A S _ L2 (W.congr2 e5.symm rfl rfl) (M.congr2 e5.symm) F2 (Grow.refl S H)
    | wtie n o =>
      have ha' : SqT K H a [.str "write tie", .int (n : Nat), oV o] := ha
      obtain ⟨i, l, hi, rfl⟩ := there_new ht rfl (n := n) (by simp [Dd.named])
      have hm := List.mem_of_getElem? hi
      obtain ⟨dx, hob⟩ := L.new l hm
      have e4 : doG g (.wtie l.number o) = { g with new := g.new.set i { l with tie := o, typed := tyAdd l.typed "tie" } } := onNew_set W hi (fun l => { l with tie := o, typed := tyAdd l.typed "tie" })
      have e5 := onNew_k2 g l.number (fun l => { l with tie := o, typed := tyAdd l.typed "tie" }) fun _ => rfl
      rw [onNew_set W hi] at e5
      rw [e4] at k
      have ef : fieldOf "tie" = "tie" := by decide +kernel
      have er : Txt.removeprefix "write tie" "write " = "tie" := by decide +kernel
      walk_at "rd"
      walk_at "lit"
      walk_at "lit"
      walk_at "lit"
      rw [if_pos (show Txt.startswith "write tie" "write " = true by decide +kernel)]
      walk_at "rd"
      refine k_dgetI (.inl L.nd) (news_get hm) ?_
      walk_at "rd"
      rw [er]
      refine ⟨A.na l.number, A.ta l.number, dx, _, _, l, rfl, hob, L.typ l hm, hty l hm, ?_⟩
      rw [ef]
      rw [if_neg (by decide +kernel)]
      obtain ⟨L2, F2⟩ := L.setNew2 W hi (l' := { l with tie := o, typed := tyAdd l.typed "tie" }) rfl dx
      exact k A S _ L2 (W.congr2 e5.symm rfl rfl) (M.congr2 e5.symm) F2 (Grow.refl S H)
end

set_option Elab.async false
set_option linter.all false
set_option maxRecDepth 100000


local macro_rules | `(tactic| walk_at "lk") => `(tactic| first
  | exact sf_at _
  | exact sf_no _ (by decide +kernel)
  | rfl)
/-! ### a run -/
def stepG (last : Nat) (g : LG) (w : List Str) : LG := match w with
  | [f, x] => if f = "make" then makeTo (decide (x = "all")) g g.old.length else renewAll g f x last
  | [_] => dropAll g
  | _ => g
def runG (ws : List (List Str)) (g : LG) : LG := ws.foldl (stepG g.last) g
theorem menu_form : ∀ w ∈ menu12, w = (["drop"] : List Str) ∨ (∃ x, w = (["make", x] : List Str)) ∨ ∃ f x, w = [f, x] ∧ f ≠ "make" ∧ f ≠ "drop" := by
  have h : ∀ w ∈ menu12, w = (["drop"] : List Str) ∨ (w.length = 2 ∧ w.getD 0 "" = "make") ∨ (w.length = 2 ∧ w.getD 0 "" ≠ "make" ∧ w.getD 0 "" ≠ "drop") := by decide +kernel
  intro w hw
  rcases h w hw with h | ⟨h1, h2⟩ | ⟨h1, h2, h3⟩
  · exact .inl h
  · match w, h1 with
    | [a, b], _ =>
      have : a = "make" := h2
      exact .inr (.inl ⟨b, by rw [this]⟩)
  · match w, h1 with
    | [a, b], _ => exact .inr (.inr ⟨a, b, rfl, h2, h3⟩)
theorem dropAll_fold (ks : List NL) (g : LG) : (ks.foldl dropStep g).old = g.old ∧ (ks.foldl dropStep g).last = g.last := by
  induction ks generalizing g with
  | nil => exact ⟨rfl, rfl⟩
  | cons k ks ih =>
    obtain ⟨h1, h2⟩ := ih (dropStep g k)
    refine ⟨h1.trans (dropStep_old g k), h2.trans ?_⟩
    unfold dropStep
    split <;> rfl
theorem stepG_old (last : Nat) (g : LG) (w : List Str) : (stepG last g w).old = g.old := by
  unfold stepG
  split
  · split
    · exact makeTo_old _ _ _
    · rfl
  · exact (dropAll_fold _ g).1
  · rfl
theorem stepG_last (last : Nat) (g : LG) (w : List Str) : (stepG last g w).last ≤ g.last + g.old.length := by
  unfold stepG
  split
  · split
    · exact makeTo_last _ _ _
    · exact Nat.le_add_right _ _
  · show (dropAll g).last ≤ _
    unfold dropAll
    rw [(dropAll_fold _ g).2]
    exact Nat.le_add_right _ _
  · exact Nat.le_add_right _ _
theorem steps_bound (last : Nat) (ws : List (List Str)) : ∀ g : LG, (ws.foldl (stepG last) g).old = g.old ∧ (ws.foldl (stepG last) g).last ≤ g.last + ws.length * g.old.length := by
  induction ws with
  | nil => exact fun g => ⟨rfl, by simp⟩
  | cons w ws ih =>
    intro g
    obtain ⟨h1, h2⟩ := ih (stepG last g w)
    have h3 := stepG_old last g w
    have h4 := stepG_last last g w
    refine ⟨h1.trans h3, ?_⟩
    rw [h3] at h2
    rw [List.length_cons, Nat.add_mul]
    show (ws.foldl (stepG last) (stepG last g w)).last ≤ _
    omega
theorem runG_old (ws : List (List Str)) (g : LG) : (runG ws g).old = g.old := (steps_bound g.last ws g).1
def spSteps2 (C : Addr) : Sp := fun vs H Q _ => ∃ (p dx l : Addr) (xs : List V), vs = [.ref p] ∧ H p = some (.ins C dx (sf l)) ∧ H l = some (.lst xs) ∧ ∀ r, H r = none → Q (.ref r) (upd H r (.tup xs))
def spRun (K : PySem.W.Frag) (C CL CO CN : Addr) : Sp := fun vs H Q _ => ∃ (p s : Addr) (ws : List (List Str)) (g : LG) (A : LA) (S : Addr → Prop) (H0 : Hp), vs = [.ref p, .ref s] ∧ ScrAt K C H0 s ws ∧ Same H0 H ∧ (∀ b, S b → H0 b = none) ∧ LedA CL CO CN H p g A noFz S ∧ MK g A ∧ WF g ∧ g.last + 13 * g.old.length < 900000 ∧
  ∀ (A' : LA) (S' : Addr → Prop) (H' : Hp), LedA CL CO CN H' p (runG ws g) A' noFz S' → MK (runG ws g) A' → WF (runG ws g) → Frm S H H' → Grow S S' H → Q .non H'
set_option maxHeartbeats 4000000
section
variable {P : Program} {w : World} {K : PySem.W.Frag} {mg : Str → Option Value} {base : Heap}
theorem ok_Script_steps2 (T : Txt w P K mg) : FnOk P w K mg base CX0 1 T.f_Script_steps T.d_Script_steps ["self"] (spSteps2 T.a_Script) := by
  refine T.F_Script_steps.ok sc_Script_steps (fun vs H Q E h => ?_) (fun cdv A outer s H vs Q E hr h => ?_)
  · obtain ⟨p, dx, l, xs, rfl, _⟩ := h
    rfl
  · obtain ⟨p, dx, l, xs, rfl, h1, h2, k⟩ := h
    refine ⟨_, (pss_one (ps_ret (pe_callTy (call_tuple_ofk K) (by rfl) T.m_tuple b_tuple (pa_cons (pe_fldk K (pv 0) rfl) pa_nil)))), ?_⟩
    have c1 := T.cl_Script
    have c2 := T.na_Script__steps
    walk_at "rd"
    rename_i r nr
    exact k r nr
theorem ok_run_script (T : Txt w P K mg) : FnOk P w K mg base CX0 6 T.f_run_script T.d_run_script ["ledgers", "script"] (spRun K T.a_Script T.a_Ledgers T.a_OldLine T.a_NewLine) := by
  refine T.F_run_script.ok sc_run_script (fun vs H Q E h => ?_) (fun cdv A outer s H vs Q E hr h => ?_)
  · obtain ⟨p, s, ws, g, A, S, H0, rfl, _⟩ := h
    rfl
  · obtain ⟨p, s, ws, g, A, S, H0, rfl, ⟨⟨dx, l, xs, h1, h2, h3⟩, h4, h5⟩, s0, hS, L, M, W, hb, k⟩ := h
    refine ⟨_, (pss_cons (ps_set (i := 2) sc_run_script.nd rfl (Or.inl rfl) (pe_fldk K (pv 0) rfl))
  (pss_one (ps_for PassesOwn.never rfl (pi_seqk K (pe_meth0 (pv 1) T.cl_Script T.me_Script_steps (ok_Script_steps2 T) (hr.mono (by decide)) T.b_Script_steps .nil pass0)) (pg_name (i := 3) sc_run_script.nd rfl (Or.inl rfl))
  (pss_one (ps_if (pt_cmpR (op_eqUk K (hu65 hr)) (pe_ix (ix_seqk K) (pv 3) pe_int (fun _ _ => rfl)) pe_str (nomark _)) (pss_one (ps_expr (pe_call (ok_make_lines T) (hr.mono (by decide)) (by rfl) T.m_make_lines T.F_make_lines.kp T.b_make_lines .nil pass0 (pa_cons (pv 0) (pa_cons (pe_ix (ix_seqk K) (pv 3) pe_int (fun _ _ => rfl)) pa_nil))))) (pss_one (ps_if (pt_cmpR (op_eqUk K (hu65 hr)) (pe_ix (ix_seqk K) (pv 3) pe_int (fun _ _ => rfl)) pe_str (nomark _)) (pss_one (ps_expr (pe_call (ok_drop_lines T) (hr.mono (by decide)) (by rfl) T.m_drop_lines T.F_drop_lines.kp T.b_drop_lines .nil pass0 (pa_cons (pv 0) pa_nil)))) (pss_one (ps_expr (pe_call (ok_renew_lines T) (hr.mono (by decide)) (by rfl) T.m_renew_lines T.F_renew_lines.kp T.b_renew_lines .nil pass0 (pa_cons (pv 0) (pa_cons (pe_ix (ix_seqk K) (pv 3) pe_int (fun _ _ => rfl)) (pa_cons (pe_ix (ix_seqk K) (pv 3) pe_int (fun _ _ => rfl)) (pa_cons (pv 2) pa_nil)))))))))))))), ?_⟩
    have c1 := T.cl_Ledgers
    have c2 := T.na_Ledgers_last_new
    have c0 := L.self
    have c3 := T.cl_Script
    have c4 := s0 _ _ h1
    have c5 := s0 _ _ h2
    walk_at "rd"
    refine ⟨s, dx, l, xs, rfl, c4, c5, fun r nr => ?_⟩
    have L1 := (L.except nr).move (H' := upd H r (.tup xs)) fun b o e h => by rw [upd_ne h.2]; exact e
    have hr1 : upd H r (.tup xs) r = some (.tup xs) := upd_same
    have s1 : Same H (upd H r (.tup xs)) := Same.new nr
    generalize upd H r (.tup xs) = H1 at L1 hr1 s1 ⊢
    have hS1 : ∀ b, (S b ∧ b ≠ r) → H0 b = none := fun b h => hS b h.1
    have s01 := s0.trans s1
    walk_at "rd"
    have hlen : xs.length = ws.length := h3.len
    refine k_for (walk_tup (xs := xs)) (fun i σ H' => (∃ v, σ = [some (.ref p), some (.ref s), some (.int (g.last : Nat)), v]) ∧ H' r = some (.tup xs) ∧ ∃ A' S', LedA T.a_Ledgers T.a_OldLine T.a_NewLine H' p ((ws.take i).foldl (stepG g.last) g) A' noFz S' ∧ MK ((ws.take i).foldl (stepG g.last) g) A' ∧ WF ((ws.take i).foldl (stepG g.last) g) ∧ Frm (fun b => S b ∧ b ≠ r) H1 H' ∧ Grow (fun b => S b ∧ b ≠ r) S' H1) ⟨⟨_, rfl⟩, hr1, A, _, L1, M, W, Frm.refl _ _, Grow.refl _ _⟩ (fun i σ H' _ h => SqT.of h.2.1) ?_ ?_
    · rintro i x σ H2 H3 hi ⟨⟨v, rfl⟩, hr3, A', S', L3, M3, W3, F3, G3⟩ ⟨rfl, hx⟩
      obtain ⟨a, wd, e1, e2, e3⟩ := Steps.at_ (j := i) h3 (by omega)
      rw [hx] at e1
      cases e1
      have hfold : (ws.take (i + 1)).foldl (stepG g.last) g = stepG g.last ((ws.take i).foldl (stepG g.last) g) wd := by
        rw [List.take_succ, e2, List.foldl_append]
        rfl
      obtain ⟨b1, b2⟩ := steps_bound g.last (ws.take i) g
      have hnr : ¬ S' r := fun h => (G3 r h).elim (fun h => h.2 rfl) fun h => by rw [hr1] at h; cases h
      have s03 : Same H0 H3 := F3.same s01 hS1
      have e4 := sqT_mono (SameT.of s03) e3
      have hm := h5 wd (List.mem_of_getElem? e2)
      have hlt : (ws.take i).length ≤ 11 := by rw [List.length_take]; omega
      generalize (ws.take i).foldl (stepG g.last) g = gi at L3 M3 W3 hfold b1 b2 ⊢
      have hbb : (ws.take i).length * g.old.length ≤ 11 * g.old.length := Nat.mul_le_mul_right _ hlt
      have fin : ∀ (A2 : LA) (S2 : Addr → Prop) (H4 : Hp), LedA T.a_Ledgers T.a_OldLine T.a_NewLine H4 p (stepG g.last gi wd) A2 noFz S2 → MK (stepG g.last gi wd) A2 → WF (stepG g.last gi wd) → Frm S' H3 H4 → Grow S' S2 H3 →
          (∃ v : Option V, [some (V.ref p), some (V.ref s), some (V.int (g.last : Nat)), some (V.ref a)] = [some (.ref p), some (.ref s), some (.int (g.last : Nat)), v]) ∧ H4 r = some (.tup xs) ∧ ∃ A' S', LedA T.a_Ledgers T.a_OldLine T.a_NewLine H4 p (stepG g.last gi wd) A' noFz S' ∧ MK (stepG g.last gi wd) A' ∧ WF (stepG g.last gi wd) ∧ Frm (fun b => S b ∧ b ≠ r) H1 H4 ∧ Grow (fun b => S b ∧ b ≠ r) S' H1 :=
        fun A2 S2 H4 a1 a2 a3 a4 a5 => ⟨⟨_, rfl⟩, a4 _ _ hr3 hnr, A2, S2, a1, a2, a3, F3.trans G3 a4, G3.trans F3 a5⟩
      rcases menu_form wd hm with rfl | ⟨y, rfl⟩ | ⟨f, y, rfl, n1, n2⟩
      · have e5 : SqT K H3 a [.str "drop"] := e4
        walk_at "rd"
        rw [if_neg (by decide +kernel)]
        walk_at "rd"
        refine ⟨p, gi, A', noFz, S', rfl, L3, M3, W3, rfl, fun A2 H4 L4 M4 W4 F4 => ?_⟩
        rw [hfold]
        exact fin A2 S' H4 L4 M4 W4 F4 (Grow.refl _ _)
      · have e5 : SqT K H3 a [.str "make", .str y] := e4
        walk_at "rd"
        have e6 : stepG g.last gi ["make", y] = makeTo (decide (y = "all")) gi gi.old.length := by
          unfold stepG
          exact if_pos rfl
        refine ⟨p, y, gi, A', noFz, S', rfl, L3, M3, W3, rfl, by rw [b1]; omega, fun A2 S2 H4 L4 M4 W4 F4 G4 => ?_⟩
        rw [hfold]
        rw [e6] at fin ⊢
        exact fin A2 S2 H4 L4 M4 W4 F4 G4
      · have e5 : SqT K H3 a [.str f, .str y] := e4
        have e6 : stepG g.last gi [f, y] = renewAll gi f y g.last := by
          unfold stepG
          exact if_neg n1
        walk_at "rd"
        rw [if_neg (show ¬ f = Str.ofString "make" from n1)]
        walk_at "rd"
        rw [if_neg (show ¬ f = Str.ofString "drop" from n2)]
        walk_at "rd"
        refine ⟨p, f, y, g.last, gi, A', noFz, S', rfl, L3, M3, W3, rfl, fun H4 L4 M4 W4 F4 => ?_⟩
        rw [hfold]
        rw [e6] at fin ⊢
        exact fin A' S' H4 L4 M4 W4 F4 (Grow.refl _ _)
    · rintro σ H3 ⟨⟨v, rfl⟩, hr3, A', S', L3, M3, W3, F3, G3⟩
      rw [hlen, List.take_length] at L3 M3 W3
      refine k A' S' H3 L3 M3 W3 (fun b o e n => F3 b o (s1 b o e) fun h => n h.1) fun b h => ?_
      rcases G3 b h with h | h
      · exact .inl h.1
      · exact .inr (Same.none_of s1 h)
end

set_option Elab.async false
set_option linter.all false
set_option maxRecDepth 100000


/-! ### a history -/
def actG (ws : List (List Str)) (g : LG) (d : Dd) : LG := match d with
  | .run => runG ws g
  | d => doG g d
def g0 : LG := ⟨[], [], 0⟩
def playG (ws : List (List Str)) (ds : List Dd) : LG := ds.foldl (actG ws) g0
def Playable (ws : List (List Str)) : LG → List Dd → Prop
  | _, [] => True
  | g, d :: ds => d.there g ∧ Playable ws (actG ws g d) ds
theorem Playable.at_ {ws : List (List Str)} : ∀ {g : LG} {ds : List Dd} {i : Nat} {d : Dd}, Playable ws g ds → ds[i]? = some d → d.there ((ds.take i).foldl (actG ws) g)
  | _, [], _, _, _, e => by simp at e
  | _, x :: ds, 0, _, h, e => by
    cases e
    exact h.1
  | g, x :: ds, i + 1, d, h, e => by
    have e' : ds[i]? = some d := by simpa using e
    exact Playable.at_ (g := actG ws g x) h.2 e'
def tyS : List (List Str) := [[], ["label"], ["tie"], ["label", "tie"], ["tie", "label"]]
def TY (g : LG) : Prop := ∀ l ∈ g.new, l.typed ∈ tyS
theorem tyS_add : ∀ t ∈ tyS, tyAdd t "label" ∈ tyS ∧ tyAdd t "tie" ∈ tyS := by decide +kernel
theorem tyS_len : ∀ t ∈ tyS, t.length < 1000 := by decide +kernel
theorem TY.key {g g' : LG} (h : g'.new.map key = g.new.map key) (t : TY g) : TY g' := fun l hl => by
  obtain ⟨l', hl', e⟩ := key_mem h.symm hl
  rw [← show l'.typed = l.typed from congrArg (·.2.2) e]
  exact t l' hl'
theorem TY.addN {g : LG} (t : TY g) (b s : Int) (o : Option Nat) : TY (g.addN b s o) := fun l hl => by
  rcases List.mem_append.mp hl with h | h
  · exact t l h
  · rw [List.mem_singleton.mp h]
    exact List.mem_cons_self
theorem TY.make {g : LG} (t : TY g) (all : Bool) : ∀ i, TY (makeTo all g i)
  | 0 => t
  | i + 1 => by
    have h := TY.make t all i
    show TY (makeStep all i (makeTo all g i))
    unfold makeStep
    split
    · exact h
    · split
      · exact h.addN _ _ _
      · exact h
theorem TY.drop {g : LG} (t : TY g) (n : Nat) : TY (g.drop n) := fun l hl => by
  obtain ⟨l', hl', rfl⟩ := List.mem_map.mp hl
  have e : (untie n l').typed = l'.typed := by
    unfold untie
    split <;> rfl
  rw [e]
  exact t l' (cut_mem.mp hl').1
theorem TY.dropAll (ks : List NL) : ∀ {g : LG}, TY g → TY (ks.foldl dropStep g) := by
  induction ks with
  | nil => exact fun t => t
  | cons k ks ih =>
    intro g t
    refine ih (g := dropStep g k) ?_
    unfold dropStep
    split
    · exact t
    · exact t.drop _
theorem TY.step {g : LG} (t : TY g) (last : Nat) (w : List Str) : TY (stepG last g w) := by
  unfold stepG
  split
  · split
    · exact t.make _ _
    · exact TY.key (g := g) (upOn_key (renewF_key g _ _ _) _ g.new) t
  · exact TY.dropAll _ t
  · exact t
theorem TY.run {g : LG} (t : TY g) (ws : List (List Str)) : TY (runG ws g) := by
  unfold runG
  generalize g.last = n
  induction ws generalizing g with
  | nil => exact t
  | cons w ws ih => exact ih (t.step n w)
theorem TY.onNew {g : LG} (t : TY g) (n : Nat) (f : NL → NL) (hf : ∀ l, l.typed ∈ tyS → (f l).typed ∈ tyS) : TY (g.onNew n f) := fun l hl => by
  obtain ⟨l', hl', rfl⟩ := List.mem_map.mp hl
  show (if l'.number = n then f l' else l').typed ∈ tyS
  split
  · exact hf l' (t l' hl')
  · exact t l' hl'
theorem onOld_new (g : LG) (n : Nat) (f : OL → OL) : (g.onOld n f).new = g.new ∧ (g.onOld n f).last = g.last ∧ (g.onOld n f).old.length = g.old.length := by
  unfold LG.onOld
  split
  · exact ⟨rfl, rfl, rfl⟩
  · exact ⟨rfl, rfl, List.length_set⟩
theorem TY.act {g : LG} (t : TY g) (ws : List (List Str)) (d : Dd) : TY (actG ws g d) := by
  cases d with
  | run => exact t.run ws
  | add b s => exact t
  | own b => exact t.addN _ _ _
  | wlabel n b => exact t.onNew n _ fun l h => (tyS_add _ h).1
  | wmoves n b => exact t.onNew n _ fun l h => h
  | wtie n b => exact t.onNew n _ fun l h => (tyS_add _ h).2
  | label n b => exact fun l hl => t l (by rw [← (onOld_new g n _).1]; exact hl)
  | moves n b => exact fun l hl => t l (by rw [← (onOld_new g n _).1]; exact hl)
  | tie n b => exact fun l hl => t l (by rw [← (onOld_new g n _).1]; exact hl)
  | stop n => exact fun l hl => t l (by rw [← (onOld_new g n _).1]; exact hl)
def Bnd (k : Nat) (g : LG) : Prop := g.old.length ≤ k ∧ g.last ≤ 2500 * k
theorem Bnd.act {k : Nat} {g : LG} (b : Bnd k g) (hk : k ≤ 205) {ws : List (List Str)} (hw : ws.length ≤ 12) (d : Dd) : Bnd (k + 1) (actG ws g d) := by
  obtain ⟨b1, b2⟩ := b
  have run : Bnd (k + 1) (runG ws g) := by
    obtain ⟨h1, h2⟩ := steps_bound g.last ws g
    have h3 : ws.length * g.old.length ≤ 12 * g.old.length := Nat.mul_le_mul_right _ hw
    refine ⟨?_, ?_⟩
    · rw [runG_old]
      omega
    · show (ws.foldl (stepG g.last) g).last ≤ _
      omega
  have old : ∀ n f, Bnd (k + 1) (g.onOld n f) := fun n f => by
    obtain ⟨h1, h2, h3⟩ := onOld_new g n f
    exact ⟨by omega, by omega⟩
  cases d with
  | run => exact run
  | add b s => exact ⟨by show (g.old ++ [_]).length ≤ _; rw [List.length_append, List.length_cons, List.length_nil]; omega, by show g.last ≤ _; omega⟩
  | own b => exact ⟨by show g.old.length ≤ _; omega, by show g.last + 1 ≤ _; omega⟩
  | wlabel n b => exact ⟨by show g.old.length ≤ _; omega, by show g.last ≤ _; omega⟩
  | wmoves n b => exact ⟨by show g.old.length ≤ _; omega, by show g.last ≤ _; omega⟩
  | wtie n b => exact ⟨by show g.old.length ≤ _; omega, by show g.last ≤ _; omega⟩
  | label n b => exact old _ _
  | moves n b => exact old _ _
  | tie n b => exact old _ _
  | stop n => exact old _ _
theorem Bnd.play {ws : List (List Str)} (hw : ws.length ≤ 12) : ∀ (ds : List Dd) (k : Nat) (g : LG), Bnd k g → k + ds.length ≤ 206 → Bnd (k + ds.length) (ds.foldl (actG ws) g)
  | [], _, _, b, _ => b
  | d :: ds, k, g, b, h => by
    rw [List.length_cons] at h ⊢
    have := Bnd.play hw ds (k + 1) (actG ws g d) (b.act (by omega) hw d) (by omega)
    rw [show k + (ds.length + 1) = k + 1 + ds.length by omega]
    exact this
theorem Bnd.le {k m : Nat} {g : LG} (b : Bnd k g) (h : k ≤ m) : Bnd m g := ⟨Nat.le_trans b.1 h, by have := b.2; omega⟩
theorem TY.play (ws : List (List Str)) : ∀ (ds : List Dd) {g : LG}, TY g → TY (ds.foldl (actG ws) g)
  | [], _, t => t
  | d :: ds, _, t => TY.play ws ds (t.act ws d)
def spCarry (K : PySem.W.Frag) (C CL CO CN : Addr) : Sp := fun vs H Q _ => ∃ (p s a : Addr) (i : Int) (d : Dd) (ws : List (List Str)) (g : LG) (A : LA) (S : Addr → Prop) (H0 : Hp), vs = [.ref p, .ref s, .int i, .ref a] ∧ DeedAt K H0 a d ∧ ScrAt K C H0 s ws ∧ Same H0 H ∧ (∀ b, S b → H0 b = none) ∧ LedA CL CO CN H p g A noFz S ∧ MK g A ∧ WF g ∧ TY g ∧ d.there g ∧ Bnd 205 g ∧
  ∀ (A' : LA) (S' : Addr → Prop) (H' : Hp), LedA CL CO CN H' p (actG ws g d) A' noFz S' → MK (actG ws g d) A' → WF (actG ws g d) → Frm S H H' → Grow S S' H → Q .non H'
set_option maxHeartbeats 4000000
section
variable {P : Program} {w : World} {K : PySem.W.Frag} {mg : Str → Option Value} {base : Heap}
theorem ok_carry_out (T : Txt w P K mg) : FnOk P w K mg base (L2.CX P w) 7 T.f_carry_out T.d_carry_out ["ledgers", "script", "index", "deed"] (spCarry K T.a_Script T.a_Ledgers T.a_OldLine T.a_NewLine) := by
  refine T.F_carry_out.okX sc_carry_out (fun vs H Q E h => ?_) (fun cdv A outer s H vs Q E hr h => ?_)
  · obtain ⟨p, s, a, i, d, ws, g, A, S, H0, rfl, _⟩ := h
    rfl
  · obtain ⟨p, s, a, i, d, ws, g, A, S, H0, rfl, hd, hs, s0, hS, L, M, W, t, ht, b, k⟩ := h
    refine ⟨_, (pss_cons (ps_if (pt_not (pt_val (pe_call (ok_has_lines T) (hr.mono (by decide)) (by rfl) T.m_has_lines T.F_has_lines.kp T.b_has_lines .nil pass0 (pa_cons (pv 0) (pa_cons (pv 3) pa_nil))))) (pss_one (ps_raiseErr rfl T.er_NoLine (by simp) hr (takes_of rfl rfl rfl rfl) (pa_cons (pv 2) pa_nil) (by rfl) (by decide))) pss_nil)
  (pss_one (ps_if (pt_cmpR (op_eqUk K (hu65 hr)) (pe_ix (ix_seqk K) (pv 3) pe_int (fun _ _ => rfl)) pe_str (nomark _)) (pss_one (ps_expr (pe_call (ok_run_script T) (hr.mono (by decide)) (by rfl) T.m_run_script T.F_run_script.kp T.b_run_script .nil pass0 (pa_cons (pv 0) (pa_cons (pv 1) pa_nil))))) (pss_one (ps_expr (pe_call (ok_do_deed T) (hr.mono (by decide)) (by rfl) T.m_do_deed T.F_do_deed.kp T.b_do_deed .nil pass0 (pa_cons (pv 0) (pa_cons (pv 3) pa_nil)))))))), ?_⟩
    have b1 := b.1
    have b2 := b.2
    have hlen := hs.len
    walk_at "rd"
    refine ⟨p, a, d, g, A, noFz, S, rfl, sqT_mono (SameT.of s0) hd, L, ht, fun H1 s1 => ?_⟩
    have L1 := L.move (H' := H1) fun b o e _ => s1 b o e
    have hd1 : SqT K H1 a (.str d.word :: d.vals) := sqT_mono (SameT.of (s0.trans s1)) hd
    have fr : ∀ {H2 : Hp}, Frm S H1 H2 → Frm S H H2 := fun f b o e n => f b o (s1 b o e) n
    have gr : ∀ {S2 : Addr → Prop}, Grow S S2 H1 → Grow S S2 H := fun f b h => (f b h).elim .inl fun h => .inr (Same.none_of s1 h)
    walk_at "rd"
    refine k_ixT hd1 (at_of (j := 0) rfl rfl) ?_
    walk_at "rd"
    by_cases hrun : d = .run
    · subst hrun
      rw [if_pos (show Dd.word .run = "run" from rfl)]
      walk_at "rd"
      exact ⟨p, s, ws, g, A, S, H0, rfl, hs, s0.trans s1, hS, L1, M, W, by omega, fun A2 S2 H2 L2 M2 W2 F2 G2 => k A2 S2 H2 L2 M2 W2 (fr F2) (gr G2)⟩
    · have hw : ¬ d.word = "run" := by
        cases d with
        | run => exact absurd rfl hrun
        | add b s => exact (show ¬ ("add" : Str) = "run" by decide +kernel)
        | label n b => exact (show ¬ ("label" : Str) = "run" by decide +kernel)
        | moves n b => exact (show ¬ ("moves" : Str) = "run" by decide +kernel)
        | tie n b => exact (show ¬ ("tie" : Str) = "run" by decide +kernel)
        | stop n => exact (show ¬ ("end" : Str) = "run" by decide +kernel)
        | own n => exact (show ¬ ("own" : Str) = "run" by decide +kernel)
        | wlabel n b => exact (show ¬ ("write label" : Str) = "run" by decide +kernel)
        | wmoves n b => exact (show ¬ ("write moves" : Str) = "run" by decide +kernel)
        | wtie n b => exact (show ¬ ("write tie" : Str) = "run" by decide +kernel)
      have e : actG ws g d = doG g d := by
        cases d with
        | run => exact absurd rfl hrun
        | _ => rfl
      rw [e] at k
      rw [if_neg hw]
      walk_at "rd"
      exact ⟨p, a, d, g, A, S, rfl, hd1, hrun, L1, W, M, ht, by omega, by omega, fun l hl => tyS_len _ (t l hl), fun A2 S2 H2 L2 W2 M2 F2 G2 => k A2 S2 H2 L2 M2 W2 (fr F2) (gr G2)⟩
def spPlay (K : PySem.W.Frag) (C : Addr) : Sp := fun vs H Q _ => ∃ (s l : Addr) (ws : List (List Str)) (xs : List V) (ds : List Dd), vs = [.ref s, .ref l] ∧ ScrAt K C H s ws ∧ SqL K H l xs ∧ Deeds K H xs ds ∧ (∀ d ∈ ds, d.Ok) ∧ ds.length ≤ 205 ∧ Playable ws g0 ds ∧
  ∀ (t q1 q2 : Addr) (H' : Hp), Same H H' → H t = none → H q1 = none → H q2 = none → q1 ≠ q2 → H' t = some (.tup [.ref q1, .ref q2]) → RowsL H' q1 (playG ws ds).old.length (orows (playG ws ds)) → RowsL H' q2 (playG ws ds).new.length (nrows (playG ws ds)) → Q (.ref t) H'
theorem RowsL.same {H H' : Hp} {q : Addr} {n : Nat} {row : Nat → List V} (s : Same H H') : RowsL H q n row → RowsL H' q n row := fun ⟨acc, h1, h2, h3⟩ => ⟨acc, s _ _ h1, h2, fun j hj => by
  obtain ⟨r, e1, e2⟩ := h3 j hj
  exact ⟨r, e1, s _ _ e2⟩⟩
theorem ok_play (T : Txt w P K mg) : FnOk P w K mg base (L2.CX P w) 8 T.f_play T.d_play ["script", "deeds"] (spPlay K T.a_Script) := by
  refine T.F_play.okX sc_play (fun vs H Q E h => ?_) (fun cdv A outer s H vs Q E hr h => ?_)
  · obtain ⟨s, l, ws, xs, ds, rfl, _⟩ := h
    rfl
  · obtain ⟨s, l, ws, xs, ds, rfl, hs, hl, hd, ho, hlen, hp, k⟩ := h
    obtain ⟨es, hv_check_deeds, hb_check_deeds⟩ := T.bd_check_deeds
    refine ⟨_, (pss_cons (ps_expr (pe_call (ok_check_deeds T) (hr.mono (by decide)) (by rfl) T.m_check_deeds T.F_check_deeds.kp hb_check_deeds hv_check_deeds (passes_call (takes_of rfl rfl rfl rfl) (fun _ _ _ _ z => z)) (pa_cons (pv 1) pa_nil)))
  (pss_cons (ps_set (i := 2) sc_play.nd rfl (Or.inl rfl) (pe_make0 T.M_Ledgers (ok_Ledgers___init__ T) (hr.mono (by decide)) (by rfl) T.m_Ledgers T.b_Ledgers___init__ .nil pass0))
  (pss_cons (ps_for (passes_of rfl) rfl (pi_enum (by rfl) T.m_enumerate (pa_cons (pv 1) pa_nil)) (pg_tup (n := 2) rfl (pgs_cons (pg_name (i := 3) sc_play.nd rfl (Or.inl rfl)) (pgs_cons (pg_name (i := 4) sc_play.nd rfl (Or.inl rfl)) pgs_nil)))
  (pss_one (ps_expr (pe_call (ok_carry_out T) (hr.mono (by decide)) (by rfl) T.m_carry_out T.F_carry_out.kp T.b_carry_out .nil (passes_call (takes_of rfl rfl rfl rfl) (fun _ _ _ _ z => z)) (pa_cons (pv 2) (pa_cons (pv 0) (pa_cons (pv 3) (pa_cons (pv 4) pa_nil))))))))
  (pss_one (ps_ret (pe_tup (pa_cons (pe_meth0 (pv 2) T.cl_Ledgers T.me_Ledgers_old_rows (ok_Ledgers_old_rows T) (hr.mono (by decide)) T.b_Ledgers_old_rows .nil pass0) (pa_cons (pe_meth0 (pv 2) T.cl_Ledgers T.me_Ledgers_new_rows (ok_Ledgers_new_rows T) (hr.mono (by decide)) T.b_Ledgers_new_rows .nil pass0) pa_nil)))))))), ?_⟩
    walk_at "rd"
    refine ⟨l, 0, xs, ds, rfl, hl, by omega, by omega, hd, ho, fun H1 s1 => ?_⟩
    have c1 := T.cl_Ledgers
    walk_at "rd"
    intro p dx np ndx ndp
    refine ⟨p, dx, rfl, upd_same, fun A H2 L2 M2 n1 n2 n3 f2 => ⟨rfl, ?_⟩⟩
    have s12 : Same H1 H2 := fun b o e => f2 b o (by rw [upd_ne (ne_of_none e np), upd_ne (ne_of_none e ndx)]; exact e) (ne_of_none e np)
    have hS : ∀ b, (fun b => b = p ∨ b = A.od ∨ b = A.nd ∨ b = A.md) b → H1 b = none := by
      rintro b (rfl | rfl | rfl | rfl)
      · exact np
      · exact (free_upd (free_upd n1).2).2
      · exact (free_upd (free_upd n2).2).2
      · exact (free_upd (free_upd n3).2).2
    generalize (fun b => b = p ∨ b = A.od ∨ b = A.nd ∨ b = A.md) = S0 at L2 hS
    have hl1 := sqL_same s1 hl
    have hd1 := hd.mono (SameT.of s1)
    have hs1 := hs.same s1
    have hlx : xs.length = ds.length := Paired.length hd
    have hw := hs.len
    have W0 : WF g0 := { num := List.Pairwise.nil, last := fun l h => absurd h List.not_mem_nil, src := fun l h => absurd h List.not_mem_nil, one := List.Pairwise.nil, few := Nat.zero_le _, most := Nat.zero_le _ }
    walk_at "rd"
    refine k_enum (sqL_same s12 hl1) ?_
    refine k_for (walk_enum (K := K) (a := l) (xs := xs)) (fun i σ H' => (∃ v1 v2 : Option V, σ = [some (.ref s), some (.ref l), some (.ref p), v1, v2]) ∧ ∃ A' S', LedA T.a_Ledgers T.a_OldLine T.a_NewLine H' p ((ds.take i).foldl (actG ws) g0) A' noFz S' ∧ MK ((ds.take i).foldl (actG ws) g0) A' ∧ WF ((ds.take i).foldl (actG ws) g0) ∧ Frm S0 H2 H' ∧ Grow S0 S' H2) ⟨⟨_, _, rfl⟩, A, S0, L2, M2, W0, Frm.refl _ _, Grow.refl _ _⟩ (fun i σ H' _ h => ?_) ?_ ?_
    · obtain ⟨_, _, _, _, _, _, F, _⟩ := h
      exact sqL_same (F.same s12 hS) hl1
    · rintro i x σ H3 H4 hi ⟨⟨v1, v2, rfl⟩, A', S', L3, M3, W3, F3, G3⟩ ⟨r, x0, x1, rfl, nr, rfl, e0, e1⟩
      cases e0
      obtain ⟨a, d, hb1, hb2, hb3⟩ := Deeds.at_ (j := i) hd1 (by omega)
      have e1' : xs[i]? = some x1 := e1
      rw [hb1] at e1'
      cases e1'
      have sr : Same H3 (upd H3 r (.tup [.int (i : Nat), .ref a])) := Same.new nr
      have s13 : Same H1 (upd H3 r (.tup [.int (i : Nat), .ref a])) := (F3.same s12 hS).trans sr
      have L4 := L3.move (H' := upd H3 r (.tup [.int (i : Nat), .ref a])) fun b o e _ => sr b o e
      have hS' : ∀ b, S' b → H1 b = none := fun b h => (G3 b h).elim (hS b) fun h => Same.none_of s12 h
      have hfold : (ds.take (i + 1)).foldl (actG ws) g0 = actG ws ((ds.take i).foldl (actG ws) g0) d := by
        rw [List.take_succ, hb2, List.foldl_append]
        rfl
      have hbd : Bnd 205 ((ds.take i).foldl (actG ws) g0) := (Bnd.play hw (ds.take i) 0 g0 ⟨Nat.zero_le _, Nat.zero_le _⟩ (by rw [List.length_take]; omega)).le (by rw [List.length_take]; omega)
      have hty : TY ((ds.take i).foldl (actG ws) g0) := TY.play ws _ fun l h => absurd h List.not_mem_nil
      have hth := hp.at_ hb2
      refine k_pair upd_same ?_
      generalize upd H3 r (.tup [.int (i : Nat), .ref a]) = H4 at sr s13 L4 ⊢
      generalize (ds.take i).foldl (actG ws) g0 = gi at L3 M3 W3 L4 hfold hbd hty hth
      walk_at "rd"
      refine ⟨p, s, a, i, d, ws, gi, A', S', H1, rfl, hb3, hs1, s13, hS', L4, M3, W3, hty, hth, hbd, fun A2 S2 H5 L5 M5 W5 F5 G5 => ⟨⟨_, _, rfl⟩, A2, S2, ?_⟩⟩
      rw [hfold]
      exact ⟨L5, M5, W5, F3.trans G3 fun b o e n => F5 b o (sr b o e) n, G3.trans F3 fun b h => (G5 b h).elim .inl fun h => .inr (Same.none_of sr h)⟩
    · rintro σ H3 ⟨⟨v1, v2, rfl⟩, A', S', L3, M3, W3, F3, G3⟩
      rw [hlx, List.take_length] at L3 M3 W3
      have L3' : LedA T.a_Ledgers T.a_OldLine T.a_NewLine H3 p (playG ws ds) A' noFz S' := L3
      have W3' : WF (playG ws ds) := W3
      have s13 := F3.same s12 hS
      have s03 := s1.trans s13
      have d3 := L3'.self
      generalize playG ws ds = g at L3' W3' d3 k
      walk_at "rd"
      refine ⟨p, g, A', noFz, S', rfl, L3', rfl, by have := W3'.few; omega, fun q1 H4 nq1 s4 r1 => ?_⟩
      have L4 := L3'.move (H' := H4) fun b o e _ => s4 b o e
      have d4 := L4.self
      walk_at "rd"
      refine ⟨p, g, A', noFz, S', rfl, L4, rfl, by have := W3'.newLen; have := W3'.most; omega, fun q2 H5 nq2 s5 r2 => ?_⟩
      walk_at "rd"
      rename_i t nt
      have st := Same.new nt (o := .tup [.ref q1, .ref q2])
      obtain ⟨acc, ha, _⟩ := id r1
      exact k t q1 q2 _ ((s03.trans s4).trans (s5.trans st)) (Same.none_of ((s03.trans s4).trans s5) nt) (Same.none_of s03 nq1) (Same.none_of (s03.trans s4) nq2) (ne_of_none ha nq2) upd_same (r1.same (s5.trans st)) (r2.same st)
end

set_option Elab.async false
set_option linter.all false
set_option maxRecDepth 100000


def tyd (l : NL) (f : Str) : Bool := (valV (typedK l) (Sum.inr f)).isSome
def spLabel : Sp := fun vs H Q _ => ∃ (a : Addr) (n : Nat), vs = [.ref a] ∧ WellAt H a n ∧ n ≤ 900000 ∧ ∀ (b : Int) (H' : Hp), 0 ≤ b → b ≤ 999999999999999999999999999999 → WellAt H' a (n + 10) → But a H H' → Q (.int b) H'
def spAmount : Sp := fun vs H Q _ => ∃ (a : Addr) (n : Nat), vs = [.ref a] ∧ WellAt H a n ∧ n ≤ 900000 ∧ ∀ (b : Int) (H' : Hp), -1000000000000 ≤ b → b ≤ 1000000000000 → WellAt H' a (n + 10) → But a H H' → Q (.int b) H'
set_option maxHeartbeats 4000000
section
variable {P : Program} {w : World} {K : PySem.W.Frag} {mg : Str → Option Value} {base : Heap}
theorem ok__law_label (T : Txt w P K mg) : FnOk P w K mg base CX0 2 T.f__law_label T.d__law_label ["well"] spLabel := by
  refine T.F__law_label.ok sc__law_label (fun vs H Q E h => ?_) (fun cdv A outer s H vs Q E hr h => ?_)
  · obtain ⟨a, n, rfl, _⟩ := h
    rfl
  · obtain ⟨a, n, rfl, hw, hn, k⟩ := h
    refine ⟨_, (pss_cons (ps_par (i := 1) (j := 2) rfl sc__law_label.nd rfl rfl (by decide) rfl rfl (pa_cons (pe_call (ok__law_draw T) (hr.mono (by decide)) (by rfl) T.m__law_draw T.F__law_draw.kp T.b__law_draw .nil pass0 (pa_cons (pv 0) (pa_cons (pe_op op_powW pe_int pe_int) pa_nil))) (pa_cons (pe_op op_sub (pe_op op_sub (pe_op op_powW pe_int pe_int) pe_int) (pe_call (ok__law_draw T) (hr.mono (by decide)) (by rfl) T.m__law_draw T.F__law_draw.kp T.b__law_draw .nil pass0 (pa_cons (pv 0) (pa_cons pe_int pa_nil)))) pa_nil)) (by rfl))
  (pss_one (ps_ret (pe_ix (ix_seqk K) (pe_lst (pa_cons (pe_call (ok__law_draw T) (hr.mono (by decide)) (by rfl) T.m__law_draw T.F__law_draw.kp T.b__law_draw .nil pass0 (pa_cons (pv 0) (pa_cons pe_int pa_nil))) (pa_cons (pe_call (ok__law_draw T) (hr.mono (by decide)) (by rfl) T.m__law_draw T.F__law_draw.kp T.b__law_draw .nil pass0 (pa_cons (pv 0) (pa_cons pe_int pa_nil))) (pa_cons (pv 1) (pa_cons (pv 2) pa_nil))))) (pe_call (ok__law_draw T) (hr.mono (by decide)) (by rfl) T.m__law_draw T.F__law_draw.kp T.b__law_draw .nil pass0 (pa_cons (pv 0) (pa_cons pe_int pa_nil))) (fun _ _ => rfl))))), ?_⟩
    walk_at "rd"
    refine ⟨a, _, n, rfl, hw, by omega, by decide, by decide, fun d1 H1 d10 d11 w1 k1 => ?_⟩
    walk_at "rd"
    refine ⟨a, _, _, rfl, w1, by omega, by decide, by decide, fun d2 H2 d20 d21 w2 k2 => ?_⟩
    walk_at "rd"
    refine ⟨a, _, _, rfl, w2, by omega, by decide, by decide, fun d3 H3 d30 d31 w3 k3 => ?_⟩
    walk_at "rd"
    refine ⟨a, _, _, rfl, w3, by omega, by decide, by decide, fun d4 H4 d40 d41 w4 k4 => ?_⟩
    walk_at "rd"
    rename_i l nl
    refine ⟨a, _, _, rfl, w4.new nl, by omega, by decide, by decide, fun d5 H5 d50 d51 w5 k5 => ?_⟩
    have hl5 := k5 _ _ upd_same (w4.ne nl)
    have bt : But a H H5 := (But.trans k1 (But.trans k2 (But.trans k3 (But.trans k4 (But.of (Same.new nl)))))).trans k5
    have fin : ∀ b : Int, 0 ≤ b → b ≤ 999999999999999999999999999999 → Q (.int b) H5 := fun b h1 h2 => k b H5 h1 h2 (w5.le (by omega)) bt
    have key : d5 = 0 ∨ d5 = 1 ∨ d5 = 2 ∨ d5 = 3 := by omega
    rcases key with rfl | rfl | rfl | rfl
    · walk_at "rd"
      exact fin _ (by omega) (by omega)
    · walk_at "rd"
      exact fin _ (by omega) (by omega)
    · walk_at "rd"
      exact fin _ (by omega) (by omega)
    · walk_at "rd"
      exact fin _ (by omega) (by omega)
end

set_option Elab.async false
set_option linter.all false
set_option maxRecDepth 100000


/-! ### the same twice, kind by kind -/
inductive TLk (K : PySem.W.Frag) (H : Hp) : Nat → V → V → Prop where
  | non (n : Nat) : TLk K H n .non .non
  | bl (n : Nat) (i : Bool) : TLk K H n (.bl i) (.bl i)
  | int (n : Nat) (i : Int) : TLk K H n (.int i) (.int i)
  | str (n : Nat) (i : Str) : TLk K H n (.str i) (.str i)
  | tup {n : Nat} {a b : Addr} {xs ys : List V} (h1 : SqT K H a xs) (h2 : SqT K H b ys) (hl : xs.length = ys.length) (hz : ys.length ≤ 900000) (h : ∀ (i : Nat) x y, xs[i]? = some x → ys[i]? = some y → TLk K H n x y) : TLk K H (n + 1) (.ref a) (.ref b)
  | lst {n : Nat} {a b : Addr} {xs ys : List V} (h1 : SqL K H a xs) (h2 : SqL K H b ys) (hl : xs.length = ys.length) (hz : ys.length ≤ 900000) (h : ∀ (i : Nat) x y, xs[i]? = some x → ys[i]? = some y → TLk K H n x y) : TLk K H (n + 1) (.ref a) (.ref b)
theorem TLk.mono {K : PySem.W.Frag} {H H' : Hp} (e : Same H H') : ∀ {n : Nat} {x y : V}, TLk K H n x y → TLk K H' n x y
  | _, _, _, .non n => .non n
  | _, _, _, .bl n i => .bl n i
  | _, _, _, .int n i => .int n i
  | _, _, _, .str n i => .str n i
  | _, _, _, .tup h1 h2 hl hz h => .tup (sqT_mono (SameT.of e) h1) (sqT_mono (SameT.of e) h2) hl hz fun i x y hx hy => TLk.mono e (h i x y hx hy)
  | _, _, _, .lst h1 h2 hl hz h => .lst (sqL_same e h1) (sqL_same e h2) hl hz fun i x y hx hy => TLk.mono e (h i x y hx hy)
theorem ka_bs_bool {K : PySem.W.Frag} : PySem.W.kitAny K (.type "bool") [.type "bool", .type "str"] = some true := kitAny_cons kt_self (fun z => nomatch z) fun _ => rfl
theorem ka_bs_str {K : PySem.W.Frag} : PySem.W.kitAny K (.type "str") [.type "bool", .type "str"] = some true := kitAny_cons kt_str_bool (fun _ => kitAny_cons kt_self (fun z => nomatch z) fun _ => rfl) fun z => nomatch z
theorem ka_bs_int {K : PySem.W.Frag} : PySem.W.kitAny K (.type "int") [.type "bool", .type "str"] = some false := kitAny_cons kt_int_bool (fun _ => kitAny_cons kt_int_str (fun _ => rfl) fun z => nomatch z) fun z => nomatch z
def spLike (K : PySem.W.Frag) (n : Nat) : Sp := fun vs H Q _ => ∃ x y, vs = [x, y] ∧ TLk K H n x y ∧ ∀ H', Same H H' → Q (.bl true) H'
set_option maxHeartbeats 4000000
section
variable {P : Program} {w : World} {K : PySem.W.Frag} {mg : Str → Option Value} {base : Heap}
theorem like_step (T : Txt w P K mg) {n : Nat} {sp' : Sp} (G : FnOk P w K mg base CX0 n T.f__law_like T.d__law_like ["told", "due"] sp')
    (hG : ∀ (m : Nat) (H : Hp) (x y : V) (Q : VK) (E : XK), n = m + 1 → TLk K H m x y → (∀ H', Same H H' → Q (.bl true) H') → sp' [x, y] H Q E) :
    FnOk P w K mg base CX0 (n + 1) T.f__law_like T.d__law_like ["told", "due"] (spLike K n) := by
  refine T.F__law_like.ok sc__law_like (fun vs H Q E h => ?_) (fun cdv A outer s H vs Q E hr h => ?_)
  · obtain ⟨x, y, rfl, _⟩ := h
    rfl
  · obtain ⟨x, y, rfl, h, k⟩ := h
    refine ⟨_, (pss_cons (ps_if (pt_cmpR op_isU (pv 1) pe_non (nomark _)) (pss_one (ps_ret (pe_cmpR op_isU (pv 0) pe_non (nomark _)))) pss_nil)
  (pss_cons (ps_if (pt_val (pe_callB (call_isiUk K) (by rfl) T.m_isinstance b_isinstance (pa_cons (pv 1) (pa_cons (pe_tup (pa_cons (pe_bty (by rfl) T.m_list b_list) (pa_cons (pe_bty (by rfl) T.m_tuple b_tuple) pa_nil))) pa_nil)))) (pss_cons (ps_if (PW.pt (pw_or (pt_cmpR (op_neUk K (hu65 hr)) (pe_callB (call_isiUk K) (by rfl) T.m_isinstance b_isinstance (pa_cons (pv 0) (pa_cons (pe_bty (by rfl) T.m_list b_list) pa_nil))) (pe_callB (call_isiUk K) (by rfl) T.m_isinstance b_isinstance (pa_cons (pv 1) (pa_cons (pe_bty (by rfl) T.m_list b_list) pa_nil))) (nomark _)) (pw_or1 (pt_cmpR (op_neUk K (hu65 hr)) (pe_callB (call_isiUk K) (by rfl) T.m_isinstance b_isinstance (pa_cons (pv 0) (pa_cons (pe_bty (by rfl) T.m_tuple b_tuple) pa_nil))) (pe_callB (call_isiUk K) (by rfl) T.m_isinstance b_isinstance (pa_cons (pv 1) (pa_cons (pe_bty (by rfl) T.m_tuple b_tuple) pa_nil))) (nomark _))))) (pss_one (ps_ret pe_bl)) pss_nil)
  (pss_one (ps_ret (pe_and (pe_cmpR (op_eqUk K (hu65 hr)) (pe_callB (call_lenUk K) (by rfl) T.m_len b_len (pa_cons (pv 0) pa_nil)) (pe_callB (call_lenUk K) (by rfl) T.m_len b_len (pa_cons (pv 1) pa_nil)) (nomark _)) (pe_one (pe_callB (cr_allk K rfl) (by rfl) T.m_all b_all (pa_cons (pe_lc (own := [("k", 2)]) (g := (gName 2)) (tt := tYes) rfl sc__law_like.nd (pi_range1 (by rfl) T.m_range (pa_cons (pe_callB (call_lenUk K) (by rfl) T.m_len b_len (pa_cons (pv 1) pa_nil)) pa_nil)) (blkOk_by (own := [("k", 2)]) (N := N__law_like) (sc := defScope s__law_like) (by decide +kernel)) (fun _ _ _ _ _ => (pg_name (i := 2) sc__law_like.nd rfl (Or.inl rfl))) (fun _ _ _ _ _ => pts_nil) (fun _ _ _ _ _ => (pe_call G hr (by rfl) T.m__law_like T.F__law_like.kp T.b__law_like .nil pass0 (pa_cons (pe_ix (ix_seqk K) (pv 0) (pv 2) (fun _ _ => rfl)) (pa_cons (pe_ix (ix_seqk K) (pv 1) (pv 2) (fun _ _ => rfl)) pa_nil))))) pa_nil))))))) pss_nil)
  (pss_cons (ps_if (pt_val (pe_callB (call_isiUk K) (by rfl) T.m_isinstance b_isinstance (pa_cons (pv 1) (pa_cons (pe_tup (pa_cons (pe_bty (by rfl) T.m_bool b_bool) (pa_cons (pe_bty (by rfl) T.m_str b_str) pa_nil))) pa_nil)))) (pss_one (ps_ret (pe_and (pe_cmpR (op_eqUk K (hu65 hr)) (pe_callB (call_isiUk K) (by rfl) T.m_isinstance b_isinstance (pa_cons (pv 0) (pa_cons (pe_bty (by rfl) T.m_bool b_bool) pa_nil))) (pe_callB (call_isiUk K) (by rfl) T.m_isinstance b_isinstance (pa_cons (pv 1) (pa_cons (pe_bty (by rfl) T.m_bool b_bool) pa_nil))) (nomark _)) (pe_one (pe_cmpR (op_eqUk K (hu65 hr)) (pv 0) (pv 1) (nomark _)))))) pss_nil)
  (pss_one (ps_ret (pe_and (pe_callB (call_isiUk K) (by rfl) T.m_isinstance b_isinstance (pa_cons (pv 0) (pa_cons (pe_bty (by rfl) T.m_int b_int) pa_nil))) (pe_and (pe_not (pe_callB (call_isiUk K) (by rfl) T.m_isinstance b_isinstance (pa_cons (pv 0) (pa_cons (pe_bty (by rfl) T.m_bool b_bool) pa_nil)))) (pe_one (pe_cmpR (op_eqUk K (hu65 hr)) (pv 0) (pv 1) (nomark _)))))))))), ?_⟩
    cases h with
    | non n =>
      walk_at "rd"
      exact k _ (Same.refl H)
    | bl n i =>
      walk_at "rd"
      rename_i p np q nq
      refine k_isiT (cs := [.ty "bool", .ty "str"]) upd_same (.cons (.ty _) (.cons (.ty _) .nil)) (.base (.bl _)) ka_bs_bool ?_
      walk_at "rd"
      exact k _ ((Same.new np).trans (Same.new nq))
    | int n i =>
      walk_at "rd"
      rename_i p np q nq
      refine k_isiT (cs := [.ty "bool", .ty "str"]) upd_same (.cons (.ty _) (.cons (.ty _) .nil)) (.base (.int _)) ka_bs_int ?_
      walk_at "rd"
      exact k _ ((Same.new np).trans (Same.new nq))
    | str n i =>
      walk_at "rd"
      rename_i p np q nq
      refine k_isiT (cs := [.ty "bool", .ty "str"]) upd_same (.cons (.ty _) (.cons (.ty _) .nil)) (.base (.str _)) ka_bs_str ?_
      walk_at "rd"
      exact k _ ((Same.new np).trans (Same.new nq))
    | @tup m a b xs ys h1 h2 hl hz hd =>
      walk_at "rd"
      rename_i p np
      have s0 : Same H (upd H p (.tup [.ty "list", .ty "tuple"])) := Same.new np
      generalize upd H p (.tup [.ty "list", .ty "tuple"]) = H1 at s0 ⊢
      have g1 := sqT_mono (SameT.of s0) h1
      have g2 := sqT_mono (SameT.of s0) h2
      rw [if_pos (by omega)]
      refine k_lenS (.inr g2) ?_
      walk_at "rd"
      refine k_rng1 (by omega) (by omega) ?_
      refine k_lc walk_range fun l nl => ⟨fun i H' => Same H1 H' ∧ H' l = some (.lst ((List.replicate i true).map V.bl)), ⟨Same.new nl, upd_same⟩, fun i H' _ h => True.intro, ?_, ?_⟩
      · rintro i x H2 H3 hi ⟨s1, hL⟩ ⟨rfl, rfl⟩
        have hi' : i < ys.length := by omega
        have g3 := sqT_mono (SameT.of s1) g1
        have g4 := sqT_mono (SameT.of s1) g2
        have x1 := List.getElem?_eq_getElem (l := xs) (i := i) (by omega)
        have x2 := List.getElem?_eq_getElem hi'
        walk_at "rd"
        refine ⟨trivial, ?_⟩
        walk_at "rd"
        refine k_ixT g3 (at_of (j := i) (by omega) x1) ?_
        walk_at "rd"
        refine k_ixT g4 (at_of (j := i) (by omega) x2) ?_
        walk_at "rd"
        refine hG m _ _ _ _ _ rfl ((hd i _ _ x1 x2).mono (s0.trans s1)) fun H4 s4 => ?_
        refine k_accM (s4 _ _ hL) (by rw [List.length_map, List.length_replicate]; omega) ⟨fun b o e => lk_ne (s4 b o (s1 b o e)) (ne_of_none e nl), ?_⟩
        rw [upd_same, List.map_replicate, ← List.replicate_succ, List.replicate_succ']
      · rintro H2 ⟨s1, hL⟩
        walk_at "rd"
        refine k_all (SqL.of hL) ?_
        have e : ∀ n : Nat, (List.replicate n true).all id = true := by simp
        rw [e]
        exact k _ (s0.trans s1)
    | @lst m a b xs ys h1 h2 hl hz hd =>
      walk_at "rd"
      rename_i p np
      have s0 : Same H (upd H p (.tup [.ty "list", .ty "tuple"])) := Same.new np
      generalize upd H p (.tup [.ty "list", .ty "tuple"]) = H1 at s0 ⊢
      have g1 := sqL_same s0 h1
      have g2 := sqL_same s0 h2
      rw [if_pos (by omega)]
      refine k_lenS (.inl g2) ?_
      walk_at "rd"
      refine k_rng1 (by omega) (by omega) ?_
      refine k_lc walk_range fun l nl => ⟨fun i H' => Same H1 H' ∧ H' l = some (.lst ((List.replicate i true).map V.bl)), ⟨Same.new nl, upd_same⟩, fun i H' _ h => True.intro, ?_, ?_⟩
      · rintro i x H2 H3 hi ⟨s1, hL⟩ ⟨rfl, rfl⟩
        have hi' : i < ys.length := by omega
        have g3 := sqL_same s1 g1
        have g4 := sqL_same s1 g2
        have x1 := List.getElem?_eq_getElem (l := xs) (i := i) (by omega)
        have x2 := List.getElem?_eq_getElem hi'
        walk_at "rd"
        refine ⟨trivial, ?_⟩
        walk_at "rd"
        refine k_ixL g3 (at_of (j := i) (by omega) x1) ?_
        walk_at "rd"
        refine k_ixL g4 (at_of (j := i) (by omega) x2) ?_
        walk_at "rd"
        refine hG m _ _ _ _ _ rfl ((hd i _ _ x1 x2).mono (s0.trans s1)) fun H4 s4 => ?_
        refine k_accM (s4 _ _ hL) (by rw [List.length_map, List.length_replicate]; omega) ⟨fun b o e => lk_ne (s4 b o (s1 b o e)) (ne_of_none e nl), ?_⟩
        rw [upd_same, List.map_replicate, ← List.replicate_succ, List.replicate_succ']
      · rintro H2 ⟨s1, hL⟩
        walk_at "rd"
        refine k_all (SqL.of hL) ?_
        have e : ∀ n : Nat, (List.replicate n true).all id = true := by simp
        rw [e]
        exact k _ (s0.trans s1)
theorem ok__law_like (T : Txt w P K mg) : ∀ n : Nat, FnOk P w K mg base CX0 (n + 1) T.f__law_like T.d__law_like ["told", "due"] (spLike K n)
  | 0 => like_step T (sp' := fun _ _ _ _ => False) ⟨fun _ _ _ _ h => h.elim, fun _ _ _ _ _ _ _ _ _ _ _ _ _ h => h.elim⟩ fun _ _ _ _ _ _ e => nomatch e
  | n + 1 => like_step T (ok__law_like T n) fun m H x y Q E e h k => ⟨x, y, rfl, by cases e; exact h, k⟩
end

set_option Elab.async false
set_option linter.all false
set_option maxRecDepth 100000


/-! ### rows in a list of one's own -/
theorem RowsL.congr {H : Hp} {q : Addr} {n : Nat} {row row' : Nat → List V} (e : ∀ j, j < n → row j = row' j) : RowsL H q n row → RowsL H q n row' := fun ⟨acc, h1, h2, h3⟩ => ⟨acc, h1, h2, fun j hj => by
  obtain ⟨r, e1, e2⟩ := h3 j hj
  exact ⟨r, e1, by rw [← e j (by omega)]; exact e2⟩⟩
/-- another list is changed -/
theorem RowsL.other {H H' : Hp} {q a : Addr} {n : Nat} {row : Nat → List V} {ys : List V} (ha : H a = some (.lst ys)) (n1 : q ≠ a) (b : But a H H') : RowsL H q n row → RowsL H' q n row := fun ⟨acc, h1, h2, h3⟩ => ⟨acc, b _ _ h1 n1, h2, fun j hj => by
  obtain ⟨r, e1, e2⟩ := h3 j hj
  exact ⟨r, e1, b _ _ e2 fun z => by rw [z, ha] at e2; cases e2⟩⟩
theorem RowsL.push {H : Hp} {q r : Addr} {n : Nat} {row row' : Nat → List V} {acc : List V} {ys : List V} (h : RowsL H q n row) (hq : H q = some (.lst acc)) (hr : H r = none) (e : ∀ j, j < n → row j = row' j) (e2 : ys = row' n) :
    acc.length = n ∧ RowsL (upd (upd H r (.tup ys)) q (.lst (acc ++ [.ref r]))) q (n + 1) row' := by
  obtain ⟨acc', h1, h2, h3⟩ := h
  rw [hq] at h1
  cases h1
  have hrq : r ≠ q := fun z => by rw [z, hq] at hr; cases hr
  refine ⟨h2, _, upd_same, by rw [List.length_append, h2]; rfl, fun j hj => ?_⟩
  rw [List.length_append, List.length_cons, List.length_nil] at hj
  by_cases hlt : j < acc.length
  · obtain ⟨s, a1, a2⟩ := h3 j hlt
    refine ⟨s, by rw [List.getElem?_append_left hlt]; exact a1, ?_⟩
    rw [upd_ne (at_ne a2 hq (fun h => by cases h)), upd_ne (ne_of_none a2 hr), a2, e j (by omega)]
  · obtain rfl : j = acc.length := by omega
    refine ⟨r, by simp, ?_⟩
    rw [upd_ne hrq, upd_same, e2, h2]
theorem RowsL.set {H : Hp} {q r : Addr} {n i : Nat} {row row' : Nat → List V} {acc : List V} {ys : List V} (h : RowsL H q n row) (hq : H q = some (.lst acc)) (hr : H r = none) (hi : i < n) (e : ∀ j, j < n → j ≠ i → row j = row' j) (e2 : ys = row' i) :
    acc.length = n ∧ RowsL (upd (upd H r (.tup ys)) q (.lst (acc.set i (.ref r)))) q n row' := by
  obtain ⟨acc', h1, h2, h3⟩ := h
  rw [hq] at h1
  cases h1
  have hrq : r ≠ q := fun z => by rw [z, hq] at hr; cases hr
  refine ⟨h2, _, upd_same, by rw [List.length_set, h2], fun j hj => ?_⟩
  rw [List.length_set] at hj
  by_cases hji : i = j
  · subst hji
    refine ⟨r, by rw [List.getElem?_set, if_pos rfl, if_pos hj], ?_⟩
    rw [upd_ne hrq, upd_same, e2]
  · obtain ⟨s, a1, a2⟩ := h3 j hj
    refine ⟨s, by rw [List.getElem?_set, if_neg hji]; exact a1, ?_⟩
    rw [upd_ne (at_ne a2 hq (fun h => by cases h)), upd_ne (ne_of_none a2 hr), a2, e j (by omega) (Ne.symm hji)]
theorem RowsL.at_ {H : Hp} {q : Addr} {n i : Nat} {row : Nat → List V} {acc : List V} (h : RowsL H q n row) (hq : H q = some (.lst acc)) (hi : i < n) : ∃ r, acc[i]? = some (.ref r) ∧ H r = some (.tup (row i)) := by
  obtain ⟨acc', h1, h2, h3⟩ := h
  rw [hq] at h1
  cases h1
  exact h3 i (by omega)
theorem RowsL.len {H : Hp} {q : Addr} {n : Nat} {row : Nat → List V} {acc : List V} (h : RowsL H q n row) (hq : H q = some (.lst acc)) : acc.length = n := by
  obtain ⟨acc', h1, h2, h3⟩ := h
  rw [hq] at h1
  cases h1
  exact h2
theorem ixN_at {n j : Nat} (h : j < n) : ixN n (j : Int) = some j := by
  unfold ixN
  rw [if_pos (by omega), if_pos (by omega)]
  simp
theorem k_appendM {H : Hp} {Q : VK} {a : Addr} {xs : List V} {y : V} (h : H a = some (.lst xs)) (hl : xs.length < 1000000) (q : Q .non (upd H a (.lst (xs ++ [y])))) : fBM2 rAppend (.ref a) Q [y] H := ⟨a, xs, y, rfl, rfl, h, Nat.lt_of_lt_of_le hl (by decide), q⟩
def Scal : V → Prop
  | .non => True
  | .bl _ => True
  | .int _ => True
  | .str _ => True
  | _ => False
theorem scal_oV : ∀ o, Scal (oV o)
  | none => trivial
  | some _ => trivial
theorem orow_scal (n : Nat) (l : OL) : ∀ v ∈ orow n l, Scal v := by
  intro v hv
  simp only [orow, List.mem_cons, List.not_mem_nil, or_false] at hv
  rcases hv with rfl | rfl | rfl | rfl | rfl | rfl <;> first | exact trivial | exact scal_oV _
theorem nrow_scal (l : NL) : ∀ v ∈ nrow l, Scal v := by
  intro v hv
  simp only [nrow, List.mem_cons, List.not_mem_nil, or_false] at hv
  rcases hv with rfl | rfl | rfl | rfl | rfl | rfl <;> first | exact trivial | exact scal_oV _
theorem orows_scal (g : LG) (i : Nat) : ∀ v ∈ orows g i, Scal v := by
  unfold orows
  split
  · exact orow_scal _ _
  · exact fun v h => absurd h List.not_mem_nil
theorem nrows_scal (g : LG) (i : Nat) : ∀ v ∈ nrows g i, Scal v := by
  unfold nrows
  split
  · exact nrow_scal _
  · exact fun v h => absurd h List.not_mem_nil
theorem orows_len (g : LG) (i : Nat) : (orows g i).length ≤ 1000 := by
  unfold orows
  split
  · exact Nat.le_of_ble_eq_true rfl
  · exact Nat.zero_le _
theorem nrows_len (g : LG) (i : Nat) : (nrows g i).length ≤ 1000 := by
  unfold nrows
  split
  · exact Nat.le_of_ble_eq_true rfl
  · exact Nat.zero_le _
def natsV (ns : List Nat) : List V := ns.map fun n => .int (n : Nat)
theorem dpa_nats {K : PySem.W.Frag} {H : Hp} : ∀ {ns : List Nat}, DpAll K H (natsV ns) (ns.map fun n => PyData.int (n : Nat))
  | [] => .nil
  | _ :: _ => .cons (.int _) dpa_nats
theorem nats_shaped (ns : List Nat) : SeqAt.shaped (.list (ns.map fun n => PyData.int (n : Nat))) = true := by
  have h : ∀ ns : List Nat, PyData.canLayAll0 (ns.map fun n => PyData.int (n : Nat)) = true ∧ PyData.depthAll (ns.map fun n => PyData.int (n : Nat)) ≤ 1 := fun ns => by
    induction ns with
    | nil => decide
    | cons n ns ih =>
      refine ⟨by simp [PyData.canLayAll0, PyData.canLay0, ih.1], ?_⟩
      have := ih.2
      simp only [List.map_cons, PyData.depthAll, PyData.depth]
      omega
  unfold SeqAt.shaped
  rw [Bool.and_eq_true]
  refine ⟨by simp only [PyData.canLay0]; exact (h ns).1, decide_eq_true ?_⟩
  have := (h ns).2
  simp only [PyData.depth]
  omega
theorem nats_any (ns : List Nat) (m : Nat) : ((ns.map fun n => PyData.int (n : Nat)).any fun z => PyData.eqv z (.int (m : Nat))) = decide (m ∈ ns) := by
  rw [List.any_map]
  have : ∀ n : Nat, PyData.eqv (.int (n : Nat)) (.int (m : Nat)) = decide (m = n) := fun n => by
    simp only [PyData.eqv]
    rw [Bool.eq_iff_iff]
    simp
    omega
  rw [Bool.eq_iff_iff]
  simp [this]

set_option Elab.async false
set_option linter.all false
set_option maxRecDepth 100000


theorem scal_like {K : PySem.W.Frag} {H : Hp} {n : Nat} : ∀ {v : V}, Scal v → TLk K H n v v
  | .non, _ => .non n
  | .bl i, _ => .bl n i
  | .int i, _ => .int n i
  | .str i, _ => .str n i
theorem row_like {K : PySem.W.Frag} {H : Hp} {a b : Addr} {ys : List V} {n : Nat} (h1 : SqT K H a ys) (h2 : SqT K H b ys) (hl : ys.length ≤ 1000) (hs : ∀ v ∈ ys, Scal v) : TLk K H (n + 1) (.ref a) (.ref b) :=
  .tup h1 h2 rfl (by omega) fun i x y hx hy => by
    rw [hx] at hy
    cases hy
    exact scal_like (hs x (List.mem_of_getElem? hx))
theorem rows_like {K : PySem.W.Frag} {H : Hp} {a b : Addr} {n m : Nat} {row : Nat → List V} (h1 : RowsL H a n row) (h2 : RowsL H b n row) (hn : n ≤ 900000) (hl : ∀ i, (row i).length ≤ 1000) (hs : ∀ i, ∀ v ∈ row i, Scal v) : TLk K H (m + 2) (.ref a) (.ref b) := by
  obtain ⟨x1, a1, a2, a3⟩ := h1
  obtain ⟨x2, b1, b2, b3⟩ := h2
  refine .lst (SqL.of a1) (SqL.of b1) (by omega) (by omega) fun i x y hx hy => ?_
  obtain ⟨r1, c1, c2⟩ := a3 i (List.getElem?_eq_some_iff.mp hx).1
  obtain ⟨r2, d1, d2⟩ := b3 i (List.getElem?_eq_some_iff.mp hy).1
  rw [hx] at c1
  rw [hy] at d1
  cases c1
  cases d1
  exact row_like (SqT.of c2) (SqT.of d2) (hl i) (hs i)
/-- what play tells against what is due -/
theorem pair_like {K : PySem.W.Frag} {H : Hp} {t1 t2 q1 q2 p1 p2 : Addr} {g : LG} (h1 : H t1 = some (.tup [.ref q1, .ref q2])) (h2 : H t2 = some (.tup [.ref p1, .ref p2])) (a1 : RowsL H q1 g.old.length (orows g)) (a2 : RowsL H q2 g.new.length (nrows g))
    (b1 : RowsL H p1 g.old.length (orows g)) (b2 : RowsL H p2 g.new.length (nrows g)) (l1 : g.old.length ≤ 900000) (l2 : g.new.length ≤ 900000) : TLk K H 4 (.ref t1) (.ref t2) := by
  refine .tup (SqT.of h1) (SqT.of h2) rfl (Nat.le_of_ble_eq_true rfl) fun i x y hx hy => ?_
  match i with
  | 0 =>
    cases hx
    cases hy
    exact rows_like a1 b1 l1 (orows_len g) (orows_scal g)
  | 1 =>
    cases hx
    cases hy
    exact rows_like a2 b2 l2 (nrows_len g) (nrows_scal g)
  | i + 2 => simp at hx
end Y




set_option Elab.async false
set_option linter.all false
set_option maxRecDepth 100000
namespace Y
open PySem L2
/-! ### helpers that the walk's texts have too -/
def fields3 : List Str := ["start", "label", "tie"]
def scopes3 : List Str := ["new", "all", "free"]
theorem menu_form3 : ∀ w ∈ menu12, w = (["drop"] : List Str) ∨ (∃ x, w = (["make", x] : List Str)) ∨ ∃ f x, w = [f, x] ∧ f ∈ fields3 ∧ x ∈ scopes3 := by
  have h : ∀ w ∈ menu12, w = (["drop"] : List Str) ∨ (w.length = 2 ∧ w.getD 0 "" = "make") ∨ (w.length = 2 ∧ w.getD 0 "" ∈ fields3 ∧ w.getD 1 "" ∈ scopes3) := by decide +kernel
  intro w hw
  rcases h w hw with h | ⟨h1, h2⟩ | ⟨h1, h2, h3⟩
  · exact .inl h
  · match w, h1 with
    | [a, b], _ =>
      have : a = "make" := h2
      exact .inr (.inl ⟨b, by rw [this]⟩)
  · match w, h1 with
    | [a, b], _ => exact .inr (.inr ⟨a, b, rfl, h2, h3⟩)
theorem s_sl : (Str.ofString "start" = Str.ofString "label") = False := eq_false (by decide +kernel)
theorem s_st : (Str.ofString "start" = Str.ofString "tie") = False := eq_false (by decide +kernel)
theorem s_lt : (Str.ofString "label" = Str.ofString "tie") = False := eq_false (by decide +kernel)
theorem s_ls : (Str.ofString "label" = Str.ofString "start") = False := eq_false (by decide +kernel)
theorem s_ts : (Str.ofString "tie" = Str.ofString "start") = False := eq_false (by decide +kernel)
theorem s_tl : (Str.ofString "tie" = Str.ofString "label") = False := eq_false (by decide +kernel)
theorem s_na : (Str.ofString "new" = Str.ofString "all") = False := eq_false (by decide +kernel)
theorem s_fa : (Str.ofString "free" = Str.ofString "all") = False := eq_false (by decide +kernel)
theorem s_fn : (Str.ofString "free" = Str.ofString "new") = False := eq_false (by decide +kernel)
theorem s_nf : (Str.ofString "new" = Str.ofString "free") = False := eq_false (by decide +kernel)
theorem s_an : (Str.ofString "all" = Str.ofString "new") = False := eq_false (by decide +kernel)
theorem tyS_start : ∀ t ∈ tyS, ("start" : Str) ∉ t := by decide +kernel
theorem tyd_iff (l : NL) (f : Str) : tyd l f = decide (f ∈ l.typed) := by
  unfold tyd typedK
  induction l.typed with
  | nil => rfl
  | cons t ts ih =>
    by_cases h : t = f
    · subst h
      rw [List.map_cons, valV_pos rfl, decide_eq_true List.mem_cons_self]
      rfl
    · rw [List.map_cons, valV_neg (fun e => h (Sum.inr.inj e)), ih]
      refine decide_eq_decide.mpr ⟨fun m => List.mem_cons_of_mem _ m, fun m => (List.mem_cons.mp m).elim (fun e => absurd e.symm h) id⟩
theorem inScope_new (l : NL) (f : Str) (last : Nat) : inScope l f "new" last = decide (last < l.number) := if_pos rfl
theorem inScope_all (l : NL) (f : Str) (last : Nat) : inScope l f "all" last = true := by
  unfold inScope
  rw [if_neg (fun h => by have := s_an ▸ h; exact this)]
  rfl
theorem inScope_free (l : NL) (f : Str) (last : Nat) : inScope l f "free" last = !tyd l f := by
  unfold inScope
  rw [if_neg (fun h => by have := s_fn ▸ h; exact this)]
  rw [decide_eq_false (fun h => by have := s_fa ▸ h; exact this)]
  rfl
theorem k_eq_oI {K : PySem.W.Frag} {H : Hp} {Q : VK} {a : Option Nat} {n : Nat} (q : Q (.bl (decide (a = some n))) H) : fOp2 (rEqU K) (oV a) Q (.int (n : Nat)) H := .inl ⟨by
  cases a <;> rfl, by
  have e : decide (oV a = V.int (n : Nat)) = decide (a = some n) := decide_eq_decide.mpr (by
    cases a with
    | none => exact ⟨fun h => (by cases h), fun h => (by cases h)⟩
    | some m =>
      constructor
      · intro h
        have h' : V.int (m : Nat) = V.int (n : Nat) := h
        have := V.int.inj h'
        rw [show m = n by omega]
      · intro h
        rw [Option.some.inj h]
        rfl)
  rw [e]
  exact q⟩
theorem madeL_of {g : LG} (W : WF g) {l : NL} (h : l ∈ g.new) {s : Nat} (hs : l.source = some s) : madeL g s = some l := by
  cases hm : madeL g s with
  | none => exact absurd hs (madeL_none hm l h)
  | some m =>
    obtain ⟨h1, h2⟩ := madeL_some hm
    rw [pair_one W.one h1 h h2 hs]
theorem WF.dropN {g : LG} (W : WF g) (n : Nat) : WF (g.drop n) := WF.congr (g := g.cut n) (by
  show _ = ((g.cut n).new.map (untie n)).map key
  rw [List.map_map]
  refine (List.map_congr_left fun l _ => ?_)
  exact (untie_key n l).symm) rfl rfl (W.cut n)
theorem madeL_make {all : Bool} {g : LG} : ∀ {i s : Nat}, i < s → madeL (makeTo all g i) s = madeL g s
  | 0, _, _ => rfl
  | i + 1, s, h => by
    have ih := madeL_make (all := all) (g := g) (i := i) (s := s) (by omega)
    show madeL (makeStep all i (makeTo all g i)) s = _
    unfold makeStep
    split
    · exact ih
    · split
      · show List.find? _ (_ ++ [_]) = _
        rw [List.find?_append]
        have e : List.find? (fun l : NL => decide (l.source = some s)) [⟨(makeTo all g i).last + 1, ‹OL›.label, closing ‹OL›, 0, none, some (i + 1), []⟩] = none := by
          rw [List.find?_cons_of_neg]
          · rfl
          · simp
            omega
        rw [e, Option.or_none]
        exact ih
      · exact ih
theorem makeTo_ge (all : Bool) (g : LG) (i : Nat) : g.last ≤ (makeTo all g i).last := by
  induction i with
  | zero => exact Nat.le_refl _
  | succ i ih =>
    show g.last ≤ (makeStep all i (makeTo all g i)).last
    unfold makeStep
    split
    · exact ih
    · split
      · exact Nat.le_succ_of_le ih
      · exact ih
theorem steps_last (last : Nat) (ws : List (List Str)) : ∀ g : LG, g.last ≤ (ws.foldl (stepG last) g).last := by
  have mk : ∀ (all : Bool) (g : LG) (i : Nat), g.last ≤ (makeTo all g i).last := fun all g i => by
    induction i with
    | zero => exact Nat.le_refl _
    | succ i ih =>
      show g.last ≤ (makeStep all i (makeTo all g i)).last
      unfold makeStep
      split
      · exact ih
      · split
        · exact Nat.le_succ_of_le ih
        · exact ih
  have one : ∀ (g : LG) (w : List Str), g.last ≤ (stepG last g w).last := fun g w => by
    unfold stepG
    split
    · split
      · exact mk _ _ _
      · exact Nat.le_refl _
    · show g.last ≤ (dropAll g).last
      unfold dropAll
      rw [(dropAll_fold _ g).2]
      exact Nat.le_refl _
    · exact Nat.le_refl _
  induction ws with
  | nil => exact fun g => Nat.le_refl _
  | cons w ws ih => exact fun g => Nat.le_trans (one g w) (ih _)
theorem tyd_add (l : NL) (f f' : Str) (b : Int) (o : Option Nat) : tyd ⟨l.number, b, l.start, l.moves, o, l.source, tyAdd l.typed f⟩ f' = (tyd l f' || decide (f' = f)) := by
  rw [tyd_iff, tyd_iff]
  show decide (f' ∈ tyAdd l.typed f) = _
  unfold tyAdd
  rw [Bool.eq_iff_iff]
  split
  · rename_i h
    simp
    intro e
    rw [e]
    exact h
  · simp
theorem WF.addOld {g : LG} (W : WF g) (h : g.old.length < 1000) (o : OL) : WF { g with old := g.old ++ [o] } := {
  num := W.num
  last := W.last
  src := fun l hl s hs => by
    have := W.src l hl s hs
    show 1 ≤ s ∧ s ≤ (g.old ++ [o]).length
    rw [List.length_append]
    omega
  one := W.one
  few := by
    show (g.old ++ [o]).length ≤ 1000
    rw [List.length_append, List.length_cons, List.length_nil]
    omega
  most := W.most }
end Y


set_option Elab.async false
set_option linter.all false
set_option maxRecDepth 100000
namespace Y
open PySem L2
def numsOf (xs : List NL) : List Nat := xs.map (·.number)
/-! ### lines that go, at once -/
def tieGone (t : Option Nat) (G : List Nat) : Bool := match t with
  | none => false
  | some n => decide (n ∈ G)
def unt (G : List Nat) (l : NL) : NL := if tieGone l.tie G = true then { l with tie := none } else l
def lessG (g : LG) (G : List Nat) : LG := ⟨g.old, (g.new.filter fun l => !decide (l.number ∈ G)).map (unt G), g.last⟩
theorem unt_nil (l : NL) : unt [] l = l := by
  unfold unt
  rw [if_neg]
  unfold tieGone
  split
  · exact fun h => by cases h
  · simp
theorem unt_key (G : List Nat) (l : NL) : key (unt G l) = key l := by
  unfold unt
  split <;> rfl
theorem lessG_nil (g : LG) : lessG g [] = g := by
  unfold lessG
  have e1 : (g.new.filter fun l => !decide (l.number ∈ ([] : List Nat))) = g.new := List.filter_eq_self.mpr fun l _ => by simp
  rw [e1]
  have e2 : g.new.map (unt []) = g.new := by
    rw [List.map_congr_left fun l _ => unt_nil l]
    exact List.map_id _
  rw [e2]
theorem tieGone_congr {G G' : List Nat} (h : ∀ n, n ∈ G ↔ n ∈ G') (t : Option Nat) : tieGone t G = tieGone t G' := by
  unfold tieGone
  split
  · rfl
  · exact decide_eq_decide.mpr (h _)
theorem lessG_congr (g : LG) {G G' : List Nat} (h : ∀ n, n ∈ G ↔ n ∈ G') : lessG g G = lessG g G' := by
  unfold lessG
  have e1 : (fun l : NL => !decide (l.number ∈ G)) = fun l => !decide (l.number ∈ G') := funext fun l => by rw [decide_eq_decide.mpr (h l.number)]
  have e2 : unt G = unt G' := funext fun l => by
    unfold unt
    rw [tieGone_congr h]
  rw [e1, e2]
theorem untie_unt (n : Nat) (G : List Nat) (l : NL) : untie n (unt G l) = unt (n :: G) l := by
  unfold untie unt
  by_cases h : tieGone l.tie G = true
  · rw [if_pos h]
    have h2 : tieGone l.tie (n :: G) = true := by
      unfold tieGone at h ⊢
      split at h
      · cases h
      · exact decide_eq_true (List.mem_cons_of_mem _ (of_decide_eq_true h))
    rw [if_pos h2, if_neg (fun h => by cases h)]
  · rw [if_neg h]
    by_cases h2 : l.tie = some n
    · rw [if_pos h2, if_pos]
      rw [h2]
      exact decide_eq_true List.mem_cons_self
    · rw [if_neg h2, if_neg]
      unfold tieGone at h ⊢
      split
      · exact fun h => by cases h
      · rename_i m hm
        rw [hm] at h h2
        intro h3
        rcases List.mem_cons.mp (of_decide_eq_true h3) with h4 | h4
        · exact h2 (by rw [h4])
        · exact h (decide_eq_true h4)
theorem less_drop (g : LG) (G : List Nat) (n : Nat) : (lessG g G).drop n = lessG g (n :: G) := by
  have e : ((lessG g G).cut n).new.map (untie n) = (lessG g (n :: G)).new := by
    show (((g.new.filter fun l => !decide (l.number ∈ G)).map (unt G)).filter fun l => decide (l.number ≠ n)).map (untie n) = (g.new.filter fun l => !decide (l.number ∈ n :: G)).map (unt (n :: G))
    rw [List.filter_map, List.map_map, List.filter_filter]
    have e1 : (untie n ∘ unt G) = unt (n :: G) := funext fun l => untie_unt n G l
    rw [e1]
    congr 1
    refine List.filter_congr fun l _ => ?_
    show (decide ((unt G l).number ≠ n) && !decide (l.number ∈ G)) = _
    rw [show (unt G l).number = l.number from congrArg (·.1) (unt_key G l)]
    rw [Bool.eq_iff_iff]
    simp
  show LG.mk g.old _ g.last = _
  rw [e]
  rfl
theorem less_fold (g : LG) : ∀ (ks : List NL) (G : List Nat), ks.foldl dropStep (lessG g G) = lessG g (((ks.filter fun k => !stands g k).map (·.number)).reverse ++ G)
  | [], _ => rfl
  | k :: ks, G => by
    have hs : dropStep (lessG g G) k = if stands g k = true then lessG g G else (lessG g G).drop k.number := rfl
    show ks.foldl dropStep (dropStep (lessG g G) k) = _
    rw [hs]
    cases h : stands g k with
    | true =>
      rw [if_pos rfl, less_fold g ks G, List.filter_cons_of_neg (by rw [h]; decide)]
    | false =>
      rw [if_neg (fun h => by cases h), less_drop, less_fold g ks (k.number :: G), List.filter_cons_of_pos (by rw [h]; rfl)]
      rw [List.map_cons, List.reverse_cons, List.append_assoc]
      rfl
def goneL (g : LG) : List NL := g.new.filter fun l => l.source.isSome && !stands g l
theorem dropAll_less (g : LG) : dropAll g = lessG g ((goneL g).map (·.number)) := by
  have h := less_fold g (ms g) []
  rw [lessG_nil] at h
  show (ms g).foldl dropStep g = _
  rw [h]
  refine lessG_congr g fun n => ?_
  rw [List.append_nil, List.mem_reverse]
  have e : (ms g).filter (fun k => !stands g k) = goneL g := by
    unfold ms goneL
    rw [List.filter_filter]
    refine List.filter_congr fun l _ => ?_
    exact Bool.and_comm _ _
  rw [e]
/-! ### fields that follow, at once -/
def scF (g : LG) (f x : Str) (last : Nat) (l : NL) : NL := if l.source.isSome = true then renewF g f x last l else l
theorem scF_key (g : LG) (f x : Str) (last : Nat) (l : NL) : key (scF g f x last l) = key l := by
  unfold scF
  split
  · exact renewF_key _ _ _ _ _
  · rfl
theorem renewAll_sc (g : LG) (W : WF g) (f x : Str) (last : Nat) : renewAll g f x last = g.upTo (scF g f x last) g.new.length := by
  have e := renewAll_new g W f x last
  show LG.mk g.old _ g.last = LG.mk g.old (mapTo _ g.new g.new.length) g.last
  rw [mapTo_len]
  congr 1
theorem k_condS {cond : TT} {s1 s2 : TS} {D : Ends} {σ : L2.St} {H : Hp} (c : Bool) (hc : ∀ Qb : Bool → Hp → Prop, (∀ H', Same H H' → Qb c H') → cond σ H Qb) (h : ∀ H', Same H H' → if c = true then s1 D σ H' else s2 D σ H') : tIfS cond s1 s2 D σ H := hc _ h
theorem k_inNats {K : PySem.W.Frag} {H : Hp} {Q : VK} {a : Addr} {n : Nat} {ns : List Nat} (h : H a = some (.lst (natsV ns))) (q : Q (.bl (decide (n ∈ ns))) H) : fOp2 (rInU K) (.int (n : Nat)) Q (.ref a) H :=
  k_inL (.int _) (.lst (SqL.of h) dpa_nats) (by simp [SeqAt.shaped, PyData.canLay0, PyData.depth]) (nats_shaped _) (by rw [nats_any]; exact q)
theorem k_ninNats {K : PySem.W.Frag} {H : Hp} {Q : VK} {a : Addr} {n : Nat} {ns : List Nat} (h : H a = some (.lst (natsV ns))) (q : Q (.bl (!decide (n ∈ ns))) H) : fOp2 (rNotInU K) (.int (n : Nat)) Q (.ref a) H :=
  k_ninL (.int _) (.lst (SqL.of h) dpa_nats) (by simp [SeqAt.shaped, PyData.canLay0, PyData.depth]) (nats_shaped _) (by rw [nats_any]; exact q)
theorem k_inOV {K : PySem.W.Frag} {H : Hp} {Q : VK} {a : Addr} {t : Option Nat} {ns : List Nat} (h : H a = some (.lst (natsV ns))) (q : Q (.bl (tieGone t ns)) H) : fOp2 (rInU K) (oV t) Q (.ref a) H := by
  cases t with
  | some n => exact k_inNats h q
  | none =>
    refine k_inL .non (.lst (SqL.of h) dpa_nats) (by decide) (nats_shaped _) ?_
    have e : ((ns.map fun n => PyData.int (n : Nat)).any fun z => PyData.eqv z .none) = false := by
      rw [List.any_map]
      induction ns with
      | nil => rfl
      | cons n ns ih => simp [PyData.eqv]
    rw [e]
    exact q
theorem WF.dropFold : ∀ (ks : List NL) {g : LG}, WF g → WF (ks.foldl dropStep g)
  | [], _, W => W
  | k :: ks, g, W => WF.dropFold ks (g := dropStep g k) (by
    unfold dropStep
    split
    · exact W
    · exact W.dropN _)
theorem nums_eq {ys : List V} {ls : List NL} (h : Paired (fun (x : V) (l : NL) => x = V.int (l.number : Nat)) ys ls) : ys = natsV (ls.map (·.number)) := by
  induction h with
  | nil => rfl
  | cons e _ ih =>
    rw [e, ih]
    rfl
end Y


set_option Elab.async false
set_option linter.all false
set_option maxRecDepth 100000
namespace Y
open PySem L2
local macro_rules | `(tactic| walk_at "ne") => `(tactic| first
  | with_reducible assumption
  | ((with_reducible apply Ne.symm); (focus with_reducible assumption))
  | ((with_reducible apply ne_new); (focus with_reducible assumption); (focus walk_at "hp"))
  | ((with_reducible apply ne_new'); (focus with_reducible assumption); (focus walk_at "hp")))
local macro_rules | `(tactic| walk_at "hp1") => `(tactic| first
  | ((with_reducible apply lk_new2); (focus with_reducible assumption))
  | ((with_reducible apply lk_ne2); (focus walk_at "ne"))
  | ((with_reducible apply Same.get); (focus with_reducible assumption))
  | ((with_reducible apply But.get2); (focus with_reducible assumption); (focus walk_at "ne")))
local macro_rules | `(tactic| walk_at "hp") => `(tactic| first
  | with_reducible assumption
  | with_reducible exact upd_same
  | ((walk_at "hp1"); (walk_at "hp")))
local macro_rules | `(tactic| walk_at "sm1") => `(tactic| first
  | ((with_reducible apply Same.linkN); (focus with_reducible assumption))
  | ((with_reducible apply Same.linkU); (focus with_reducible assumption))
  | ((with_reducible apply Same.link); (focus with_reducible assumption))
  | ((with_reducible apply Same.linkV); (focus with_reducible assumption); (focus walk_at "sm")))
local macro_rules | `(tactic| walk_at "sm") => `(tactic| first
  | with_reducible assumption
  | with_reducible exact Same.refl _
  | ((walk_at "sm1"); (walk_at "sm")))
local macro_rules | `(tactic| walk_at "bt1") => `(tactic| first
  | ((with_reducible apply But.linkN); (focus with_reducible assumption))
  | ((with_reducible apply But.linkU); (focus with_reducible assumption))
  | (with_reducible apply But.linkA)
  | ((with_reducible apply But.link); (focus with_reducible assumption))
  | ((with_reducible apply But.linkS); (focus with_reducible assumption)))
local macro_rules | `(tactic| walk_at "bt") => `(tactic| first
  | with_reducible assumption
  | with_reducible exact But.refl _ _
  | ((walk_at "bt1"); (walk_at "bt")))
local macro_rules | `(tactic| walk_at "rs") => `(tactic| simp only [e_C, e_var0, e_varS, e_op, e_op1, e_un, e_fld, e_tup, e_lst, e_cons, e_cons1, e_cons2, e_nil, e_call, e_call1, e_CB, e_meth, e_make, e_B, e_test, e_B1, e_if, e_if1, e_ifS, e_ifS1, e_and, e_andc, e_or, e_orc, e_not, e_not1, e_andV, e_andVc, e_orV, e_orVc, e_notV, e_notV1, e_seq, e_next, e_break, e_cont, e_drop, e_drop1, e_ret, e_retN, e_asg, e_name, e_part, e_part1, e_noPart, e_sl, e_sl1, e_sl2, e_sl3, o_add_int, o_I0, o_un, c_int, c_intB, c_abs, c_max, c_min, k_isN, k_notN, k_isB, k_notB, e_sub, e_sub1, cx_K, cx_noxK, e_for, e_rng1, e_rng2, e_seqI, e_enumT, e_enum, e_gname, e_lc, e_lc2, e_lcT, e_yes, e_bm, e_par, e_par1, e_par3, e_par31, e_chain, e_chain1, e_chain2, e_chain3, e_sfld, e_sfld1, List.set, ite_true, ite_false, eq_self, Bool.false_eq_true, decide_eq_true_eq, L2.start, List.map, List.length_cons, List.length_nil, List.replicate, Nat.add_one_sub_one, Nat.sub_self, List.nil_append, List.cons_append, Int.reduceToNat, Int.reducePow, Int.reduceMul, Int.reduceAdd, Int.reduceSub, Int.reduceNeg, Int.reduceLT, Int.reduceLE, Int.reduceEq, Bool.not_false, Bool.not_true, L2.wipe, e_never, e_dput, e_dput1, e_dput2, e_ddel, e_ddel1, e_dget, e_dget1, e_din, e_dnin, e_din1, e_dninN, e_dninN1, e_vals, e_lvals, e_makeS, e_callS, e_methS, e_tupZ, e_tC, e_m1, e_m1a, e_m1b, e_prop, e_methK, e_delF, e_gfld, e_items, e_dcm, e_dct, e_dck, e_asgT, e_gcons, e_gnil, e_callD, e_opS, e_raise, e_mkErr, e_enumS, e_enumS1, e_zipA, e_fldErr, e_callK, e_callK1, e_callK2, e_getN, e_getN2, e_pop1, e_keys, e_bm0, e_dp, e_dp1, e_dp2, e_dp0, decide_true, decide_false, not_true_eq_false, not_false_eq_true, reduceCtorEq])
local macro_rules | `(tactic| walk_at "sd") => `(tactic| first
  | assumption
  | decide
  | omega
  | (dsimp only; omega)
  | exact wide_div (b := 450) (by omega) (by omega) (by decide) (by decide)
  | exact mulX (a := 450) (b := 450) (by omega) (by omega) (by decide) (by decide) (by decide)
  | exact powW (b := 450) (by omega) (by omega) (by decide) (by decide))
local macro_rules | `(tactic| walk_at "sl") => `(tactic| first | omega | (simp only [List.length_cons, List.length_nil, List.length_append]; omega) | exact Nat.le_of_ble_eq_true rfl)
local macro_rules | `(tactic| walk_at "sqL1") => `(tactic| first
  | ((with_reducible apply sqL_new2); (focus with_reducible assumption))
  | ((with_reducible apply sqL_link); (focus with_reducible assumption)))
local macro_rules | `(tactic| walk_at "sqL") => `(tactic| first
  | with_reducible assumption
  | ((with_reducible apply SqL.of); focus walk_at "hp")
  | ((walk_at "sqL1"); (walk_at "sqL")))
local macro_rules | `(tactic| walk_at "sqT1") => `(tactic| first
  | ((with_reducible apply sqT_new2); (focus with_reducible assumption))
  | ((with_reducible apply sqT_link); (focus with_reducible assumption))
  | ((with_reducible apply sqT_lst); (focus walk_at "hp"))
  | ((with_reducible apply sqT_ins); (focus walk_at "hp")))
local macro_rules | `(tactic| walk_at "sqT") => `(tactic| first
  | with_reducible assumption
  | ((with_reducible apply SqT.of); focus walk_at "hp")
  | ((with_reducible apply SqT.ofZ); focus walk_at "hp")
  | ((walk_at "sqT1"); (walk_at "sqT")))
local macro_rules | `(tactic| walk_at "kt") => `(tactic| first
  | with_reducible exact kt_self
  | with_reducible exact kt_int_bool
  | with_reducible exact kt_int_str
  | with_reducible exact kt_int_list
  | with_reducible exact kt_int_tuple
  | with_reducible exact kt_bool_int
  | with_reducible exact kt_bool_str
  | with_reducible exact kt_bool_list
  | with_reducible exact kt_bool_tuple
  | with_reducible exact kt_str_int
  | with_reducible exact kt_str_bool
  | with_reducible exact kt_str_list
  | with_reducible exact kt_str_tuple
  | with_reducible exact kt_non_int
  | with_reducible exact kt_non_bool
  | with_reducible exact kt_non_str
  | with_reducible exact kt_non_list
  | with_reducible exact kt_non_tuple
  | with_reducible exact kt_tuple_int
  | with_reducible exact kt_tuple_bool
  | with_reducible exact kt_tuple_str
  | with_reducible exact kt_tuple_list
  | with_reducible exact kt_list_int
  | with_reducible exact kt_list_bool
  | with_reducible exact kt_list_str
  | with_reducible exact kt_list_tuple
  | with_reducible exact kt_dict_int
  | with_reducible exact kt_dict_bool
  | with_reducible exact kt_dict_str
  | with_reducible exact kt_dict_list
  | with_reducible exact kt_dict_tuple)
local macro_rules | `(tactic| walk_at "tyx") => `(tactic| first
  | with_reducible exact .base (.int _)
  | with_reducible exact .base (.str _)
  | with_reducible exact .base (.bl _)
  | with_reducible exact .base .non
  | ((with_reducible apply tyx_tup); focus walk_at "sqT")
  | ((with_reducible apply tyx_lst); focus walk_at "sqL")
  | ((with_reducible apply TyX.base); (focus ((with_reducible apply TyOf.dK); focus walk_at "hp"))))
local macro_rules | `(tactic| walk_at "isi") => `(tactic| first
  | ((with_reducible apply k_isi); (focus (with_reducible exact (ClsV.ty _))); (focus (walk_at "tyx")); (focus (walk_at "kt")))
  | ((with_reducible apply k_isiT); (focus (walk_at "hp")); (focus (with_reducible exact (.cons (.ty _) (.cons (.ty _) .nil)))); (focus (walk_at "tyx")); (focus (first | with_reducible exact ka_tuple | with_reducible exact ka_list | ((with_reducible apply ka_no); (focus walk_at "kt"); (focus walk_at "kt"))))))
local macro_rules | `(tactic| walk_at "lk") => `(tactic| rfl)
local macro_rules | `(tactic| walk_at "rd1") => `(tactic| first
  | walk_at "rs"
  | ((with_reducible apply k_ixL); (focus (walk_at "sqL")); (focus rfl))
  | ((with_reducible apply k_ixT); (focus (walk_at "sqT")); (focus rfl))
  | ((with_reducible apply k_fld); (focus (walk_at "hp")); (focus (assumption)); (focus (assumption)); (focus (walk_at "lk")))
  | ((with_reducible apply k_sfld); (focus (walk_at "hp")); (focus (assumption)); (focus (assumption)); (focus (walk_at "sl")))
  | ((with_reducible apply k_meth); (focus (walk_at "hp")); (focus (walk_at "lk")))
  | ((with_reducible apply k_methK); (focus (walk_at "hp")); (focus (walk_at "lk")))
  | ((with_reducible apply k_prop); (focus (walk_at "hp")))
  | ((with_reducible apply k_gfld); (focus (walk_at "hp")); (focus (assumption)); (focus (assumption)); (focus (walk_at "sl")))
  | ((with_reducible apply k_I); (focus (walk_at "sd")))
  | ((with_reducible apply k_unp); (focus (walk_at "sqT")); (focus rfl))
  | ((with_reducible apply k_mul); (focus (walk_at "sd")))
  | ((with_reducible apply k_setL); (focus (walk_at "hp")); (focus rfl))
  | ((with_reducible apply k_bmL); (focus (walk_at "hp")))
  | ((with_reducible apply k_append); (focus (walk_at "hp")); (focus (walk_at "sd")))
  | ((with_reducible apply k_extend); (focus (walk_at "hp")); (focus (walk_at "hp")); (focus (walk_at "sl")))
  | ((with_reducible apply k_tup); (focus (walk_at "sl")); intro _ _)
  | ((with_reducible apply k_dnew); intro _ _)
  | ((with_reducible apply k_tupZ); (focus (walk_at "sl")); intro _ _ _ _ _)
  | ((with_reducible apply k_lst); (focus (walk_at "sl")); intro _ _)
  | ((with_reducible apply k_lenD); (focus walk_at "hp"))
  | ((with_reducible apply k_lenS); (focus ((with_reducible apply Or.inl); walk_at "sqL")))
  | ((with_reducible apply k_lenS); (focus ((with_reducible apply Or.inr); walk_at "sqT")))
  | ((with_reducible apply k_seqL); (focus (walk_at "sqL")))
  | ((with_reducible apply k_seqT); (focus (walk_at "sqT")))
  | ((with_reducible apply k_enumT); (focus (walk_at "sqT")))
  | walk_at "isi"
  | ((with_reducible apply k_tupOfL); (focus (walk_at "sqL")); intro _ _)
  | ((with_reducible apply k_tupOfT); (focus (walk_at "sqT")))
  | ((with_reducible apply k_listOf); (focus ((with_reducible apply Or.inl); walk_at "sqL")); intro _ _)
  | ((with_reducible apply k_listOf); (focus ((with_reducible apply Or.inr); walk_at "sqT")); intro _ _)
  | ((with_reducible apply k_zipT); (focus (walk_at "sqT")); (focus (walk_at "sqT")))
  | (with_reducible apply k_bmS)
  | ((with_reducible apply k_starts))
  | ((with_reducible apply k_rmpre); (focus (walk_at "sl")))
  | (with_reducible apply k_eq_int)
  | (with_reducible apply k_ne_int)
  | (with_reducible apply k_eq_str)
  | (with_reducible apply k_ne_str)
  | (with_reducible apply k_eq_bl)
  | (with_reducible apply k_ne_bl))
local macro_rules | `(tactic| walk_at "rd") => `(tactic| repeat walk_at "rd1")

local macro_rules | `(tactic| walk_at "lk") => `(tactic| rfl)
/-! ### the law's own new lines: a list of lists -/
def nrow4 (l : NL) : List V := [.int (l.number : Nat), oV l.source, .int l.label, oV l.tie]
def refs4 (ls : List NL) (A : Nat → Addr) : List V := ls.map fun l => .ref (A l.number)
structure Nk (H : Hp) (ln : Addr) (ls : List NL) (A : Nat → Addr) (S : Addr → Prop) : Prop where
  hln : H ln = some (.lst (refs4 ls A))
  new : ∀ l ∈ ls, H (A l.number) = some (.lst (nrow4 l))
  ninj : ∀ l ∈ ls, ∀ l' ∈ ls, A l.number = A l'.number → l.number = l'.number
  sln : S ln
  snew : ∀ l ∈ ls, S (A l.number)
theorem refs4_len (ls : List NL) (A : Nat → Addr) : (refs4 ls A).length = ls.length := List.length_map _
theorem refs4_at {ls : List NL} {A : Nat → Addr} {i : Nat} {l : NL} (h : ls[i]? = some l) : (refs4 ls A)[i]? = some (.ref (A l.number)) := by
  unfold refs4
  rw [List.getElem?_map, h]
  rfl
section
variable {H : Hp} {ln : Addr} {ls : List NL} {A : Nat → Addr} {S : Addr → Prop}
theorem Nk.ne (w : Nk H ln ls A S) {l : NL} (h : l ∈ ls) : ln ≠ A l.number := at_ne w.hln (w.new l h) fun e => by
  have e := HO.lst.inj e
  cases ls with
  | nil => exact absurd h List.not_mem_nil
  | cons x ls => cases e
theorem Nk.move {H' : Hp} (w : Nk H ln ls A S) (f : ∀ b o, H b = some o → S b → H' b = some o) : Nk H' ln ls A S := { w with
  hln := f _ _ w.hln w.sln
  new := fun l h => f _ _ (w.new l h) (w.snew l h) }
theorem Nk.same {H' : Hp} (w : Nk H ln ls A S) (s : Same H H') : Nk H' ln ls A S := w.move fun b o e _ => s b o e
theorem Nk.grow {S' : Addr → Prop} (w : Nk H ln ls A S) (f : ∀ b, S b → S' b) : Nk H ln ls A S' := { w with
  sln := f _ w.sln
  snew := fun l h => f _ (w.snew l h) }
theorem Nk.alloc (w : Nk H ln ls A S) : Nk H ln ls A (fun b => S b ∧ H b ≠ none) := { w with
  sln := ⟨w.sln, by rw [w.hln]; exact fun h => by cases h⟩
  snew := fun l h => ⟨w.snew l h, by rw [w.new l h]; exact fun h => by cases h⟩ }
theorem Nk.shrink (w : Nk H ln ls A S) : Nk H ln ls A (fun b => S b ∧ ∃ xs, H b = some (.lst xs)) := { w with
  sln := ⟨w.sln, _, w.hln⟩
  snew := fun l h => ⟨w.snew l h, _, w.new l h⟩ }
/-- a line behind the others -/
theorem Nk.add {H' : Hp} (w : Nk H ln ls A S) {r : Addr} (nr : H r = none) (l : NL) (hf : ∀ x ∈ ls, x.number ≠ l.number) (h1 : H' r = some (.lst (nrow4 l))) (h2 : H' ln = some (.lst (refs4 ls A ++ [.ref r]))) (keep : ∀ b o, H b = some o → b ≠ ln → H' b = some o) :
    Nk H' ln (ls ++ [l]) (fun i => if i = l.number then r else A i) (fun b => S b ∨ b = r) := by
  have e : refs4 (ls ++ [l]) (fun i => if i = l.number then r else A i) = refs4 ls A ++ [.ref r] := by
    unfold refs4
    rw [List.map_append]
    congr 1
    · refine List.map_congr_left fun x hx => ?_
      show V.ref (if x.number = l.number then r else A x.number) = _
      rw [if_neg (hf x hx)]
    · show [V.ref (if l.number = l.number then r else A l.number)] = _
      rw [if_pos rfl]
  exact {
    hln := by rw [h2, e]
    new := fun x hx => by
      show H' (if x.number = l.number then r else A x.number) = _
      rcases List.mem_append.mp hx with h | h
      · rw [if_neg (hf x h)]
        exact keep _ _ (w.new x h) (w.ne h).symm
      · rw [List.mem_singleton.mp h, if_pos rfl]
        exact h1
    ninj := fun x hx y hy e => by
      have e' : (if x.number = l.number then r else A x.number) = (if y.number = l.number then r else A y.number) := e
      rcases List.mem_append.mp hx with h | h
      · rcases List.mem_append.mp hy with k | k
        · rw [if_neg (hf x h), if_neg (hf y k)] at e'
          exact w.ninj x h y k e'
        · rw [List.mem_singleton.mp k, if_pos rfl, if_neg (hf x h)] at e'
          exact absurd e' (ne_of_none (w.new x h) nr)
      · rcases List.mem_append.mp hy with k | k
        · rw [List.mem_singleton.mp h, if_pos rfl, if_neg (hf y k)] at e'
          exact absurd e'.symm (ne_of_none (w.new y k) nr)
        · rw [List.mem_singleton.mp h, List.mem_singleton.mp k]
    sln := .inl w.sln
    snew := fun x hx => by
      show S (if x.number = l.number then r else A x.number) ∨ (if x.number = l.number then r else A x.number) = r
      rcases List.mem_append.mp hx with h | h
      · rw [if_neg (hf x h)]
        exact .inl (w.snew x h)
      · rw [List.mem_singleton.mp h, if_pos rfl]
        exact .inr rfl }
/-- a line out of the middle -/
theorem Nk.out {us vs : List NL} {l : NL} (w : Nk H ln (us ++ l :: vs) A S) : Nk (upd H ln (.lst (refs4 (us ++ vs) A))) ln (us ++ vs) A S := {
  hln := upd_same
  new := fun x hx => by
    have hx' : x ∈ us ++ l :: vs := (List.mem_append.mp hx).elim (fun h => List.mem_append_left _ h) fun h => List.mem_append_right _ (List.mem_cons_of_mem _ h)
    exact lk_ne (w.new x hx') (w.ne hx').symm
  ninj := fun x hx y hy => w.ninj x ((List.mem_append.mp hx).elim (fun h => List.mem_append_left _ h) fun h => List.mem_append_right _ (List.mem_cons_of_mem _ h)) y ((List.mem_append.mp hy).elim (fun h => List.mem_append_left _ h) fun h => List.mem_append_right _ (List.mem_cons_of_mem _ h))
  sln := w.sln
  snew := fun x hx => w.snew x ((List.mem_append.mp hx).elim (fun h => List.mem_append_left _ h) fun h => List.mem_append_right _ (List.mem_cons_of_mem _ h)) }
/-- a line in the middle, otherwise -/
theorem Nk.sub {us vs : List NL} {l l' : NL} (w : Nk H ln (us ++ l :: vs) A S) (hk : l'.number = l.number) (hu : ∀ x ∈ us ++ vs, x.number ≠ l.number) : Nk (upd H (A l.number) (.lst (nrow4 l'))) ln (us ++ l' :: vs) A S := by
  have hl : l ∈ us ++ l :: vs := List.mem_append_right _ List.mem_cons_self
  have cs : ∀ x ∈ us ++ l' :: vs, x = l' ∨ (x ∈ us ++ vs ∧ x ∈ us ++ l :: vs) := fun x hx => by
    rcases List.mem_append.mp hx with h | h
    · exact .inr ⟨List.mem_append_left _ h, List.mem_append_left _ h⟩
    · rcases List.mem_cons.mp h with h | h
      · exact .inl h
      · exact .inr ⟨List.mem_append_right _ h, List.mem_append_right _ (List.mem_cons_of_mem _ h)⟩
  have num : ∀ x ∈ us ++ l' :: vs, ∃ y ∈ us ++ l :: vs, y.number = x.number := fun x hx => by
    rcases cs x hx with rfl | ⟨_, h⟩
    · exact ⟨l, hl, hk.symm⟩
    · exact ⟨x, h, rfl⟩
  exact {
    hln := by
      have e : refs4 (us ++ l' :: vs) A = refs4 (us ++ l :: vs) A := by
        unfold refs4
        rw [List.map_append, List.map_append, List.map_cons, List.map_cons, hk]
      rw [e]
      exact lk_ne w.hln (w.ne hl)
    new := fun x hx => by
      rcases cs x hx with rfl | ⟨h1, h2⟩
      · rw [hk]
        exact upd_same
      · exact lk_ne (w.new x h2) fun e => hu x h1 (w.ninj x h2 l hl e)
    ninj := fun x hx y hy e => by
      obtain ⟨x', hx', ex⟩ := num x hx
      obtain ⟨y', hy', ey⟩ := num y hy
      rw [← ex, ← ey] at e ⊢
      exact w.ninj x' hx' y' hy' e
    sln := w.sln
    snew := fun x hx => by
      obtain ⟨x', hx', ex⟩ := num x hx
      rw [← ex]
      exact w.snew x' hx' }
end
/-! ### rows as data -/
def oD : Option Nat → PyData
  | none => .none
  | some n => .int (n : Nat)
def row4D (l : NL) : PyData := .list [.int (l.number : Nat), oD l.source, .int l.label, oD l.tie]
theorem oD_dp {K : PySem.W.Frag} {H : Hp} (o : Option Nat) : Dp K H (oV o) (oD o) := by
  cases o with
  | none => exact .non
  | some n => exact .int _
theorem oD_lay (o : Option Nat) : (oD o).canLay0 = true ∧ (oD o).depth = 0 := by
  cases o <;> exact ⟨rfl, rfl⟩
theorem row4_dp {K : PySem.W.Frag} {H : Hp} {a : Addr} {l : NL} (h : H a = some (.lst (nrow4 l))) : Dp K H (.ref a) (row4D l) := .lst (SqL.of h) (.cons (.int _) (.cons (oD_dp _) (.cons (.int _) (.cons (oD_dp _) .nil))))
theorem row4_lay (l : NL) : (row4D l).canLay0 = true ∧ (row4D l).depth ≤ 1 := by
  obtain ⟨a1, a2⟩ := oD_lay l.source
  obtain ⟨b1, b2⟩ := oD_lay l.tie
  unfold row4D
  refine ⟨by simp only [PyData.canLay0, PyData.canLayAll0, a1, b1, Bool.and_self], ?_⟩
  simp only [PyData.depth, PyData.depthAll, a2, b2]
  omega
theorem rows4_lay : ∀ ls : List NL, PyData.canLayAll0 (ls.map row4D) = true ∧ PyData.depthAll (ls.map row4D) ≤ 1
  | [] => ⟨rfl, by simp [PyData.depthAll]⟩
  | l :: ls => by
    obtain ⟨a1, a2⟩ := row4_lay l
    obtain ⟨b1, b2⟩ := rows4_lay ls
    refine ⟨by simp only [List.map_cons, PyData.canLayAll0, a1, b1, Bool.and_self], ?_⟩
    simp only [List.map_cons, PyData.depthAll]
    omega
theorem row4_shaped (l : NL) : SeqAt.shaped (row4D l) = true := by
  obtain ⟨a1, a2⟩ := row4_lay l
  unfold SeqAt.shaped
  rw [Bool.and_eq_true]
  exact ⟨a1, decide_eq_true (by omega)⟩
theorem rows4_shaped (ls : List NL) : SeqAt.shaped (.list (ls.map row4D)) = true := by
  obtain ⟨a1, a2⟩ := rows4_lay ls
  unfold SeqAt.shaped
  rw [Bool.and_eq_true]
  refine ⟨by simp only [PyData.canLay0]; exact a1, decide_eq_true ?_⟩
  simp only [PyData.depth]
  omega
theorem rows4_dp {K : PySem.W.Frag} {H : Hp} {A : Nat → Addr} : ∀ {ls : List NL}, (∀ l ∈ ls, H (A l.number) = some (.lst (nrow4 l))) → DpAll K H (refs4 ls A) (ls.map row4D)
  | [], _ => .nil
  | l :: ls, h => .cons (row4_dp (h l List.mem_cons_self)) (rows4_dp fun x hx => h x (List.mem_cons_of_mem _ hx))
theorem row4_ne {l l' : NL} (h : l.number ≠ l'.number) : PyData.eqv (row4D l) (row4D l') = false := by
  unfold row4D
  simp only [PyData.eqv, PyData.eqvAll]
  rw [show (((l.number : Nat) : Int) == ((l'.number : Nat) : Int)) = false by simp; omega]
  rfl
theorem place4 {us vs : List NL} {l : NL} (h : ∀ x ∈ us, x.number ≠ l.number) : SeqAt.dataPlace ((us ++ l :: vs).map row4D) (row4D l) = some us.length := by
  unfold SeqAt.dataPlace
  rw [List.map_append, List.map_cons, List.findIdx?_append]
  have e1 : List.findIdx? (fun y => PyData.eqv y (row4D l)) (us.map row4D) = none := by
    rw [List.findIdx?_eq_none_iff]
    intro y hy
    obtain ⟨x, hx, rfl⟩ := List.mem_map.mp hy
    exact row4_ne (h x hx)
  have e2 : PyData.eqv (row4D l) (row4D l) = true := PySem.SeqAt.eqv_refl _ (row4_lay l).1
  rw [e1, List.findIdx?_cons, e2]
  simp
theorem paired_app {α β : Type} {R : α → β → Prop} : ∀ {xs ys : List α} {ws vs : List β}, Paired R xs ws → Paired R ys vs → Paired R (xs ++ ys) (ws ++ vs)
  | _, _, _, _, .nil, h => h
  | _, _, _, _, .cons h t, k => .cons h (paired_app t k)
theorem k_lcM {β : Type} {R R' : Hp → V → β → Prop} (mono : ∀ {H H' : Hp} {x : V} {b : β}, Same H H' → R H x b → R H' x b) (mono' : ∀ {H H' : Hp} {x : V} {b : β}, Same H H' → R' H x b → R' H' x b) (monoU : ∀ {H : Hp} {l : Addr} {ys zs : List V} {x : V} {b : β}, H l = some (.lst ys) → R' H x b → R' (upd H l (.lst zs)) x b)
    {J : It} {G : Hp → Prop} {xs : List V} {bs : List β} {j : Nat} {tt : TT} {te : TE} {σ : L2.St} {H : Hp} {Q : VK} (w : Walk J xs.length G (YAt xs)) (q : β → Bool) (hp : Paired (R H) xs bs) (hn : bs.length ≤ 900000) (hj : j < σ.length) (hG : ∀ H', Same H H' → G H')
    (ht : ∀ (x : V) (b : β) (H1 : Hp) (Qb : Bool → Hp → Prop), Same H H1 → b ∈ bs → R H1 x b → (∀ H2, Same H1 H2 → Qb (q b) H2) → tt (σ.set j (some x)) H1 Qb)
    (he : ∀ (x : V) (b : β) (H1 : Hp) (QV : VK), Same H H1 → b ∈ bs → q b = true → R H1 x b → (∀ (y : V) (H2 : Hp), Same H1 H2 → R' H2 y b → QV y H2) → te (σ.set j (some x)) H1 QV)
    (k : ∀ (l : Addr) (H' : Hp) (ys : List V), H l = none → Same H H' → H' l = some (.lst ys) → Paired (R' H') ys (bs.filter q) → Q (.ref l) H') : fLc (gName j) tt te [j] σ Q J H := by
  have hl : xs.length = bs.length := Paired.length hp
  refine k_lc w fun l nl => ⟨fun i H' => Same H H' ∧ ∃ ys, H' l = some (.lst ys) ∧ Paired (R' H') ys ((bs.take i).filter q), ⟨Same.new nl, [], upd_same, .nil⟩, fun i H' _ h => hG H' h.1, ?_, ?_⟩
  · rintro i x H1 H2 hi ⟨s1, ys, h1, h2⟩ ⟨rfl, hx⟩
    have eb := List.getElem?_eq_getElem (l := bs) (i := i) (by omega)
    have hb : bs[i] ∈ bs := List.getElem_mem (by omega)
    have hR := mono s1 (Paired.get2 hp hx eb)
    have ew : ∀ v : Option V, ((wipe σ [j]).set j v) = σ.set j v := fun v => by
      show (σ.set j none).set j v = _
      rw [List.set_set]
    show (fun σ2 H2 => wipe σ2 [j] = wipe σ [j] ∧ tt σ2 H2 _) ((wipe σ [j]).set j (some x)) H2
    rw [ew]
    refine ⟨?_, ht x bs[i] H2 _ s1 hb hR fun H3 s3 => ?_⟩
    · show (σ.set j (some x)).set j none = σ.set j none
      rw [List.set_set]
    · have htk : (bs.take (i + 1)).filter q = (bs.take i).filter q ++ if q bs[i] = true then [bs[i]] else [] := by
        rw [List.take_succ, eb, List.filter_append]
        congr 1
        show List.filter q [bs[i]] = _
        by_cases h : q bs[i] = true
        · rw [List.filter_cons_of_pos h, if_pos h]
          rfl
        · rw [List.filter_cons_of_neg h, if_neg h]
          rfl
      have h3 := s3 _ _ h1
      have h2' := Paired.mapP h2 fun _ _ r => mono' s3 r
      have hlen : ys.length ≤ i := by
        rw [Paired.length h2]
        refine Nat.le_trans (List.length_filter_le _ _) ?_
        rw [List.length_take]
        omega
      show if q bs[i] = true then _ else _
      split
      · rename_i hq
        rw [if_pos hq] at htk
        refine he x bs[i] H3 _ (s1.trans s3) hb hq (mono s3 hR) fun y H4 s4 hy => ?_
        have h4 := s4 _ _ h3
        have sU : Same H4 H4 := Same.refl _
        refine k_accM h4 (by omega) ⟨Same.upd_new ((s1.trans s3).trans s4) nl, ys ++ [y], upd_same, ?_⟩
        rw [htk]
        have h4' := Paired.mapP h2' fun _ _ r => mono' s4 r
        exact Paired.mapP (paired_app h4' (.cons hy .nil)) fun _ _ r => monoU h4 r
      · rename_i hq
        rw [if_neg hq, List.append_nil] at htk
        exact ⟨s1.trans s3, ys, h3, by rw [htk]; exact h2'⟩
  · rintro H' ⟨s1, ys, h1, h2⟩
    rw [hl, List.take_length] at h2
    exact k l H' ys nl s1 h1 h2

set_option Elab.async false
set_option linter.all false
set_option maxRecDepth 100000


def StdR (K : PySem.W.Frag) (H : Hp) (x : V) (o : OL) : Prop := ∃ r, x = .ref r ∧ SqT K H r [.bl o.standing, .int o.label]
theorem frm_new {S : Addr → Prop} {H H' : Hp} (f : Frm S H H') {r : Addr} (n : H' r = none) : S r ∨ H r = none := by
  by_cases hs : S r
  · exact .inl hs
  · cases h : H r with
    | none => exact .inr rfl
    | some o => rw [f r o h hs] at n; cases n
theorem frm_sameT {S : Addr → Prop} {H H' : Hp} (f : Frm S H H') (h : ∀ b, S b → ∃ xs, H b = some (.lst xs)) : SameT H H' := fun b ys =>
  ⟨fun e => f b _ e fun s => (by obtain ⟨xs, h1⟩ := h b s; rw [e] at h1; cases h1), fun o e => f b _ e fun s => (by obtain ⟨xs, h1⟩ := h b s; rw [e] at h1; cases h1)⟩
theorem k_inOVs {K : PySem.W.Frag} {H : Hp} {Q : VK} {a : Addr} {n : Nat} {os : List (Option Nat)} (h : H a = some (.lst (os.map oV))) (q : Q (.bl (!decide (some n ∈ os))) H) : fOp2 (rNotInU K) (.int (n : Nat)) Q (.ref a) H := by
  have hd : ∀ os : List (Option Nat), DpAll K H (os.map oV) (os.map oD) := fun os => by
    induction os with
    | nil => exact .nil
    | cons o os ih => exact .cons (oD_dp o) ih
  have hl : ∀ os : List (Option Nat), PyData.canLayAll0 (os.map oD) = true ∧ PyData.depthAll (os.map oD) ≤ 1 := fun os => by
    induction os with
    | nil => exact ⟨rfl, by simp [PyData.depthAll]⟩
    | cons o os ih =>
      obtain ⟨a1, a2⟩ := oD_lay o
      refine ⟨by simp only [List.map_cons, PyData.canLayAll0, a1, ih.1, Bool.and_self], ?_⟩
      have := ih.2
      simp only [List.map_cons, PyData.depthAll]
      omega
  have hs : SeqAt.shaped (.list (os.map oD)) = true := by
    obtain ⟨a1, a2⟩ := hl os
    unfold SeqAt.shaped
    rw [Bool.and_eq_true]
    refine ⟨by simp only [PyData.canLay0]; exact a1, decide_eq_true ?_⟩
    simp only [PyData.depth]
    omega
  have e : ((os.map oD).any fun z => PyData.eqv z (.int (n : Nat))) = decide (some n ∈ os) := by
    rw [List.any_map, Bool.eq_iff_iff, List.any_eq_true, decide_eq_true_iff]
    have one : ∀ o : Option Nat, PyData.eqv (oD o) (.int (n : Nat)) = true ↔ o = some n := fun o => by
      cases o with
      | none => simp [oD, PyData.eqv]
      | some m =>
        simp only [oD, PyData.eqv, Option.some.injEq]
        simp
        omega
    constructor
    · rintro ⟨o, ho, h1⟩
      rw [← (one o).mp h1]
      exact ho
    · intro h
      exact ⟨_, h, (one _).mpr rfl⟩
  exact k_ninL (.int _) (.lst (SqL.of h) (hd os)) (by simp [SeqAt.shaped, PyData.canLay0, PyData.depth]) hs (by rw [e]; exact q)
theorem srcs_eq : ∀ {zs : List V} {ls : List NL}, Paired (fun (x : V) (l : NL) => x = oV l.source) zs ls → zs = (ls.map (·.source)).map oV
  | _, _, .nil => rfl
  | _, _, .cons e t => by
    rw [e, srcs_eq t]
    rfl
theorem k_cond {cond : TT} {s1 s2 : TS} {D : Ends} {σ : L2.St} {H : Hp} (c : Bool) (hc : ∀ Qb : Bool → Hp → Prop, Qb c H → cond σ H Qb) (h : if c = true then s1 D σ H else s2 D σ H) : tIfS cond s1 s2 D σ H := hc _ h
def spRun25 (K : PySem.W.Frag) : Sp := fun vs H Q _ => ∃ (rs ss ln : Addr) (ws : List (List Str)) (xs : List V) (g : LG) (A : Nat → Addr) (S : Addr → Prop) (H0 : Hp), vs = [.ref rs, .ref ss, .ref ln, .int (g.last : Nat)] ∧ Row K H0 rs ws ∧ (∀ w ∈ ws, w = (["drop"] : List Str) ∨ ∃ y, w = (["make", y] : List Str)) ∧ ws.length ≤ 12 ∧ Same H0 H ∧ (∀ b, S b → H0 b = none) ∧ H ss = some (.lst xs) ∧ Paired (StdR K H) xs g.old ∧ ¬ S ss ∧ Nk H ln g.new A S ∧ WF g ∧ g.last + 13 * g.old.length < 900000 ∧
  ∀ (A' : Nat → Addr) (S' : Addr → Prop) (H' : Hp), Nk H' ln (runG ws g).new A' S' → WF (runG ws g) → Frm S H H' → Grow S S' H → Q (.int ((runG ws g).last : Nat)) H'
set_option maxHeartbeats 8000000
section
variable {P : Program} {w : World} {K : PySem.W.Frag} {mg : Str → Option Value} {base : Heap}
theorem ok__law_run (T : Txt w P K mg) : FnOk P w K mg base CX0 1 T.f__law_run T.d__law_run ["steps", "standing", "news", "ever"] (spRun25 K) := by
  refine T.F__law_run.ok sc__law_run (fun vs H Q E h => ?_) (fun cdv A outer s H vs Q E hr h => ?_)
  · obtain ⟨rs, ss, ln, ws, xs, g, A, S, H0, rfl, _⟩ := h
    rfl
  · obtain ⟨rs, ss, ln, ws, xs, g, A0, S0, H0, rfl, hR, hmn, hws, s0, hS0, hss, hst, nss, w00, W0, hb, k⟩ := h
    refine ⟨_, (pss_cons (ps_for PassesOwn.never rfl (pi_seqk K (pv 0)) (pg_name (i := 4) sc__law_run.nd rfl (Or.inl rfl))
  (pss_one (ps_if (pt_cmpR (op_eqUk K (hu65 hr)) (pe_ix (ix_seqk K) (pv 4) pe_int (fun _ _ => rfl)) pe_str (nomark _)) (pss_cons (ps_setLc (i := 5) (own := [("line", 6)]) (g := (gName 6)) (tt := tYes) rfl sc__law_run.nd rfl rfl (sw_true rfl rfl rfl (by decide +kernel)) (pi_seqk K (pv 2)) (blkOk_by (own := [("line", 6)]) (N := N__law_run) (sc := defScope s__law_run) (by decide +kernel)) (fun _ _ _ _ _ => (pg_name (i := 6) sc__law_run.nd rfl (Or.inl rfl))) (fun _ _ _ _ _ => pts_nil) (fun _ _ _ _ _ => (pe_ix (ix_seqk K) (pv 6) pe_int (fun _ _ => rfl))))
  (pss_one (ps_for PassesOwn.never rfl (pi_range1 (by rfl) T.m_range (pa_cons (pe_callB (call_lenUk K) (by rfl) T.m_len b_len (pa_cons (pv 1) pa_nil)) pa_nil)) (pg_name (i := 7) sc__law_run.nd rfl (Or.inl rfl))
  (pss_one (ps_if (PW.pt (pw_and (pt_cmpR (op_notInUk K (hu65 hr)) (pe_op (op_addUk K) (pv 7) pe_int) (pv 5) (by rfl)) (pw_and1 (PW.pt (pw_or (pt_val (pe_ix (ix_seqk K) (pe_ix (ix_seqk K) (pv 1) (pv 7) (fun _ _ => rfl)) pe_int (fun _ _ => rfl))) (pw_or1 (pt_cmpR (op_eqUk K (hu65 hr)) (pe_ix (ix_seqk K) (pv 4) pe_int (fun _ _ => rfl)) pe_str (nomark _)))))))) (pss_cons (ps_set (i := 3) sc__law_run.nd rfl (Or.inl rfl) (pe_op (op_addUk K) (pv 3) pe_int))
  (pss_one (ps_expr (pe_bm PySem.F.plainAttrs_list PySem.F.slot_list_append PySem.F.type_list_append mt_append (pv 2) (pa_cons (pe_lst (pa_cons (pv 3) (pa_cons (pe_op (op_addUk K) (pv 7) pe_int) (pa_cons (pe_ix (ix_seqk K) (pe_ix (ix_seqk K) (pv 1) (pv 7) (fun _ _ => rfl)) pe_int (fun _ _ => rfl)) (pa_cons pe_non pa_nil))))) pa_nil))))) pss_nil))))) (pss_cons (ps_setLc (i := 8) (own := [("line", 6)]) (g := (gName 6)) rfl sc__law_run.nd rfl rfl (sw_true rfl rfl rfl (by decide +kernel)) (pi_seqk K (pv 2)) (blkOk_by (own := [("line", 6)]) (N := N__law_run) (sc := defScope s__law_run) (by decide +kernel)) (fun _ _ _ _ _ => (pg_name (i := 6) sc__law_run.nd rfl (Or.inl rfl))) (fun _ _ _ _ _ => (pts_one (PW.pt (pw_and (pt_cmpR op_isNotU (pe_ix (ix_seqk K) (pv 6) pe_int (fun _ _ => rfl)) pe_non (nomark _)) (pw_and1 (pt_not (pt_val (pe_ix (ix_seqk K) (pe_ix (ix_seqk K) (pv 1) (pe_op op_sub (pe_ix (ix_seqk K) (pv 6) pe_int (fun _ _ => rfl)) pe_int) (fun _ _ => rfl)) pe_int (fun _ _ => rfl))))))))) (fun _ _ _ _ _ => (pe_ix (ix_seqk K) (pv 6) pe_int (fun _ _ => rfl))))
  (pss_one (ps_for PassesOwn.never rfl (pi_seqk K (pe_callTy (call_list_ofk K) (by rfl) T.m_list b_list (pa_cons (pv 2) pa_nil))) (pg_name (i := 6) sc__law_run.nd rfl (Or.inl rfl))
  (pss_one (ps_if (pt_cmpR (op_inUk K (hu65 hr)) (pe_ix (ix_seqk K) (pv 6) pe_int (fun _ _ => rfl)) (pv 8) (by rfl)) (pss_one (ps_expr (pe_bm PySem.F.plainAttrs_list PySem.F.slot_list_remove PySem.F.type_list_remove (mt_remDk K (hu65 hr)) (pv 2) (pa_cons (pv 6) pa_nil)))) (pss_one (ps_if (pt_cmpR (op_inUk K (hu65 hr)) (pe_ix (ix_seqk K) (pv 6) pe_int (fun _ _ => rfl)) (pv 8) (by rfl)) (pss_one (ps_asg pe_non (pg_sub (pv 6) pe_int set_list))) pss_nil))))))))))
  (pss_one (ps_ret (pv 3)))), ?_⟩
    have w0 := w00.shrink
    have hSl : ∀ b, (fun b => S0 b ∧ ∃ xs, H b = some (.lst xs)) b → ∃ xs, H b = some (.lst xs) := fun b h => h.2
    have hSs : ∀ b, (fun b => S0 b ∧ ∃ xs, H b = some (.lst xs)) b → S0 b := fun b h => h.1
    generalize (fun b => S0 b ∧ ∃ xs, H b = some (.lst xs)) = S at w0 hSl hSs
    have nssS : ¬ S ss := fun h => nss (hSs _ h)
    have hS : ∀ b, S b → H0 b = none := fun b h => hS0 b (hSs b h)
    obtain ⟨ys, x1, x2⟩ := hR
    have hlx : ys.length = ws.length := Paired.length x2
    walk_at "rd"
    refine k_for (walk_tup (xs := ys)) (fun i σ H' => (∃ v4 v5 v6 v7 v8, σ = [some (.ref rs), some (.ref ss), some (.ref ln), some (.int (((ws.take i).foldl (stepG g.last) g).last : Nat)), v4, v5, v6, v7, v8]) ∧ Frm S H H' ∧ ∃ A' S', Nk H' ln ((ws.take i).foldl (stepG g.last) g).new A' S' ∧ Grow S S' H ∧ WF ((ws.take i).foldl (stepG g.last) g))
      ⟨⟨_, _, _, _, _, rfl⟩, Frm.refl _ _, A0, S, w0, Grow.refl _ _, W0⟩ (fun i σ H' _ h => sqT_mono (SameT.of (h.2.1.same s0 hS)) x1) ?_ ?_
    · rintro i x σ H3' H3 hi ⟨⟨v4, v5, v6, v7, v8, rfl⟩, F3, A3, S3, w3, G3, W3⟩ ⟨rfl, hx⟩
      obtain ⟨a1, wd, e1, e2, e3⟩ := Steps.at_ (j := i) x2 (by omega)
      rw [hx] at e1
      cases e1
      have hfold : (ws.take (i + 1)).foldl (stepG g.last) g = stepG g.last ((ws.take i).foldl (stepG g.last) g) wd := by
        rw [List.take_succ, e2, List.foldl_append]
        rfl
      obtain ⟨c1, c2⟩ := steps_bound g.last (ws.take i) g
      have hlt : (ws.take i).length ≤ 11 := by rw [List.length_take]; omega
      have hbb : (ws.take i).length * g.old.length ≤ 11 * g.old.length := Nat.mul_le_mul_right _ hlt
      have hnl := W3.newLen
      have hmost3 := W3.most
      have few := W0.few
      have hmw := hmn wd (List.mem_of_getElem? e2)
      rw [hfold]
      clear hfold
      have t03 : SameT H H3 := frm_sameT F3 hSl
      have hss3 := F3 _ _ hss nssS
      have hst3 : Paired (StdR K H3) xs g.old := Paired.mapP hst fun _ _ ⟨r, e, h⟩ => ⟨r, e, sqT_mono t03 h⟩
      rw [← c1] at hst3
      generalize (ws.take i).foldl (stepG g.last) g = gi at w3 W3 c1 c2 hnl hmost3 hst3 ⊢
      have c1' : gi.old.length = g.old.length := by rw [c1]
      have hxl : xs.length = gi.old.length := Paired.length hst3
      have e4 : SqT K H3 a1 (wd.map V.str) := sqT_mono ((SameT.of s0).trans t03) e3
      have nss3 : ¬ S3 ss := fun h => (G3 _ h).elim nssS fun z => by rw [hss] at z; cases z
      rw [e_gname]
      rcases hmw with rfl | ⟨y, rfl⟩
      · have e5 : SqT K H3 a1 [.str "drop"] := e4
        have el : (stepG g.last gi ["drop"]).last = gi.last := (dropAll_fold _ gi).2
        have ed : stepG g.last gi ["drop"] = dropAll gi := rfl
        have hln3 := w3.hln
        walk_at "rd"
        rw [if_neg (by decide +kernel)]
        walk_at "rd"
        have hrows : Paired (fun (x : V) (l : NL) => x = .ref (A3 l.number) ∧ H3 (A3 l.number) = some (.lst (nrow4 l))) (refs4 gi.new A3) gi.new := by
          have e : ∀ ls : List NL, (∀ l ∈ ls, l ∈ gi.new) → Paired (fun (x : V) (l : NL) => x = .ref (A3 l.number) ∧ H3 (A3 l.number) = some (.lst (nrow4 l))) (refs4 ls A3) ls := fun ls => by
            induction ls with
            | nil => exact fun _ => .nil
            | cons l ls ih => exact fun h => .cons ⟨rfl, w3.new l (h l List.mem_cons_self)⟩ (ih fun x hx => h x (List.mem_cons_of_mem _ hx))
          exact e gi.new fun _ h => h
        refine k_lcM (R := fun H x (l : NL) => x = .ref (A3 l.number) ∧ H (A3 l.number) = some (.lst (nrow4 l))) (R' := fun _ x (l : NL) => x = .int (l.number : Nat)) (fun s h => ⟨h.1, s _ _ h.2⟩) (fun _ h => h) (fun _ h => h) (walk_list (xs := refs4 gi.new A3)) (fun l => l.source.isSome && !stands gi l) hrows (by omega) ?_ (fun H' s => SqL.of (s _ _ hln3)) (fun x l Hx Qb s' hl ⟨u1, u2⟩ hq => ?_) (fun x l Hx QV s' hl _ ⟨u1, u2⟩ hq => ?_) fun gl H4 zs ngl s4 hgl hz => ?_
        · simp
        · subst u1
          have hrow : Hx (A3 l.number) = some (.lst [.int (l.number : Nat), oV l.source, .int l.label, oV l.tie]) := u2
          have hq' : Qb (l.source.isSome && !stands gi l) Hx := hq _ (Same.refl _)
          have hssx := s' _ _ hss3
          walk_at "rd"
          cases hs : l.source with
          | none =>
            rw [hs] at hq'
            simp only [oV, ne_eq, not_true_eq_false, if_false, decide_false, ite_false]
            try walk_at "rd"
            exact hq'
          | some so =>
            rw [hs] at hq' hrow
            have hb := W3.src l hl so hs
            have hol : gi.old[so - 1]? = some (gi.old[so - 1]'(by omega)) := List.getElem?_eq_getElem _
            generalize gi.old[so - 1]'(by omega) = o at hol
            have hstd : stands gi l = o.standing := by
              unfold stands
              rw [hs]
              show (match gi.old[so - 1]? with | none => true | some o => o.standing) = _
              rw [hol]
            rw [hstd] at hq'
            have hq'' : Qb (!o.standing) Hx := hq'
            have hxs : xs[so - 1]? = some (xs[so - 1]'(by omega)) := List.getElem?_eq_getElem _
            obtain ⟨r, er, hr⟩ := Paired.get2 hst3 hxs hol
            rw [er] at hxs
            simp only [oV, ne_eq, reduceCtorEq, not_false_eq_true, if_true, decide_true, ite_true]
            walk_at "rd"
            simp only [oV]
            walk_at "rd"
            refine k_ixL (SqL.of hssx) (at_of (j := so - 1) (by omega) hxs) ?_
            have hrx := sqT_mono (SameT.of s') hr
            walk_at "rd"
            exact hq''
        · subst u1
          have hrow : Hx (A3 l.number) = some (.lst [.int (l.number : Nat), oV l.source, .int l.label, oV l.tie]) := u2
          walk_at "rd"
          exact hq _ Hx (Same.refl _) rfl
        have ezs := nums_eq hz
        subst ezs
        generalize hns : (gi.new.filter fun l => l.source.isSome && !stands gi l).map (·.number) = ns at hgl
        have hdrop : dropAll gi = lessG gi ns := by
          rw [dropAll_less, ← hns]
          rfl
        have w4 := w3.same s4
        have hln4 := w4.hln
        walk_at "rd"
        rename_i cp ncp
        have s5 : Same H3 (upd H4 cp (.lst (refs4 gi.new A3))) := s4.trans (Same.new ncp)
        have hcp5 := upd_same (H := H4) (a := cp) (o := .lst (refs4 gi.new A3))
        have hgl5 : upd H4 cp (.lst (refs4 gi.new A3)) gl = some (.lst (natsV ns)) := lk_new hgl ncp
        generalize upd H4 cp (.lst (refs4 gi.new A3)) = H5 at s5 hcp5 hgl5 ⊢
        have w5 := w3.alloc.same s5
        have nSg : ¬ (fun b => S3 b ∧ H3 b ≠ none) gl := fun h => h.2 ngl
        have nSc : ¬ (fun b => S3 b ∧ H3 b ≠ none) cp := fun h => h.2 (Same.none_of s4 ncp)
        have hS53 : ∀ b, (fun b => S3 b ∧ H3 b ≠ none) b → S3 b := fun b h => h.1
        generalize (fun b => S3 b ∧ H3 b ≠ none) = S5 at w5 nSg nSc hS53
        refine k_for (walk_list (xs := refs4 gi.new A3)) (fun j σ H' => (∃ v6 v7, σ = [some (.ref rs), some (.ref ss), some (.ref ln), some (.int (gi.last : Nat)), some (.ref a1), v5, v6, v7, some (.ref gl)]) ∧ Nk H' ln (((gi.new.take j).filter fun l => !decide (l.number ∈ ns)).map (unt ns) ++ gi.new.drop j) A3 S5 ∧ Frm S5 H5 H') ⟨⟨_, _, rfl⟩, by simpa using w5, Frm.refl _ _⟩ (fun i σ H' _ h => SqL.of (h.2.2 _ _ hcp5 nSc)) ?_ ?_
        · rintro j x σ H6' H6 hj ⟨⟨v6', v7', rfl⟩, w6, F6⟩ ⟨rfl, hx2⟩
          rw [refs4_len] at hj
          have hgj : gi.new[j]? = some gi.new[j] := List.getElem?_eq_getElem hj
          have hdj : gi.new.drop j = gi.new[j] :: gi.new.drop (j + 1) := List.drop_eq_getElem_cons hj
          have htj : gi.new.take (j + 1) = gi.new.take j ++ [gi.new[j]] := by
            rw [List.take_add_one, hgj]
            rfl
          generalize gi.new[j] = l at hgj hdj htj
          have hxe : (refs4 gi.new A3)[j]? = some x := hx2
          rw [refs4_at hgj] at hxe
          cases hxe
          rw [hdj] at w6
          rw [htj, List.filter_append, List.map_append]
          have hult : ∀ y ∈ ((gi.new.take j).filter fun l => !decide (l.number ∈ ns)).map (unt ns), y.number ≠ l.number := fun y hy => by
            obtain ⟨z, hz, rfl⟩ := List.mem_map.mp hy
            have hzt := (List.mem_filter.mp hz).1
            obtain ⟨p, hp⟩ := List.getElem?_of_mem hzt
            rw [List.getElem?_take] at hp
            split at hp
            · rename_i hpj
              have en : (unt ns z).number = z.number := congrArg (·.1) (unt_key ns z)
              rw [en]
              intro e
              have := W3.inj hp hgj e
              omega
            · cases hp
          have hvgt : ∀ y ∈ gi.new.drop (j + 1), y.number ≠ l.number := fun y hy => by
            obtain ⟨p, hp⟩ := List.getElem?_of_mem hy
            rw [List.getElem?_drop] at hp
            intro e
            have := W3.inj hp hgj e
            omega
          generalize ((gi.new.take j).filter fun l => !decide (l.number ∈ ns)).map (unt ns) = us at w6 hult ⊢
          generalize gi.new.drop (j + 1) = vs at w6 hvgt ⊢
          have hlm : l ∈ us ++ l :: vs := List.mem_append_right _ List.mem_cons_self
          have hrow : H6 (A3 l.number) = some (.lst [.int (l.number : Nat), oV l.source, .int l.label, oV l.tie]) := w6.new l hlm
          have hgl6 := F6 _ _ hgl5 nSg
          have hln6 := w6.hln
          rw [e_gname]
          walk_at "rd"
          refine k_inNats hgl6 ?_
          walk_at "rd"
          by_cases hin : l.number ∈ ns
          · rw [if_pos hin]
            walk_at "rd"
            refine k_remD hln6 (rows4_dp w6.new) (row4_dp hrow) (rows4_shaped _) (row4_shaped l) (place4 hult) ?_
            have ee : (refs4 (us ++ l :: vs) A3).eraseIdx us.length = refs4 (us ++ vs) A3 := by
              unfold refs4
              rw [List.map_append, List.map_cons, List.map_append]
              rw [List.eraseIdx_append_of_length_le (by rw [List.length_map]; exact Nat.le_refl _), List.length_map, Nat.sub_self]
              rfl
            rw [ee]
            walk_at "rd"
            rw [List.filter_cons_of_neg (by simpa using hin), List.filter_nil, List.map_nil, List.append_nil]
            exact ⟨⟨_, _, rfl⟩, w6.out, fun b u e n => lk_ne (F6 b u e n) fun z => n (z ▸ w6.sln)⟩
          · rw [if_neg hin]
            rw [List.filter_cons_of_pos (by simpa using hin), List.filter_nil]
            walk_at "rd"
            refine k_inOV hgl6 ?_
            walk_at "rd"
            rw [List.append_assoc, List.singleton_append]
            by_cases ht : tieGone l.tie ns = true
            · rw [if_pos ht]
              walk_at "rd"
              have eu : unt ns l = { l with tie := none } := if_pos ht
              have w7 := w6.sub (l' := unt ns l) (congrArg (·.1) (unt_key ns l)) fun x hx => (List.mem_append.mp hx).elim (hult x) (hvgt x)
              have er : nrow4 (unt ns l) = [.int (l.number : Nat), oV l.source, .int l.label, .non] := by
                rw [eu]
                rfl
              rw [er] at w7
              exact ⟨⟨_, _, rfl⟩, w7, fun b u e n => lk_ne (F6 b u e n) fun z => n (z ▸ w6.snew l hlm)⟩
            · rw [if_neg ht]
              have eu : unt ns l = l := if_neg ht
              rw [eu]
              exact ⟨⟨_, _, rfl⟩, w6, F6⟩
        · rintro σ H6 ⟨⟨v6', v7', rfl⟩, w6, F6⟩
          rw [refs4_len, List.take_length, List.drop_length, List.append_nil] at w6
          refine ⟨⟨_, _, _, _, _, by rw [el]⟩, fun b o e n => F6 b o (s5 b o (F3 b o e n)) fun h => (G3 b (hS53 b h)).elim n fun z => (by rw [z] at e; cases e), A3, S5, by rw [ed, hdrop]; exact w6, fun b h => G3 b (hS53 b h), by rw [ed]; exact WF.dropFold _ W3⟩
      · have e5 : SqT K H3 a1 [.str "make", .str y] := e4
        have e6 : stepG g.last gi ["make", y] = makeTo (decide (y = "all")) gi gi.old.length := by
          unfold stepG
          exact if_pos rfl
        have hln3 := w3.hln
        walk_at "rd"
        have hrows : Paired (fun (x : V) (l : NL) => x = .ref (A3 l.number) ∧ H3 (A3 l.number) = some (.lst (nrow4 l))) (refs4 gi.new A3) gi.new := by
          have e : ∀ ls : List NL, (∀ l ∈ ls, l ∈ gi.new) → Paired (fun (x : V) (l : NL) => x = .ref (A3 l.number) ∧ H3 (A3 l.number) = some (.lst (nrow4 l))) (refs4 ls A3) ls := fun ls => by
            induction ls with
            | nil => exact fun _ => .nil
            | cons l ls ih => exact fun h => .cons ⟨rfl, w3.new l (h l List.mem_cons_self)⟩ (ih fun x hx => h x (List.mem_cons_of_mem _ hx))
          exact e gi.new fun _ h => h
        refine k_lcM (R := fun H x (l : NL) => x = .ref (A3 l.number) ∧ H (A3 l.number) = some (.lst (nrow4 l))) (R' := fun _ x (l : NL) => x = oV l.source) (fun s h => ⟨h.1, s _ _ h.2⟩) (fun _ h => h) (fun _ h => h) (walk_list (xs := refs4 gi.new A3)) (fun _ => true) hrows (by omega) ?_ (fun H' s => SqL.of (s _ _ hln3)) (fun x l Hx Qb s' hl ⟨u1, u2⟩ hq => hq _ (Same.refl _)) (fun x l Hx QV s' hl _ ⟨u1, u2⟩ hq => ?_) fun th H4 zs nth s4 hth hz => ?_
        · simp
        · subst u1
          have hrow : Hx (A3 l.number) = some (.lst [.int (l.number : Nat), oV l.source, .int l.label, oV l.tie]) := u2
          walk_at "rd"
          exact hq _ Hx (Same.refl _) rfl
        rw [List.filter_eq_self.mpr (fun _ _ => rfl)] at hz
        have ezs : zs = (gi.new.map (·.source)).map oV := srcs_eq hz
        subst ezs
        have w4 := w3.shrink.same s4
        have nSt : ¬ (fun b => S3 b ∧ ∃ xs, H3 b = some (.lst xs)) th := fun h => by
          obtain ⟨_, zs, e⟩ := h
          rw [nth] at e
          cases e
        have hS53 : ∀ b, (fun b => S3 b ∧ ∃ xs, H3 b = some (.lst xs)) b → S3 b := fun b h => h.1
        have hS5l : ∀ b, (fun b => S3 b ∧ ∃ xs, H3 b = some (.lst xs)) b → ∃ xs, H4 b = some (.lst xs) := fun b h => by
          obtain ⟨_, zs, e⟩ := h
          exact ⟨zs, s4 _ _ e⟩
        generalize (fun b => S3 b ∧ ∃ xs, H3 b = some (.lst xs)) = S5 at w4 nSt hS53 hS5l
        have hss4 := s4 _ _ hss3
        have e54 := sqT_mono (SameT.of s4) e5
        have hst4 : Paired (StdR K H4) xs gi.old := Paired.mapP hst3 fun _ _ ⟨r, e, h⟩ => ⟨r, e, sqT_mono (SameT.of s4) h⟩
        have nss5 : ¬ S5 ss := fun h => nss3 (hS53 _ h)
        have thss : th ≠ ss := (ne_of_none hss3 nth).symm
        have hin : ∀ s : Nat, (!decide (some s ∈ gi.new.map (·.source))) = !(madeL gi s).isSome := fun s => by
          congr 1
          cases hm : madeL gi s with
          | none =>
            refine decide_eq_false fun h => ?_
            obtain ⟨l, hl, e⟩ := List.mem_map.mp h
            exact madeL_none hm l hl e
          | some l =>
            obtain ⟨h1, h2⟩ := madeL_some hm
            exact decide_eq_true (List.mem_map.mpr ⟨l, h1, h2⟩)
        walk_at "rd"
        rw [hxl]
        refine k_rng1 (by omega) (by omega) ?_
        rw [Int.toNat_natCast]
        refine k_for walk_range (fun j σ H' => (∃ v6 v7 v8, σ = [some (.ref rs), some (.ref ss), some (.ref ln), some (.int ((makeTo (decide (y = "all")) gi j).last : Nat)), some (.ref a1), some (.ref th), v6, v7, v8]) ∧ Frm S5 H4 H' ∧ ∃ A' S', Nk H' ln (makeTo (decide (y = "all")) gi j).new A' S' ∧ Grow S5 S' H4 ∧ WF (makeTo (decide (y = "all")) gi j))
          ⟨⟨_, _, _, rfl⟩, Frm.refl _ _, A3, S5, w4, Grow.refl _ _, W3⟩ (fun _ _ _ _ _ => True.intro) ?_ ?_
        · rintro j x σ H8' H8 hj ⟨⟨v6', v7', v8', rfl⟩, F8, A8, S8, w8, G8, W8⟩ ⟨rfl, rfl⟩
          have hold : (makeTo (decide (y = "all")) gi j).old = gi.old := makeTo_old _ _ _
          have hlast1 := makeTo_last (decide (y = "all")) gi j
          have hmadeL : madeL (makeTo (decide (y = "all")) gi j) (j + 1) = madeL gi (j + 1) := madeL_make (Nat.lt_succ_self j)
          have hstep : makeTo (decide (y = "all")) gi (j + 1) = makeStep (decide (y = "all")) j (makeTo (decide (y = "all")) gi j) := rfl
          rw [hstep]
          generalize makeTo (decide (y = "all")) gi j = gk at w8 W8 hold hlast1 hmadeL ⊢
          have hjo : j < gk.old.length := by rw [hold]; exact hj
          have hol : gk.old[j]? = some gk.old[j] := List.getElem?_eq_getElem hjo
          generalize gk.old[j] = o at hol
          have em : makeStep (decide (y = "all")) j gk = if madeL gk (j + 1) = none ∧ (decide (y = "all") || o.standing) = true then gk.addN o.label (closing o) (some (j + 1)) else gk := by
            unfold makeStep
            rw [hol]
          rw [em]
          have hxs : xs[j]? = some (xs[j]'(by omega)) := List.getElem?_eq_getElem _
          obtain ⟨r0, er, hr⟩ := Paired.get2 hst4 hxs (by rw [← hold]; exact hol)
          rw [er] at hxs
          have t48 : SameT H4 H8 := frm_sameT F8 hS5l
          have hss8 := F8 _ _ hss4 nss5
          have hth8 := F8 _ _ hth nSt
          have e58 : SqT K H8 a1 [.str "make", .str y] := sqT_mono t48 e54
          have hr8 := sqT_mono t48 hr
          have hln8 := w8.hln
          rw [e_gname]
          refine k_cond (!(madeL gk (j + 1)).isSome && (decide (y = "all") || o.standing)) (fun Qb hq => ?_) ?_
          · walk_at "rd"
            rw [show (0 : Int) + (j : Int) + 1 = ((j + 1 : Nat) : Int) by omega]
            refine k_inOVs hth8 ?_
            rw [hin (j + 1), ← hmadeL]
            walk_at "rd"
            cases hml : madeL gk (j + 1) with
            | some l =>
              rw [hml] at hq
              simp only [Option.isSome_some, Bool.not_true, Bool.false_eq_true, if_false]
              exact hq
            | none =>
              rw [hml] at hq
              simp only [Option.isSome_none, Bool.not_false, if_true]
              walk_at "rd"
              rw [show (0 : Int) + (j : Int) = (j : Nat) by omega]
              refine k_ixL (SqL.of hss8) (at_of (j := j) (by omega) hxs) ?_
              walk_at "rd"
              cases hos : o.standing with
              | true =>
                rw [hos, Bool.or_true] at hq
                walk_at "rd"
                exact hq
              | false =>
                rw [hos, Bool.or_false] at hq
                walk_at "rd"
                exact hq
          · by_cases hc : (!(madeL gk (j + 1)).isSome && (decide (y = "all") || o.standing)) = true
            · have hc2 : madeL gk (j + 1) = none ∧ (decide (y = "all") || o.standing) = true := by
                rw [Bool.and_eq_true] at hc
                refine ⟨?_, hc.2⟩
                cases hml : madeL gk (j + 1) with
                | none => rfl
                | some l => rw [hml] at hc; simp at hc
              rw [if_pos hc, if_pos hc2]
              walk_at "rd"
              rw [show (0 : Int) + (j : Int) = (j : Nat) by omega]
              refine k_ixL (SqL.of hss8) (at_of (j := j) (by omega) hxs) ?_
              walk_at "rd"
              rename_i r nr
              have eL : ([V.int ((gk.last : Int) + 1), V.int ((j : Int) + 1), V.int o.label, V.non] : List V) = nrow4 ⟨gk.last + 1, o.label, closing o, 0, none, some (j + 1), []⟩ := rfl
              rw [eL]
              have hnk := W8.newLen
              have hmk := W8.most
              refine k_appendM (lk_new hln8 nr) (by rw [refs4_len]; omega) ?_
              walk_at "rd"
              have w9 := w8.add (H' := upd (upd H8 r (.lst (nrow4 ⟨gk.last + 1, o.label, closing o, 0, none, some (j + 1), []⟩))) ln (.lst (refs4 gk.new A8 ++ [.ref r]))) nr ⟨gk.last + 1, o.label, closing o, 0, none, some (j + 1), []⟩ (fun x hx => by have := (W8.last x hx).2; show x.number ≠ gk.last + 1; omega) (lk_ne upd_same (ne_of_none hln8 nr).symm) upd_same fun b o e n => lk_ne (lk_new e nr) n
              refine ⟨⟨_, _, _, rfl⟩, fun b o e n => lk_ne (lk_new (F8 b o e n) nr) fun z => (G8 ln w8.sln).elim (fun h => n (z ▸ h)) fun h => (by rw [z, h] at e; cases e), _, _, w9, fun b h => h.elim (G8 b) fun h => (by rw [h]; exact frm_new F8 nr), W8.addN hjo (by omega) hc2.1⟩
            · rw [if_neg hc, if_neg (fun h => hc (by rw [h.1, h.2]; rfl))]
              walk_at "rd"
              exact ⟨⟨_, _, _, rfl⟩, F8, A8, S8, w8, G8, W8⟩
        · rintro σ H8 ⟨⟨v6', v7', v8', rfl⟩, F8, A8, S8, w8, G8, W8⟩
          refine ⟨⟨_, _, _, _, _, by rw [e6]⟩, fun b o e n => F8 b o (s4 b o (F3 b o e n)) fun h => (G3 b (hS53 b h)).elim n fun z => (by rw [z] at e; cases e), A8, S8, by rw [e6]; exact w8, fun b h => ?_, by rw [e6]; exact W8⟩
          rcases G8 b h with h | h
          · exact G3 b (hS53 b h)
          · exact frm_new F3 (Same.none_of s4 h)
    · rintro σ H3 ⟨⟨v4, v5, v6, v7, v8, rfl⟩, F3, A3, S3, w3, G3, W3⟩
      rw [hlx, List.take_length] at w3 W3
      walk_at "rd"
      have e9 : (ws.take ys.length).foldl (stepG g.last) g = runG ws g := by rw [hlx, List.take_length]; rfl
      rw [e9]
      exact k A3 S3 H3 w3 W3 (fun b o e n => F3 b o e fun h => n (hSs b h)) (fun b h => (G3 b h).imp (hSs b) id)
end

set_option Elab.async false
set_option linter.all false
set_option maxRecDepth 100000


theorem fo_lab {b : Int} (h1 : 0 ≤ b) (h2 : b ≤ 999999999999999999999999999999) : FieldOk "label" (.int b) := .inl ⟨rfl, b, rfl, h1, h2⟩
theorem fo_amt {s : Int} (h3 : -1000000000000 ≤ s) (h4 : s ≤ 1000000000000) : FieldOk "amount" (.int s) := .inr (.inl ⟨rfl, s, rfl, h3, h4⟩)
theorem fo_num {n : Nat} (h1 : 1 ≤ n) (h2 : n ≤ 1000000) : FieldOk "number" (.int (n : Nat)) := .inr (.inr (.inl ⟨rfl, _, rfl, by omega, by omega⟩))
theorem fo_oth {o : Option Nat} (h : ∀ x, o = some x → 1 ≤ x ∧ x ≤ 1000000) : FieldOk "other" (oV o) := by
  match o, h with
  | none, _ => exact .inr (.inr (.inr (.inl ⟨rfl, rfl⟩)))
  | some n, h =>
    have := h n rfl
    exact .inr (.inr (.inr (.inr ⟨rfl, _, rfl, by omega, by omega⟩)))
theorem ints_lay : ∀ ns : List Nat, PyData.canLayAll0 (ns.map fun n => PyData.int (n : Nat)) = true ∧ PyData.depthAll (ns.map fun n => PyData.int (n : Nat)) ≤ 1
  | [] => ⟨rfl, by simp [PyData.depthAll]⟩
  | n :: ns => by
    obtain ⟨b1, b2⟩ := ints_lay ns
    refine ⟨by simp only [List.map_cons, PyData.canLayAll0, b1, PyData.canLay0, Bool.and_self], ?_⟩
    simp only [List.map_cons, PyData.depthAll, PyData.depth]
    omega
theorem k_eqNilN {K : PySem.W.Frag} {H : Hp} {a b : Addr} {ns : List Nat} {Q : VK} (h1 : H a = some (.lst (natsV ns))) (h2 : H b = some (.lst [])) (q : Q (.bl ns.isEmpty) H) : fOp2 (rEqU K) (.ref a) Q (.ref b) H := by
  have e : PyData.eqv (.list (ns.map fun n => PyData.int (n : Nat))) (.list []) = ns.isEmpty := by
    cases ns with
    | nil => rfl
    | cons n ns => simp [PyData.eqv, PyData.eqvAll]
  have d : DpAll K H (natsV ns) (ns.map fun n => PyData.int (n : Nat)) := by
    have : ∀ ns : List Nat, DpAll K H (natsV ns) (ns.map fun n => PyData.int (n : Nat)) := fun ns => by
      induction ns with
      | nil => exact .nil
      | cons n ns ih => exact .cons (.int _) ih
    exact this ns
  refine k_eq_D (.lst (SqL.of h1) d) (.lst (SqL.of h2) .nil) ?_ (by decide) (by rw [e]; exact q)
  obtain ⟨a1, a2⟩ := ints_lay ns
  unfold SeqAt.shaped
  rw [Bool.and_eq_true]
  refine ⟨by simp only [PyData.canLay0]; exact a1, decide_eq_true ?_⟩
  simp only [PyData.depth]
  omega
/-- what may be drawn -/
def Sim25 : Dd → Prop
  | .add _ s => s = 0
  | .own _ => True
  | .stop _ => True
  | .wtie _ _ => True
  | .run => True
  | _ => False
def spDeed25 (K : PySem.W.Frag) : Sp := fun vs H Q _ => ∃ (a nl : Addr) (n : Nat) (g : LG), vs = [.ref a, .int (g.old.length : Nat), .ref nl] ∧ WellAt H a n ∧ n ≤ 800000 ∧ H nl = some (.lst (natsV (numsOf g.new))) ∧ nl ≠ a ∧ WF g ∧
  ∀ (r : Addr) (d : Dd) (H' : Hp), DeedAt K H' r d → d.Ok → d.there g → Sim25 d → WellAt H' a (n + 50) → But a H H' → Q (.ref r) H'
set_option maxHeartbeats 8000000
section
variable {P : Program} {w : World} {K : PySem.W.Frag} {mg : Str → Option Value} {base : Heap}
theorem ok__law_deed (T : Txt w P K mg) : FnOk P w K mg base CX0 3 T.f__law_deed T.d__law_deed ["well", "many", "numbers"] (spDeed25 K) := by
  refine T.F__law_deed.ok sc__law_deed (fun vs H Q E h => ?_) (fun cdv A outer s H vs Q E hr h => ?_)
  · obtain ⟨a, nl, n, g, rfl, _⟩ := h
    rfl
  · obtain ⟨a, nl, n, g, rfl, hw, hn, hnl, nla, W, k⟩ := h
    refine ⟨_, (pss_cons (ps_set (i := 3) sc__law_deed.nd rfl (Or.inl rfl) (pe_call (ok__law_draw T) (hr.mono (by decide)) (by rfl) T.m__law_draw T.F__law_draw.kp T.b__law_draw .nil pass0 (pa_cons (pv 0) (pa_cons pe_int pa_nil))))
  (pss_cons (ps_if (pt_cmpR op_gt (pv 3) pe_int (nomark _)) (pss_one (ps_ret (pe_tup (pa_cons pe_str pa_nil)))) pss_nil)
  (pss_cons (ps_if (PW.pt (pw_or (pt_cmpR op_lt (pv 3) pe_int (nomark _)) (pw_or1 (pt_cmpR (op_eqUk K (hu65 hr)) (pv 1) pe_int (nomark _))))) (pss_one (ps_ret (pe_tup (pa_cons pe_str (pa_cons (pe_call (ok__law_label T) (hr.mono (by decide)) (by rfl) T.m__law_label T.F__law_label.kp T.b__law_label .nil pass0 (pa_cons (pv 0) pa_nil)) (pa_cons pe_int pa_nil)))))) pss_nil)
  (pss_cons (ps_if (PW.pt (pw_or (pt_cmpR (op_eqUk K (hu65 hr)) (pv 3) pe_int (nomark _)) (pw_or1 (PW.pt (pw_and (pt_cmpR op_gt (pv 3) pe_int (nomark _)) (pw_and1 (pt_cmpR (op_eqUk K (hu65 hr)) (pv 2) (pe_lst pa_nil) (nomark _)))))))) (pss_one (ps_ret (pe_tup (pa_cons pe_str (pa_cons (pe_call (ok__law_label T) (hr.mono (by decide)) (by rfl) T.m__law_label T.F__law_label.kp T.b__law_label .nil pass0 (pa_cons (pv 0) pa_nil)) pa_nil))))) pss_nil)
  (pss_cons (ps_if (pt_cmpR op_lt (pv 3) pe_int (nomark _)) (pss_one (ps_ret (pe_tup (pa_cons pe_str (pa_cons (pe_op (op_addUk K) pe_int (pe_call (ok__law_draw T) (hr.mono (by decide)) (by rfl) T.m__law_draw T.F__law_draw.kp T.b__law_draw .nil pass0 (pa_cons (pv 0) (pa_cons (pv 1) pa_nil)))) pa_nil))))) pss_nil)
  (pss_cons (ps_set (i := 4) sc__law_deed.nd rfl (Or.inl rfl) (pe_ix (ix_seqk K) (pe_lst (pa_cons (pe_ix (ix_seqk K) (pv 2) (pe_call (ok__law_draw T) (hr.mono (by decide)) (by rfl) T.m__law_draw T.F__law_draw.kp T.b__law_draw .nil pass0 (pa_cons (pv 0) (pa_cons (pe_callB (call_lenUk K) (by rfl) T.m_len b_len (pa_cons (pv 2) pa_nil)) pa_nil))) (fun _ _ => rfl)) (pa_cons pe_non pa_nil))) (pe_callTy call_int1 (by rfl) T.m_int b_int (pa_cons (pe_cmpR (op_eqUk K (hu65 hr)) (pe_call (ok__law_draw T) (hr.mono (by decide)) (by rfl) T.m__law_draw T.F__law_draw.kp T.b__law_draw .nil pass0 (pa_cons (pv 0) (pa_cons pe_int pa_nil))) pe_int (nomark _)) pa_nil)) (fun _ _ => rfl)))
  (pss_one (ps_ret (pe_tup (pa_cons pe_str (pa_cons (pe_ix (ix_seqk K) (pv 2) (pe_call (ok__law_draw T) (hr.mono (by decide)) (by rfl) T.m__law_draw T.F__law_draw.kp T.b__law_draw .nil pass0 (pa_cons (pv 0) (pa_cons (pe_callB (call_lenUk K) (by rfl) T.m_len b_len (pa_cons (pv 2) pa_nil)) pa_nil))) (fun _ _ => rfl)) (pa_cons (pv 4) pa_nil)))))))))))), ?_⟩
    have few := W.few
    have hnew := W.newLen
    have hmost := W.most
    have hgn : (natsV (numsOf g.new)).length = g.new.length := by unfold natsV numsOf; rw [List.length_map, List.length_map]
    have nat_at : ∀ (j : Nat) (l : NL), g.new[j]? = some l → (natsV (numsOf g.new))[j]? = some (.int (l.number : Nat)) := fun j l h => by
      unfold natsV numsOf
      rw [List.getElem?_map, List.getElem?_map, h]
      rfl
    walk_at "rd"
    refine ⟨a, 11, n, rfl, hw, by omega, by decide, by decide, fun way H1 y0 y1 w1 b1' => ?_⟩
    have b1 : But a H H1 := b1'
    have hnl1 := b1 _ _ hnl nla
    have th0 : ∀ (d : Dd), d.named = [] → d.there g := fun d e n h => by rw [e] at h; exact absurd h List.not_mem_nil
    walk_at "rd"
    refine ite2 (fun h7 => ?_) (fun h7 => ?_)
    · walk_at "rd"
      rename_i r nr
      exact k r .run _ (SqT.of upd_same) .nil (th0 _ rfl) trivial ((w1.new nr).le (by omega)) (But.trans b1 (But.of (Same.new nr)))
    · have add : ∀ (H2 : Hp), WellAt H2 a (n + 1) → But a H H2 → spLabel [V.ref a] H2 (fCons (tCons (tC (V.int 0)) tNil) [some (V.ref a), some (V.int ↑g.old.length), some (V.ref nl), some (V.int way), none] (fCons2 (V.str (Str.ofString "add")) (fTup Q))) E0 := fun H2 w2 b2 => by
        refine ⟨a, _, rfl, w2, by omega, fun b H3 y2 y3 w3 b3' => ?_⟩
        have b3 : But a H H3 := But.trans b2 b3'
        walk_at "rd"
        rename_i r nr
        exact k r (.add b 0) _ (SqT.of upd_same) (.cons (fo_lab y2 y3) (.cons (fo_amt (by decide) (by decide)) .nil)) (th0 _ rfl) rfl ((w3.new nr).le (by omega)) (But.trans b3 (But.of (Same.new nr)))
      refine ite2 (fun h2 => add H1 w1 b1) (fun h2 => ?_)
      refine k_eq_int ?_
      walk_at "rd"
      refine ite2 (fun h0 => ?_) (fun h0 => ?_)
      · walk_at "rd"
        exact add H1 w1 b1
      have hm1 : 1 ≤ g.old.length := by omega
      refine k_eq_int ?_
      walk_at "rd"
      have own : ∀ (H2 : Hp), WellAt H2 a (n + 2) → But a H H2 → spLabel [V.ref a] H2 (fCons tNil [some (V.ref a), some (V.int ↑g.old.length), some (V.ref nl), some (V.int way), none] (fCons2 (V.str (Str.ofString "own")) (fTup Q))) E0 := fun H2 w2 b2 => by
        refine ⟨a, _, rfl, w2, by omega, fun b H3 y2 y3 w3 b3' => ?_⟩
        have b3 : But a H H3 := But.trans b2 b3'
        walk_at "rd"
        rename_i r nr
        exact k r (.own b) _ (SqT.of upd_same) (.cons (fo_lab y2 y3) .nil) (th0 _ rfl) trivial ((w3.new nr).le (by omega)) (But.trans b3 (But.of (Same.new nr)))
      refine ite2 (fun h3 => ?_) (fun h3 => ?_)
      · walk_at "rd"
        exact own H1 (w1.le (by omega)) b1
      walk_at "rd"
      refine ite2 (fun h4 => ?_) (fun h4 => ?_)
      · walk_at "rd"
        rename_i z nz
        refine k_eqNilN (lk_new hnl1 nz) upd_same ?_
        have w2 := w1.new nz (o := .lst [])
        have b2 : But a H (upd H1 z (.lst [])) := But.trans b1 (But.of (Same.new nz))
        have hnl2 : upd H1 z (.lst []) nl = some (.lst (natsV (numsOf g.new))) := lk_new hnl1 nz
        generalize upd H1 z (.lst []) = H2 at w2 b2 hnl2 ⊢
        walk_at "rd"
        by_cases he : g.new = []
        · have e1 : (numsOf g.new).isEmpty = true := by rw [he]; rfl
          rw [e1]
          walk_at "rd"
          exact own H2 (w2.le (by omega)) b2
        · have e1 : (numsOf g.new).isEmpty = false := by
            cases hg : g.new with
            | nil => exact absurd hg he
            | cons x xs => rfl
          have hn1 : 1 ≤ g.new.length := by
            cases hg : g.new with
            | nil => exact absurd hg he
            | cons x xs => exact Nat.succ_le_succ (Nat.zero_le _)
          rw [e1]
          walk_at "rd"
          refine ite2 (fun h5 => ?_) (fun h5 => ?_)
          · omega
          walk_at "rd"
          rw [hgn]
          refine ⟨a, _, _, rfl, w2, by omega, by omega, by omega, fun d3 H3 d30 d31 w3 k3 => ?_⟩
          have b3 : But a H H3 := But.trans b2 k3
          have hnl3 := k3 _ _ hnl2 nla
          obtain ⟨nc, rfl⟩ : ∃ nc : Nat, d3 = (nc : Int) := ⟨d3.toNat, by omega⟩
          have hgc : g.new[nc]? = some (g.new[nc]'(by omega)) := List.getElem?_eq_getElem _
          generalize g.new[nc]'(by omega) = lc at hgc
          have hlc : lc ∈ g.new := List.mem_of_getElem? hgc
          have hlc1 := W.last lc hlc
          refine k_ixL (SqL.of hnl3) (at_of (j := nc) rfl (nat_at _ _ hgc)) ?_
          walk_at "rd"
          rename_i r1 nr1
          refine ⟨a, _, _, rfl, w3.new nr1, by omega, by decide, by decide, fun d4 H4 d40 d41 w4 k4 => ?_⟩
          have b4 : But a H H4 := But.trans b3 (But.trans (But.of (Same.new nr1)) k4)
          have hr1 : H4 r1 = some (.lst [.int (lc.number : Nat), .non]) := k4 _ _ upd_same (w3.ne nr1)
          have hnl4 := k4 _ _ (lk_new hnl3 nr1) nla
          refine k_eq_int ?_
          walk_at "rd"
          have fin : ∀ (o : Option Nat), (∀ x, o = some x → ∃ l ∈ g.new, l.number = x) → spDraw [V.ref a, V.int (g.new.length : Nat)] H4 (fOp2 (rIx K) (V.ref nl) (fCons (tCons (tVar 4) tNil) [some (V.ref a), some (V.int ↑g.old.length), some (V.ref nl), some (V.int way), some (oV o)] (fCons2 (V.str (Str.ofString "write tie")) (fTup Q)))) E0 := fun o ho => by
            refine ⟨a, _, _, rfl, w4, by omega, by omega, by omega, fun d5 H5 d50 d51 w5 k5 => ?_⟩
            have b5 : But a H H5 := But.trans b4 k5
            have hnl5 := k5 _ _ hnl4 nla
            obtain ⟨nd, rfl⟩ : ∃ nd : Nat, d5 = (nd : Int) := ⟨d5.toNat, by omega⟩
            have hgd : g.new[nd]? = some (g.new[nd]'(by omega)) := List.getElem?_eq_getElem _
            generalize g.new[nd]'(by omega) = ld at hgd
            have hld : ld ∈ g.new := List.mem_of_getElem? hgd
            have hld1 := W.last ld hld
            refine k_ixL (SqL.of hnl5) (at_of (j := nd) rfl (nat_at _ _ hgd)) ?_
            walk_at "rd"
            rename_i r nr
            exact k r (.wtie ld.number o) _ (SqT.of upd_same) (.cons (fo_num (by omega) (by omega)) (.cons (fo_oth fun x hx => by
              obtain ⟨l, hl, rfl⟩ := ho x hx
              have := W.last l hl
              omega) .nil)) (fun x hx => by
                show ∃ l ∈ g.new, l.number = x
                rcases List.mem_cons.mp hx with h | h
                · exact ⟨ld, hld, h.symm⟩
                · exact ho x (by simpa using h)) trivial ((w5.new nr).le (by omega)) (But.trans b5 (But.of (Same.new nr)))
          by_cases e4 : d4 = 0
          · rw [if_pos (by simpa using e4)]
            refine k_ixL (SqL.of hr1) (v := .non) (by rfl) ?_
            walk_at "rd"
            rw [hgn]
            exact fin none (fun x h => by cases h)
          · rw [if_neg (by simpa using e4)]
            refine k_ixL (SqL.of hr1) (v := .int (lc.number : Nat)) (by rfl) ?_
            walk_at "rd"
            rw [hgn]
            exact fin (some lc.number) (fun x h => by cases h; exact ⟨lc, hlc, rfl⟩)
      · refine ite2 (fun h5 => ?_) (fun h5 => ?_)
        · refine ⟨a, _, _, rfl, w1, by omega, by omega, by omega, fun d2 H2 d20 d21 w2 k2 => ?_⟩
          have b2 : But a H H2 := But.trans b1 k2
          obtain ⟨nb, hnb⟩ : ∃ nb : Nat, 1 + d2 = (nb : Int) := ⟨(1 + d2).toNat, by omega⟩
          walk_at "rd"
          rw [hnb]
          rename_i r nr
          exact k r (.stop nb) _ (SqT.of upd_same) (.cons (fo_num (by omega) (by omega)) .nil) (fun x hx => by
            rw [List.mem_singleton.mp hx]
            show 1 ≤ nb ∧ nb ≤ g.old.length
            omega) trivial ((w2.new nr).le (by omega)) (But.trans b2 (But.of (Same.new nr)))
        · omega
end

set_option Elab.async false
set_option linter.all false
set_option maxRecDepth 100000


theorem Same.but {p : Addr} {H H1 H2 : Hp} (s : Same H H1) (b : But p H1 H2) (n : H p = none) : Same H H2 := fun c o e => b c o (s c o e) (ne_of_none e n)
def spLaw (K : PySem.W.Frag) : Sp := fun vs H Q _ => ∃ (a : Addr) (ns : List Int), vs = [.ref a] ∧ SqL K H a (ns.map V.int) ∧ ns.length ≤ 63 ∧ (∀ z ∈ ns, Builtin.Int.intBits z ≤ 1048576) ∧ ∀ H', Q (.bl true) H'

theorem k_newScr {K : PySem.W.Frag} {C CE r : Addr} {ws : List (List Str)} {E : XK} {H : Hp} {Q : VK} (R : Row K H r ws) (hl : ws.length ≤ 12) (hm : ∀ x ∈ ws, x ∈ menu12)
    (k : ∀ (x l : Addr) (H' : Hp), H x = none → H l = none → Same H H' → ScrL K C H' x l ws → Q (.ref x) H') : fMake C (spInit K C CE) [] E Q [.ref r] H := by
  intro y dz ny nd nyd
  have sm : Same H (upd (upd H dz (.own y)) y (.ins C dz [])) := fun b o e => lk_ne (lk_new e nd) (ne_of_none e ny)
  refine ⟨y, r, dz, ws, rfl, upd_same, R.mono (SameT.of sm), by omega, hm, fun _ H5 lz nl L4 f4 => ⟨rfl, ?_⟩, fun h => absurd h (by omega)⟩
  exact k y lz H5 ny (Same.none_of sm nl) (fun b o e => f4 b o (sm b o e) (ne_of_none e ny)) L4
theorem k_sumL {K : PySem.W.Frag} {C CE p q l m : Addr} {ws us : List (List Str)} {E : XK} {H : Hp} {Q : VK} (S1 : ScrL K C H p l ws) (S2 : ScrL K C H q m us) (hl : ws.length + us.length ≤ 12)
    (k : ∀ (x n : Addr) (H' : Hp), H x = none → H n = none → Same H H' → ScrL K C H' x n (ws ++ us) → Q (.ref x) H') : fOp2 (rAddO C (spAdd K C CE) E) (.ref p) Q (.ref q) H := by
  obtain ⟨dx, a, h1, _⟩ := id S1
  obtain ⟨dy, b, g1, _⟩ := id S2
  exact ⟨p, q, dx, dy, _, _, rfl, rfl, h1, g1, p, q, ws, us, rfl, S1.at_, S2.at_, fun _ x n H' nx nl s L => k x n H' nx nl s L, fun h => absurd h (by omega)⟩

theorem WellAt.but {H H' : Hp} {a p : Addr} {n : Nat} (h : WellAt H a n) (k : But p H H') (ne : a ≠ p) : WellAt H' a n := by
  obtain ⟨x, y, z, e, r⟩ := h
  exact ⟨x, y, z, k _ _ e ne, r⟩
theorem playable_snoc {ws : List (List Str)} : ∀ {ds : List Dd} {g : LG} {d : Dd}, Playable ws g ds → d.there (ds.foldl (actG ws) g) → Playable ws g (ds ++ [d])
  | [], _, _, _, h => ⟨h, trivial⟩
  | x :: ds, g, d, hp, h => ⟨hp.1, playable_snoc (ds := ds) (g := actG ws g x) hp.2 h⟩
theorem play_snoc (ws : List (List Str)) (ds : List Dd) (d : Dd) : playG ws (ds ++ [d]) = actG ws (playG ws ds) d := by
  unfold playG
  rw [List.foldl_append]
  rfl
theorem Deeds.append {K : PySem.W.Frag} {H : Hp} : ∀ {xs ys : List V} {ds es : List Dd}, Deeds K H xs ds → Deeds K H ys es → Deeds K H (xs ++ ys) (ds ++ es)
  | _, _, _, _, .nil, h => h
  | _, _, _, _, .cons a t, h => .cons a (Deeds.append t h)
/-! ### nothing starts, nothing moves -/
structure Zr (g : LG) : Prop where
  old : ∀ o ∈ g.old, o.start = 0 ∧ o.moves = 0
  new : ∀ l ∈ g.new, l.start = 0 ∧ l.moves = 0
theorem Zr.addN {g : LG} (z : Zr g) (b : Int) (o : Option Nat) : Zr (g.addN b 0 o) := ⟨z.old, fun l hl => by
  rcases List.mem_append.mp hl with h | h
  · exact z.new l h
  · rw [List.mem_singleton.mp h]
    exact ⟨rfl, rfl⟩⟩
theorem Zr.make {g : LG} (z : Zr g) (all : Bool) : ∀ i, Zr (makeTo all g i)
  | 0 => z
  | i + 1 => by
    have h := Zr.make z all i
    show Zr (makeStep all i (makeTo all g i))
    unfold makeStep
    split
    · exact h
    · rename_i l hl
      split
      · obtain ⟨e1, e2⟩ := h.old l (List.mem_of_getElem? hl)
        have e : closing l = 0 := by
          unfold closing
          omega
        rw [e]
        exact h.addN _ _
      · exact h
theorem Zr.drop {g : LG} (z : Zr g) (n : Nat) : Zr (g.drop n) := ⟨z.old, fun l hl => by
  obtain ⟨l', hl', rfl⟩ := List.mem_map.mp hl
  have e : (untie n l').start = l'.start ∧ (untie n l').moves = l'.moves := by
    unfold untie
    split <;> exact ⟨rfl, rfl⟩
  rw [e.1, e.2]
  exact z.new l' (cut_mem.mp hl').1⟩
theorem Zr.dropAll (ks : List NL) : ∀ {g : LG}, Zr g → Zr (ks.foldl dropStep g) := by
  induction ks with
  | nil => exact fun z => z
  | cons k ks ih =>
    intro g z
    refine ih (g := dropStep g k) ?_
    unfold dropStep
    split
    · exact z
    · exact z.drop _
def Mn (ws : List (List Str)) : Prop := ∀ w ∈ ws, w = (["drop"] : List Str) ∨ ∃ y, w = (["make", y] : List Str)
theorem Zr.run {ws : List (List Str)} (m : Mn ws) {g : LG} (z : Zr g) : Zr (runG ws g) := by
  unfold runG
  generalize g.last = n
  induction ws generalizing g with
  | nil => exact z
  | cons w ws ih =>
    refine ih (fun x hx => m x (List.mem_cons_of_mem _ hx)) ?_
    rcases m w List.mem_cons_self with rfl | ⟨y, rfl⟩
    · exact z.dropAll _
    · have e : stepG n g ["make", y] = makeTo (decide (y = "all")) g g.old.length := by
        unfold stepG
        exact if_pos rfl
      rw [e]
      exact z.make _ _
theorem Zr.act {ws : List (List Str)} (m : Mn ws) {g : LG} (z : Zr g) {d : Dd} (s : Sim25 d) : Zr (actG ws g d) := by
  cases d with
  | add b t =>
    have e : t = 0 := s
    subst e
    refine ⟨fun o ho => ?_, z.new⟩
    rcases List.mem_append.mp ho with h | h
    · exact z.old o h
    · rw [List.mem_singleton.mp h]
      exact ⟨rfl, rfl⟩
  | own b => exact z.addN _ _
  | run => exact z.run m
  | stop n =>
    show Zr (g.onOld n _)
    unfold LG.onOld
    split
    · exact z
    · rename_i l hl
      refine ⟨fun o ho => ?_, z.new⟩
      rcases List.mem_or_eq_of_mem_set ho with h | h
      · exact z.old o h
      · rw [h]
        exact z.old l (List.mem_of_getElem? hl)
  | wtie n o =>
    refine ⟨z.old, fun l hl => ?_⟩
    obtain ⟨l', hl', rfl⟩ := List.mem_map.mp hl
    show (if l'.number = n then _ else l').start = 0 ∧ (if l'.number = n then _ else l').moves = 0
    split
    · exact z.new l' hl'
    · exact z.new l' hl'
  | _ => exact absurd s id
def row0 (l : NL) : List V := [.int (l.number : Nat), .int l.label, .int 0, .int 0, oV l.tie, oV l.source]
theorem Zr.row {g : LG} (z : Zr g) {l : NL} (h : l ∈ g.new) : row0 l = nrow l := by
  obtain ⟨e1, e2⟩ := z.new l h
  unfold row0 nrow
  rw [e1, e2]
/-! ### the law's own walk -/
structure Lp (K : PySem.W.Frag) (ws : List (List Str)) (B : Hp) (a la ss ln : Addr) (n : Nat) (ds : List Dd) (H : Hp) : Prop where
  sb : Same B H
  wl : WellAt H a n
  acts : ∃ xs, H la = some (.lst xs) ∧ Deeds K H xs ds
  ok : ∀ d ∈ ds, d.Ok
  pl : Playable ws g0 ds
  std : ∃ zs, H ss = some (.lst zs) ∧ Paired (StdR K H) zs (playG ws ds).old
  nk : ∃ A S, Nk H ln (playG ws ds).new A S ∧ (∀ b, S b → B b = none) ∧ ¬ S a ∧ ¬ S la ∧ ¬ S ss
  wf : WF (playG ws ds)
  zr : Zr (playG ws ds)
theorem StdR.mono {K : PySem.W.Frag} {H H' : Hp} {x : V} {o : OL} (t : SameT H H') : StdR K H x o → StdR K H' x o := fun ⟨r, e, h⟩ => ⟨r, e, sqT_mono t h⟩
/-- a deed more -/
theorem Lp.snoc {K : PySem.W.Frag} {ws : List (List Str)} {B H : Hp} {a la ss ln r : Addr} {n : Nat} {ds : List Dd} {d : Dd} {xs zs : List V} {A : Nat → Addr} {S : Addr → Prop}
    (sb : Same B H) (wl : WellAt H a n) (ha : H la = some (.lst xs)) (hd : Deeds K H xs ds) (hr : DeedAt K H r d) (ho : ∀ d ∈ ds, d.Ok) (hod : d.Ok) (pl : Playable ws g0 ds) (th : d.there (playG ws ds))
    (hs : H ss = some (.lst zs)) (hst : Paired (StdR K H) zs (actG ws (playG ws ds) d).old) (nk : Nk H ln (actG ws (playG ws ds) d).new A S) (nB : ∀ b, S b → B b = none) (na : ¬ S a) (nl : ¬ S la) (ns : ¬ S ss) (wf : WF (actG ws (playG ws ds) d)) (zr : Zr (actG ws (playG ws ds) d))
    (e1 : la ≠ a) (e2 : la ≠ ss) (bl : B la = none) : Lp K ws B a la ss ln n (ds ++ [d]) (upd H la (.lst (xs ++ [.ref r]))) := {
  sb := fun b o e => lk_ne (sb b o e) (ne_of_none e bl)
  wl := wl.lst e1.symm
  acts := ⟨_, upd_same, (hd.mono (SameT.lst ha)).append (.cons ⟨r, rfl, sqT_mono (SameT.lst ha) hr⟩ .nil)⟩
  ok := fun z hz => by
    rcases List.mem_append.mp hz with h | h
    · exact ho z h
    · rw [List.mem_singleton.mp h]
      exact hod
  pl := playable_snoc pl th
  std := ⟨zs, lk_ne hs e2.symm, by rw [play_snoc]; exact Paired.mapP hst fun _ _ h => StdR.mono (SameT.lst ha) h⟩
  nk := ⟨A, S, by rw [play_snoc]; exact nk.move fun b o e h => lk_ne e fun z => nl (z ▸ h), nB, na, nl, ns⟩
  wf := by rw [play_snoc]; exact wf
  zr := by rw [play_snoc]; exact zr }
theorem Lp.draw {K : PySem.W.Frag} {ws : List (List Str)} {B H H' : Hp} {a la ss ln : Addr} {n m : Nat} {ds : List Dd} (L : Lp K ws B a la ss ln n ds H) (b : But a H H') (w : WellAt H' a m) (e1 : la ≠ a) (e2 : ss ≠ a) (ba : B a = none) : Lp K ws B a la ss ln m ds H' := {
  sb := fun c o e => b c o (L.sb c o e) (ne_of_none e ba)
  wl := w
  acts := by
    obtain ⟨xs, h1, h2⟩ := L.acts
    exact ⟨xs, b _ _ h1 e1, h2.mono (L.wl.sameT b)⟩
  ok := L.ok
  pl := L.pl
  std := by
    obtain ⟨zs, h1, h2⟩ := L.std
    exact ⟨zs, b _ _ h1 e2, Paired.mapP h2 fun _ _ h => StdR.mono (L.wl.sameT b) h⟩
  nk := by
    obtain ⟨A, S, h1, h2, h3, h4, h5⟩ := L.nk
    exact ⟨A, S, h1.move fun c o e s => b c o e fun z => h3 (z ▸ s), h2, h3, h4, h5⟩
  wf := L.wf
  zr := L.zr }
theorem Paired.setN {α β : Type} {F : α → β → Prop} {x : α} {y : β} (f : F x y) : ∀ {xs : List α} {ys : List β} (n : Nat), Paired F xs ys → Paired F (xs.set n x) (ys.set n y)
  | _, _, _, .nil => .nil
  | _, _, 0, .cons _ t => .cons f t
  | _, _, n + 1, .cons h t => .cons h (Paired.setN f n t)
theorem Paired.at2 {α β : Type} {R : α → β → Prop} : ∀ {xs : List α} {ys : List β} {i : Nat} {y : β}, Paired R xs ys → ys[i]? = some y → ∃ x, xs[i]? = some x ∧ R x y
  | _, _, 0, _, .cons h _, e => by
    cases e
    exact ⟨_, rfl, h⟩
  | _, _, i + 1, _, .cons _ t, e => Paired.at2 (i := i) t e
theorem nrows_at {g : LG} {i : Nat} {l : NL} (h : g.new[i]? = some l) : nrows g i = nrow l := by
  unfold nrows
  rw [h]
theorem refs4_congr {ls ls' : List NL} {A : Nat → Addr} (h : ls.map (·.number) = ls'.map (·.number)) : refs4 ls A = refs4 ls' A := by
  have e : ∀ ls : List NL, refs4 ls A = (ls.map (·.number)).map fun n => V.ref (A n) := fun ls => by
    unfold refs4
    rw [List.map_map]
    rfl
  rw [e, e, h]
def hid (a : Addr) (H : Hp) : Hp := fun b => if b = a then none else H b
theorem hid_self (a : Addr) (H : Hp) : hid a H a = none := if_pos rfl
theorem hid_none {a b : Addr} {H : Hp} (h : H b = none) : hid a H b = none := by
  unfold hid
  split
  · rfl
  · exact h
theorem hid_same {a : Addr} {H0 H : Hp} (s : Same H0 H) (n : H0 a = none) : Same H0 (hid a H) := fun b o e => by
  unfold hid
  rw [if_neg (ne_of_none e n)]
  exact s b o e
theorem hid_sameT {a : Addr} {H : Hp} {xs : List V} (h : H a = some (.lst xs)) : SameT H (hid a H) := fun b ys => by
  have : ∀ o, H b = some o → (∀ zs, o ≠ .lst zs) → hid a H b = some o := fun o e n => by
    unfold hid
    rw [if_neg fun z => by
      rw [z, h] at e
      exact n xs (Option.some.inj e).symm]
    exact e
  exact ⟨fun e => this _ e (fun _ h => by cases h), fun o e => this _ e (fun _ h => by cases h)⟩
theorem same_hid {a : Addr} {H H' : Hp} (s : Same H H') : Same (hid a H) H' := fun b o e => by
  unfold hid at e
  split at e
  · cases e
  · exact s b o e
theorem same_hid2 {a : Addr} {H H' : Hp} (s : But a H H') : Same (hid a H) H' := fun b o e => by
  unfold hid at e
  split at e
  · cases e
  · exact s b o e (by assumption)

set_option Elab.async false
set_option linter.all false
set_option maxRecDepth 100000


local macro_rules | `(tactic| walk_at "lit") => `(tactic| (rw [if_neg (by decide +kernel)]; walk_at "rd"))
set_option maxHeartbeats 8000000
section
variable {P : Program} {w : World} {K : PySem.W.Frag} {mg : Str → Option Value} {base : Heap}
theorem ok_law (T : Txt w P K mg) : FnOk P w K mg base CX0 9 T.f_law T.d_law ["script"] (spLaw K) := by
  refine T.F_law.ok sc_law (fun vs H Q E h => ?_) (fun cdv A outer s H vs Q E hr h => ?_)
  · obtain ⟨sc, ns, rfl, _⟩ := h
    rfl
  · obtain ⟨sc, ns, rfl, hsc, hns, hbits, k⟩ := h
    refine ⟨_, (pss_cons (ps_set (i := 1) sc_law.nd rfl (Or.inr rfl) (pe_call (ok__law_well T) (hr.mono (by decide)) (by rfl) T.m__law_well T.F__law_well.kp T.b__law_well .nil pass0 (pa_cons (pv 0) (pa_cons pe_int pa_nil))))
  (pss_cons (ps_set (i := 2) sc_law.nd rfl (Or.inr rfl) (pe_lst (pa_cons (pe_tup (pa_cons pe_str (pa_cons pe_str pa_nil))) (pa_cons (pe_tup (pa_cons pe_str (pa_cons pe_str pa_nil))) (pa_cons (pe_tup (pa_cons pe_str pa_nil)) (pa_cons (pe_tup (pa_cons pe_str pa_nil)) pa_nil))))))
  (pss_cons (ps_set (i := 3) sc_law.nd rfl (Or.inl rfl) (pe_callTy (call_tuple_ofk K) (by rfl) T.m_tuple b_tuple (pa_cons (pe_lc (own := [("turn", 4)]) (g := (gName 4)) (tt := tYes) rfl sc_law.nd (pi_range1 (by rfl) T.m_range (pa_cons (pe_call (ok__law_draw T) (hr.mono (by decide)) (by rfl) T.m__law_draw T.F__law_draw.kp T.b__law_draw .nil pass0 (pa_cons (pv 1) (pa_cons pe_int pa_nil))) pa_nil)) (blkOk_by (own := [("turn", 4)]) (N := N_law) (sc := defScope s_law) (by decide +kernel)) (fun _ _ _ _ _ => (pg_name (i := 4) sc_law.nd rfl (Or.inl rfl))) (fun _ _ _ _ _ => pts_nil) (fun _ _ _ _ _ => (pe_ix (ix_seqk K) (pv 2) (pe_call (ok__law_draw T) (hr.mono (by decide)) (by rfl) T.m__law_draw T.F__law_draw.kp T.b__law_draw .nil pass0 (pa_cons (pv 1) (pa_cons pe_int pa_nil))) (fun _ _ => rfl)))) pa_nil)))
  (pss_cons (ps_asg (pe_tup (pa_cons (pe_lst pa_nil) (pa_cons (pe_lst pa_nil) (pa_cons (pe_lst pa_nil) (pa_cons pe_int pa_nil))))) (pg_tup (n := 4) rfl (pgs_cons (pg_name (i := 5) sc_law.nd rfl (Or.inl rfl)) (pgs_cons (pg_name (i := 6) sc_law.nd rfl (Or.inl rfl)) (pgs_cons (pg_name (i := 7) sc_law.nd rfl (Or.inl rfl)) (pgs_cons (pg_name (i := 8) sc_law.nd rfl (Or.inl rfl)) pgs_nil))))))
  (pss_cons (ps_for PassesOwn.never rfl (pi_range1 (by rfl) T.m_range (pa_cons (pe_callB (call_max2 rfl) (by rfl) T.m_max b_max (pa_cons (pe_callB (call_min2 rfl) (by rfl) T.m_min b_min (pa_cons pe_int (pa_cons (pe_op op_sub (pe_callB (call_lenUk K) (by rfl) T.m_len b_len (pa_cons (pv 0) pa_nil)) pe_int) pa_nil))) (pa_cons (pe_call (ok__law_draw T) (hr.mono (by decide)) (by rfl) T.m__law_draw T.F__law_draw.kp T.b__law_draw .nil pass0 (pa_cons (pv 1) (pa_cons pe_int pa_nil))) pa_nil))) pa_nil)) (pg_name (i := 4) sc_law.nd rfl (Or.inl rfl))
  (pss_cons (ps_set (i := 9) sc_law.nd rfl (Or.inl rfl) (pv 1))
  (pss_cons (ps_if (pt_cmpR op_lt (pe_op (op_addUk K) pe_int (pv 4)) (pe_callB (call_lenUk K) (by rfl) T.m_len b_len (pa_cons (pv 0) pa_nil)) (nomark _)) (pss_one (ps_set (i := 9) sc_law.nd rfl (Or.inl rfl) (pe_call (ok__law_well T) (hr.mono (by decide)) (by rfl) T.m__law_well T.F__law_well.kp T.b__law_well .nil pass0 (pa_cons (pv 0) (pa_cons (pe_op (op_addUk K) pe_int (pv 4)) pa_nil))))) pss_nil)
  (pss_cons (ps_set (i := 10) sc_law.nd rfl (Or.inl rfl) (pe_call (ok__law_deed T) (hr.mono (by decide)) (by rfl) T.m__law_deed T.F__law_deed.kp T.b__law_deed .nil pass0 (pa_cons (pv 9) (pa_cons (pe_callB (call_lenUk K) (by rfl) T.m_len b_len (pa_cons (pv 6) pa_nil)) (pa_cons (pe_lc (own := [("line", 11)]) (g := (gName 11)) (tt := tYes) rfl sc_law.nd (pi_seqk K (pv 7)) (blkOk_by (own := [("line", 11)]) (N := N_law) (sc := defScope s_law) (by decide +kernel)) (fun _ _ _ _ _ => (pg_name (i := 11) sc_law.nd rfl (Or.inl rfl))) (fun _ _ _ _ _ => pts_nil) (fun _ _ _ _ _ => (pe_ix (ix_seqk K) (pv 11) pe_int (fun _ _ => rfl)))) pa_nil)))))
  (pss_cons (ps_if (pt_cmpR (op_eqUk K (hu65 hr)) (pe_ix (ix_seqk K) (pv 10) pe_int (fun _ _ => rfl)) pe_str (nomark _)) (pss_one (ps_expr (pe_bm PySem.F.plainAttrs_list PySem.F.slot_list_append PySem.F.type_list_append mt_append (pv 6) (pa_cons (pe_tup (pa_cons pe_bl (pa_cons (pe_ix (ix_seqk K) (pv 10) pe_int (fun _ _ => rfl)) pa_nil))) pa_nil)))) (pss_one (ps_if (pt_cmpR (op_eqUk K (hu65 hr)) (pe_ix (ix_seqk K) (pv 10) pe_int (fun _ _ => rfl)) pe_str (nomark _)) (pss_one (ps_asg (pe_tup (pa_cons pe_bl (pa_cons (pe_ix (ix_seqk K) (pe_ix (ix_seqk K) (pv 6) (pe_op op_sub (pe_ix (ix_seqk K) (pv 10) pe_int (fun _ _ => rfl)) pe_int) (fun _ _ => rfl)) pe_int (fun _ _ => rfl)) pa_nil))) (pg_sub (pv 6) (pe_op op_sub (pe_ix (ix_seqk K) (pv 10) pe_int (fun _ _ => rfl)) pe_int) set_list))) (pss_one (ps_if (pt_cmpR (op_eqUk K (hu65 hr)) (pe_ix (ix_seqk K) (pv 10) pe_int (fun _ _ => rfl)) pe_str (nomark _)) (pss_cons (ps_set (i := 8) sc_law.nd rfl (Or.inl rfl) (pe_op (op_addUk K) (pv 8) pe_int))
  (pss_one (ps_expr (pe_bm PySem.F.plainAttrs_list PySem.F.slot_list_append PySem.F.type_list_append mt_append (pv 7) (pa_cons (pe_lst (pa_cons (pv 8) (pa_cons pe_non (pa_cons (pe_ix (ix_seqk K) (pv 10) pe_int (fun _ _ => rfl)) (pa_cons pe_non pa_nil))))) pa_nil))))) (pss_one (ps_if (pt_cmpR (op_eqUk K (hu65 hr)) (pe_ix (ix_seqk K) (pv 10) pe_int (fun _ _ => rfl)) pe_str (nomark _)) (pss_one (ps_set (i := 8) sc_law.nd rfl (Or.inl rfl) (pe_call (ok__law_run T) (hr.mono (by decide)) (by rfl) T.m__law_run T.F__law_run.kp T.b__law_run .nil pass0 (pa_cons (pv 3) (pa_cons (pv 6) (pa_cons (pv 7) (pa_cons (pv 8) pa_nil))))))) (pss_one (ps_for PassesOwn.never rfl (pi_seqk K (pv 7)) (pg_name (i := 11) sc_law.nd rfl (Or.inl rfl))
  (pss_one (ps_if (pt_cmpR (op_eqUk K (hu65 hr)) (pe_ix (ix_seqk K) (pv 11) pe_int (fun _ _ => rfl)) (pe_ix (ix_seqk K) (pv 10) pe_int (fun _ _ => rfl)) (nomark _)) (pss_one (ps_asg (pe_ix (ix_seqk K) (pv 10) pe_int (fun _ _ => rfl)) (pg_sub (pv 11) pe_int set_list))) pss_nil)))))))))))
  (pss_one (ps_expr (pe_bm PySem.F.plainAttrs_list PySem.F.slot_list_append PySem.F.type_list_append mt_append (pv 5) (pa_cons (pv 10) pa_nil)))))))))
  (pss_cons (ps_setLc (i := 12) (own := [("line", 11)]) (g := (gName 11)) (tt := tYes) rfl sc_law.nd rfl rfl (sw_true rfl rfl rfl (by decide +kernel)) (pi_seqk K (pv 7)) (blkOk_by (own := [("line", 11)]) (N := N_law) (sc := defScope s_law) (by decide +kernel)) (fun _ _ _ _ _ => (pg_name (i := 11) sc_law.nd rfl (Or.inl rfl))) (fun _ _ _ _ _ => pts_nil) (fun _ _ _ _ _ => (pe_tup (pa_cons (pe_ix (ix_seqk K) (pv 11) pe_int (fun _ _ => rfl)) (pa_cons (pe_ix (ix_seqk K) (pv 11) pe_int (fun _ _ => rfl)) (pa_cons pe_int (pa_cons pe_int (pa_cons (pe_ix (ix_seqk K) (pv 11) pe_int (fun _ _ => rfl)) (pa_cons (pe_ix (ix_seqk K) (pv 11) pe_int (fun _ _ => rfl)) pa_nil)))))))))
  (pss_cons (ps_set (i := 13) sc_law.nd rfl (Or.inl rfl) (pe_make T.M_Script (ok_Script___init__ T) (hr.mono (by decide)) (by rfl) T.m_Script T.b_Script___init__ .nil passX0 (pa_cons (pv 3) pa_nil)))
  (pss_one (ps_ret (pe_and (pe_call (ok__law_like T 4) (hr.mono (by decide)) (by rfl) T.m__law_like T.F__law_like.kp T.b__law_like .nil pass0 (pa_cons (pe_ix (ix_seqk K) (pe_call (ok_play T) (hr.mono (by decide)) (by rfl) T.m_play T.F_play.kp T.b_play .nil passX0 (pa_cons (pv 13) (pa_cons (pe_callTy (call_list_ofk K) (by rfl) T.m_list b_list (pa_cons (pv 5) pa_nil)) pa_nil))) pe_int (fun _ _ => rfl)) (pa_cons (pv 12) pa_nil))) (pe_one (pe_call (ok__law_like T 4) (hr.mono (by decide)) (by rfl) T.m__law_like T.F__law_like.kp T.b__law_like .nil pass0 (pa_cons (pe_ix (ix_seqk K) (pe_call (ok_play T) (hr.mono (by decide)) (by rfl) T.m_play T.F_play.kp T.b_play .nil passX0 (pa_cons (pv 13) (pa_cons (pe_callTy (call_list_ofk K) (by rfl) T.m_list b_list (pa_cons (pv 5) pa_nil)) pa_nil))) pe_int (fun _ _ => rfl)) (pa_cons (pv 12) pa_nil)))))))))))))), ?_⟩
    have c1 := T.cl_Script
    walk_at "rd"
    refine ⟨sc, ns, 0, rfl, hsc, hbits, hns, by omega, fun a H1 na s1 w1 => ?_⟩
    walk_at "rd"
    rename_i r1 n1 r2 n2 r3 n3 r4 n4 so nso
    have f5 : Same H1 (upd (upd (upd (upd (upd H1 r1 (.tup [.str (Str.ofString "make"), .str (Str.ofString "all")])) r2 (.tup [.str (Str.ofString "make"), .str (Str.ofString "standing")])) r3 (.tup [.str (Str.ofString "drop")])) r4 (.tup [.str (Str.ofString "drop")])) so (.lst [.ref r1, .ref r2, .ref r3, .ref r4])) := (((((Same.new n1).trans (Same.new n2)).trans (Same.new n3)).trans (Same.new n4)).trans (Same.new nso))
    have w5 : WellAt (upd (upd (upd (upd (upd H1 r1 (.tup [.str (Str.ofString "make"), .str (Str.ofString "all")])) r2 (.tup [.str (Str.ofString "make"), .str (Str.ofString "standing")])) r3 (.tup [.str (Str.ofString "drop")])) r4 (.tup [.str (Str.ofString "drop")])) so (.lst [.ref r1, .ref r2, .ref r3, .ref r4])) a 5 := (((((w1.new n1).new n2).new n3).new n4).new nso).le (by omega)
    have x1 : (upd (upd (upd (upd (upd H1 r1 (.tup [.str (Str.ofString "make"), .str (Str.ofString "all")])) r2 (.tup [.str (Str.ofString "make"), .str (Str.ofString "standing")])) r3 (.tup [.str (Str.ofString "drop")])) r4 (.tup [.str (Str.ofString "drop")])) so (.lst [.ref r1, .ref r2, .ref r3, .ref r4])) r1 = some (.tup [.str (Str.ofString "make"), .str (Str.ofString "all")]) := by walk_at "hp"
    have x2 : (upd (upd (upd (upd (upd H1 r1 (.tup [.str (Str.ofString "make"), .str (Str.ofString "all")])) r2 (.tup [.str (Str.ofString "make"), .str (Str.ofString "standing")])) r3 (.tup [.str (Str.ofString "drop")])) r4 (.tup [.str (Str.ofString "drop")])) so (.lst [.ref r1, .ref r2, .ref r3, .ref r4])) r2 = some (.tup [.str (Str.ofString "make"), .str (Str.ofString "standing")]) := by walk_at "hp"
    have x3 : (upd (upd (upd (upd (upd H1 r1 (.tup [.str (Str.ofString "make"), .str (Str.ofString "all")])) r2 (.tup [.str (Str.ofString "make"), .str (Str.ofString "standing")])) r3 (.tup [.str (Str.ofString "drop")])) r4 (.tup [.str (Str.ofString "drop")])) so (.lst [.ref r1, .ref r2, .ref r3, .ref r4])) r3 = some (.tup [.str (Str.ofString "drop")]) := by walk_at "hp"
    have x4 : (upd (upd (upd (upd (upd H1 r1 (.tup [.str (Str.ofString "make"), .str (Str.ofString "all")])) r2 (.tup [.str (Str.ofString "make"), .str (Str.ofString "standing")])) r3 (.tup [.str (Str.ofString "drop")])) r4 (.tup [.str (Str.ofString "drop")])) so (.lst [.ref r1, .ref r2, .ref r3, .ref r4])) r4 = some (.tup [.str (Str.ofString "drop")]) := by walk_at "hp"
    have xo : (upd (upd (upd (upd (upd H1 r1 (.tup [.str (Str.ofString "make"), .str (Str.ofString "all")])) r2 (.tup [.str (Str.ofString "make"), .str (Str.ofString "standing")])) r3 (.tup [.str (Str.ofString "drop")])) r4 (.tup [.str (Str.ofString "drop")])) so (.lst [.ref r1, .ref r2, .ref r3, .ref r4])) so = some (.lst [.ref r1, .ref r2, .ref r3, .ref r4]) := upd_same
    have soa : so ≠ a := ((((w1.new n1).new n2).new n3).new n4).ne nso
    generalize (upd (upd (upd (upd (upd H1 r1 (.tup [.str (Str.ofString "make"), .str (Str.ofString "all")])) r2 (.tup [.str (Str.ofString "make"), .str (Str.ofString "standing")])) r3 (.tup [.str (Str.ofString "drop")])) r4 (.tup [.str (Str.ofString "drop")])) so (.lst [.ref r1, .ref r2, .ref r3, .ref r4])) = H2 at f5 w5 x1 x2 x3 x4 xo ⊢
    have s2 : Same H H2 := s1.trans f5
    refine ⟨a, _, _, rfl, w5, by omega, by decide, by decide, fun d1 H3 d10 d11 w3 k3 => ?_⟩
    have s3 : Same H H3 := Same.but s2 k3 na
    have xo3 := k3 _ _ xo soa
    have t23 : SameT H2 H3 := w5.sameT k3
    have y1 : SqT K H3 r1 ((["make", "all"] : List Str).map V.str) := sqT_mono t23 (SqT.of x1)
    have y2 : SqT K H3 r2 ((["make", "standing"] : List Str).map V.str) := sqT_mono t23 (SqT.of x2)
    have y3 : SqT K H3 r3 ((["drop"] : List Str).map V.str) := sqT_mono t23 (SqT.of x3)
    have y4 : SqT K H3 r4 ((["drop"] : List Str).map V.str) := sqT_mono t23 (SqT.of x4)
    clear f5 w5 x1 x2 x3 x4 xo n1 n2 n3 n4 nso t23
    walk_at "rd"
    refine k_rng1 (by omega) (by omega) ?_
    refine k_lc walk_range fun lst nl => ⟨fun i H' => Same H H' ∧ SameT H3 H' ∧ H' so = some (.lst [.ref r1, .ref r2, .ref r3, .ref r4]) ∧ WellAt H' a (6 + i) ∧ lst ≠ a ∧ ∃ xs ws, H' lst = some (.lst xs) ∧ Steps K H' xs ws ∧ ws.length = i ∧ Mn ws ∧ ∀ x ∈ ws, x ∈ menu12, ⟨s3.trans (Same.new nl), SameT.new nl, lk_new xo3 nl, (w3.new nl).le (by omega), w3.ne nl, [], [], upd_same, .nil, rfl, fun x h => absurd h List.not_mem_nil, fun x h => absurd h List.not_mem_nil⟩, fun _ _ _ _ => True.intro, ?_, ?_⟩
    · rintro i x H4 H5' hi ⟨s4, t4, xo4, w4, hla, xs, ws, hl4, hst, hlen, hmk, hmn⟩ ⟨rfl, rfl⟩
      walk_at "rd"
      refine ⟨trivial, ?_⟩
      walk_at "rd"
      refine ⟨a, _, _, rfl, w4, by omega, by decide, by decide, fun e H5 e0 e1 w5 k5 => ?_⟩
      have xo5 := k5 _ _ xo4 soa
      have hl5 := k5 _ _ hl4 hla
      have t45 := w4.sameT k5
      have hls : so ≠ lst := ne_of_none xo3 nl
      have hlx : xs.length = i := (Paired.length hst).trans hlen
      have fin : ∀ (r : Addr) (y : List Str), SqT K H3 r (y.map V.str) → y ∈ menu12 → (y = (["drop"] : List Str) ∨ ∃ z, y = (["make", z] : List Str)) → fAcc lst (fun H' =>
        Same H H' ∧ SameT H3 H' ∧ H' so = some (.lst [.ref r1, .ref r2, .ref r3, .ref r4]) ∧ WellAt H' a (6 + (i + 1)) ∧ lst ≠ a ∧
                ∃ xs ws, H' lst = some (.lst xs) ∧ Steps K H' xs ws ∧ ws.length = i + 1 ∧ Mn ws ∧ ∀ (x : List Str), x ∈ ws → x ∈ menu12) (.ref r) H5 := fun r y hy hm hd => by
        refine k_accM hl5 (by omega) ⟨fun b o eb => lk_ne (k5 _ _ (s4 b o eb) (ne_of_none eb na)) (ne_of_none eb (Same.none_of s3 nl)), (t4.trans t45).trans (SameT.lst hl5), lk_ne xo5 hls, (w5.lst hla.symm).le (by omega), hla, xs ++ [.ref r], ws ++ [y], upd_same, ((hst.mono t45).mono (SameT.lst hl5)).append (.cons ⟨r, rfl, sqT_mono ((t4.trans t45).trans (SameT.lst hl5)) hy⟩ .nil), by rw [List.length_append, hlen]; rfl, fun z hz => ?_, fun z hz => ?_⟩
        · rcases List.mem_append.mp hz with h | h
          · exact hmk z h
          · rw [List.mem_singleton.mp h]
            exact hd
        · rcases List.mem_append.mp hz with h | h
          · exact hmn z h
          · rw [List.mem_singleton.mp h]
            exact hm
      have key : e = 0 ∨ e = 1 ∨ e = 2 ∨ e = 3 := by omega
      rcases key with rfl | rfl | rfl | rfl
      · exact k_ixL (SqL.of xo5) (v := .ref r1) rfl (fin r1 _ y1 (by decide) (.inr ⟨_, rfl⟩))
      · exact k_ixL (SqL.of xo5) (v := .ref r2) rfl (fin r2 _ y2 (by decide) (.inr ⟨_, rfl⟩))
      · exact k_ixL (SqL.of xo5) (v := .ref r3) rfl (fin r3 _ y3 (by decide) (.inl rfl))
      · exact k_ixL (SqL.of xo5) (v := .ref r4) rfl (fin r4 _ y4 (by decide) (.inl rfl))
    · rintro H4 ⟨s4, t4, xo4, w4, hla, xs, ws, hl4, hst, hlen, hmk, hmn⟩
      have hwl : ws.length ≤ 8 := by omega
      clear y1 y2 y3 y4 xo3 xo4 soa
      walk_at "rd"
      rename_i st nst la nla ss nss ln nln tp ntp
      have R4 : Row K (upd H4 st (.tup xs)) st ws := ⟨xs, SqT.of upd_same, hst.mono (SameT.new nst)⟩
      have wS : WellAt (upd H4 st (.tup xs)) a (6 + d1.toNat) := w4.new nst
      have sS : Same H (upd H4 st (.tup xs)) := s4.trans (Same.new nst)
      have b0 : But a (upd H4 st (.tup xs)) (upd (upd (upd (upd (upd H4 st (.tup xs)) la (.lst [])) ss (.lst [])) ln (.lst [])) tp (.tup [.ref la, .ref ss, .ref ln, .int 0])) := But.of ((((Same.new nla).trans (Same.new nss)).trans (Same.new nln)).trans (Same.new ntp))
      have hla5 : (upd (upd (upd (upd (upd H4 st (.tup xs)) la (.lst [])) ss (.lst [])) ln (.lst [])) tp (.tup [.ref la, .ref ss, .ref ln, .int 0])) la = some (.lst []) := by walk_at "hp"
      have hss5 : (upd (upd (upd (upd (upd H4 st (.tup xs)) la (.lst [])) ss (.lst [])) ln (.lst [])) tp (.tup [.ref la, .ref ss, .ref ln, .int 0])) ss = some (.lst []) := by walk_at "hp"
      have hln5 : (upd (upd (upd (upd (upd H4 st (.tup xs)) la (.lst [])) ss (.lst [])) ln (.lst [])) tp (.tup [.ref la, .ref ss, .ref ln, .int 0])) ln = some (.lst []) := by walk_at "hp"
      have w5 : WellAt (upd (upd (upd (upd (upd H4 st (.tup xs)) la (.lst [])) ss (.lst [])) ln (.lst [])) tp (.tup [.ref la, .ref ss, .ref ln, .int 0])) a (6 + d1.toNat) := (((wS.new nla).new nss).new nln).new ntp
      have lna : la ≠ a := wS.ne nla
      have sna : ss ≠ a := (wS.new nla (o := .lst [])).ne nss
      have nna : ln ≠ a := ((wS.new nla (o := .lst [])).new nss (o := .lst [])).ne nln
      have lss : la ≠ ss := ne_of_none (upd_same (H := upd H4 st (.tup xs)) (a := la) (o := .lst [])) nss
      have lln : la ≠ ln := ne_of_none (lk_new (upd_same (H := upd H4 st (.tup xs)) (a := la) (o := .lst [])) nss) nln
      have sln : ss ≠ ln := ne_of_none (upd_same (H := upd (upd H4 st (.tup xs)) la (.lst [])) (a := ss) (o := .lst [])) nln
      have nss' : (upd H4 st (.tup xs)) ss = none := Same.none_of (Same.new nla (o := .lst [])) nss
      have nln' : (upd H4 st (.tup xs)) ln = none := Same.none_of (Same.new nla (o := .lst [])) (Same.none_of (Same.new nss (o := .lst [])) nln)
      generalize (upd (upd (upd (upd (upd H4 st (.tup xs)) la (.lst [])) ss (.lst [])) ln (.lst [])) tp (.tup [.ref la, .ref ss, .ref ln, .int 0])) = H5 at b0 hla5 hss5 hln5 w5 ⊢
      generalize upd H4 st (.tup xs) = HS at R4 wS sS b0 nla nss' nln'
      obtain ⟨xa, xb, xc, hwa, _⟩ := id wS
      have RB : Row K (hid a HS) st ws := R4.mono (hid_sameT hwa)
      have sHB : Same H (hid a HS) := hid_same sS na
      have s05 : Same (hid a HS) H5 := same_hid2 b0
      have bl : hid a HS la = none := hid_none nla
      have bs : hid a HS ss = none := hid_none nss'
      have bn : hid a HS ln = none := hid_none nln'
      have ba : hid a HS a = none := hid_self a HS
      generalize hid a HS = B at RB sHB s05 bl bs bn ba
      clear nla nss ntp nln hst hl4 t4 s4 nst R4 hwa b0 wS sS nss' nln'
      have e1 : playG ws [] = g0 := rfl
      have W0 : WF g0 := { num := List.Pairwise.nil, last := fun l h => absurd h List.not_mem_nil, src := fun l h => absurd h List.not_mem_nil, one := List.Pairwise.nil, few := Nat.zero_le _, most := Nat.zero_le _ }
      have L0 : Lp K ws B a la ss ln (6 + d1.toNat) [] H5 := {
        sb := s05
        wl := w5
        acts := ⟨[], hla5, .nil⟩
        ok := fun d h => absurd h List.not_mem_nil
        pl := trivial
        std := ⟨[], hss5, .nil⟩
        nk := ⟨fun _ => ln, fun b => b = ln, { hln := hln5, new := fun l h => absurd h List.not_mem_nil, ninj := fun l h => absurd h List.not_mem_nil, sln := rfl, snew := fun l h => absurd h List.not_mem_nil }, fun b h => by rw [h]; exact bn, fun h => nna h.symm, lln, sln⟩
        wf := W0
        zr := ⟨fun o h => absurd h List.not_mem_nil, fun o h => absurd h List.not_mem_nil⟩ }
      refine ⟨a, _, _, rfl, w5, by omega, by decide, by decide, fun d2 H6 d20 d21 w6 k6 => ?_⟩
      have L1 := L0.draw (m := 20 + 200 * 0) k6 (w6.le (by omega)) lna sna ba
      walk_at "rd"
      have hm : ∀ L : Int, ∃ m : Int, (if L - 1 < 60 then L - 1 else 60) = m ∧ m ≤ 60 := fun L => ⟨_, rfl, by split <;> omega⟩
      obtain ⟨m, hm1, hm2⟩ := hm ((List.map V.int ns).length)
      rw [hm1]
      obtain ⟨N, hN, hNe⟩ : ∃ N : Nat, N ≤ 60 ∧ (if d2 > m then d2 else m) = (N : Int) := ⟨(if d2 > m then d2 else m).toNat, by split <;> omega, by split <;> omega⟩
      rw [hNe]
      refine k_rng1 (by omega) (by omega) ?_
      rw [Int.toNat_natCast]
      clear L0 w5 w6 k6 hla5 hss5 hln5 s05
      refine k_for walk_range (fun i σ H' => ∃ (v4 v9 v10 v11 : Option V) (ds : List Dd), σ = [some (.ref sc), some (.ref a), some (.ref so), some (.ref st), v4, some (.ref la), some (.ref ss), some (.ref ln), some (.int ((playG ws ds).last : Nat)), v9, v10, v11, none, none] ∧ Lp K ws B a la ss ln (20 + 200 * i) ds H' ∧ ds.length = i)
        ⟨_, _, _, _, [], rfl, L1, rfl⟩ (fun _ _ _ _ _ => True.intro) ?_ ?_
      · rintro i x σ H6' H6 hi ⟨v4, v9, v10, v11, ds, rfl, L6, hlen6⟩ ⟨rfl, rfl⟩
        refine k_opJ2 (I := fun σ H' => ∃ p, σ = [some (.ref sc), some (.ref a), some (.ref so), some (.ref st), some (.int (0 + (i : Int))), some (.ref la), some (.ref ss), some (.ref ln), some (.int ((playG ws ds).last : Nat)), some (.ref p), v10, v11, none, none] ∧ Same H6 H' ∧ WellAt H' p (20 + 200 * i) ∧ (p = a ∨ H6 p = none)) (fun R hR => ?_) ?_
        · have hsc6 := sqL_same (sHB.trans L6.sb) hsc
          walk_at "rd"
          refine ite2 (fun hlt => ?_) (fun hge => ?_)
          · rw [List.length_map] at hlt
            rw [show (1 : Int) + (0 + (i : Int)) = ((1 + i : Nat) : Int) by omega]
            refine ⟨sc, ns, 1 + i, rfl, hsc6, hbits, hns, by omega, fun p H9 np s9 w9' => ?_⟩
            walk_at "rd"
            exact hR _ _ ⟨p, rfl, s9, w9'.le (by omega), .inr np⟩
          · walk_at "rd"
            exact hR _ _ ⟨a, rfl, Same.refl _, L6.wl, .inl rfl⟩
        · rintro σ H7 ⟨p, rfl, s67, w7, hp⟩
          have hpB : B p = none := by
            rcases hp with rfl | hp
            · exact ba
            · exact Same.none_of L6.sb hp
          have L7 := L6.draw (m := 20 + 200 * i) (But.of s67) (L6.wl.same s67) lna sna ba
          have W7 := L7.wf
          have hmost := W7.most
          have hnew := W7.newLen
          have few := W7.few
          obtain ⟨xa7, hla7, hdd7⟩ := L7.acts
          obtain ⟨zs, hss7, hst7⟩ := L7.std
          obtain ⟨A0, S0, nk0, nB0, nSa0, nSla0, nSss0⟩ := L7.nk
          have hzl : zs.length = (playG ws ds).old.length := Paired.length hst7
          have hln7 := nk0.hln
          walk_at "rd"
          rw [hzl]
          have hrows : Paired (fun (x : V) (l : NL) => x = .ref (A0 l.number) ∧ H7 (A0 l.number) = some (.lst (nrow4 l))) (refs4 (playG ws ds).new A0) (playG ws ds).new := by
            have e : ∀ ls : List NL, (∀ l ∈ ls, l ∈ (playG ws ds).new) → Paired (fun (x : V) (l : NL) => x = .ref (A0 l.number) ∧ H7 (A0 l.number) = some (.lst (nrow4 l))) (refs4 ls A0) ls := fun ls => by
              induction ls with
              | nil => exact fun _ => .nil
              | cons l ls ih => exact fun h => .cons ⟨rfl, nk0.new l (h l List.mem_cons_self)⟩ (ih fun x hx => h x (List.mem_cons_of_mem _ hx))
            exact e _ fun _ h => h
          refine k_lcM (R := fun H x (l : NL) => x = .ref (A0 l.number) ∧ H (A0 l.number) = some (.lst (nrow4 l))) (R' := fun _ x (l : NL) => x = .int (l.number : Nat)) (fun s h => ⟨h.1, s _ _ h.2⟩) (fun _ h => h) (fun _ h => h) (walk_list (xs := refs4 (playG ws ds).new A0)) (fun _ => true) hrows (by omega) ?_ (fun H' s => SqL.of (s _ _ hln7)) (fun x l Hx Qb s' hl ⟨u1, u2⟩ hq => hq _ (Same.refl _)) (fun x l Hx QV s' hl _ ⟨u1, u2⟩ hq => ?_) fun nm H8 zs8 nnm s8 hnm hz => ?_
          · simp
          · subst u1
            have hrow : Hx (A0 l.number) = some (.lst [.int (l.number : Nat), oV l.source, .int l.label, oV l.tie]) := u2
            walk_at "rd"
            exact hq _ Hx (Same.refl _) rfl
          rw [List.filter_eq_self.mpr (fun _ _ => rfl)] at hz
          have ez := nums_eq hz
          subst ez
          have hnm' : H8 nm = some (.lst (natsV (numsOf (playG ws ds).new))) := hnm
          walk_at "rd"
          have hnp : nm ≠ p := w7.ne nnm
          refine ⟨p, nm, 20 + 200 * i, playG ws ds, rfl, w7.same s8, by omega, hnm', hnp, W7, fun r d H9 hd9 ok9 th9 sim9 w9 b9' => ?_⟩
          have b9 : But p H8 H9 := b9'
          have b69 : But a H6 H9 := by
            rcases hp with rfl | hp
            · exact But.trans (But.of (s67.trans s8)) b9
            · exact But.of fun b o e => b9 b o (s8 _ _ (s67 b o e)) (ne_of_none e hp)
          have w69 : WellAt H9 a (20 + 200 * (i + 1)) := by
            rcases hp with rfl | hp
            · exact w9.le (by omega)
            · exact ((L6.wl.same (s67.trans s8)).but b9 fun e => by
                obtain ⟨_, _, _, e', _⟩ := L6.wl
                rw [e, hp] at e'
                cases e').le (by omega)
          have L9 := L6.draw b69 w69 lna sna ba
          clear L7 hla7 hdd7 hss7 hst7 nk0 nB0 nSa0 nSla0 nSss0 hrows hnm hnm' hln7 hz w7
          obtain ⟨xa9, hla9, hdd9⟩ := L9.acts
          obtain ⟨zs, hss9, hst9⟩ := L9.std
          obtain ⟨A9, S9', nk9', nB9', nSa9', nSla9', nSss9'⟩ := L9.nk
          have nk9 := nk9'.shrink
          have nB9 : ∀ b, (fun b => S9' b ∧ ∃ xs, H9 b = some (.lst xs)) b → B b = none := fun b h => nB9' b h.1
          have nSa9 : ¬ (fun b => S9' b ∧ ∃ xs, H9 b = some (.lst xs)) a := fun h => nSa9' h.1
          have nSla9 : ¬ (fun b => S9' b ∧ ∃ xs, H9 b = some (.lst xs)) la := fun h => nSla9' h.1
          have nSss9 : ¬ (fun b => S9' b ∧ ∃ xs, H9 b = some (.lst xs)) ss := fun h => nSss9' h.1
          have hS9l : ∀ b, (fun b => S9' b ∧ ∃ xs, H9 b = some (.lst xs)) b → ∃ xs, H9 b = some (.lst xs) := fun b h => h.2
          clear nk9' nB9' nSa9' nSla9' nSss9'
          generalize (fun b => S9' b ∧ ∃ xs, H9 b = some (.lst xs)) = S9 at nk9 nB9 nSa9 nSla9 nSss9 hS9l
          have hzl : zs.length = (playG ws ds).old.length := Paired.length hst9
          have hln9 := nk9.hln
          have hxl : xa9.length = i := (Paired.length hdd9).trans hlen6
          have bnd : Bnd (0 + ds.length) (playG ws ds) := Bnd.play (by omega) ds 0 g0 ⟨Nat.zero_le _, Nat.zero_le _⟩ (by omega)
          have bnd1 := bnd.1
          have bnd2 := bnd.2
          have zr' := L9.zr.act hmk sim9
          have sb9 := L9.sb
          have hnums : (playG ws ds).new.length ≤ 900000 := by omega
          cases d with
          | add b t =>
            have e0 : t = 0 := sim9
            subst e0
            have hd : SqT K H9 r [.str "add", .int b, .int 0] := hd9
            walk_at "rd"
            rename_i r5 n5
            have sss : SameT H9 (upd (upd H9 r5 (.tup [.bl true, .int b])) ss (.lst (zs ++ [.ref r5]))) := (SameT.new n5).trans (SameT.lst (lk_new hss9 n5))
            have o5 : ∀ b' o', H9 b' = some o' → b' ≠ ss → (upd (upd H9 r5 (.tup [.bl true, .int b])) ss (.lst (zs ++ [.ref r5]))) b' = some o' := fun b' o' e n => lk_ne (lk_new e n5) n
            refine ⟨_, _, _, _, ds ++ [.add b 0], by rw [play_snoc]; rfl, Lp.snoc (d := .add b 0) (fun b' o' e => o5 b' o' (sb9 b' o' e) (ne_of_none e bs)) ((w69.new n5).lst sna.symm) (o5 _ _ hla9 lss) (hdd9.mono sss) (show DeedAt K _ r (.add b 0) from sqT_mono sss hd9) L9.ok ok9 L9.pl th9 upd_same (paired_app (Paired.mapP hst9 fun _ _ h => StdR.mono sss h) (.cons (show StdR K _ _ ⟨b, 0, 0, none, true⟩ from ⟨r5, rfl, SqT.of (lk_ne upd_same (ne_of_none hss9 n5).symm)⟩) .nil)) (nk9.move fun b' o' e h => o5 b' o' e fun z => nSss9 (z ▸ h)) nB9 nSa9 nSla9 nSss9 (WF.addOld L9.wf (by omega) _) zr' lna lss bl, by rw [List.length_append, hlen6]; rfl⟩
          | stop n =>
            have hd : SqT K H9 r [.str "end", .int (n : Nat)] := hd9
            have hn : 1 ≤ n ∧ n ≤ (playG ws ds).old.length := th9 n (List.mem_singleton.mpr rfl)
            have hol : (playG ws ds).old[n - 1]? = some ((playG ws ds).old[n - 1]'(by omega)) := List.getElem?_eq_getElem _
            generalize (playG ws ds).old[n - 1]'(by omega) = o at hol
            obtain ⟨x5, hx5, r0, rfl, hr0⟩ := Paired.at2 hst9 hol
            have eg : actG ws (playG ws ds) (.stop n) = { playG ws ds with old := (playG ws ds).old.set (n - 1) { o with standing := false } } := by
              show LG.onOld _ _ _ = _
              unfold LG.onOld
              rw [hol]
            walk_at "rd"
            rw [if_neg (by decide +kernel)]
            walk_at "rd"
            rw [show (n : Int) - 1 = ((n - 1 : Nat) : Int) by omega]
            refine k_ixL (SqL.of hss9) (at_of (j := n - 1) rfl hx5) ?_
            walk_at "rd"
            rename_i r5 n5
            rw [show (n : Int) - 1 = ((n - 1 : Nat) : Int) by omega]
            have hx1 := (List.getElem?_eq_some_iff.mp hx5).1
            refine k_setL (lk_new hss9 n5) (j := n - 1) (by unfold ixN; rw [if_pos (by omega)]; simp; omega) ?_
            walk_at "rd"
            have sss : SameT H9 (upd (upd H9 r5 (.tup [.bl false, .int o.label])) ss (.lst (zs.set (n - 1) (.ref r5)))) := (SameT.new n5).trans (SameT.lst (lk_new hss9 n5))
            have o5 : ∀ b' o', H9 b' = some o' → b' ≠ ss → (upd (upd H9 r5 (.tup [.bl false, .int o.label])) ss (.lst (zs.set (n - 1) (.ref r5)))) b' = some o' := fun b' o' e n => lk_ne (lk_new e n5) n
            refine ⟨_, _, _, _, ds ++ [.stop n], by rw [play_snoc, eg], Lp.snoc (d := .stop n) (fun b' o' e => o5 b' o' (sb9 b' o' e) (ne_of_none e bs)) ((w69.new n5).lst sna.symm) (o5 _ _ hla9 lss) (hdd9.mono sss) (show DeedAt K _ r (.stop n) from sqT_mono sss hd9) L9.ok ok9 L9.pl th9 upd_same (by rw [eg]; exact Paired.setN (show StdR K _ _ { o with standing := false } from ⟨r5, rfl, SqT.of (lk_ne upd_same (ne_of_none hss9 n5).symm)⟩) _ (Paired.mapP hst9 fun _ _ h => StdR.mono sss h)) (by rw [eg]; exact nk9.move fun b' o' e h => o5 b' o' e fun z => nSss9 (z ▸ h)) nB9 nSa9 nSla9 nSss9 (by rw [eg]; exact WF.setOld L9.wf _ _) zr' lna lss bl, by rw [List.length_append, hlen6]; rfl⟩
          | own b =>
            have hd : SqT K H9 r [.str "own", .int b] := hd9
            walk_at "rd"
            rw [if_neg (by decide +kernel)]
            walk_at "rd"
            rw [if_neg (by decide +kernel)]
            walk_at "rd"
            rename_i r5 n5
            have eL : ([V.int (((playG ws ds).last : Int) + 1), V.non, V.int b, V.non] : List V) = nrow4 ⟨(playG ws ds).last + 1, b, 0, 0, none, none, []⟩ := rfl
            rw [eL]
            refine k_appendM (lk_new hln9 n5) (by rw [refs4_len]; omega) ?_
            walk_at "rd"
            have sss : SameT H9 (upd (upd H9 r5 (.lst (nrow4 ⟨(playG ws ds).last + 1, b, 0, 0, none, none, []⟩))) ln (.lst (refs4 (playG ws ds).new A9 ++ [.ref r5]))) := (SameT.new n5).trans (SameT.lst (lk_new hln9 n5))
            have o5 : ∀ b' o', H9 b' = some o' → b' ≠ ln → (upd (upd H9 r5 (.lst (nrow4 ⟨(playG ws ds).last + 1, b, 0, 0, none, none, []⟩))) ln (.lst (refs4 (playG ws ds).new A9 ++ [.ref r5]))) b' = some o' := fun b' o' e n => lk_ne (lk_new e n5) n
            have w10 := nk9.add (H' := upd (upd H9 r5 (.lst (nrow4 ⟨(playG ws ds).last + 1, b, 0, 0, none, none, []⟩))) ln (.lst (refs4 (playG ws ds).new A9 ++ [.ref r5]))) n5 ⟨(playG ws ds).last + 1, b, 0, 0, none, none, []⟩ (fun x hx => by have := (L9.wf.last x hx).2; show x.number ≠ (playG ws ds).last + 1; omega) (lk_ne upd_same (ne_of_none hln9 n5).symm) upd_same o5
            refine ⟨_, _, _, _, ds ++ [.own b], by rw [play_snoc]; rfl, Lp.snoc (d := .own b) (fun b' o' e => o5 b' o' (sb9 b' o' e) fun z => (by have := nB9 _ (z ▸ nk9.sln); rw [this] at e; cases e)) ((w69.new n5).lst nna.symm) (o5 _ _ hla9 lln) (hdd9.mono sss) (show DeedAt K _ r (.own b) from sqT_mono sss hd9) L9.ok ok9 L9.pl th9 (o5 _ _ hss9 sln) (Paired.mapP hst9 fun _ _ h => StdR.mono sss h) w10 (fun b' h => h.elim (nB9 b') fun z => (by rw [z]; exact Same.none_of sb9 n5)) (fun h => h.elim nSa9 fun z => (w69.ne n5) z.symm) (fun h => h.elim nSla9 fun z => ne_of_none hla9 n5 z) (fun h => h.elim nSss9 fun z => ne_of_none hss9 n5 z) (WF.addOwn L9.wf (by omega)) zr' lna lss bl, by rw [List.length_append, hlen6]; rfl⟩
          | run =>
            have hd : SqT K H9 r [.str "run"] := hd9
            walk_at "rd"
            rw [if_neg (by decide +kernel)]
            walk_at "rd"
            rw [if_neg (by decide +kernel)]
            walk_at "rd"
            rw [if_neg (by decide +kernel)]
            walk_at "rd"
            refine ⟨st, ss, ln, ws, zs, playG ws ds, A9, S9, B, rfl, RB, hmk, by omega, sb9, nB9, hss9, hst9, nSss9, nk9, L9.wf, by omega, fun A10 S10 H10 nk10 wf10 F10 G10 => ?_⟩
            walk_at "rd"
            have hla10 := F10 _ _ hla9 nSla9
            have hss10 := F10 _ _ hss9 nSss9
            have t10 : SameT H9 H10 := frm_sameT F10 hS9l
            walk_at "rd"
            have w10 : WellAt H10 a (20 + 200 * (i + 1)) := by
              obtain ⟨x, y, z, e, q⟩ := w69
              exact ⟨x, y, z, F10 _ _ e nSa9, q⟩
            refine ⟨_, _, _, _, ds ++ [.run], by rw [play_snoc]; rfl, Lp.snoc (d := .run) (fun b' o' e => F10 _ _ (sb9 b' o' e) fun z => (by rw [nB9 _ z] at e; cases e)) w10 hla10 (hdd9.mono t10) (show DeedAt K _ r .run from sqT_mono t10 hd9) L9.ok ok9 L9.pl th9 hss10 (by
              show Paired _ _ (runG ws (playG ws ds)).old
              rw [runG_old]
              exact Paired.mapP hst9 fun _ _ h => StdR.mono t10 h) nk10 (fun b' h => (G10 b' h).elim (nB9 b') fun z => Same.none_of sb9 z) (fun h => (G10 _ h).elim nSa9 fun z => (by obtain ⟨_, _, _, e, _⟩ := w69; rw [e] at z; cases z)) (fun h => (G10 _ h).elim nSla9 fun z => (by rw [hla9] at z; cases z)) (fun h => (G10 _ h).elim nSss9 fun z => (by rw [hss9] at z; cases z)) wf10 zr' lna lss bl, by rw [List.length_append, hlen6]; rfl⟩
          | wtie n o =>
            have hd : SqT K H9 r [.str "write tie", .int (n : Nat), oV o] := hd9
            walk_at "rd"
            rw [if_neg (by decide +kernel)]
            walk_at "rd"
            rw [if_neg (by decide +kernel)]
            walk_at "rd"
            rw [if_neg (by decide +kernel)]
            walk_at "rd"
            rw [if_neg (by decide +kernel)]
            walk_at "rd"
            have eg : (actG ws (playG ws ds) (.wtie n o)).new = (playG ws ds).new.map fun l => if l.number = n then { l with tie := o, typed := tyAdd l.typed "tie" } else l := rfl
            have num1 : ∀ l : NL, (if l.number = n then { l with tie := o, typed := tyAdd l.typed "tie" } else l).number = l.number := fun l => by split <;> rfl
            refine k_for (walk_list (xs := refs4 (playG ws ds).new A9)) (fun j σ H' => (∃ v11, σ = [some (.ref sc), some (.ref a), some (.ref so), some (.ref st), some (.int (0 + (i : Int))), some (.ref la), some (.ref ss), some (.ref ln), some (.int ((playG ws ds).last : Nat)), some (.ref p), some (.ref r), v11, none, none]) ∧ Nk H' ln (((playG ws ds).new.take j).map (fun l => if l.number = n then { l with tie := o, typed := tyAdd l.typed "tie" } else l) ++ (playG ws ds).new.drop j) A9 S9 ∧ Frm S9 H9 H')
              ⟨⟨_, rfl⟩, by simpa using nk9, Frm.refl _ _⟩ (fun j σ H' _ h => SqL.of (by
                have := h.2.1.hln
                rw [refs4_congr (ls' := (playG ws ds).new) (by
                  rw [List.map_append, List.map_map]
                  rw [show ((fun l : NL => l.number) ∘ fun l => if l.number = n then { l with tie := o, typed := tyAdd l.typed "tie" } else l) = fun l : NL => l.number from funext num1]
                  rw [← List.map_append, List.take_append_drop])] at this
                exact this)) ?_ ?_
            · rintro j x σ H10' H10 hj ⟨⟨v11', rfl⟩, w10, F10⟩ ⟨rfl, hx2⟩
              rw [refs4_len] at hj
              have hgj : (playG ws ds).new[j]? = some ((playG ws ds).new[j]) := List.getElem?_eq_getElem hj
              have hdj : (playG ws ds).new.drop j = (playG ws ds).new[j] :: (playG ws ds).new.drop (j + 1) := List.drop_eq_getElem_cons hj
              have htj : (playG ws ds).new.take (j + 1) = (playG ws ds).new.take j ++ [(playG ws ds).new[j]] := by
                rw [List.take_add_one, hgj]
                rfl
              generalize (playG ws ds).new[j] = l at hgj hdj htj
              have hxe : (refs4 (playG ws ds).new A9)[j]? = some x := hx2
              rw [refs4_at hgj] at hxe
              cases hxe
              rw [hdj] at w10
              rw [htj, List.map_append]
              have hoth : ∀ y ∈ ((playG ws ds).new.take j).map (fun l => if l.number = n then { l with tie := o, typed := tyAdd l.typed "tie" } else l) ++ (playG ws ds).new.drop (j + 1), y.number ≠ l.number := fun y hy => by
                rcases List.mem_append.mp hy with h | h
                · obtain ⟨z, hz, rfl⟩ := List.mem_map.mp h
                  obtain ⟨q, hq⟩ := List.getElem?_of_mem hz
                  rw [List.getElem?_take] at hq
                  split at hq
                  · rw [num1]
                    intro e
                    have := L9.wf.inj hq hgj e
                    omega
                  · cases hq
                · obtain ⟨q, hq⟩ := List.getElem?_of_mem h
                  rw [List.getElem?_drop] at hq
                  intro e
                  have := L9.wf.inj hq hgj e
                  omega
              generalize ((playG ws ds).new.take j).map (fun l => if l.number = n then { l with tie := o, typed := tyAdd l.typed "tie" } else l) = us at w10 hoth ⊢
              generalize (playG ws ds).new.drop (j + 1) = vs at w10 hoth ⊢
              have hlm : l ∈ us ++ l :: vs := List.mem_append_right _ List.mem_cons_self
              have hrow : H10 (A9 l.number) = some (.lst [.int (l.number : Nat), oV l.source, .int l.label, oV l.tie]) := w10.new l hlm
              have hd10 : SqT K H10 r [.str "write tie", .int (n : Nat), oV o] := sqT_mono (frm_sameT F10 hS9l) hd
              rw [e_gname]
              walk_at "rd"
              rw [List.append_assoc, List.singleton_append]
              by_cases hln : l.number = n
              · rw [if_pos (by omega), if_pos hln]
                walk_at "rd"
                have w11 := w10.sub (l' := { l with tie := o, typed := tyAdd l.typed "tie" }) rfl hoth
                exact ⟨⟨_, rfl⟩, w11, fun b u e n => lk_ne (F10 b u e n) fun z => n (z ▸ w10.snew l hlm)⟩
              · rw [if_neg (by omega), if_neg hln]
                walk_at "rd"
                exact ⟨⟨_, rfl⟩, w10, F10⟩
            · rintro σ H10 ⟨⟨v11', rfl⟩, w10, F10⟩
              rw [refs4_len, List.take_length, List.drop_length, List.append_nil, ← eg] at w10
              have hla10 := F10 _ _ hla9 nSla9
              have hss10 := F10 _ _ hss9 nSss9
              have t10 : SameT H9 H10 := frm_sameT F10 hS9l
              have w12 : WellAt H10 a (20 + 200 * (i + 1)) := by
                obtain ⟨x, y, z, e, q⟩ := w69
                exact ⟨x, y, z, F10 _ _ e nSa9, q⟩
              walk_at "rd"
              refine ⟨_, _, _, _, ds ++ [.wtie n o], by rw [play_snoc]; rfl, Lp.snoc (d := .wtie n o) (fun b' o' e => F10 _ _ (sb9 b' o' e) fun z => (by rw [nB9 _ z] at e; cases e)) w12 hla10 (hdd9.mono t10) (show DeedAt K _ r (.wtie n o) from sqT_mono t10 hd9) L9.ok ok9 L9.pl th9 hss10 (Paired.mapP hst9 fun _ _ h => StdR.mono t10 h) w10 nB9 nSa9 nSla9 nSss9 (WF.congr2 (g := playG ws ds) (onNew_k2 (playG ws ds) n (fun l => { l with tie := o, typed := tyAdd l.typed "tie" }) fun _ => rfl).symm rfl rfl L9.wf) zr' lna lss bl, by rw [List.length_append, hlen6]; rfl⟩
          | _ => exact absurd sim9 id
      · rintro σ H6 ⟨v4, v9, v10, v11, ds, rfl, L6, hlen6⟩
        obtain ⟨xs6, hla6, hdd6⟩ := L6.acts
        obtain ⟨A6, S6, nk6, nB6, nSa6, nSla6, nSss6⟩ := L6.nk
        have ok6 := L6.ok
        have pl6 := L6.pl
        have sb6 := L6.sb
        have wf6 := L6.wf
        have zr6 := L6.zr
        have hln6 := nk6.hln
        have hxl : xs6.length = N := (Paired.length hdd6).trans hlen6
        have hnew := wf6.newLen
        have hmost := wf6.most
        clear w3 w4 s3 k3 s2 w1 na c1 L6
        have c1 := T.cl_Script
        have epl : playG ws ds = ds.foldl (actG ws) g0 := rfl
        walk_at "rd"
        have hrows : Paired (fun (x : V) (l : NL) => x = .ref (A6 l.number) ∧ H6 (A6 l.number) = some (.lst (nrow4 l))) (refs4 (playG ws ds).new A6) (playG ws ds).new := by
          have e : ∀ ls : List NL, (∀ l ∈ ls, l ∈ (playG ws ds).new) → Paired (fun (x : V) (l : NL) => x = .ref (A6 l.number) ∧ H6 (A6 l.number) = some (.lst (nrow4 l))) (refs4 ls A6) ls := fun ls => by
            induction ls with
            | nil => exact fun _ => .nil
            | cons l ls ih => exact fun h => .cons ⟨rfl, nk6.new l (h l List.mem_cons_self)⟩ (ih fun x hx => h x (List.mem_cons_of_mem _ hx))
          exact e _ fun _ h => h
        refine k_lcM (R := fun H x (l : NL) => x = .ref (A6 l.number) ∧ H (A6 l.number) = some (.lst (nrow4 l))) (R' := fun H x (l : NL) => ∃ r, x = .ref r ∧ H r = some (.tup (row0 l))) (fun s h => ⟨h.1, s _ _ h.2⟩) (fun s ⟨r, e, h⟩ => ⟨r, e, s _ _ h⟩) (fun hl ⟨r, e, h⟩ => ⟨r, e, lk_ne h fun z => by rw [z, hl] at h; cases h⟩) (walk_list (xs := refs4 (playG ws ds).new A6)) (fun _ => true) hrows (by omega) ?_ (fun H' s => SqL.of (s _ _ hln6)) (fun x l Hx Qb s' hl ⟨u1, u2⟩ hq => hq _ (Same.refl _)) (fun x l Hx QV s' hl _ ⟨u1, u2⟩ hq => ?_) fun du H8 zs8 ndu s8 hdu hz => ?_
        · simp
        · subst u1
          have hrow : Hx (A6 l.number) = some (.lst [.int (l.number : Nat), oV l.source, .int l.label, oV l.tie]) := u2
          walk_at "rd"
          rename_i r5 n5
          exact hq _ _ (Same.new n5) ⟨r5, rfl, upd_same⟩
        rw [List.filter_eq_self.mpr (fun _ _ => rfl)] at hz
        have hz' : Paired (fun (x : V) (l : NL) => ∃ r, x = .ref r ∧ H8 r = some (.tup (nrow l))) zs8 (playG ws ds).new := by
          have e : ∀ (xs : List V) (ls : List NL), (∀ l ∈ ls, l ∈ (playG ws ds).new) → Paired (fun (x : V) (l : NL) => ∃ r, x = .ref r ∧ H8 r = some (.tup (row0 l))) xs ls → Paired (fun (x : V) (l : NL) => ∃ r, x = .ref r ∧ H8 r = some (.tup (nrow l))) xs ls := fun xs ls hm h => by
            induction h with
            | nil => exact .nil
            | cons h _ ih =>
              obtain ⟨r, e1, e2⟩ := h
              exact .cons ⟨r, e1, by rw [← zr6.row (hm _ List.mem_cons_self)]; exact e2⟩ (ih fun l hl => hm l (List.mem_cons_of_mem _ hl))
          exact e _ _ (fun _ h => h) hz
        have RD : RowsL H8 du (playG ws ds).new.length (nrows (playG ws ds)) := by
          refine ⟨zs8, hdu, Paired.length hz', fun i hi => ?_⟩
          rw [Paired.length hz'] at hi
          obtain ⟨x, hx, r, rfl, hr⟩ := Paired.at2 hz' (List.getElem?_eq_getElem hi)
          exact ⟨r, hx, by rw [hr, nrows_at (List.getElem?_eq_getElem hi)]⟩
        have hla8 := s8 _ _ hla6
        have hdd8 := hdd6.mono (SameT.of s8)
        have RB8 : Row K H8 st ws := RB.mono (SameT.of (fun b o e => s8 _ _ (sb6 b o e)))
        clear hz hz' hrows hln6 nk6
        walk_at "rd"
        refine k_newScr RB8 (by omega) hmn fun y l H9 ny nl9 s9 L9 => ?_
        have hla9 := s9 _ _ hla8
        have RD9 := RD.same s9
        have hdd9 := hdd8.mono (SameT.of s9)
        walk_at "rd"
        rename_i l2 nl2
        have s10 := Same.new nl2 (o := .lst xs6)
        have g2 : upd H9 l2 (.lst xs6) l2 = some (.lst xs6) := upd_same
        generalize upd H9 l2 (.lst xs6) = H10 at s10 g2 ⊢
        refine ⟨y, l2, ws, xs6, ds, rfl, L9.at_.same s10, SqL.of g2, hdd9.mono (SameT.of s10), ok6, by omega, pl6, fun t q1 q2 H11 s11 nt nq1 nq2 nq h1 h2 h3 => ?_⟩
        have s911 := s10.trans s11
        walk_at "rd"
        refine ⟨.ref q2, .ref du, rfl, rows_like h3 (RD9.same s911) (by omega) (nrows_len _) (nrows_scal _), fun H12 s12 => ?_⟩
        have s912 := s911.trans s12
        have hla12 := s912 _ _ hla9
        walk_at "rd"
        rename_i l3 nl3
        have s13 := s912.trans (Same.new nl3 (o := .lst xs6))
        have g3 : upd H12 l3 (.lst xs6) l3 = some (.lst xs6) := upd_same
        generalize upd H12 l3 (.lst xs6) = H13 at s13 g3 ⊢
        refine ⟨y, l3, ws, xs6, ds, rfl, L9.at_.same s13, SqL.of g3, hdd9.mono (SameT.of s13), ok6, by omega, pl6, fun t q1 q2 H14 s14 nt nq1 nq2 nq h1 h2 h3 => ?_⟩
        have s914 := s13.trans s14
        walk_at "rd"
        refine ⟨.ref q2, .ref du, rfl, rows_like h3 (RD9.same s914) (by omega) (nrows_len _) (nrows_scal _), fun H15 s15 => ?_⟩
        walk_at "rd"
        exact k _
end
end Y


set_option Elab.async false
set_option linter.all false
set_option maxRecDepth 100000
set_option maxHeartbeats 8000000
namespace Y
open PySem L2
theorem all_mk {l : PySem.W.OpenLaw} {w : World} {K : PySem.W.Frag} {h : Heap} {mg : Str → Option Value} {fa a_OldLine a_NewLine a_Ledgers a_Script a_STEPS b_STEPS_0 b_STEPS_1 b_STEPS_2 b_STEPS_3 b_STEPS_4 b_STEPS_5 b_STEPS_6 b_STEPS_7 b_STEPS_8 b_STEPS_9 b_STEPS_10 b_STEPS_11 f_is_integer f_is_step f_Script___init__ f_Script_steps f_is_deed f_is_field f_check_deeds T_check_deeds f_named_numbers f_has_lines f_do_deed f_write_new f_set_field f_OldLine___init__ f_OldLine_closing f_OldLine_row f_NewLine___init__ f_NewLine_row f_Ledgers___init__ f_Ledgers_add_old f_Ledgers_add_new f_Ledgers_make_line f_Ledgers_drop_line f_Ledgers_made_number f_Ledgers_old_rows f_Ledgers_new_rows f_run_script f_make_lines f_drop_lines f_renew_lines f_in_scope f_renew_line f_carry_out f_play f__law_well f__law_draw f__law_label f__law_like f__law_deed f__law_run f_law a_FORMS a_FORMS_r0 a_FORMS_r1 a_FORMS_r2 a_FORMS_r3 a_FORMS_r4 a_FORMS_r5 a_FORMS_r6 a_FORMS_r7 a_FORMS_r8 a_FORMS_r9 a_NoStep f_NoStep t_NoStep N_NoStep cda_NoStep cc_NoStep a_NoDeed f_NoDeed t_NoDeed N_NoDeed cda_NoDeed cc_NoDeed a_NoLine f_NoLine t_NoLine N_NoLine cda_NoLine cc_NoLine : Addr} (X : K.In h) (G : h.Ns mainGlobals mg) (hfa : mg "law" = some (.ref fa))
    {od_is_integer an_is_integer od_is_step an_is_step od_Script___init__ an_Script___init__ od_Script_steps an_Script_steps od_is_deed an_is_deed od_is_field an_is_field od_check_deeds an_check_deeds od_named_numbers an_named_numbers od_has_lines an_has_lines od_do_deed an_do_deed od_write_new an_write_new od_set_field an_set_field od_OldLine___init__ an_OldLine___init__ od_OldLine_closing an_OldLine_closing od_OldLine_row an_OldLine_row od_NewLine___init__ an_NewLine___init__ od_NewLine_row an_NewLine_row od_Ledgers___init__ an_Ledgers___init__ od_Ledgers_add_old an_Ledgers_add_old od_Ledgers_add_new an_Ledgers_add_new od_Ledgers_make_line an_Ledgers_make_line od_Ledgers_drop_line an_Ledgers_drop_line od_Ledgers_made_number an_Ledgers_made_number od_Ledgers_old_rows an_Ledgers_old_rows od_Ledgers_new_rows an_Ledgers_new_rows od_run_script an_run_script od_make_lines an_make_lines od_drop_lines an_drop_lines od_renew_lines an_renew_lines od_in_scope an_in_scope od_renew_line an_renew_line od_carry_out an_carry_out od_play an_play od__law_well an__law_well od__law_draw an__law_draw od__law_label an__law_label od__law_like an__law_like od__law_deed an__law_deed od__law_run an__law_run od_law an_law : Option Addr} {sl_is_integer sl_is_step sl_Script___init__ sl_Script_steps sl_is_deed sl_is_field sl_check_deeds sl_named_numbers sl_has_lines sl_do_deed sl_write_new sl_set_field sl_OldLine___init__ sl_OldLine_closing sl_OldLine_row sl_NewLine___init__ sl_NewLine_row sl_Ledgers___init__ sl_Ledgers_add_old sl_Ledgers_add_new sl_Ledgers_make_line sl_Ledgers_drop_line sl_Ledgers_made_number sl_Ledgers_old_rows sl_Ledgers_new_rows sl_run_script sl_make_lines sl_drop_lines sl_renew_lines sl_in_scope sl_renew_line sl_carry_out sl_play sl__law_well sl__law_draw sl__law_label sl__law_like sl__law_deed sl__law_run sl_law : Array (Option Value)}
    {oc_is_integer kV_is_integer dc_is_integer pm_is_integer cd_is_integer ct_is_integer oc_is_step kV_is_step dc_is_step pm_is_step cd_is_step ct_is_step oc_Script___init__ kV_Script___init__ dc_Script___init__ pm_Script___init__ cd_Script___init__ ct_Script___init__ oc_Script_steps kV_Script_steps dc_Script_steps pm_Script_steps cd_Script_steps ct_Script_steps oc_is_deed kV_is_deed dc_is_deed pm_is_deed cd_is_deed ct_is_deed oc_is_field kV_is_field dc_is_field pm_is_field cd_is_field ct_is_field oc_check_deeds kV_check_deeds dc_check_deeds pm_check_deeds cd_check_deeds ct_check_deeds oc_named_numbers kV_named_numbers dc_named_numbers pm_named_numbers cd_named_numbers ct_named_numbers oc_has_lines kV_has_lines dc_has_lines pm_has_lines cd_has_lines ct_has_lines oc_do_deed kV_do_deed dc_do_deed pm_do_deed cd_do_deed ct_do_deed oc_write_new kV_write_new dc_write_new pm_write_new cd_write_new ct_write_new oc_set_field kV_set_field dc_set_field pm_set_field cd_set_field ct_set_field oc_OldLine___init__ kV_OldLine___init__ dc_OldLine___init__ pm_OldLine___init__ cd_OldLine___init__ ct_OldLine___init__ oc_OldLine_closing kV_OldLine_closing dc_OldLine_closing pm_OldLine_closing cd_OldLine_closing ct_OldLine_closing oc_OldLine_row kV_OldLine_row dc_OldLine_row pm_OldLine_row cd_OldLine_row ct_OldLine_row oc_NewLine___init__ kV_NewLine___init__ dc_NewLine___init__ pm_NewLine___init__ cd_NewLine___init__ ct_NewLine___init__ oc_NewLine_row kV_NewLine_row dc_NewLine_row pm_NewLine_row cd_NewLine_row ct_NewLine_row oc_Ledgers___init__ kV_Ledgers___init__ dc_Ledgers___init__ pm_Ledgers___init__ cd_Ledgers___init__ ct_Ledgers___init__ oc_Ledgers_add_old kV_Ledgers_add_old dc_Ledgers_add_old pm_Ledgers_add_old cd_Ledgers_add_old ct_Ledgers_add_old oc_Ledgers_add_new kV_Ledgers_add_new dc_Ledgers_add_new pm_Ledgers_add_new cd_Ledgers_add_new ct_Ledgers_add_new oc_Ledgers_make_line kV_Ledgers_make_line dc_Ledgers_make_line pm_Ledgers_make_line cd_Ledgers_make_line ct_Ledgers_make_line oc_Ledgers_drop_line kV_Ledgers_drop_line dc_Ledgers_drop_line pm_Ledgers_drop_line cd_Ledgers_drop_line ct_Ledgers_drop_line oc_Ledgers_made_number kV_Ledgers_made_number dc_Ledgers_made_number pm_Ledgers_made_number cd_Ledgers_made_number ct_Ledgers_made_number oc_Ledgers_old_rows kV_Ledgers_old_rows dc_Ledgers_old_rows pm_Ledgers_old_rows cd_Ledgers_old_rows ct_Ledgers_old_rows oc_Ledgers_new_rows kV_Ledgers_new_rows dc_Ledgers_new_rows pm_Ledgers_new_rows cd_Ledgers_new_rows ct_Ledgers_new_rows oc_run_script kV_run_script dc_run_script pm_run_script cd_run_script ct_run_script oc_make_lines kV_make_lines dc_make_lines pm_make_lines cd_make_lines ct_make_lines oc_drop_lines kV_drop_lines dc_drop_lines pm_drop_lines cd_drop_lines ct_drop_lines oc_renew_lines kV_renew_lines dc_renew_lines pm_renew_lines cd_renew_lines ct_renew_lines oc_in_scope kV_in_scope dc_in_scope pm_in_scope cd_in_scope ct_in_scope oc_renew_line kV_renew_line dc_renew_line pm_renew_line cd_renew_line ct_renew_line oc_carry_out kV_carry_out dc_carry_out pm_carry_out cd_carry_out ct_carry_out oc_play kV_play dc_play pm_play cd_play ct_play oc__law_well kV__law_well dc__law_well pm__law_well cd__law_well ct__law_well oc__law_draw kV__law_draw dc__law_draw pm__law_draw cd__law_draw ct__law_draw oc__law_label kV__law_label dc__law_label pm__law_label cd__law_label ct__law_label oc__law_like kV__law_like dc__law_like pm__law_like cd__law_like ct__law_like oc__law_deed kV__law_deed dc__law_deed pm__law_deed cd__law_deed ct__law_deed oc__law_run kV__law_run dc__law_run pm__law_run cd__law_run ct__law_run oc_law kV_law dc_law pm_law cd_law ct_law : Value} {tk_STEPS_0_0 tk_STEPS_0_1 tk_STEPS_1_0 tk_STEPS_1_1 tk_STEPS_2_0 tk_STEPS_2_1 tk_STEPS_3_0 tk_STEPS_3_1 tk_STEPS_4_0 tk_STEPS_4_1 tk_STEPS_5_0 tk_STEPS_5_1 tk_STEPS_6_0 tk_STEPS_6_1 tk_STEPS_7_0 tk_STEPS_7_1 tk_STEPS_8_0 tk_STEPS_8_1 tk_STEPS_9_0 tk_STEPS_9_1 tk_STEPS_10_0 tk_STEPS_10_1 tk_STEPS_11_0 tkT_check_deeds_0 tk_FORMS_r0_0 tk_FORMS_r0_1 tk_FORMS_r1_0 tk_FORMS_r1_1 tk_FORMS_r2_0 tk_FORMS_r2_1 tk_FORMS_r3_0 tk_FORMS_r3_1 tk_FORMS_r4_0 tk_FORMS_r5_0 tk_FORMS_r6_0 tk_FORMS_r6_1 tk_FORMS_r7_0 tk_FORMS_r7_1 tk_FORMS_r8_0 tk_FORMS_r8_1 tk_MOST_AMOUNT tk_MOST_LABEL tk_MOST_NUMBER tk_MOST_STEPS tk_WRITE : Tok} {dd_STEPS : Option Addr} {nn_STEPS : Nat} {ss_STEPS : Array (Option Value)} {dd_STEPS_0 : Option Addr} {nn_STEPS_0 : Nat} {ss_STEPS_0 : Array (Option Value)} {dd_STEPS_1 : Option Addr} {nn_STEPS_1 : Nat} {ss_STEPS_1 : Array (Option Value)} {dd_STEPS_2 : Option Addr} {nn_STEPS_2 : Nat} {ss_STEPS_2 : Array (Option Value)} {dd_STEPS_3 : Option Addr} {nn_STEPS_3 : Nat} {ss_STEPS_3 : Array (Option Value)} {dd_STEPS_4 : Option Addr} {nn_STEPS_4 : Nat} {ss_STEPS_4 : Array (Option Value)} {dd_STEPS_5 : Option Addr} {nn_STEPS_5 : Nat} {ss_STEPS_5 : Array (Option Value)} {dd_STEPS_6 : Option Addr} {nn_STEPS_6 : Nat} {ss_STEPS_6 : Array (Option Value)} {dd_STEPS_7 : Option Addr} {nn_STEPS_7 : Nat} {ss_STEPS_7 : Array (Option Value)} {dd_STEPS_8 : Option Addr} {nn_STEPS_8 : Nat} {ss_STEPS_8 : Array (Option Value)} {dd_STEPS_9 : Option Addr} {nn_STEPS_9 : Nat} {ss_STEPS_9 : Array (Option Value)} {dd_STEPS_10 : Option Addr} {nn_STEPS_10 : Nat} {ss_STEPS_10 : Array (Option Value)} {dd_STEPS_11 : Option Addr} {nn_STEPS_11 : Nat} {ss_STEPS_11 : Array (Option Value)} {ddT_check_deeds : Option Addr} {nnT_check_deeds : Nat} {ssT_check_deeds : Array (Option Value)} {es_FORMS : Array DictEntry} {n_FORMS : Nat} {dd_FORMS_r0 : Option Addr} {nn_FORMS_r0 : Nat} {ss_FORMS_r0 : Array (Option Value)} {dd_FORMS_r1 : Option Addr} {nn_FORMS_r1 : Nat} {ss_FORMS_r1 : Array (Option Value)} {dd_FORMS_r2 : Option Addr} {nn_FORMS_r2 : Nat} {ss_FORMS_r2 : Array (Option Value)} {dd_FORMS_r3 : Option Addr} {nn_FORMS_r3 : Nat} {ss_FORMS_r3 : Array (Option Value)} {dd_FORMS_r4 : Option Addr} {nn_FORMS_r4 : Nat} {ss_FORMS_r4 : Array (Option Value)} {dd_FORMS_r5 : Option Addr} {nn_FORMS_r5 : Nat} {ss_FORMS_r5 : Array (Option Value)} {dd_FORMS_r6 : Option Addr} {nn_FORMS_r6 : Nat} {ss_FORMS_r6 : Array (Option Value)} {dd_FORMS_r7 : Option Addr} {nn_FORMS_r7 : Nat} {ss_FORMS_r7 : Array (Option Value)} {dd_FORMS_r8 : Option Addr} {nn_FORMS_r8 : Nat} {ss_FORMS_r8 : Array (Option Value)} {dd_FORMS_r9 : Option Addr} {nn_FORMS_r9 : Nat} {ss_FORMS_r9 : Array (Option Value)} {nm_NoStep q_NoStep file_NoStep : Str} {bs_NoStep sub_NoStep : List Value} {sn_NoStep : List Str} {ab_NoStep : Bool} {col_NoStep : Option Bool} {m0_NoStep m1_NoStep m2_NoStep m3_NoStep m5_NoStep : Option Value} {dd_NoStep od_NoStep an_NoStep cdd_NoStep cld_NoStep : Option Addr} {oc_NoStep dc_NoStep pm_NoStep ct_NoStep ccl_NoStep cl_NoStep : Value} {sl_NoStep ccs_NoStep csl_NoStep : Array (Option Value)} {vs_NoStep : Array Value} {tf_NoStep : Tok} {nm_NoDeed q_NoDeed file_NoDeed : Str} {bs_NoDeed sub_NoDeed : List Value} {sn_NoDeed : List Str} {ab_NoDeed : Bool} {col_NoDeed : Option Bool} {m0_NoDeed m1_NoDeed m2_NoDeed m3_NoDeed m5_NoDeed : Option Value} {dd_NoDeed od_NoDeed an_NoDeed cdd_NoDeed cld_NoDeed : Option Addr} {oc_NoDeed dc_NoDeed pm_NoDeed ct_NoDeed ccl_NoDeed cl_NoDeed : Value} {sl_NoDeed ccs_NoDeed csl_NoDeed : Array (Option Value)} {vs_NoDeed : Array Value} {tf_NoDeed : Tok} {nm_NoLine q_NoLine file_NoLine : Str} {bs_NoLine sub_NoLine : List Value} {sn_NoLine : List Str} {ab_NoLine : Bool} {col_NoLine : Option Bool} {m0_NoLine m1_NoLine m2_NoLine m3_NoLine m5_NoLine : Option Value} {dd_NoLine od_NoLine an_NoLine cdd_NoLine cld_NoLine : Option Addr} {oc_NoLine dc_NoLine pm_NoLine ct_NoLine ccl_NoLine cl_NoLine : Value} {sl_NoLine ccs_NoLine csl_NoLine : Array (Option Value)} {vs_NoLine : Array Value} {tf_NoLine : Tok}
    (g_OldLine : PySem.W.nsIn K mainGlobals "OldLine" = some (some (.ref a_OldLine)))
    (pg_OldLine : PySem.W.plainGet K a_OldLine Str.empty = true)
    (hd_OldLine : PySem.W.hasDictIn K a_OldLine = true)
    (po_OldLine : PySem.W.plainOver K a_OldLine = true)
    (sa_OldLine : PySem.W.findIn K (.ref a_OldLine) "__setattr__" = some (some (.builtin "object.__setattr__")))
    (na_OldLine_number : PySem.W.findIn K (.ref a_OldLine) "number" = some none)
    (na_OldLine_label : PySem.W.findIn K (.ref a_OldLine) "label" = some none)
    (na_OldLine_start : PySem.W.findIn K (.ref a_OldLine) "start" = some none)
    (na_OldLine_moves : PySem.W.findIn K (.ref a_OldLine) "moves" = some none)
    (na_OldLine_tie : PySem.W.findIn K (.ref a_OldLine) "tie" = some none)
    (na_OldLine_standing : PySem.W.findIn K (.ref a_OldLine) "standing" = some none)
    (g_NewLine : PySem.W.nsIn K mainGlobals "NewLine" = some (some (.ref a_NewLine)))
    (pg_NewLine : PySem.W.plainGet K a_NewLine Str.empty = true)
    (hd_NewLine : PySem.W.hasDictIn K a_NewLine = true)
    (po_NewLine : PySem.W.plainOver K a_NewLine = true)
    (sa_NewLine : PySem.W.findIn K (.ref a_NewLine) "__setattr__" = some (some (.builtin "object.__setattr__")))
    (na_NewLine_number : PySem.W.findIn K (.ref a_NewLine) "number" = some none)
    (na_NewLine_label : PySem.W.findIn K (.ref a_NewLine) "label" = some none)
    (na_NewLine_start : PySem.W.findIn K (.ref a_NewLine) "start" = some none)
    (na_NewLine_moves : PySem.W.findIn K (.ref a_NewLine) "moves" = some none)
    (na_NewLine_tie : PySem.W.findIn K (.ref a_NewLine) "tie" = some none)
    (na_NewLine_source : PySem.W.findIn K (.ref a_NewLine) "source" = some none)
    (na_NewLine_typed : PySem.W.findIn K (.ref a_NewLine) "typed" = some none)
    (g_Ledgers : PySem.W.nsIn K mainGlobals "Ledgers" = some (some (.ref a_Ledgers)))
    (pg_Ledgers : PySem.W.plainGet K a_Ledgers Str.empty = true)
    (hd_Ledgers : PySem.W.hasDictIn K a_Ledgers = true)
    (po_Ledgers : PySem.W.plainOver K a_Ledgers = true)
    (sa_Ledgers : PySem.W.findIn K (.ref a_Ledgers) "__setattr__" = some (some (.builtin "object.__setattr__")))
    (na_Ledgers_old_lines : PySem.W.findIn K (.ref a_Ledgers) "old_lines" = some none)
    (na_Ledgers_new_lines : PySem.W.findIn K (.ref a_Ledgers) "new_lines" = some none)
    (na_Ledgers_made_lines : PySem.W.findIn K (.ref a_Ledgers) "made_lines" = some none)
    (na_Ledgers_last_new : PySem.W.findIn K (.ref a_Ledgers) "last_new" = some none)
    (na_Ledgers_tie : PySem.W.findIn K (.ref a_Ledgers) "tie" = some none)
    (g_Script : PySem.W.nsIn K mainGlobals "Script" = some (some (.ref a_Script)))
    (pg_Script : PySem.W.plainGet K a_Script Str.empty = true)
    (hd_Script : PySem.W.hasDictIn K a_Script = true)
    (po_Script : PySem.W.plainOver K a_Script = true)
    (sa_Script : PySem.W.findIn K (.ref a_Script) "__setattr__" = some (some (.builtin "object.__setattr__")))
    (na_Script__steps : PySem.W.findIn K (.ref a_Script) "_steps" = some none)
    (g_STEPS : PySem.W.nsIn K mainGlobals "STEPS" = some (some (.ref a_STEPS)))
    (l_STEPS : K.lookup a_STEPS = some ⟨.type "tuple", dd_STEPS, .seq #[.ref b_STEPS_0, .ref b_STEPS_1, .ref b_STEPS_2, .ref b_STEPS_3, .ref b_STEPS_4, .ref b_STEPS_5, .ref b_STEPS_6, .ref b_STEPS_7, .ref b_STEPS_8, .ref b_STEPS_9, .ref b_STEPS_10, .ref b_STEPS_11] nn_STEPS, ss_STEPS⟩)
    (l_STEPS_0 : K.lookup b_STEPS_0 = some ⟨.type "tuple", dd_STEPS_0, .seq #[.str "make" tk_STEPS_0_0, .str "all" tk_STEPS_0_1] nn_STEPS_0, ss_STEPS_0⟩)
    (l_STEPS_1 : K.lookup b_STEPS_1 = some ⟨.type "tuple", dd_STEPS_1, .seq #[.str "make" tk_STEPS_1_0, .str "standing" tk_STEPS_1_1] nn_STEPS_1, ss_STEPS_1⟩)
    (l_STEPS_2 : K.lookup b_STEPS_2 = some ⟨.type "tuple", dd_STEPS_2, .seq #[.str "start" tk_STEPS_2_0, .str "new" tk_STEPS_2_1] nn_STEPS_2, ss_STEPS_2⟩)
    (l_STEPS_3 : K.lookup b_STEPS_3 = some ⟨.type "tuple", dd_STEPS_3, .seq #[.str "start" tk_STEPS_3_0, .str "all" tk_STEPS_3_1] nn_STEPS_3, ss_STEPS_3⟩)
    (l_STEPS_4 : K.lookup b_STEPS_4 = some ⟨.type "tuple", dd_STEPS_4, .seq #[.str "start" tk_STEPS_4_0, .str "free" tk_STEPS_4_1] nn_STEPS_4, ss_STEPS_4⟩)
    (l_STEPS_5 : K.lookup b_STEPS_5 = some ⟨.type "tuple", dd_STEPS_5, .seq #[.str "label" tk_STEPS_5_0, .str "new" tk_STEPS_5_1] nn_STEPS_5, ss_STEPS_5⟩)
    (l_STEPS_6 : K.lookup b_STEPS_6 = some ⟨.type "tuple", dd_STEPS_6, .seq #[.str "label" tk_STEPS_6_0, .str "all" tk_STEPS_6_1] nn_STEPS_6, ss_STEPS_6⟩)
    (l_STEPS_7 : K.lookup b_STEPS_7 = some ⟨.type "tuple", dd_STEPS_7, .seq #[.str "label" tk_STEPS_7_0, .str "free" tk_STEPS_7_1] nn_STEPS_7, ss_STEPS_7⟩)
    (l_STEPS_8 : K.lookup b_STEPS_8 = some ⟨.type "tuple", dd_STEPS_8, .seq #[.str "tie" tk_STEPS_8_0, .str "new" tk_STEPS_8_1] nn_STEPS_8, ss_STEPS_8⟩)
    (l_STEPS_9 : K.lookup b_STEPS_9 = some ⟨.type "tuple", dd_STEPS_9, .seq #[.str "tie" tk_STEPS_9_0, .str "all" tk_STEPS_9_1] nn_STEPS_9, ss_STEPS_9⟩)
    (l_STEPS_10 : K.lookup b_STEPS_10 = some ⟨.type "tuple", dd_STEPS_10, .seq #[.str "tie" tk_STEPS_10_0, .str "free" tk_STEPS_10_1] nn_STEPS_10, ss_STEPS_10⟩)
    (l_STEPS_11 : K.lookup b_STEPS_11 = some ⟨.type "tuple", dd_STEPS_11, .seq #[.str "drop" tk_STEPS_11_0] nn_STEPS_11, ss_STEPS_11⟩)
    (g_is_integer : PySem.W.nsIn K mainGlobals "is_integer" = some (some (.ref f_is_integer)))
    (l_is_integer : K.lookup f_is_integer = some ⟨oc_is_integer, od_is_integer, .func (PySem.W.fnOf "is_integer" "is_integer" (defArgs s_is_integer) (defBody s_is_integer) (defScope s_is_integer) .none kV_is_integer dc_is_integer pm_is_integer an_is_integer cd_is_integer ct_is_integer), sl_is_integer⟩)
    (c_is_integer : PySem.W.codeIn K cd_is_integer "is_integer" = true)
    (k_is_integer : PySem.W.keepIn K (.ref f_is_integer) = true)
    (g_is_step : PySem.W.nsIn K mainGlobals "is_step" = some (some (.ref f_is_step)))
    (l_is_step : K.lookup f_is_step = some ⟨oc_is_step, od_is_step, .func (PySem.W.fnOf "is_step" "is_step" (defArgs s_is_step) (defBody s_is_step) (defScope s_is_step) .none kV_is_step dc_is_step pm_is_step an_is_step cd_is_step ct_is_step), sl_is_step⟩)
    (c_is_step : PySem.W.codeIn K cd_is_step "is_step" = true)
    (k_is_step : PySem.W.keepIn K (.ref f_is_step) = true)
    (fi_Script___init__ : PySem.W.findIn K (.ref a_Script) "__init__" = some (some (.ref f_Script___init__)))
    (isf_Script___init__ : PySem.W.isFn K (.ref f_Script___init__) = true)
    (l_Script___init__ : K.lookup f_Script___init__ = some ⟨oc_Script___init__, od_Script___init__, .func (PySem.W.fnOf "__init__" "Script.__init__" (defArgs s_Script___init__) (defBody s_Script___init__) (defScope s_Script___init__) .none kV_Script___init__ dc_Script___init__ pm_Script___init__ an_Script___init__ cd_Script___init__ ct_Script___init__), sl_Script___init__⟩)
    (c_Script___init__ : PySem.W.codeIn K cd_Script___init__ "Script.__init__" = true)
    (k_Script___init__ : PySem.W.keepIn K (.ref f_Script___init__) = true)
    (mk_Script : PySem.W.makesIn K a_Script = true)
    (kc_Script : PySem.W.keepIn K (.ref a_Script) = true)
    (fi_Script_steps : PySem.W.findIn K (.ref a_Script) "steps" = some (some (.ref f_Script_steps)))
    (isf_Script_steps : PySem.W.isFn K (.ref f_Script_steps) = true)
    (l_Script_steps : K.lookup f_Script_steps = some ⟨oc_Script_steps, od_Script_steps, .func (PySem.W.fnOf "steps" "Script.steps" (defArgs s_Script_steps) (defBody s_Script_steps) (defScope s_Script_steps) .none kV_Script_steps dc_Script_steps pm_Script_steps an_Script_steps cd_Script_steps ct_Script_steps), sl_Script_steps⟩)
    (c_Script_steps : PySem.W.codeIn K cd_Script_steps "Script.steps" = true)
    (k_Script_steps : PySem.W.keepIn K (.ref f_Script_steps) = true)
    (g_is_deed : PySem.W.nsIn K mainGlobals "is_deed" = some (some (.ref f_is_deed)))
    (l_is_deed : K.lookup f_is_deed = some ⟨oc_is_deed, od_is_deed, .func (PySem.W.fnOf "is_deed" "is_deed" (defArgs s_is_deed) (defBody s_is_deed) (defScope s_is_deed) .none kV_is_deed dc_is_deed pm_is_deed an_is_deed cd_is_deed ct_is_deed), sl_is_deed⟩)
    (c_is_deed : PySem.W.codeIn K cd_is_deed "is_deed" = true)
    (k_is_deed : PySem.W.keepIn K (.ref f_is_deed) = true)
    (g_is_field : PySem.W.nsIn K mainGlobals "is_field" = some (some (.ref f_is_field)))
    (l_is_field : K.lookup f_is_field = some ⟨oc_is_field, od_is_field, .func (PySem.W.fnOf "is_field" "is_field" (defArgs s_is_field) (defBody s_is_field) (defScope s_is_field) .none kV_is_field dc_is_field pm_is_field an_is_field cd_is_field ct_is_field), sl_is_field⟩)
    (c_is_field : PySem.W.codeIn K cd_is_field "is_field" = true)
    (k_is_field : PySem.W.keepIn K (.ref f_is_field) = true)
    (g_check_deeds : PySem.W.nsIn K mainGlobals "check_deeds" = some (some (.ref f_check_deeds)))
    (l_check_deeds : K.lookup f_check_deeds = some ⟨oc_check_deeds, od_check_deeds, .func (PySem.W.fnOf "check_deeds" "check_deeds" (defArgs s_check_deeds) (defBody s_check_deeds) (defScope s_check_deeds) (.ref T_check_deeds) kV_check_deeds dc_check_deeds pm_check_deeds an_check_deeds cd_check_deeds ct_check_deeds), sl_check_deeds⟩)
    (lT_check_deeds : K.lookup T_check_deeds = some ⟨.type "tuple", ddT_check_deeds, .seq #[.int 0 tkT_check_deeds_0] nnT_check_deeds, ssT_check_deeds⟩)
    (c_check_deeds : PySem.W.codeIn K cd_check_deeds "check_deeds" = true)
    (k_check_deeds : PySem.W.keepIn K (.ref f_check_deeds) = true)
    (g_named_numbers : PySem.W.nsIn K mainGlobals "named_numbers" = some (some (.ref f_named_numbers)))
    (l_named_numbers : K.lookup f_named_numbers = some ⟨oc_named_numbers, od_named_numbers, .func (PySem.W.fnOf "named_numbers" "named_numbers" (defArgs s_named_numbers) (defBody s_named_numbers) (defScope s_named_numbers) .none kV_named_numbers dc_named_numbers pm_named_numbers an_named_numbers cd_named_numbers ct_named_numbers), sl_named_numbers⟩)
    (c_named_numbers : PySem.W.codeIn K cd_named_numbers "named_numbers" = true)
    (k_named_numbers : PySem.W.keepIn K (.ref f_named_numbers) = true)
    (g_has_lines : PySem.W.nsIn K mainGlobals "has_lines" = some (some (.ref f_has_lines)))
    (l_has_lines : K.lookup f_has_lines = some ⟨oc_has_lines, od_has_lines, .func (PySem.W.fnOf "has_lines" "has_lines" (defArgs s_has_lines) (defBody s_has_lines) (defScope s_has_lines) .none kV_has_lines dc_has_lines pm_has_lines an_has_lines cd_has_lines ct_has_lines), sl_has_lines⟩)
    (c_has_lines : PySem.W.codeIn K cd_has_lines "has_lines" = true)
    (k_has_lines : PySem.W.keepIn K (.ref f_has_lines) = true)
    (g_do_deed : PySem.W.nsIn K mainGlobals "do_deed" = some (some (.ref f_do_deed)))
    (l_do_deed : K.lookup f_do_deed = some ⟨oc_do_deed, od_do_deed, .func (PySem.W.fnOf "do_deed" "do_deed" (defArgs s_do_deed) (defBody s_do_deed) (defScope s_do_deed) .none kV_do_deed dc_do_deed pm_do_deed an_do_deed cd_do_deed ct_do_deed), sl_do_deed⟩)
    (c_do_deed : PySem.W.codeIn K cd_do_deed "do_deed" = true)
    (k_do_deed : PySem.W.keepIn K (.ref f_do_deed) = true)
    (g_write_new : PySem.W.nsIn K mainGlobals "write_new" = some (some (.ref f_write_new)))
    (l_write_new : K.lookup f_write_new = some ⟨oc_write_new, od_write_new, .func (PySem.W.fnOf "write_new" "write_new" (defArgs s_write_new) (defBody s_write_new) (defScope s_write_new) .none kV_write_new dc_write_new pm_write_new an_write_new cd_write_new ct_write_new), sl_write_new⟩)
    (c_write_new : PySem.W.codeIn K cd_write_new "write_new" = true)
    (k_write_new : PySem.W.keepIn K (.ref f_write_new) = true)
    (g_set_field : PySem.W.nsIn K mainGlobals "set_field" = some (some (.ref f_set_field)))
    (l_set_field : K.lookup f_set_field = some ⟨oc_set_field, od_set_field, .func (PySem.W.fnOf "set_field" "set_field" (defArgs s_set_field) (defBody s_set_field) (defScope s_set_field) .none kV_set_field dc_set_field pm_set_field an_set_field cd_set_field ct_set_field), sl_set_field⟩)
    (c_set_field : PySem.W.codeIn K cd_set_field "set_field" = true)
    (k_set_field : PySem.W.keepIn K (.ref f_set_field) = true)
    (fi_OldLine___init__ : PySem.W.findIn K (.ref a_OldLine) "__init__" = some (some (.ref f_OldLine___init__)))
    (isf_OldLine___init__ : PySem.W.isFn K (.ref f_OldLine___init__) = true)
    (l_OldLine___init__ : K.lookup f_OldLine___init__ = some ⟨oc_OldLine___init__, od_OldLine___init__, .func (PySem.W.fnOf "__init__" "OldLine.__init__" (defArgs s_OldLine___init__) (defBody s_OldLine___init__) (defScope s_OldLine___init__) .none kV_OldLine___init__ dc_OldLine___init__ pm_OldLine___init__ an_OldLine___init__ cd_OldLine___init__ ct_OldLine___init__), sl_OldLine___init__⟩)
    (c_OldLine___init__ : PySem.W.codeIn K cd_OldLine___init__ "OldLine.__init__" = true)
    (k_OldLine___init__ : PySem.W.keepIn K (.ref f_OldLine___init__) = true)
    (mk_OldLine : PySem.W.makesIn K a_OldLine = true)
    (kc_OldLine : PySem.W.keepIn K (.ref a_OldLine) = true)
    (fi_OldLine_closing : PySem.W.findIn K (.ref a_OldLine) "closing" = some (some (.ref f_OldLine_closing)))
    (isf_OldLine_closing : PySem.W.isFn K (.ref f_OldLine_closing) = true)
    (l_OldLine_closing : K.lookup f_OldLine_closing = some ⟨oc_OldLine_closing, od_OldLine_closing, .func (PySem.W.fnOf "closing" "OldLine.closing" (defArgs s_OldLine_closing) (defBody s_OldLine_closing) (defScope s_OldLine_closing) .none kV_OldLine_closing dc_OldLine_closing pm_OldLine_closing an_OldLine_closing cd_OldLine_closing ct_OldLine_closing), sl_OldLine_closing⟩)
    (c_OldLine_closing : PySem.W.codeIn K cd_OldLine_closing "OldLine.closing" = true)
    (k_OldLine_closing : PySem.W.keepIn K (.ref f_OldLine_closing) = true)
    (fi_OldLine_row : PySem.W.findIn K (.ref a_OldLine) "row" = some (some (.ref f_OldLine_row)))
    (isf_OldLine_row : PySem.W.isFn K (.ref f_OldLine_row) = true)
    (l_OldLine_row : K.lookup f_OldLine_row = some ⟨oc_OldLine_row, od_OldLine_row, .func (PySem.W.fnOf "row" "OldLine.row" (defArgs s_OldLine_row) (defBody s_OldLine_row) (defScope s_OldLine_row) .none kV_OldLine_row dc_OldLine_row pm_OldLine_row an_OldLine_row cd_OldLine_row ct_OldLine_row), sl_OldLine_row⟩)
    (c_OldLine_row : PySem.W.codeIn K cd_OldLine_row "OldLine.row" = true)
    (k_OldLine_row : PySem.W.keepIn K (.ref f_OldLine_row) = true)
    (fi_NewLine___init__ : PySem.W.findIn K (.ref a_NewLine) "__init__" = some (some (.ref f_NewLine___init__)))
    (isf_NewLine___init__ : PySem.W.isFn K (.ref f_NewLine___init__) = true)
    (l_NewLine___init__ : K.lookup f_NewLine___init__ = some ⟨oc_NewLine___init__, od_NewLine___init__, .func (PySem.W.fnOf "__init__" "NewLine.__init__" (defArgs s_NewLine___init__) (defBody s_NewLine___init__) (defScope s_NewLine___init__) .none kV_NewLine___init__ dc_NewLine___init__ pm_NewLine___init__ an_NewLine___init__ cd_NewLine___init__ ct_NewLine___init__), sl_NewLine___init__⟩)
    (c_NewLine___init__ : PySem.W.codeIn K cd_NewLine___init__ "NewLine.__init__" = true)
    (k_NewLine___init__ : PySem.W.keepIn K (.ref f_NewLine___init__) = true)
    (mk_NewLine : PySem.W.makesIn K a_NewLine = true)
    (kc_NewLine : PySem.W.keepIn K (.ref a_NewLine) = true)
    (fi_NewLine_row : PySem.W.findIn K (.ref a_NewLine) "row" = some (some (.ref f_NewLine_row)))
    (isf_NewLine_row : PySem.W.isFn K (.ref f_NewLine_row) = true)
    (l_NewLine_row : K.lookup f_NewLine_row = some ⟨oc_NewLine_row, od_NewLine_row, .func (PySem.W.fnOf "row" "NewLine.row" (defArgs s_NewLine_row) (defBody s_NewLine_row) (defScope s_NewLine_row) .none kV_NewLine_row dc_NewLine_row pm_NewLine_row an_NewLine_row cd_NewLine_row ct_NewLine_row), sl_NewLine_row⟩)
    (c_NewLine_row : PySem.W.codeIn K cd_NewLine_row "NewLine.row" = true)
    (k_NewLine_row : PySem.W.keepIn K (.ref f_NewLine_row) = true)
    (fi_Ledgers___init__ : PySem.W.findIn K (.ref a_Ledgers) "__init__" = some (some (.ref f_Ledgers___init__)))
    (isf_Ledgers___init__ : PySem.W.isFn K (.ref f_Ledgers___init__) = true)
    (l_Ledgers___init__ : K.lookup f_Ledgers___init__ = some ⟨oc_Ledgers___init__, od_Ledgers___init__, .func (PySem.W.fnOf "__init__" "Ledgers.__init__" (defArgs s_Ledgers___init__) (defBody s_Ledgers___init__) (defScope s_Ledgers___init__) .none kV_Ledgers___init__ dc_Ledgers___init__ pm_Ledgers___init__ an_Ledgers___init__ cd_Ledgers___init__ ct_Ledgers___init__), sl_Ledgers___init__⟩)
    (c_Ledgers___init__ : PySem.W.codeIn K cd_Ledgers___init__ "Ledgers.__init__" = true)
    (k_Ledgers___init__ : PySem.W.keepIn K (.ref f_Ledgers___init__) = true)
    (mk_Ledgers : PySem.W.makesIn K a_Ledgers = true)
    (kc_Ledgers : PySem.W.keepIn K (.ref a_Ledgers) = true)
    (fi_Ledgers_add_old : PySem.W.findIn K (.ref a_Ledgers) "add_old" = some (some (.ref f_Ledgers_add_old)))
    (isf_Ledgers_add_old : PySem.W.isFn K (.ref f_Ledgers_add_old) = true)
    (l_Ledgers_add_old : K.lookup f_Ledgers_add_old = some ⟨oc_Ledgers_add_old, od_Ledgers_add_old, .func (PySem.W.fnOf "add_old" "Ledgers.add_old" (defArgs s_Ledgers_add_old) (defBody s_Ledgers_add_old) (defScope s_Ledgers_add_old) .none kV_Ledgers_add_old dc_Ledgers_add_old pm_Ledgers_add_old an_Ledgers_add_old cd_Ledgers_add_old ct_Ledgers_add_old), sl_Ledgers_add_old⟩)
    (c_Ledgers_add_old : PySem.W.codeIn K cd_Ledgers_add_old "Ledgers.add_old" = true)
    (k_Ledgers_add_old : PySem.W.keepIn K (.ref f_Ledgers_add_old) = true)
    (fi_Ledgers_add_new : PySem.W.findIn K (.ref a_Ledgers) "add_new" = some (some (.ref f_Ledgers_add_new)))
    (isf_Ledgers_add_new : PySem.W.isFn K (.ref f_Ledgers_add_new) = true)
    (l_Ledgers_add_new : K.lookup f_Ledgers_add_new = some ⟨oc_Ledgers_add_new, od_Ledgers_add_new, .func (PySem.W.fnOf "add_new" "Ledgers.add_new" (defArgs s_Ledgers_add_new) (defBody s_Ledgers_add_new) (defScope s_Ledgers_add_new) .none kV_Ledgers_add_new dc_Ledgers_add_new pm_Ledgers_add_new an_Ledgers_add_new cd_Ledgers_add_new ct_Ledgers_add_new), sl_Ledgers_add_new⟩)
    (c_Ledgers_add_new : PySem.W.codeIn K cd_Ledgers_add_new "Ledgers.add_new" = true)
    (k_Ledgers_add_new : PySem.W.keepIn K (.ref f_Ledgers_add_new) = true)
    (fi_Ledgers_make_line : PySem.W.findIn K (.ref a_Ledgers) "make_line" = some (some (.ref f_Ledgers_make_line)))
    (isf_Ledgers_make_line : PySem.W.isFn K (.ref f_Ledgers_make_line) = true)
    (l_Ledgers_make_line : K.lookup f_Ledgers_make_line = some ⟨oc_Ledgers_make_line, od_Ledgers_make_line, .func (PySem.W.fnOf "make_line" "Ledgers.make_line" (defArgs s_Ledgers_make_line) (defBody s_Ledgers_make_line) (defScope s_Ledgers_make_line) .none kV_Ledgers_make_line dc_Ledgers_make_line pm_Ledgers_make_line an_Ledgers_make_line cd_Ledgers_make_line ct_Ledgers_make_line), sl_Ledgers_make_line⟩)
    (c_Ledgers_make_line : PySem.W.codeIn K cd_Ledgers_make_line "Ledgers.make_line" = true)
    (k_Ledgers_make_line : PySem.W.keepIn K (.ref f_Ledgers_make_line) = true)
    (fi_Ledgers_drop_line : PySem.W.findIn K (.ref a_Ledgers) "drop_line" = some (some (.ref f_Ledgers_drop_line)))
    (isf_Ledgers_drop_line : PySem.W.isFn K (.ref f_Ledgers_drop_line) = true)
    (l_Ledgers_drop_line : K.lookup f_Ledgers_drop_line = some ⟨oc_Ledgers_drop_line, od_Ledgers_drop_line, .func (PySem.W.fnOf "drop_line" "Ledgers.drop_line" (defArgs s_Ledgers_drop_line) (defBody s_Ledgers_drop_line) (defScope s_Ledgers_drop_line) .none kV_Ledgers_drop_line dc_Ledgers_drop_line pm_Ledgers_drop_line an_Ledgers_drop_line cd_Ledgers_drop_line ct_Ledgers_drop_line), sl_Ledgers_drop_line⟩)
    (c_Ledgers_drop_line : PySem.W.codeIn K cd_Ledgers_drop_line "Ledgers.drop_line" = true)
    (k_Ledgers_drop_line : PySem.W.keepIn K (.ref f_Ledgers_drop_line) = true)
    (fi_Ledgers_made_number : PySem.W.findIn K (.ref a_Ledgers) "made_number" = some (some (.ref f_Ledgers_made_number)))
    (isf_Ledgers_made_number : PySem.W.isFn K (.ref f_Ledgers_made_number) = true)
    (l_Ledgers_made_number : K.lookup f_Ledgers_made_number = some ⟨oc_Ledgers_made_number, od_Ledgers_made_number, .func (PySem.W.fnOf "made_number" "Ledgers.made_number" (defArgs s_Ledgers_made_number) (defBody s_Ledgers_made_number) (defScope s_Ledgers_made_number) .none kV_Ledgers_made_number dc_Ledgers_made_number pm_Ledgers_made_number an_Ledgers_made_number cd_Ledgers_made_number ct_Ledgers_made_number), sl_Ledgers_made_number⟩)
    (c_Ledgers_made_number : PySem.W.codeIn K cd_Ledgers_made_number "Ledgers.made_number" = true)
    (k_Ledgers_made_number : PySem.W.keepIn K (.ref f_Ledgers_made_number) = true)
    (fi_Ledgers_old_rows : PySem.W.findIn K (.ref a_Ledgers) "old_rows" = some (some (.ref f_Ledgers_old_rows)))
    (isf_Ledgers_old_rows : PySem.W.isFn K (.ref f_Ledgers_old_rows) = true)
    (l_Ledgers_old_rows : K.lookup f_Ledgers_old_rows = some ⟨oc_Ledgers_old_rows, od_Ledgers_old_rows, .func (PySem.W.fnOf "old_rows" "Ledgers.old_rows" (defArgs s_Ledgers_old_rows) (defBody s_Ledgers_old_rows) (defScope s_Ledgers_old_rows) .none kV_Ledgers_old_rows dc_Ledgers_old_rows pm_Ledgers_old_rows an_Ledgers_old_rows cd_Ledgers_old_rows ct_Ledgers_old_rows), sl_Ledgers_old_rows⟩)
    (c_Ledgers_old_rows : PySem.W.codeIn K cd_Ledgers_old_rows "Ledgers.old_rows" = true)
    (k_Ledgers_old_rows : PySem.W.keepIn K (.ref f_Ledgers_old_rows) = true)
    (fi_Ledgers_new_rows : PySem.W.findIn K (.ref a_Ledgers) "new_rows" = some (some (.ref f_Ledgers_new_rows)))
    (isf_Ledgers_new_rows : PySem.W.isFn K (.ref f_Ledgers_new_rows) = true)
    (l_Ledgers_new_rows : K.lookup f_Ledgers_new_rows = some ⟨oc_Ledgers_new_rows, od_Ledgers_new_rows, .func (PySem.W.fnOf "new_rows" "Ledgers.new_rows" (defArgs s_Ledgers_new_rows) (defBody s_Ledgers_new_rows) (defScope s_Ledgers_new_rows) .none kV_Ledgers_new_rows dc_Ledgers_new_rows pm_Ledgers_new_rows an_Ledgers_new_rows cd_Ledgers_new_rows ct_Ledgers_new_rows), sl_Ledgers_new_rows⟩)
    (c_Ledgers_new_rows : PySem.W.codeIn K cd_Ledgers_new_rows "Ledgers.new_rows" = true)
    (k_Ledgers_new_rows : PySem.W.keepIn K (.ref f_Ledgers_new_rows) = true)
    (g_run_script : PySem.W.nsIn K mainGlobals "run_script" = some (some (.ref f_run_script)))
    (l_run_script : K.lookup f_run_script = some ⟨oc_run_script, od_run_script, .func (PySem.W.fnOf "run_script" "run_script" (defArgs s_run_script) (defBody s_run_script) (defScope s_run_script) .none kV_run_script dc_run_script pm_run_script an_run_script cd_run_script ct_run_script), sl_run_script⟩)
    (c_run_script : PySem.W.codeIn K cd_run_script "run_script" = true)
    (k_run_script : PySem.W.keepIn K (.ref f_run_script) = true)
    (g_make_lines : PySem.W.nsIn K mainGlobals "make_lines" = some (some (.ref f_make_lines)))
    (l_make_lines : K.lookup f_make_lines = some ⟨oc_make_lines, od_make_lines, .func (PySem.W.fnOf "make_lines" "make_lines" (defArgs s_make_lines) (defBody s_make_lines) (defScope s_make_lines) .none kV_make_lines dc_make_lines pm_make_lines an_make_lines cd_make_lines ct_make_lines), sl_make_lines⟩)
    (c_make_lines : PySem.W.codeIn K cd_make_lines "make_lines" = true)
    (k_make_lines : PySem.W.keepIn K (.ref f_make_lines) = true)
    (g_drop_lines : PySem.W.nsIn K mainGlobals "drop_lines" = some (some (.ref f_drop_lines)))
    (l_drop_lines : K.lookup f_drop_lines = some ⟨oc_drop_lines, od_drop_lines, .func (PySem.W.fnOf "drop_lines" "drop_lines" (defArgs s_drop_lines) (defBody s_drop_lines) (defScope s_drop_lines) .none kV_drop_lines dc_drop_lines pm_drop_lines an_drop_lines cd_drop_lines ct_drop_lines), sl_drop_lines⟩)
    (c_drop_lines : PySem.W.codeIn K cd_drop_lines "drop_lines" = true)
    (k_drop_lines : PySem.W.keepIn K (.ref f_drop_lines) = true)
    (g_renew_lines : PySem.W.nsIn K mainGlobals "renew_lines" = some (some (.ref f_renew_lines)))
    (l_renew_lines : K.lookup f_renew_lines = some ⟨oc_renew_lines, od_renew_lines, .func (PySem.W.fnOf "renew_lines" "renew_lines" (defArgs s_renew_lines) (defBody s_renew_lines) (defScope s_renew_lines) .none kV_renew_lines dc_renew_lines pm_renew_lines an_renew_lines cd_renew_lines ct_renew_lines), sl_renew_lines⟩)
    (c_renew_lines : PySem.W.codeIn K cd_renew_lines "renew_lines" = true)
    (k_renew_lines : PySem.W.keepIn K (.ref f_renew_lines) = true)
    (g_in_scope : PySem.W.nsIn K mainGlobals "in_scope" = some (some (.ref f_in_scope)))
    (l_in_scope : K.lookup f_in_scope = some ⟨oc_in_scope, od_in_scope, .func (PySem.W.fnOf "in_scope" "in_scope" (defArgs s_in_scope) (defBody s_in_scope) (defScope s_in_scope) .none kV_in_scope dc_in_scope pm_in_scope an_in_scope cd_in_scope ct_in_scope), sl_in_scope⟩)
    (c_in_scope : PySem.W.codeIn K cd_in_scope "in_scope" = true)
    (k_in_scope : PySem.W.keepIn K (.ref f_in_scope) = true)
    (g_renew_line : PySem.W.nsIn K mainGlobals "renew_line" = some (some (.ref f_renew_line)))
    (l_renew_line : K.lookup f_renew_line = some ⟨oc_renew_line, od_renew_line, .func (PySem.W.fnOf "renew_line" "renew_line" (defArgs s_renew_line) (defBody s_renew_line) (defScope s_renew_line) .none kV_renew_line dc_renew_line pm_renew_line an_renew_line cd_renew_line ct_renew_line), sl_renew_line⟩)
    (c_renew_line : PySem.W.codeIn K cd_renew_line "renew_line" = true)
    (k_renew_line : PySem.W.keepIn K (.ref f_renew_line) = true)
    (g_carry_out : PySem.W.nsIn K mainGlobals "carry_out" = some (some (.ref f_carry_out)))
    (l_carry_out : K.lookup f_carry_out = some ⟨oc_carry_out, od_carry_out, .func (PySem.W.fnOf "carry_out" "carry_out" (defArgs s_carry_out) (defBody s_carry_out) (defScope s_carry_out) .none kV_carry_out dc_carry_out pm_carry_out an_carry_out cd_carry_out ct_carry_out), sl_carry_out⟩)
    (c_carry_out : PySem.W.codeIn K cd_carry_out "carry_out" = true)
    (k_carry_out : PySem.W.keepIn K (.ref f_carry_out) = true)
    (g_play : PySem.W.nsIn K mainGlobals "play" = some (some (.ref f_play)))
    (l_play : K.lookup f_play = some ⟨oc_play, od_play, .func (PySem.W.fnOf "play" "play" (defArgs s_play) (defBody s_play) (defScope s_play) .none kV_play dc_play pm_play an_play cd_play ct_play), sl_play⟩)
    (c_play : PySem.W.codeIn K cd_play "play" = true)
    (k_play : PySem.W.keepIn K (.ref f_play) = true)
    (g__law_well : PySem.W.nsIn K mainGlobals "_law_well" = some (some (.ref f__law_well)))
    (l__law_well : K.lookup f__law_well = some ⟨oc__law_well, od__law_well, .func (PySem.W.fnOf "_law_well" "_law_well" (defArgs s__law_well) (defBody s__law_well) (defScope s__law_well) .none kV__law_well dc__law_well pm__law_well an__law_well cd__law_well ct__law_well), sl__law_well⟩)
    (c__law_well : PySem.W.codeIn K cd__law_well "_law_well" = true)
    (k__law_well : PySem.W.keepIn K (.ref f__law_well) = true)
    (g__law_draw : PySem.W.nsIn K mainGlobals "_law_draw" = some (some (.ref f__law_draw)))
    (l__law_draw : K.lookup f__law_draw = some ⟨oc__law_draw, od__law_draw, .func (PySem.W.fnOf "_law_draw" "_law_draw" (defArgs s__law_draw) (defBody s__law_draw) (defScope s__law_draw) .none kV__law_draw dc__law_draw pm__law_draw an__law_draw cd__law_draw ct__law_draw), sl__law_draw⟩)
    (c__law_draw : PySem.W.codeIn K cd__law_draw "_law_draw" = true)
    (k__law_draw : PySem.W.keepIn K (.ref f__law_draw) = true)
    (g__law_label : PySem.W.nsIn K mainGlobals "_law_label" = some (some (.ref f__law_label)))
    (l__law_label : K.lookup f__law_label = some ⟨oc__law_label, od__law_label, .func (PySem.W.fnOf "_law_label" "_law_label" (defArgs s__law_label) (defBody s__law_label) (defScope s__law_label) .none kV__law_label dc__law_label pm__law_label an__law_label cd__law_label ct__law_label), sl__law_label⟩)
    (c__law_label : PySem.W.codeIn K cd__law_label "_law_label" = true)
    (k__law_label : PySem.W.keepIn K (.ref f__law_label) = true)
    (g__law_like : PySem.W.nsIn K mainGlobals "_law_like" = some (some (.ref f__law_like)))
    (l__law_like : K.lookup f__law_like = some ⟨oc__law_like, od__law_like, .func (PySem.W.fnOf "_law_like" "_law_like" (defArgs s__law_like) (defBody s__law_like) (defScope s__law_like) .none kV__law_like dc__law_like pm__law_like an__law_like cd__law_like ct__law_like), sl__law_like⟩)
    (c__law_like : PySem.W.codeIn K cd__law_like "_law_like" = true)
    (k__law_like : PySem.W.keepIn K (.ref f__law_like) = true)
    (g__law_deed : PySem.W.nsIn K mainGlobals "_law_deed" = some (some (.ref f__law_deed)))
    (l__law_deed : K.lookup f__law_deed = some ⟨oc__law_deed, od__law_deed, .func (PySem.W.fnOf "_law_deed" "_law_deed" (defArgs s__law_deed) (defBody s__law_deed) (defScope s__law_deed) .none kV__law_deed dc__law_deed pm__law_deed an__law_deed cd__law_deed ct__law_deed), sl__law_deed⟩)
    (c__law_deed : PySem.W.codeIn K cd__law_deed "_law_deed" = true)
    (k__law_deed : PySem.W.keepIn K (.ref f__law_deed) = true)
    (g__law_run : PySem.W.nsIn K mainGlobals "_law_run" = some (some (.ref f__law_run)))
    (l__law_run : K.lookup f__law_run = some ⟨oc__law_run, od__law_run, .func (PySem.W.fnOf "_law_run" "_law_run" (defArgs s__law_run) (defBody s__law_run) (defScope s__law_run) .none kV__law_run dc__law_run pm__law_run an__law_run cd__law_run ct__law_run), sl__law_run⟩)
    (c__law_run : PySem.W.codeIn K cd__law_run "_law_run" = true)
    (k__law_run : PySem.W.keepIn K (.ref f__law_run) = true)
    (g_law : PySem.W.nsIn K mainGlobals "law" = some (some (.ref f_law)))
    (l_law : K.lookup f_law = some ⟨oc_law, od_law, .func (PySem.W.fnOf "law" "law" (defArgs s_law) (defBody s_law) (defScope s_law) .none kV_law dc_law pm_law an_law cd_law ct_law), sl_law⟩)
    (c_law : PySem.W.codeIn K cd_law "law" = true)
    (k_law : PySem.W.keepIn K (.ref f_law) = true)
    (g_FORMS : PySem.W.nsIn K mainGlobals "FORMS" = some (some (.ref a_FORMS)))
    (l_FORMS : K.lookup a_FORMS = some ⟨.type "dict", none, .dict es_FORMS n_FORMS, #[]⟩)
    (kl_FORMS : PySem.W.KeysLit w.params es_FORMS.toList)
    (lo_FORMS : (a_FORMS == sysModules) = false)
    (n_FORMS_r0 : PySem.W.nsIn K a_FORMS "add" = some (some (.ref a_FORMS_r0)))
    (l_FORMS_r0 : K.lookup a_FORMS_r0 = some ⟨.type "tuple", dd_FORMS_r0, .seq #[.str "label" tk_FORMS_r0_0, .str "amount" tk_FORMS_r0_1] nn_FORMS_r0, ss_FORMS_r0⟩)
    (n_FORMS_r1 : PySem.W.nsIn K a_FORMS "label" = some (some (.ref a_FORMS_r1)))
    (l_FORMS_r1 : K.lookup a_FORMS_r1 = some ⟨.type "tuple", dd_FORMS_r1, .seq #[.str "number" tk_FORMS_r1_0, .str "label" tk_FORMS_r1_1] nn_FORMS_r1, ss_FORMS_r1⟩)
    (n_FORMS_r2 : PySem.W.nsIn K a_FORMS "moves" = some (some (.ref a_FORMS_r2)))
    (l_FORMS_r2 : K.lookup a_FORMS_r2 = some ⟨.type "tuple", dd_FORMS_r2, .seq #[.str "number" tk_FORMS_r2_0, .str "amount" tk_FORMS_r2_1] nn_FORMS_r2, ss_FORMS_r2⟩)
    (n_FORMS_r3 : PySem.W.nsIn K a_FORMS "tie" = some (some (.ref a_FORMS_r3)))
    (l_FORMS_r3 : K.lookup a_FORMS_r3 = some ⟨.type "tuple", dd_FORMS_r3, .seq #[.str "number" tk_FORMS_r3_0, .str "other" tk_FORMS_r3_1] nn_FORMS_r3, ss_FORMS_r3⟩)
    (n_FORMS_r4 : PySem.W.nsIn K a_FORMS "end" = some (some (.ref a_FORMS_r4)))
    (l_FORMS_r4 : K.lookup a_FORMS_r4 = some ⟨.type "tuple", dd_FORMS_r4, .seq #[.str "number" tk_FORMS_r4_0] nn_FORMS_r4, ss_FORMS_r4⟩)
    (n_FORMS_r5 : PySem.W.nsIn K a_FORMS "own" = some (some (.ref a_FORMS_r5)))
    (l_FORMS_r5 : K.lookup a_FORMS_r5 = some ⟨.type "tuple", dd_FORMS_r5, .seq #[.str "label" tk_FORMS_r5_0] nn_FORMS_r5, ss_FORMS_r5⟩)
    (n_FORMS_r6 : PySem.W.nsIn K a_FORMS "write label" = some (some (.ref a_FORMS_r6)))
    (l_FORMS_r6 : K.lookup a_FORMS_r6 = some ⟨.type "tuple", dd_FORMS_r6, .seq #[.str "number" tk_FORMS_r6_0, .str "label" tk_FORMS_r6_1] nn_FORMS_r6, ss_FORMS_r6⟩)
    (n_FORMS_r7 : PySem.W.nsIn K a_FORMS "write moves" = some (some (.ref a_FORMS_r7)))
    (l_FORMS_r7 : K.lookup a_FORMS_r7 = some ⟨.type "tuple", dd_FORMS_r7, .seq #[.str "number" tk_FORMS_r7_0, .str "amount" tk_FORMS_r7_1] nn_FORMS_r7, ss_FORMS_r7⟩)
    (n_FORMS_r8 : PySem.W.nsIn K a_FORMS "write tie" = some (some (.ref a_FORMS_r8)))
    (l_FORMS_r8 : K.lookup a_FORMS_r8 = some ⟨.type "tuple", dd_FORMS_r8, .seq #[.str "number" tk_FORMS_r8_0, .str "other" tk_FORMS_r8_1] nn_FORMS_r8, ss_FORMS_r8⟩)
    (n_FORMS_r9 : PySem.W.nsIn K a_FORMS "run" = some (some (.ref a_FORMS_r9)))
    (l_FORMS_r9 : K.lookup a_FORMS_r9 = some ⟨.type "tuple", dd_FORMS_r9, .seq #[] nn_FORMS_r9, ss_FORMS_r9⟩)
    (g_MOST_AMOUNT : PySem.W.nsIn K mainGlobals "MOST_AMOUNT" = some (some (.int 1000000000000 tk_MOST_AMOUNT)))
    (g_MOST_LABEL : PySem.W.nsIn K mainGlobals "MOST_LABEL" = some (some (.int 999999999999999999999999999999 tk_MOST_LABEL)))
    (g_MOST_NUMBER : PySem.W.nsIn K mainGlobals "MOST_NUMBER" = some (some (.int 1000000000 tk_MOST_NUMBER)))
    (g_MOST_STEPS : PySem.W.nsIn K mainGlobals "MOST_STEPS" = some (some (.int 12 tk_MOST_STEPS)))
    (g_WRITE : PySem.W.nsIn K mainGlobals "WRITE" = some (some (.str "write " tk_WRITE)))
    (g_abs : PySem.W.nsIn K mainGlobals "abs" = some none)
    (g_all : PySem.W.nsIn K mainGlobals "all" = some none)
    (g_bool : PySem.W.nsIn K mainGlobals "bool" = some none)
    (g_enumerate : PySem.W.nsIn K mainGlobals "enumerate" = some none)
    (g_int : PySem.W.nsIn K mainGlobals "int" = some none)
    (g_isinstance : PySem.W.nsIn K mainGlobals "isinstance" = some none)
    (g_len : PySem.W.nsIn K mainGlobals "len" = some none)
    (g_list : PySem.W.nsIn K mainGlobals "list" = some none)
    (g_max : PySem.W.nsIn K mainGlobals "max" = some none)
    (g_min : PySem.W.nsIn K mainGlobals "min" = some none)
    (g_range : PySem.W.nsIn K mainGlobals "range" = some none)
    (g_str : PySem.W.nsIn K mainGlobals "str" = some none)
    (g_tuple : PySem.W.nsIn K mainGlobals "tuple" = some none)
    (g_zip : PySem.W.nsIn K mainGlobals "zip" = some none)
    (g_super : PySem.W.nsIn K mainGlobals "super" = some none)
    (any_ : PySem.W.nsIn K cStatics "thirdparty.any" = some none)
    (top_ : (l.prog.main.scope.names.lookup ("super" : Str)).isSome = false)
    (gsn_ : PySem.W.specialIn K (.builtin "object.__class__") "__get__" = some (some (.builtin "getset_descriptor.__get__")))
    (gst_ : PySem.W.takesIn K (.builtin "object.__class__") = some true)
    (g_NoStep : PySem.W.nsIn K mainGlobals "NoStep" = some (some (.ref a_NoStep)))
    (x_NoStep : K.lookup a_NoStep = some (excClassObj nm_NoStep q_NoStep a_NoStep N_NoStep bs_NoStep [.ref t_NoStep, .type "ValueError", .type "Exception", .type "BaseException", .type "object"] true sn_NoStep sub_NoStep ab_NoStep col_NoStep dd_NoStep m0_NoStep m1_NoStep m2_NoStep m3_NoStep m5_NoStep "ValueError.__new__"))
    (sa_NoStep : PySem.W.findIn K (.ref a_NoStep) "__setattr__" = some (some (.builtin "object.__setattr__")))
    (ga_NoStep : PySem.W.findIn K (.ref a_NoStep) "__getattribute__" = some (some (.builtin "BaseException.__getattribute__")))
    (gg_NoStep : PySem.W.findIn K (.ref a_NoStep) "__getattr__" = some none)
    (nf_NoStep : PySem.W.findIn K (.ref a_NoStep) "index" = some none)
    (ic_NoStep : PySem.W.findIn K (.ref a_NoStep) "__init__" = some (some (.ref f_NoStep)))
    (ha_NoStep : PySem.W.findIn K (.ref a_NoStep) "__class__" = some (some (.builtin "object.__class__")))
    (tf__NoStep : PySem.W.typeIn K (.ref f_NoStep) = some (.type "function"))
    (kc_NoStep : PySem.W.keepIn K (.ref a_NoStep) = true)
    (ex_NoStep : PySem.W.subIn K (.ref a_NoStep) (.type "BaseException") = some true)
    (ty_NoStep : PySem.W.typeIn K (.ref a_NoStep) = some (.type "type"))
    (hd_NoStep : PySem.W.hasDictIn K a_NoStep = true)
    (ss_NoStep : PySem.W.subIn K (.ref a_NoStep) (.ref a_NoStep) = some true)
    (qi_NoStep : PySem.W.excInitIn K a_NoStep [.type "ValueError", .type "Exception", .type "BaseException", .type "object"] "ValueError.__new__" = true)
    (ve_NoStep : PySem.W.subIn K (.ref a_NoStep) (.type "ValueError") = some true)
    (mr_NoStep : PySem.W.mroIn K a_NoStep (.ref a_NoStep) = some true)
    (mo_NoStep : PySem.W.mroIn K a_NoStep (.type "object") = some true)
    (su_NoStep : PySem.W.ks_superIn K a_NoStep a_NoStep "__init__" = some (some (.builtin "ValueError.__init__")))
    (l_NoStep : K.lookup f_NoStep = some ⟨oc_NoStep, od_NoStep, .func (PySem.W.ksFn "__init__" "NoStep.__init__" (PySem.ErrX.iA "index" ⟨9, 17, 9, 21⟩ ⟨9, 23, 9, 28⟩) (PySem.ErrX.iB "index" "there is no step at this index" ⟨10, 8, 10, 13⟩ ⟨10, 8, 10, 15⟩ ⟨10, 8, 10, 24⟩ ⟨10, 25, 10, 57⟩ ⟨10, 8, 10, 58⟩ ⟨10, 8, 10, 58⟩ ⟨11, 8, 11, 12⟩ ⟨11, 8, 11, 18⟩ ⟨11, 21, 11, 26⟩ ⟨11, 8, 11, 26⟩) (PySem.ErrX.iS "index") .none .none dc_NoStep pm_NoStep an_NoStep (.ref cda_NoStep) ct_NoStep cc_NoStep), sl_NoStep⟩)
    (c_NoStep : PySem.W.codeIn K (.ref cda_NoStep) "NoStep.__init__" = true)
    (lc_NoStep : K.lookup cda_NoStep = some ⟨ccl_NoStep, cdd_NoStep, .fields vs_NoStep, ccs_NoStep⟩)
    (vv_NoStep : vs_NoStep[2]? = some (.str file_NoStep tf_NoStep))
    (ff_NoStep : ((l.prog.main.file : Str) == file_NoStep) = true)
    (cl__NoStep : K.lookup cc_NoStep = some ⟨cl_NoStep, cld_NoStep, .cell (some (.ref a_NoStep)), csl_NoStep⟩)
    (g_NoDeed : PySem.W.nsIn K mainGlobals "NoDeed" = some (some (.ref a_NoDeed)))
    (x_NoDeed : K.lookup a_NoDeed = some (excClassObj nm_NoDeed q_NoDeed a_NoDeed N_NoDeed bs_NoDeed [.ref t_NoDeed, .type "ValueError", .type "Exception", .type "BaseException", .type "object"] true sn_NoDeed sub_NoDeed ab_NoDeed col_NoDeed dd_NoDeed m0_NoDeed m1_NoDeed m2_NoDeed m3_NoDeed m5_NoDeed "ValueError.__new__"))
    (sa_NoDeed : PySem.W.findIn K (.ref a_NoDeed) "__setattr__" = some (some (.builtin "object.__setattr__")))
    (ga_NoDeed : PySem.W.findIn K (.ref a_NoDeed) "__getattribute__" = some (some (.builtin "BaseException.__getattribute__")))
    (gg_NoDeed : PySem.W.findIn K (.ref a_NoDeed) "__getattr__" = some none)
    (nf_NoDeed : PySem.W.findIn K (.ref a_NoDeed) "index" = some none)
    (ic_NoDeed : PySem.W.findIn K (.ref a_NoDeed) "__init__" = some (some (.ref f_NoDeed)))
    (ha_NoDeed : PySem.W.findIn K (.ref a_NoDeed) "__class__" = some (some (.builtin "object.__class__")))
    (tf__NoDeed : PySem.W.typeIn K (.ref f_NoDeed) = some (.type "function"))
    (kc_NoDeed : PySem.W.keepIn K (.ref a_NoDeed) = true)
    (ex_NoDeed : PySem.W.subIn K (.ref a_NoDeed) (.type "BaseException") = some true)
    (ty_NoDeed : PySem.W.typeIn K (.ref a_NoDeed) = some (.type "type"))
    (hd_NoDeed : PySem.W.hasDictIn K a_NoDeed = true)
    (ss_NoDeed : PySem.W.subIn K (.ref a_NoDeed) (.ref a_NoDeed) = some true)
    (qi_NoDeed : PySem.W.excInitIn K a_NoDeed [.type "ValueError", .type "Exception", .type "BaseException", .type "object"] "ValueError.__new__" = true)
    (ve_NoDeed : PySem.W.subIn K (.ref a_NoDeed) (.type "ValueError") = some true)
    (mr_NoDeed : PySem.W.mroIn K a_NoDeed (.ref a_NoDeed) = some true)
    (mo_NoDeed : PySem.W.mroIn K a_NoDeed (.type "object") = some true)
    (su_NoDeed : PySem.W.ks_superIn K a_NoDeed a_NoDeed "__init__" = some (some (.builtin "ValueError.__init__")))
    (l_NoDeed : K.lookup f_NoDeed = some ⟨oc_NoDeed, od_NoDeed, .func (PySem.W.ksFn "__init__" "NoDeed.__init__" (PySem.ErrX.iA "index" ⟨14, 17, 14, 21⟩ ⟨14, 23, 14, 28⟩) (PySem.ErrX.iB "index" "what stands at this index is not a deed" ⟨15, 8, 15, 13⟩ ⟨15, 8, 15, 15⟩ ⟨15, 8, 15, 24⟩ ⟨15, 25, 15, 66⟩ ⟨15, 8, 15, 67⟩ ⟨15, 8, 15, 67⟩ ⟨16, 8, 16, 12⟩ ⟨16, 8, 16, 18⟩ ⟨16, 21, 16, 26⟩ ⟨16, 8, 16, 26⟩) (PySem.ErrX.iS "index") .none .none dc_NoDeed pm_NoDeed an_NoDeed (.ref cda_NoDeed) ct_NoDeed cc_NoDeed), sl_NoDeed⟩)
    (c_NoDeed : PySem.W.codeIn K (.ref cda_NoDeed) "NoDeed.__init__" = true)
    (lc_NoDeed : K.lookup cda_NoDeed = some ⟨ccl_NoDeed, cdd_NoDeed, .fields vs_NoDeed, ccs_NoDeed⟩)
    (vv_NoDeed : vs_NoDeed[2]? = some (.str file_NoDeed tf_NoDeed))
    (ff_NoDeed : ((l.prog.main.file : Str) == file_NoDeed) = true)
    (cl__NoDeed : K.lookup cc_NoDeed = some ⟨cl_NoDeed, cld_NoDeed, .cell (some (.ref a_NoDeed)), csl_NoDeed⟩)
    (g_NoLine : PySem.W.nsIn K mainGlobals "NoLine" = some (some (.ref a_NoLine)))
    (x_NoLine : K.lookup a_NoLine = some (excClassObj nm_NoLine q_NoLine a_NoLine N_NoLine bs_NoLine [.ref t_NoLine, .type "ValueError", .type "Exception", .type "BaseException", .type "object"] true sn_NoLine sub_NoLine ab_NoLine col_NoLine dd_NoLine m0_NoLine m1_NoLine m2_NoLine m3_NoLine m5_NoLine "ValueError.__new__"))
    (sa_NoLine : PySem.W.findIn K (.ref a_NoLine) "__setattr__" = some (some (.builtin "object.__setattr__")))
    (ga_NoLine : PySem.W.findIn K (.ref a_NoLine) "__getattribute__" = some (some (.builtin "BaseException.__getattribute__")))
    (gg_NoLine : PySem.W.findIn K (.ref a_NoLine) "__getattr__" = some none)
    (nf_NoLine : PySem.W.findIn K (.ref a_NoLine) "index" = some none)
    (ic_NoLine : PySem.W.findIn K (.ref a_NoLine) "__init__" = some (some (.ref f_NoLine)))
    (ha_NoLine : PySem.W.findIn K (.ref a_NoLine) "__class__" = some (some (.builtin "object.__class__")))
    (tf__NoLine : PySem.W.typeIn K (.ref f_NoLine) = some (.type "function"))
    (kc_NoLine : PySem.W.keepIn K (.ref a_NoLine) = true)
    (ex_NoLine : PySem.W.subIn K (.ref a_NoLine) (.type "BaseException") = some true)
    (ty_NoLine : PySem.W.typeIn K (.ref a_NoLine) = some (.type "type"))
    (hd_NoLine : PySem.W.hasDictIn K a_NoLine = true)
    (ss_NoLine : PySem.W.subIn K (.ref a_NoLine) (.ref a_NoLine) = some true)
    (qi_NoLine : PySem.W.excInitIn K a_NoLine [.type "ValueError", .type "Exception", .type "BaseException", .type "object"] "ValueError.__new__" = true)
    (ve_NoLine : PySem.W.subIn K (.ref a_NoLine) (.type "ValueError") = some true)
    (mr_NoLine : PySem.W.mroIn K a_NoLine (.ref a_NoLine) = some true)
    (mo_NoLine : PySem.W.mroIn K a_NoLine (.type "object") = some true)
    (su_NoLine : PySem.W.ks_superIn K a_NoLine a_NoLine "__init__" = some (some (.builtin "ValueError.__init__")))
    (l_NoLine : K.lookup f_NoLine = some ⟨oc_NoLine, od_NoLine, .func (PySem.W.ksFn "__init__" "NoLine.__init__" (PySem.ErrX.iA "index" ⟨19, 17, 19, 21⟩ ⟨19, 23, 19, 28⟩) (PySem.ErrX.iB "index" "the deed with this index names a line that is not there" ⟨20, 8, 20, 13⟩ ⟨20, 8, 20, 15⟩ ⟨20, 8, 20, 24⟩ ⟨20, 25, 20, 82⟩ ⟨20, 8, 20, 83⟩ ⟨20, 8, 20, 83⟩ ⟨21, 8, 21, 12⟩ ⟨21, 8, 21, 18⟩ ⟨21, 21, 21, 26⟩ ⟨21, 8, 21, 26⟩) (PySem.ErrX.iS "index") .none .none dc_NoLine pm_NoLine an_NoLine (.ref cda_NoLine) ct_NoLine cc_NoLine), sl_NoLine⟩)
    (c_NoLine : PySem.W.codeIn K (.ref cda_NoLine) "NoLine.__init__" = true)
    (lc_NoLine : K.lookup cda_NoLine = some ⟨ccl_NoLine, cdd_NoLine, .fields vs_NoLine, ccs_NoLine⟩)
    (vv_NoLine : vs_NoLine[2]? = some (.str file_NoLine tf_NoLine))
    (ff_NoLine : ((l.prog.main.file : Str) == file_NoLine) = true)
    (cl__NoLine : K.lookup cc_NoLine = some ⟨cl_NoLine, cld_NoLine, .cell (some (.ref a_NoLine)), csl_NoLine⟩)
    (q1_Script : PySem.W.findIn K (.ref a_Script) "__class__" = some (some (.builtin "object.__class__")))
    (q2_Script : PySem.W.specialIn K (.builtin "object.__class__") "__get__" = some (some (.builtin "getset_descriptor.__get__")))
    (q3_Script : PySem.W.takesIn K (.builtin "object.__class__") = some true)
    (q4_Script : PySem.W.mroIn K a_Script (.type "object") = some true)
    : ∃ fd : FuncData, (∀ (s : Shared) (v : Value), BindsTo s fd ⟨[v], []⟩ [("script", v)]) ∧ ∀ base : Heap, K.In base → base.Ns mainGlobals mg → FnOk l.prog w K mg base CX0 9 fa fd ["script"] (spLaw K) := by
  have e := hfa.symm.trans (PySem.W.mg_of X G g_law)
  have e9 : f_law = fa := by
    cases e
    rfl
  subst e9
  have T : Nonempty (Σ' T : Txt w l.prog K mg, T.f_law = f_law ∧ T.d_law = (PySem.W.fnOf "law" "law" (defArgs s_law) (defBody s_law) (defScope s_law) .none kV_law dc_law pm_law an_law cd_law ct_law)) := ⟨⟨{
    a_OldLine := a_OldLine
    m_OldLine := PySem.W.mg_of X G g_OldLine
    cl_OldLine := ⟨pg_OldLine, hd_OldLine, po_OldLine, sa_OldLine⟩
    na_OldLine_number := na_OldLine_number
    na_OldLine_label := na_OldLine_label
    na_OldLine_start := na_OldLine_start
    na_OldLine_moves := na_OldLine_moves
    na_OldLine_tie := na_OldLine_tie
    na_OldLine_standing := na_OldLine_standing
    a_NewLine := a_NewLine
    m_NewLine := PySem.W.mg_of X G g_NewLine
    cl_NewLine := ⟨pg_NewLine, hd_NewLine, po_NewLine, sa_NewLine⟩
    na_NewLine_number := na_NewLine_number
    na_NewLine_label := na_NewLine_label
    na_NewLine_start := na_NewLine_start
    na_NewLine_moves := na_NewLine_moves
    na_NewLine_tie := na_NewLine_tie
    na_NewLine_source := na_NewLine_source
    na_NewLine_typed := na_NewLine_typed
    a_Ledgers := a_Ledgers
    m_Ledgers := PySem.W.mg_of X G g_Ledgers
    cl_Ledgers := ⟨pg_Ledgers, hd_Ledgers, po_Ledgers, sa_Ledgers⟩
    na_Ledgers_old_lines := na_Ledgers_old_lines
    na_Ledgers_new_lines := na_Ledgers_new_lines
    na_Ledgers_made_lines := na_Ledgers_made_lines
    na_Ledgers_last_new := na_Ledgers_last_new
    na_Ledgers_tie := na_Ledgers_tie
    a_Script := a_Script
    m_Script := PySem.W.mg_of X G g_Script
    cl_Script := ⟨pg_Script, hd_Script, po_Script, sa_Script⟩
    na_Script__steps := na_Script__steps
    a_STEPS := a_STEPS
    dp_STEPS := fun _ => (dp_kt (xs := [.ref b_STEPS_0, .ref b_STEPS_1, .ref b_STEPS_2, .ref b_STEPS_3, .ref b_STEPS_4, .ref b_STEPS_5, .ref b_STEPS_6, .ref b_STEPS_7, .ref b_STEPS_8, .ref b_STEPS_9, .ref b_STEPS_10, .ref b_STEPS_11]) l_STEPS (by simp) (.cons rfl (.cons rfl (.cons rfl (.cons rfl (.cons rfl (.cons rfl (.cons rfl (.cons rfl (.cons rfl (.cons rfl (.cons rfl (.cons rfl .nil)))))))))))) (DpAll.cons (dp_kt (xs := [.str "make", .str "all"]) l_STEPS_0 (by simp) (.cons ⟨_, rfl⟩ (.cons ⟨_, rfl⟩ .nil)) (DpAll.cons (.str _) (DpAll.cons (.str _) DpAll.nil))) (DpAll.cons (dp_kt (xs := [.str "make", .str "standing"]) l_STEPS_1 (by simp) (.cons ⟨_, rfl⟩ (.cons ⟨_, rfl⟩ .nil)) (DpAll.cons (.str _) (DpAll.cons (.str _) DpAll.nil))) (DpAll.cons (dp_kt (xs := [.str "start", .str "new"]) l_STEPS_2 (by simp) (.cons ⟨_, rfl⟩ (.cons ⟨_, rfl⟩ .nil)) (DpAll.cons (.str _) (DpAll.cons (.str _) DpAll.nil))) (DpAll.cons (dp_kt (xs := [.str "start", .str "all"]) l_STEPS_3 (by simp) (.cons ⟨_, rfl⟩ (.cons ⟨_, rfl⟩ .nil)) (DpAll.cons (.str _) (DpAll.cons (.str _) DpAll.nil))) (DpAll.cons (dp_kt (xs := [.str "start", .str "free"]) l_STEPS_4 (by simp) (.cons ⟨_, rfl⟩ (.cons ⟨_, rfl⟩ .nil)) (DpAll.cons (.str _) (DpAll.cons (.str _) DpAll.nil))) (DpAll.cons (dp_kt (xs := [.str "label", .str "new"]) l_STEPS_5 (by simp) (.cons ⟨_, rfl⟩ (.cons ⟨_, rfl⟩ .nil)) (DpAll.cons (.str _) (DpAll.cons (.str _) DpAll.nil))) (DpAll.cons (dp_kt (xs := [.str "label", .str "all"]) l_STEPS_6 (by simp) (.cons ⟨_, rfl⟩ (.cons ⟨_, rfl⟩ .nil)) (DpAll.cons (.str _) (DpAll.cons (.str _) DpAll.nil))) (DpAll.cons (dp_kt (xs := [.str "label", .str "free"]) l_STEPS_7 (by simp) (.cons ⟨_, rfl⟩ (.cons ⟨_, rfl⟩ .nil)) (DpAll.cons (.str _) (DpAll.cons (.str _) DpAll.nil))) (DpAll.cons (dp_kt (xs := [.str "tie", .str "new"]) l_STEPS_8 (by simp) (.cons ⟨_, rfl⟩ (.cons ⟨_, rfl⟩ .nil)) (DpAll.cons (.str _) (DpAll.cons (.str _) DpAll.nil))) (DpAll.cons (dp_kt (xs := [.str "tie", .str "all"]) l_STEPS_9 (by simp) (.cons ⟨_, rfl⟩ (.cons ⟨_, rfl⟩ .nil)) (DpAll.cons (.str _) (DpAll.cons (.str _) DpAll.nil))) (DpAll.cons (dp_kt (xs := [.str "tie", .str "free"]) l_STEPS_10 (by simp) (.cons ⟨_, rfl⟩ (.cons ⟨_, rfl⟩ .nil)) (DpAll.cons (.str _) (DpAll.cons (.str _) DpAll.nil))) (DpAll.cons (dp_kt (xs := [.str "drop"]) l_STEPS_11 (by simp) (.cons ⟨_, rfl⟩ .nil) (DpAll.cons (.str _) DpAll.nil)) DpAll.nil)))))))))))))
    f_is_integer := f_is_integer
    d_is_integer := (PySem.W.fnOf "is_integer" "is_integer" (defArgs s_is_integer) (defBody s_is_integer) (defScope s_is_integer) .none kV_is_integer dc_is_integer pm_is_integer an_is_integer cd_is_integer ct_is_integer)
    F_is_integer := fun_mk (st := s_is_integer) l_is_integer c_is_integer k_is_integer
    b_is_integer := (fun_mk (st := s_is_integer) l_is_integer c_is_integer k_is_integer).binds (ps := ["value", "low", "high"]) fun _ _ _ _ _ _ us hl => match us, hl with | [_, _, _], _ => rfl
    m_is_integer := PySem.W.mg_of X G g_is_integer
    f_is_step := f_is_step
    d_is_step := (PySem.W.fnOf "is_step" "is_step" (defArgs s_is_step) (defBody s_is_step) (defScope s_is_step) .none kV_is_step dc_is_step pm_is_step an_is_step cd_is_step ct_is_step)
    F_is_step := fun_mk (st := s_is_step) l_is_step c_is_step k_is_step
    b_is_step := (fun_mk (st := s_is_step) l_is_step c_is_step k_is_step).binds (ps := ["value"]) fun _ _ _ _ _ _ us hl => match us, hl with | [_], _ => rfl
    m_is_step := PySem.W.mg_of X G g_is_step
    f_Script___init__ := f_Script___init__
    d_Script___init__ := (PySem.W.fnOf "__init__" "Script.__init__" (defArgs s_Script___init__) (defBody s_Script___init__) (defScope s_Script___init__) .none kV_Script___init__ dc_Script___init__ pm_Script___init__ an_Script___init__ cd_Script___init__ ct_Script___init__)
    F_Script___init__ := fun_mk (st := s_Script___init__) l_Script___init__ c_Script___init__ k_Script___init__
    b_Script___init__ := (fun_mk (st := s_Script___init__) l_Script___init__ c_Script___init__ k_Script___init__).binds (ps := ["self", "steps"]) fun _ _ _ _ _ _ us hl => match us, hl with | [_, _], _ => rfl
    M_Script := ⟨mk_Script, fi_Script___init__, isf_Script___init__, kc_Script⟩
    f_Script_steps := f_Script_steps
    d_Script_steps := (PySem.W.fnOf "steps" "Script.steps" (defArgs s_Script_steps) (defBody s_Script_steps) (defScope s_Script_steps) .none kV_Script_steps dc_Script_steps pm_Script_steps an_Script_steps cd_Script_steps ct_Script_steps)
    F_Script_steps := fun_mk (st := s_Script_steps) l_Script_steps c_Script_steps k_Script_steps
    b_Script_steps := (fun_mk (st := s_Script_steps) l_Script_steps c_Script_steps k_Script_steps).binds (ps := ["self"]) fun _ _ _ _ _ _ us hl => match us, hl with | [_], _ => rfl
    me_Script_steps := ⟨fi_Script_steps, isf_Script_steps, k_Script_steps⟩
    f_is_deed := f_is_deed
    d_is_deed := (PySem.W.fnOf "is_deed" "is_deed" (defArgs s_is_deed) (defBody s_is_deed) (defScope s_is_deed) .none kV_is_deed dc_is_deed pm_is_deed an_is_deed cd_is_deed ct_is_deed)
    F_is_deed := fun_mk (st := s_is_deed) l_is_deed c_is_deed k_is_deed
    b_is_deed := (fun_mk (st := s_is_deed) l_is_deed c_is_deed k_is_deed).binds (ps := ["value"]) fun _ _ _ _ _ _ us hl => match us, hl with | [_], _ => rfl
    m_is_deed := PySem.W.mg_of X G g_is_deed
    f_is_field := f_is_field
    d_is_field := (PySem.W.fnOf "is_field" "is_field" (defArgs s_is_field) (defBody s_is_field) (defScope s_is_field) .none kV_is_field dc_is_field pm_is_field an_is_field cd_is_field ct_is_field)
    F_is_field := fun_mk (st := s_is_field) l_is_field c_is_field k_is_field
    b_is_field := (fun_mk (st := s_is_field) l_is_field c_is_field k_is_field).binds (ps := ["kind", "value"]) fun _ _ _ _ _ _ us hl => match us, hl with | [_, _], _ => rfl
    m_is_field := PySem.W.mg_of X G g_is_field
    f_check_deeds := f_check_deeds
    d_check_deeds := (PySem.W.fnOf "check_deeds" "check_deeds" (defArgs s_check_deeds) (defBody s_check_deeds) (defScope s_check_deeds) (.ref T_check_deeds) kV_check_deeds dc_check_deeds pm_check_deeds an_check_deeds cd_check_deeds ct_check_deeds)
    F_check_deeds := ⟨⟨_, _, _, _, _, _, _, _, _, _, rfl, l_check_deeds, c_check_deeds, .inr ⟨by simp, _, _, _, _, rfl, lT_check_deeds, rfl, (.cons ⟨_, rfl⟩ .nil)⟩, .inl rfl⟩, k_check_deeds⟩
    bd_check_deeds := by
      refine FunD.binds1 (x := "check_deeds") (qual := "check_deeds") (params := defArgs s_check_deeds) (body := defBody s_check_deeds) (scope := defScope s_check_deeds) (dvs := [.int 0]) (f := f_check_deeds) ⟨⟨_, _, _, _, _, _, _, _, _, _, rfl, l_check_deeds, c_check_deeds, .inr ⟨by simp, _, _, _, _, rfl, lT_check_deeds, rfl, (.cons ⟨_, rfl⟩ .nil)⟩, .inl rfl⟩, k_check_deeds⟩ 1 0 (by simp) rfl ?_
      intro T kV doc pm an cdv ct us its h1 h2
      match us, its, h1, h2 with
      | [_], [_], _, _ => exact ⟨_, rfl, rfl⟩
    b_check_deeds := by
      obtain ⟨ds, h1, h2⟩ := FunD.binds1 (ps := ["deeds", "first"]) (x := "check_deeds") (qual := "check_deeds") (params := defArgs s_check_deeds) (body := defBody s_check_deeds) (scope := defScope s_check_deeds) (dvs := [.int 0]) (f := f_check_deeds) ⟨⟨_, _, _, _, _, _, _, _, _, _, rfl, l_check_deeds, c_check_deeds, .inr ⟨by simp, _, _, _, _, rfl, lT_check_deeds, rfl, (.cons ⟨_, rfl⟩ .nil)⟩, .inl rfl⟩, k_check_deeds⟩ 2 1 (by simp) rfl (by
        intro T kV doc pm an cdv ct us its h1 h2
        match us, its, h1, h2 with
        | [_, _], [_], _, _ => exact ⟨_, rfl, rfl⟩)
      cases h1
      exact h2
    m_check_deeds := PySem.W.mg_of X G g_check_deeds
    f_named_numbers := f_named_numbers
    d_named_numbers := (PySem.W.fnOf "named_numbers" "named_numbers" (defArgs s_named_numbers) (defBody s_named_numbers) (defScope s_named_numbers) .none kV_named_numbers dc_named_numbers pm_named_numbers an_named_numbers cd_named_numbers ct_named_numbers)
    F_named_numbers := fun_mk (st := s_named_numbers) l_named_numbers c_named_numbers k_named_numbers
    b_named_numbers := (fun_mk (st := s_named_numbers) l_named_numbers c_named_numbers k_named_numbers).binds (ps := ["deed"]) fun _ _ _ _ _ _ us hl => match us, hl with | [_], _ => rfl
    m_named_numbers := PySem.W.mg_of X G g_named_numbers
    f_has_lines := f_has_lines
    d_has_lines := (PySem.W.fnOf "has_lines" "has_lines" (defArgs s_has_lines) (defBody s_has_lines) (defScope s_has_lines) .none kV_has_lines dc_has_lines pm_has_lines an_has_lines cd_has_lines ct_has_lines)
    F_has_lines := fun_mk (st := s_has_lines) l_has_lines c_has_lines k_has_lines
    b_has_lines := (fun_mk (st := s_has_lines) l_has_lines c_has_lines k_has_lines).binds (ps := ["ledgers", "deed"]) fun _ _ _ _ _ _ us hl => match us, hl with | [_, _], _ => rfl
    m_has_lines := PySem.W.mg_of X G g_has_lines
    f_do_deed := f_do_deed
    d_do_deed := (PySem.W.fnOf "do_deed" "do_deed" (defArgs s_do_deed) (defBody s_do_deed) (defScope s_do_deed) .none kV_do_deed dc_do_deed pm_do_deed an_do_deed cd_do_deed ct_do_deed)
    F_do_deed := fun_mk (st := s_do_deed) l_do_deed c_do_deed k_do_deed
    b_do_deed := (fun_mk (st := s_do_deed) l_do_deed c_do_deed k_do_deed).binds (ps := ["ledgers", "deed"]) fun _ _ _ _ _ _ us hl => match us, hl with | [_, _], _ => rfl
    m_do_deed := PySem.W.mg_of X G g_do_deed
    f_write_new := f_write_new
    d_write_new := (PySem.W.fnOf "write_new" "write_new" (defArgs s_write_new) (defBody s_write_new) (defScope s_write_new) .none kV_write_new dc_write_new pm_write_new an_write_new cd_write_new ct_write_new)
    F_write_new := fun_mk (st := s_write_new) l_write_new c_write_new k_write_new
    b_write_new := (fun_mk (st := s_write_new) l_write_new c_write_new k_write_new).binds (ps := ["line", "field", "value"]) fun _ _ _ _ _ _ us hl => match us, hl with | [_, _, _], _ => rfl
    m_write_new := PySem.W.mg_of X G g_write_new
    f_set_field := f_set_field
    d_set_field := (PySem.W.fnOf "set_field" "set_field" (defArgs s_set_field) (defBody s_set_field) (defScope s_set_field) .none kV_set_field dc_set_field pm_set_field an_set_field cd_set_field ct_set_field)
    F_set_field := fun_mk (st := s_set_field) l_set_field c_set_field k_set_field
    b_set_field := (fun_mk (st := s_set_field) l_set_field c_set_field k_set_field).binds (ps := ["line", "field", "value"]) fun _ _ _ _ _ _ us hl => match us, hl with | [_, _, _], _ => rfl
    m_set_field := PySem.W.mg_of X G g_set_field
    f_OldLine___init__ := f_OldLine___init__
    d_OldLine___init__ := (PySem.W.fnOf "__init__" "OldLine.__init__" (defArgs s_OldLine___init__) (defBody s_OldLine___init__) (defScope s_OldLine___init__) .none kV_OldLine___init__ dc_OldLine___init__ pm_OldLine___init__ an_OldLine___init__ cd_OldLine___init__ ct_OldLine___init__)
    F_OldLine___init__ := fun_mk (st := s_OldLine___init__) l_OldLine___init__ c_OldLine___init__ k_OldLine___init__
    b_OldLine___init__ := (fun_mk (st := s_OldLine___init__) l_OldLine___init__ c_OldLine___init__ k_OldLine___init__).binds (ps := ["self", "number", "label", "start"]) fun _ _ _ _ _ _ us hl => match us, hl with | [_, _, _, _], _ => rfl
    M_OldLine := ⟨mk_OldLine, fi_OldLine___init__, isf_OldLine___init__, kc_OldLine⟩
    f_OldLine_closing := f_OldLine_closing
    d_OldLine_closing := (PySem.W.fnOf "closing" "OldLine.closing" (defArgs s_OldLine_closing) (defBody s_OldLine_closing) (defScope s_OldLine_closing) .none kV_OldLine_closing dc_OldLine_closing pm_OldLine_closing an_OldLine_closing cd_OldLine_closing ct_OldLine_closing)
    F_OldLine_closing := fun_mk (st := s_OldLine_closing) l_OldLine_closing c_OldLine_closing k_OldLine_closing
    b_OldLine_closing := (fun_mk (st := s_OldLine_closing) l_OldLine_closing c_OldLine_closing k_OldLine_closing).binds (ps := ["self"]) fun _ _ _ _ _ _ us hl => match us, hl with | [_], _ => rfl
    me_OldLine_closing := ⟨fi_OldLine_closing, isf_OldLine_closing, k_OldLine_closing⟩
    f_OldLine_row := f_OldLine_row
    d_OldLine_row := (PySem.W.fnOf "row" "OldLine.row" (defArgs s_OldLine_row) (defBody s_OldLine_row) (defScope s_OldLine_row) .none kV_OldLine_row dc_OldLine_row pm_OldLine_row an_OldLine_row cd_OldLine_row ct_OldLine_row)
    F_OldLine_row := fun_mk (st := s_OldLine_row) l_OldLine_row c_OldLine_row k_OldLine_row
    b_OldLine_row := (fun_mk (st := s_OldLine_row) l_OldLine_row c_OldLine_row k_OldLine_row).binds (ps := ["self"]) fun _ _ _ _ _ _ us hl => match us, hl with | [_], _ => rfl
    me_OldLine_row := ⟨fi_OldLine_row, isf_OldLine_row, k_OldLine_row⟩
    f_NewLine___init__ := f_NewLine___init__
    d_NewLine___init__ := (PySem.W.fnOf "__init__" "NewLine.__init__" (defArgs s_NewLine___init__) (defBody s_NewLine___init__) (defScope s_NewLine___init__) .none kV_NewLine___init__ dc_NewLine___init__ pm_NewLine___init__ an_NewLine___init__ cd_NewLine___init__ ct_NewLine___init__)
    F_NewLine___init__ := fun_mk (st := s_NewLine___init__) l_NewLine___init__ c_NewLine___init__ k_NewLine___init__
    b_NewLine___init__ := (fun_mk (st := s_NewLine___init__) l_NewLine___init__ c_NewLine___init__ k_NewLine___init__).binds (ps := ["self", "number", "label", "start", "source"]) fun _ _ _ _ _ _ us hl => match us, hl with | [_, _, _, _, _], _ => rfl
    M_NewLine := ⟨mk_NewLine, fi_NewLine___init__, isf_NewLine___init__, kc_NewLine⟩
    f_NewLine_row := f_NewLine_row
    d_NewLine_row := (PySem.W.fnOf "row" "NewLine.row" (defArgs s_NewLine_row) (defBody s_NewLine_row) (defScope s_NewLine_row) .none kV_NewLine_row dc_NewLine_row pm_NewLine_row an_NewLine_row cd_NewLine_row ct_NewLine_row)
    F_NewLine_row := fun_mk (st := s_NewLine_row) l_NewLine_row c_NewLine_row k_NewLine_row
    b_NewLine_row := (fun_mk (st := s_NewLine_row) l_NewLine_row c_NewLine_row k_NewLine_row).binds (ps := ["self"]) fun _ _ _ _ _ _ us hl => match us, hl with | [_], _ => rfl
    me_NewLine_row := ⟨fi_NewLine_row, isf_NewLine_row, k_NewLine_row⟩
    f_Ledgers___init__ := f_Ledgers___init__
    d_Ledgers___init__ := (PySem.W.fnOf "__init__" "Ledgers.__init__" (defArgs s_Ledgers___init__) (defBody s_Ledgers___init__) (defScope s_Ledgers___init__) .none kV_Ledgers___init__ dc_Ledgers___init__ pm_Ledgers___init__ an_Ledgers___init__ cd_Ledgers___init__ ct_Ledgers___init__)
    F_Ledgers___init__ := fun_mk (st := s_Ledgers___init__) l_Ledgers___init__ c_Ledgers___init__ k_Ledgers___init__
    b_Ledgers___init__ := (fun_mk (st := s_Ledgers___init__) l_Ledgers___init__ c_Ledgers___init__ k_Ledgers___init__).binds (ps := ["self"]) fun _ _ _ _ _ _ us hl => match us, hl with | [_], _ => rfl
    M_Ledgers := ⟨mk_Ledgers, fi_Ledgers___init__, isf_Ledgers___init__, kc_Ledgers⟩
    f_Ledgers_add_old := f_Ledgers_add_old
    d_Ledgers_add_old := (PySem.W.fnOf "add_old" "Ledgers.add_old" (defArgs s_Ledgers_add_old) (defBody s_Ledgers_add_old) (defScope s_Ledgers_add_old) .none kV_Ledgers_add_old dc_Ledgers_add_old pm_Ledgers_add_old an_Ledgers_add_old cd_Ledgers_add_old ct_Ledgers_add_old)
    F_Ledgers_add_old := fun_mk (st := s_Ledgers_add_old) l_Ledgers_add_old c_Ledgers_add_old k_Ledgers_add_old
    b_Ledgers_add_old := (fun_mk (st := s_Ledgers_add_old) l_Ledgers_add_old c_Ledgers_add_old k_Ledgers_add_old).binds (ps := ["self", "label", "start"]) fun _ _ _ _ _ _ us hl => match us, hl with | [_, _, _], _ => rfl
    me_Ledgers_add_old := ⟨fi_Ledgers_add_old, isf_Ledgers_add_old, k_Ledgers_add_old⟩
    f_Ledgers_add_new := f_Ledgers_add_new
    d_Ledgers_add_new := (PySem.W.fnOf "add_new" "Ledgers.add_new" (defArgs s_Ledgers_add_new) (defBody s_Ledgers_add_new) (defScope s_Ledgers_add_new) .none kV_Ledgers_add_new dc_Ledgers_add_new pm_Ledgers_add_new an_Ledgers_add_new cd_Ledgers_add_new ct_Ledgers_add_new)
    F_Ledgers_add_new := fun_mk (st := s_Ledgers_add_new) l_Ledgers_add_new c_Ledgers_add_new k_Ledgers_add_new
    b_Ledgers_add_new := (fun_mk (st := s_Ledgers_add_new) l_Ledgers_add_new c_Ledgers_add_new k_Ledgers_add_new).binds (ps := ["self", "label", "start", "source"]) fun _ _ _ _ _ _ us hl => match us, hl with | [_, _, _, _], _ => rfl
    me_Ledgers_add_new := ⟨fi_Ledgers_add_new, isf_Ledgers_add_new, k_Ledgers_add_new⟩
    f_Ledgers_make_line := f_Ledgers_make_line
    d_Ledgers_make_line := (PySem.W.fnOf "make_line" "Ledgers.make_line" (defArgs s_Ledgers_make_line) (defBody s_Ledgers_make_line) (defScope s_Ledgers_make_line) .none kV_Ledgers_make_line dc_Ledgers_make_line pm_Ledgers_make_line an_Ledgers_make_line cd_Ledgers_make_line ct_Ledgers_make_line)
    F_Ledgers_make_line := fun_mk (st := s_Ledgers_make_line) l_Ledgers_make_line c_Ledgers_make_line k_Ledgers_make_line
    b_Ledgers_make_line := (fun_mk (st := s_Ledgers_make_line) l_Ledgers_make_line c_Ledgers_make_line k_Ledgers_make_line).binds (ps := ["self", "old"]) fun _ _ _ _ _ _ us hl => match us, hl with | [_, _], _ => rfl
    me_Ledgers_make_line := ⟨fi_Ledgers_make_line, isf_Ledgers_make_line, k_Ledgers_make_line⟩
    f_Ledgers_drop_line := f_Ledgers_drop_line
    d_Ledgers_drop_line := (PySem.W.fnOf "drop_line" "Ledgers.drop_line" (defArgs s_Ledgers_drop_line) (defBody s_Ledgers_drop_line) (defScope s_Ledgers_drop_line) .none kV_Ledgers_drop_line dc_Ledgers_drop_line pm_Ledgers_drop_line an_Ledgers_drop_line cd_Ledgers_drop_line ct_Ledgers_drop_line)
    F_Ledgers_drop_line := fun_mk (st := s_Ledgers_drop_line) l_Ledgers_drop_line c_Ledgers_drop_line k_Ledgers_drop_line
    b_Ledgers_drop_line := (fun_mk (st := s_Ledgers_drop_line) l_Ledgers_drop_line c_Ledgers_drop_line k_Ledgers_drop_line).binds (ps := ["self", "line"]) fun _ _ _ _ _ _ us hl => match us, hl with | [_, _], _ => rfl
    me_Ledgers_drop_line := ⟨fi_Ledgers_drop_line, isf_Ledgers_drop_line, k_Ledgers_drop_line⟩
    f_Ledgers_made_number := f_Ledgers_made_number
    d_Ledgers_made_number := (PySem.W.fnOf "made_number" "Ledgers.made_number" (defArgs s_Ledgers_made_number) (defBody s_Ledgers_made_number) (defScope s_Ledgers_made_number) .none kV_Ledgers_made_number dc_Ledgers_made_number pm_Ledgers_made_number an_Ledgers_made_number cd_Ledgers_made_number ct_Ledgers_made_number)
    F_Ledgers_made_number := fun_mk (st := s_Ledgers_made_number) l_Ledgers_made_number c_Ledgers_made_number k_Ledgers_made_number
    b_Ledgers_made_number := (fun_mk (st := s_Ledgers_made_number) l_Ledgers_made_number c_Ledgers_made_number k_Ledgers_made_number).binds (ps := ["self", "number"]) fun _ _ _ _ _ _ us hl => match us, hl with | [_, _], _ => rfl
    me_Ledgers_made_number := ⟨fi_Ledgers_made_number, isf_Ledgers_made_number, k_Ledgers_made_number⟩
    f_Ledgers_old_rows := f_Ledgers_old_rows
    d_Ledgers_old_rows := (PySem.W.fnOf "old_rows" "Ledgers.old_rows" (defArgs s_Ledgers_old_rows) (defBody s_Ledgers_old_rows) (defScope s_Ledgers_old_rows) .none kV_Ledgers_old_rows dc_Ledgers_old_rows pm_Ledgers_old_rows an_Ledgers_old_rows cd_Ledgers_old_rows ct_Ledgers_old_rows)
    F_Ledgers_old_rows := fun_mk (st := s_Ledgers_old_rows) l_Ledgers_old_rows c_Ledgers_old_rows k_Ledgers_old_rows
    b_Ledgers_old_rows := (fun_mk (st := s_Ledgers_old_rows) l_Ledgers_old_rows c_Ledgers_old_rows k_Ledgers_old_rows).binds (ps := ["self"]) fun _ _ _ _ _ _ us hl => match us, hl with | [_], _ => rfl
    me_Ledgers_old_rows := ⟨fi_Ledgers_old_rows, isf_Ledgers_old_rows, k_Ledgers_old_rows⟩
    f_Ledgers_new_rows := f_Ledgers_new_rows
    d_Ledgers_new_rows := (PySem.W.fnOf "new_rows" "Ledgers.new_rows" (defArgs s_Ledgers_new_rows) (defBody s_Ledgers_new_rows) (defScope s_Ledgers_new_rows) .none kV_Ledgers_new_rows dc_Ledgers_new_rows pm_Ledgers_new_rows an_Ledgers_new_rows cd_Ledgers_new_rows ct_Ledgers_new_rows)
    F_Ledgers_new_rows := fun_mk (st := s_Ledgers_new_rows) l_Ledgers_new_rows c_Ledgers_new_rows k_Ledgers_new_rows
    b_Ledgers_new_rows := (fun_mk (st := s_Ledgers_new_rows) l_Ledgers_new_rows c_Ledgers_new_rows k_Ledgers_new_rows).binds (ps := ["self"]) fun _ _ _ _ _ _ us hl => match us, hl with | [_], _ => rfl
    me_Ledgers_new_rows := ⟨fi_Ledgers_new_rows, isf_Ledgers_new_rows, k_Ledgers_new_rows⟩
    f_run_script := f_run_script
    d_run_script := (PySem.W.fnOf "run_script" "run_script" (defArgs s_run_script) (defBody s_run_script) (defScope s_run_script) .none kV_run_script dc_run_script pm_run_script an_run_script cd_run_script ct_run_script)
    F_run_script := fun_mk (st := s_run_script) l_run_script c_run_script k_run_script
    b_run_script := (fun_mk (st := s_run_script) l_run_script c_run_script k_run_script).binds (ps := ["ledgers", "script"]) fun _ _ _ _ _ _ us hl => match us, hl with | [_, _], _ => rfl
    m_run_script := PySem.W.mg_of X G g_run_script
    f_make_lines := f_make_lines
    d_make_lines := (PySem.W.fnOf "make_lines" "make_lines" (defArgs s_make_lines) (defBody s_make_lines) (defScope s_make_lines) .none kV_make_lines dc_make_lines pm_make_lines an_make_lines cd_make_lines ct_make_lines)
    F_make_lines := fun_mk (st := s_make_lines) l_make_lines c_make_lines k_make_lines
    b_make_lines := (fun_mk (st := s_make_lines) l_make_lines c_make_lines k_make_lines).binds (ps := ["ledgers", "which"]) fun _ _ _ _ _ _ us hl => match us, hl with | [_, _], _ => rfl
    m_make_lines := PySem.W.mg_of X G g_make_lines
    f_drop_lines := f_drop_lines
    d_drop_lines := (PySem.W.fnOf "drop_lines" "drop_lines" (defArgs s_drop_lines) (defBody s_drop_lines) (defScope s_drop_lines) .none kV_drop_lines dc_drop_lines pm_drop_lines an_drop_lines cd_drop_lines ct_drop_lines)
    F_drop_lines := fun_mk (st := s_drop_lines) l_drop_lines c_drop_lines k_drop_lines
    b_drop_lines := (fun_mk (st := s_drop_lines) l_drop_lines c_drop_lines k_drop_lines).binds (ps := ["ledgers"]) fun _ _ _ _ _ _ us hl => match us, hl with | [_], _ => rfl
    m_drop_lines := PySem.W.mg_of X G g_drop_lines
    f_renew_lines := f_renew_lines
    d_renew_lines := (PySem.W.fnOf "renew_lines" "renew_lines" (defArgs s_renew_lines) (defBody s_renew_lines) (defScope s_renew_lines) .none kV_renew_lines dc_renew_lines pm_renew_lines an_renew_lines cd_renew_lines ct_renew_lines)
    F_renew_lines := fun_mk (st := s_renew_lines) l_renew_lines c_renew_lines k_renew_lines
    b_renew_lines := (fun_mk (st := s_renew_lines) l_renew_lines c_renew_lines k_renew_lines).binds (ps := ["ledgers", "field", "scope", "last"]) fun _ _ _ _ _ _ us hl => match us, hl with | [_, _, _, _], _ => rfl
    m_renew_lines := PySem.W.mg_of X G g_renew_lines
    f_in_scope := f_in_scope
    d_in_scope := (PySem.W.fnOf "in_scope" "in_scope" (defArgs s_in_scope) (defBody s_in_scope) (defScope s_in_scope) .none kV_in_scope dc_in_scope pm_in_scope an_in_scope cd_in_scope ct_in_scope)
    F_in_scope := fun_mk (st := s_in_scope) l_in_scope c_in_scope k_in_scope
    b_in_scope := (fun_mk (st := s_in_scope) l_in_scope c_in_scope k_in_scope).binds (ps := ["line", "field", "scope", "last"]) fun _ _ _ _ _ _ us hl => match us, hl with | [_, _, _, _], _ => rfl
    m_in_scope := PySem.W.mg_of X G g_in_scope
    f_renew_line := f_renew_line
    d_renew_line := (PySem.W.fnOf "renew_line" "renew_line" (defArgs s_renew_line) (defBody s_renew_line) (defScope s_renew_line) .none kV_renew_line dc_renew_line pm_renew_line an_renew_line cd_renew_line ct_renew_line)
    F_renew_line := fun_mk (st := s_renew_line) l_renew_line c_renew_line k_renew_line
    b_renew_line := (fun_mk (st := s_renew_line) l_renew_line c_renew_line k_renew_line).binds (ps := ["ledgers", "line", "field"]) fun _ _ _ _ _ _ us hl => match us, hl with | [_, _, _], _ => rfl
    m_renew_line := PySem.W.mg_of X G g_renew_line
    f_carry_out := f_carry_out
    d_carry_out := (PySem.W.fnOf "carry_out" "carry_out" (defArgs s_carry_out) (defBody s_carry_out) (defScope s_carry_out) .none kV_carry_out dc_carry_out pm_carry_out an_carry_out cd_carry_out ct_carry_out)
    F_carry_out := fun_mk (st := s_carry_out) l_carry_out c_carry_out k_carry_out
    b_carry_out := (fun_mk (st := s_carry_out) l_carry_out c_carry_out k_carry_out).binds (ps := ["ledgers", "script", "index", "deed"]) fun _ _ _ _ _ _ us hl => match us, hl with | [_, _, _, _], _ => rfl
    m_carry_out := PySem.W.mg_of X G g_carry_out
    f_play := f_play
    d_play := (PySem.W.fnOf "play" "play" (defArgs s_play) (defBody s_play) (defScope s_play) .none kV_play dc_play pm_play an_play cd_play ct_play)
    F_play := fun_mk (st := s_play) l_play c_play k_play
    b_play := (fun_mk (st := s_play) l_play c_play k_play).binds (ps := ["script", "deeds"]) fun _ _ _ _ _ _ us hl => match us, hl with | [_, _], _ => rfl
    m_play := PySem.W.mg_of X G g_play
    f__law_well := f__law_well
    d__law_well := (PySem.W.fnOf "_law_well" "_law_well" (defArgs s__law_well) (defBody s__law_well) (defScope s__law_well) .none kV__law_well dc__law_well pm__law_well an__law_well cd__law_well ct__law_well)
    F__law_well := fun_mk (st := s__law_well) l__law_well c__law_well k__law_well
    b__law_well := (fun_mk (st := s__law_well) l__law_well c__law_well k__law_well).binds (ps := ["script", "k"]) fun _ _ _ _ _ _ us hl => match us, hl with | [_, _], _ => rfl
    m__law_well := PySem.W.mg_of X G g__law_well
    f__law_draw := f__law_draw
    d__law_draw := (PySem.W.fnOf "_law_draw" "_law_draw" (defArgs s__law_draw) (defBody s__law_draw) (defScope s__law_draw) .none kV__law_draw dc__law_draw pm__law_draw an__law_draw cd__law_draw ct__law_draw)
    F__law_draw := fun_mk (st := s__law_draw) l__law_draw c__law_draw k__law_draw
    b__law_draw := (fun_mk (st := s__law_draw) l__law_draw c__law_draw k__law_draw).binds (ps := ["well", "many"]) fun _ _ _ _ _ _ us hl => match us, hl with | [_, _], _ => rfl
    m__law_draw := PySem.W.mg_of X G g__law_draw
    f__law_label := f__law_label
    d__law_label := (PySem.W.fnOf "_law_label" "_law_label" (defArgs s__law_label) (defBody s__law_label) (defScope s__law_label) .none kV__law_label dc__law_label pm__law_label an__law_label cd__law_label ct__law_label)
    F__law_label := fun_mk (st := s__law_label) l__law_label c__law_label k__law_label
    b__law_label := (fun_mk (st := s__law_label) l__law_label c__law_label k__law_label).binds (ps := ["well"]) fun _ _ _ _ _ _ us hl => match us, hl with | [_], _ => rfl
    m__law_label := PySem.W.mg_of X G g__law_label
    f__law_like := f__law_like
    d__law_like := (PySem.W.fnOf "_law_like" "_law_like" (defArgs s__law_like) (defBody s__law_like) (defScope s__law_like) .none kV__law_like dc__law_like pm__law_like an__law_like cd__law_like ct__law_like)
    F__law_like := fun_mk (st := s__law_like) l__law_like c__law_like k__law_like
    b__law_like := (fun_mk (st := s__law_like) l__law_like c__law_like k__law_like).binds (ps := ["told", "due"]) fun _ _ _ _ _ _ us hl => match us, hl with | [_, _], _ => rfl
    m__law_like := PySem.W.mg_of X G g__law_like
    f__law_deed := f__law_deed
    d__law_deed := (PySem.W.fnOf "_law_deed" "_law_deed" (defArgs s__law_deed) (defBody s__law_deed) (defScope s__law_deed) .none kV__law_deed dc__law_deed pm__law_deed an__law_deed cd__law_deed ct__law_deed)
    F__law_deed := fun_mk (st := s__law_deed) l__law_deed c__law_deed k__law_deed
    b__law_deed := (fun_mk (st := s__law_deed) l__law_deed c__law_deed k__law_deed).binds (ps := ["well", "many", "numbers"]) fun _ _ _ _ _ _ us hl => match us, hl with | [_, _, _], _ => rfl
    m__law_deed := PySem.W.mg_of X G g__law_deed
    f__law_run := f__law_run
    d__law_run := (PySem.W.fnOf "_law_run" "_law_run" (defArgs s__law_run) (defBody s__law_run) (defScope s__law_run) .none kV__law_run dc__law_run pm__law_run an__law_run cd__law_run ct__law_run)
    F__law_run := fun_mk (st := s__law_run) l__law_run c__law_run k__law_run
    b__law_run := (fun_mk (st := s__law_run) l__law_run c__law_run k__law_run).binds (ps := ["steps", "standing", "news", "ever"]) fun _ _ _ _ _ _ us hl => match us, hl with | [_, _, _, _], _ => rfl
    m__law_run := PySem.W.mg_of X G g__law_run
    f_law := f_law
    d_law := (PySem.W.fnOf "law" "law" (defArgs s_law) (defBody s_law) (defScope s_law) .none kV_law dc_law pm_law an_law cd_law ct_law)
    F_law := fun_mk (st := s_law) l_law c_law k_law
    b_law := (fun_mk (st := s_law) l_law c_law k_law).binds (ps := ["script"]) fun _ _ _ _ _ _ us hl => match us, hl with | [_], _ => rfl
    m_law := PySem.W.mg_of X G g_law
    a_FORMS := a_FORMS
    m_FORMS := PySem.W.mg_of X G g_FORMS
    dw_FORMS := ⟨⟨_, _, l_FORMS, kl_FORMS, lo_FORMS⟩, (fm_cons ⟨_, n_FORMS_r0, fun _ => .inr ⟨_, _, _, l_FORMS_r0, rfl, rfl, (by decide : 2 ≤ sizeLine), (.cons ⟨_, rfl⟩ (.cons ⟨_, rfl⟩ .nil))⟩⟩ (fm_cons ⟨_, n_FORMS_r1, fun _ => .inr ⟨_, _, _, l_FORMS_r1, rfl, rfl, (by decide : 2 ≤ sizeLine), (.cons ⟨_, rfl⟩ (.cons ⟨_, rfl⟩ .nil))⟩⟩ (fm_cons ⟨_, n_FORMS_r2, fun _ => .inr ⟨_, _, _, l_FORMS_r2, rfl, rfl, (by decide : 2 ≤ sizeLine), (.cons ⟨_, rfl⟩ (.cons ⟨_, rfl⟩ .nil))⟩⟩ (fm_cons ⟨_, n_FORMS_r3, fun _ => .inr ⟨_, _, _, l_FORMS_r3, rfl, rfl, (by decide : 2 ≤ sizeLine), (.cons ⟨_, rfl⟩ (.cons ⟨_, rfl⟩ .nil))⟩⟩ (fm_cons ⟨_, n_FORMS_r4, fun _ => .inr ⟨_, _, _, l_FORMS_r4, rfl, rfl, (by decide : 1 ≤ sizeLine), (.cons ⟨_, rfl⟩ .nil)⟩⟩ (fm_cons ⟨_, n_FORMS_r5, fun _ => .inr ⟨_, _, _, l_FORMS_r5, rfl, rfl, (by decide : 1 ≤ sizeLine), (.cons ⟨_, rfl⟩ .nil)⟩⟩ (fm_cons ⟨_, n_FORMS_r6, fun _ => .inr ⟨_, _, _, l_FORMS_r6, rfl, rfl, (by decide : 2 ≤ sizeLine), (.cons ⟨_, rfl⟩ (.cons ⟨_, rfl⟩ .nil))⟩⟩ (fm_cons ⟨_, n_FORMS_r7, fun _ => .inr ⟨_, _, _, l_FORMS_r7, rfl, rfl, (by decide : 2 ≤ sizeLine), (.cons ⟨_, rfl⟩ (.cons ⟨_, rfl⟩ .nil))⟩⟩ (fm_cons ⟨_, n_FORMS_r8, fun _ => .inr ⟨_, _, _, l_FORMS_r8, rfl, rfl, (by decide : 2 ≤ sizeLine), (.cons ⟨_, rfl⟩ (.cons ⟨_, rfl⟩ .nil))⟩⟩ (fm_cons ⟨_, n_FORMS_r9, fun _ => .inr ⟨_, _, _, l_FORMS_r9, rfl, rfl, (by decide : 0 ≤ sizeLine), .nil⟩⟩ fm_nil))))))))))⟩
    m_MOST_AMOUNT := ⟨_, PySem.W.mg_of X G g_MOST_AMOUNT⟩
    m_MOST_LABEL := ⟨_, PySem.W.mg_of X G g_MOST_LABEL⟩
    m_MOST_NUMBER := ⟨_, PySem.W.mg_of X G g_MOST_NUMBER⟩
    m_MOST_STEPS := ⟨_, PySem.W.mg_of X G g_MOST_STEPS⟩
    m_STEPS := PySem.W.mg_of X G g_STEPS
    m_WRITE := ⟨_, PySem.W.mg_of X G g_WRITE⟩
    m_abs := PySem.W.mg_none_of X G g_abs
    m_all := PySem.W.mg_none_of X G g_all
    m_bool := PySem.W.mg_none_of X G g_bool
    m_enumerate := PySem.W.mg_none_of X G g_enumerate
    m_int := PySem.W.mg_none_of X G g_int
    m_isinstance := PySem.W.mg_none_of X G g_isinstance
    m_len := PySem.W.mg_none_of X G g_len
    m_list := PySem.W.mg_none_of X G g_list
    m_max := PySem.W.mg_none_of X G g_max
    m_min := PySem.W.mg_none_of X G g_min
    m_range := PySem.W.mg_none_of X G g_range
    m_str := PySem.W.mg_none_of X G g_str
    m_tuple := PySem.W.mg_none_of X G g_tuple
    m_zip := PySem.W.mg_none_of X G g_zip
    a_NoStep := a_NoStep
    f_NoStep := f_NoStep
    ec_NoStep := ⟨ga_NoStep, gg_NoStep, ex_NoStep, hd_NoStep, ha_NoStep, gsn_, gst_, mo_NoStep⟩
    er_NoStep := { gC := PySem.W.mg_of X G g_NoStep, gS := PySem.W.mg_none_of X G g_super, cls := ⟨_, _, _, _, _, _, _, _, _, _, _, _, _, _, _, x_NoStep, rfl⟩, sa := sa_NoStep, ga := ga_NoStep, gg := gg_NoStep, noN := nf_NoStep, iC := ic_NoStep, tC := tf__NoStep, kC := kc_NoStep, exC := ex_NoStep, tyC := ty_NoStep, hdC := hd_NoStep, te := PySem.W.exm_ref ex_NoStep hd_NoStep ty_NoStep ss_NoStep, qI := qi_NoStep, veC := ve_NoStep, mro := mr_NoStep, sup := su_NoStep, any := any_, top := top_, fn := ⟨"NoStep.__init__", _, _, _, _, _, _, _, _, _, _, _, _, _, _, _, _, _, _, _, _, _, _, _, _, _, _, _, _, _, _, l_NoStep, c_NoStep, lc_NoStep, vv_NoStep, ff_NoStep, cl__NoStep, fun _ => _, fun _ => rfl⟩ }
    a_NoDeed := a_NoDeed
    f_NoDeed := f_NoDeed
    ec_NoDeed := ⟨ga_NoDeed, gg_NoDeed, ex_NoDeed, hd_NoDeed, ha_NoDeed, gsn_, gst_, mo_NoDeed⟩
    er_NoDeed := { gC := PySem.W.mg_of X G g_NoDeed, gS := PySem.W.mg_none_of X G g_super, cls := ⟨_, _, _, _, _, _, _, _, _, _, _, _, _, _, _, x_NoDeed, rfl⟩, sa := sa_NoDeed, ga := ga_NoDeed, gg := gg_NoDeed, noN := nf_NoDeed, iC := ic_NoDeed, tC := tf__NoDeed, kC := kc_NoDeed, exC := ex_NoDeed, tyC := ty_NoDeed, hdC := hd_NoDeed, te := PySem.W.exm_ref ex_NoDeed hd_NoDeed ty_NoDeed ss_NoDeed, qI := qi_NoDeed, veC := ve_NoDeed, mro := mr_NoDeed, sup := su_NoDeed, any := any_, top := top_, fn := ⟨"NoDeed.__init__", _, _, _, _, _, _, _, _, _, _, _, _, _, _, _, _, _, _, _, _, _, _, _, _, _, _, _, _, _, _, l_NoDeed, c_NoDeed, lc_NoDeed, vv_NoDeed, ff_NoDeed, cl__NoDeed, fun _ => _, fun _ => rfl⟩ }
    a_NoLine := a_NoLine
    f_NoLine := f_NoLine
    ec_NoLine := ⟨ga_NoLine, gg_NoLine, ex_NoLine, hd_NoLine, ha_NoLine, gsn_, gst_, mo_NoLine⟩
    er_NoLine := { gC := PySem.W.mg_of X G g_NoLine, gS := PySem.W.mg_none_of X G g_super, cls := ⟨_, _, _, _, _, _, _, _, _, _, _, _, _, _, _, x_NoLine, rfl⟩, sa := sa_NoLine, ga := ga_NoLine, gg := gg_NoLine, noN := nf_NoLine, iC := ic_NoLine, tC := tf__NoLine, kC := kc_NoLine, exC := ex_NoLine, tyC := ty_NoLine, hdC := hd_NoLine, te := PySem.W.exm_ref ex_NoLine hd_NoLine ty_NoLine ss_NoLine, qI := qi_NoLine, veC := ve_NoLine, mro := mr_NoLine, sup := su_NoLine, any := any_, top := top_, fn := ⟨"NoLine.__init__", _, _, _, _, _, _, _, _, _, _, _, _, _, _, _, _, _, _, _, _, _, _, _, _, _, _, _, _, _, _, l_NoLine, c_NoLine, lc_NoLine, vv_NoLine, ff_NoLine, cl__NoLine, fun _ => _, fun _ => rfl⟩ }
    ty_Script := fun _ _ _ _ h => .base (.ins h ⟨pg_Script, hd_Script, po_Script, sa_Script⟩ q1_Script q2_Script q3_Script q4_Script)
    }, rfl, rfl⟩⟩
  obtain ⟨⟨T, e1, e2⟩⟩ := T
  refine ⟨T.d_law, ?_, fun base _ _ => ?_⟩
  · rw [e2]
    exact fun s v => .of_eq rfl
  have q : FnOk l.prog w K mg base CX0 9 T.f_law T.d_law ["script"] (spLaw K) := ok_law T
  rw [e1] at q
  exact q
theorem walk {l : PySem.W.OpenLaw} {q : Program} {loose : List Str} {XP : (Str → Option Value) → Heap → Prop} {YP : World → Heap → Prop} {d : DefRec} {K : Params → PySem.W.Frag} (hn : l.most = some 63) (hdf : d.params.defaults = [])
    (hY : ∀ (w : World) (h : Heap), YP w h → (K w.params).In h)
    (F : ∀ (w : World) (mg : Str → Option Value) (fa : Addr) (h : Heap), (K w.params).In h → h.Ns mainGlobals mg → mg d.name = some (.ref fa) →
      ∃ fd : FuncData, (∀ (s : Shared) (u : Value), BindsTo s fd ⟨[u], []⟩ [("script", u)]) ∧ ∀ base : Heap, (K w.params).In base → base.Ns mainGlobals mg → FnOk l.prog w (K w.params) mg base CX0 9 fa fd ["script"] (spLaw (K w.params))) :
    PySem.W.WalkO q loose XP YP l.row.toRowW d [] (fun f vs => PySem.call f vs) :=
  L2.walk_ofB (n := 63) (k := 9) (x := "script") (CX := fun _ => CX0) (sp := fun w => spLaw (K w.params)) hn (by decide) hdf ⟨rfl, by decide, by decide⟩ hY F (fun _ _ a ns hl hb _ hS => ⟨a, ns, rfl, hS, hl, hb, fun _ => rfl⟩) fun _ _ _ _ _ z => z
end Y
open PySem PySem.W PyProof.Rows
set_option maxRecDepth 100000 in
set_option maxHeartbeats 0 in
theorem PySem.Challenge.cw_yearturned_k25_drops_holds : PySem.Challenge.rw_yearturned_k25_drops.Holds := by
  w_on; o_law; k_head; (case hw => w_witness2)
  k_fill
  refine Y.walk (l := PySem.Challenge.rw_yearturned_k25_drops) rfl rfl (fun w h Y => PySem.W.kIn_of Y) ?F
  case F =>
    intro w mg fa h KX G hmg
    refine' Y.all_mk KX G hmg ?g_OldLine ?pg_OldLine ?hd_OldLine ?po_OldLine ?sa_OldLine ?na_OldLine_number ?na_OldLine_label ?na_OldLine_start ?na_OldLine_moves ?na_OldLine_tie ?na_OldLine_standing ?g_NewLine ?pg_NewLine ?hd_NewLine ?po_NewLine ?sa_NewLine ?na_NewLine_number ?na_NewLine_label ?na_NewLine_start ?na_NewLine_moves ?na_NewLine_tie ?na_NewLine_source ?na_NewLine_typed ?g_Ledgers ?pg_Ledgers ?hd_Ledgers ?po_Ledgers ?sa_Ledgers ?na_Ledgers_old_lines ?na_Ledgers_new_lines ?na_Ledgers_made_lines ?na_Ledgers_last_new ?na_Ledgers_tie ?g_Script ?pg_Script ?hd_Script ?po_Script ?sa_Script ?na_Script__steps ?g_STEPS ?l_STEPS ?l_STEPS_0 ?l_STEPS_1 ?l_STEPS_2 ?l_STEPS_3 ?l_STEPS_4 ?l_STEPS_5 ?l_STEPS_6 ?l_STEPS_7 ?l_STEPS_8 ?l_STEPS_9 ?l_STEPS_10 ?l_STEPS_11 ?g_is_integer ?l_is_integer ?c_is_integer ?k_is_integer ?g_is_step ?l_is_step ?c_is_step ?k_is_step ?fi_Script___init__ ?isf_Script___init__ ?l_Script___init__ ?c_Script___init__ ?k_Script___init__ ?mk_Script ?kc_Script ?fi_Script_steps ?isf_Script_steps ?l_Script_steps ?c_Script_steps ?k_Script_steps ?g_is_deed ?l_is_deed ?c_is_deed ?k_is_deed ?g_is_field ?l_is_field ?c_is_field ?k_is_field ?g_check_deeds ?l_check_deeds ?lT_check_deeds ?c_check_deeds ?k_check_deeds ?g_named_numbers ?l_named_numbers ?c_named_numbers ?k_named_numbers ?g_has_lines ?l_has_lines ?c_has_lines ?k_has_lines ?g_do_deed ?l_do_deed ?c_do_deed ?k_do_deed ?g_write_new ?l_write_new ?c_write_new ?k_write_new ?g_set_field ?l_set_field ?c_set_field ?k_set_field ?fi_OldLine___init__ ?isf_OldLine___init__ ?l_OldLine___init__ ?c_OldLine___init__ ?k_OldLine___init__ ?mk_OldLine ?kc_OldLine ?fi_OldLine_closing ?isf_OldLine_closing ?l_OldLine_closing ?c_OldLine_closing ?k_OldLine_closing ?fi_OldLine_row ?isf_OldLine_row ?l_OldLine_row ?c_OldLine_row ?k_OldLine_row ?fi_NewLine___init__ ?isf_NewLine___init__ ?l_NewLine___init__ ?c_NewLine___init__ ?k_NewLine___init__ ?mk_NewLine ?kc_NewLine ?fi_NewLine_row ?isf_NewLine_row ?l_NewLine_row ?c_NewLine_row ?k_NewLine_row ?fi_Ledgers___init__ ?isf_Ledgers___init__ ?l_Ledgers___init__ ?c_Ledgers___init__ ?k_Ledgers___init__ ?mk_Ledgers ?kc_Ledgers ?fi_Ledgers_add_old ?isf_Ledgers_add_old ?l_Ledgers_add_old ?c_Ledgers_add_old ?k_Ledgers_add_old ?fi_Ledgers_add_new ?isf_Ledgers_add_new ?l_Ledgers_add_new ?c_Ledgers_add_new ?k_Ledgers_add_new ?fi_Ledgers_make_line ?isf_Ledgers_make_line ?l_Ledgers_make_line ?c_Ledgers_make_line ?k_Ledgers_make_line ?fi_Ledgers_drop_line ?isf_Ledgers_drop_line ?l_Ledgers_drop_line ?c_Ledgers_drop_line ?k_Ledgers_drop_line ?fi_Ledgers_made_number ?isf_Ledgers_made_number ?l_Ledgers_made_number ?c_Ledgers_made_number ?k_Ledgers_made_number ?fi_Ledgers_old_rows ?isf_Ledgers_old_rows ?l_Ledgers_old_rows ?c_Ledgers_old_rows ?k_Ledgers_old_rows ?fi_Ledgers_new_rows ?isf_Ledgers_new_rows ?l_Ledgers_new_rows ?c_Ledgers_new_rows ?k_Ledgers_new_rows ?g_run_script ?l_run_script ?c_run_script ?k_run_script ?g_make_lines ?l_make_lines ?c_make_lines ?k_make_lines ?g_drop_lines ?l_drop_lines ?c_drop_lines ?k_drop_lines ?g_renew_lines ?l_renew_lines ?c_renew_lines ?k_renew_lines ?g_in_scope ?l_in_scope ?c_in_scope ?k_in_scope ?g_renew_line ?l_renew_line ?c_renew_line ?k_renew_line ?g_carry_out ?l_carry_out ?c_carry_out ?k_carry_out ?g_play ?l_play ?c_play ?k_play ?g__law_well ?l__law_well ?c__law_well ?k__law_well ?g__law_draw ?l__law_draw ?c__law_draw ?k__law_draw ?g__law_label ?l__law_label ?c__law_label ?k__law_label ?g__law_like ?l__law_like ?c__law_like ?k__law_like ?g__law_deed ?l__law_deed ?c__law_deed ?k__law_deed ?g__law_run ?l__law_run ?c__law_run ?k__law_run ?g_law ?l_law ?c_law ?k_law ?g_FORMS ?l_FORMS ?kl_FORMS ?lo_FORMS ?n_FORMS_r0 ?l_FORMS_r0 ?n_FORMS_r1 ?l_FORMS_r1 ?n_FORMS_r2 ?l_FORMS_r2 ?n_FORMS_r3 ?l_FORMS_r3 ?n_FORMS_r4 ?l_FORMS_r4 ?n_FORMS_r5 ?l_FORMS_r5 ?n_FORMS_r6 ?l_FORMS_r6 ?n_FORMS_r7 ?l_FORMS_r7 ?n_FORMS_r8 ?l_FORMS_r8 ?n_FORMS_r9 ?l_FORMS_r9 ?g_MOST_AMOUNT ?g_MOST_LABEL ?g_MOST_NUMBER ?g_MOST_STEPS ?g_WRITE ?g_abs ?g_all ?g_bool ?g_enumerate ?g_int ?g_isinstance ?g_len ?g_list ?g_max ?g_min ?g_range ?g_str ?g_tuple ?g_zip ?g_super ?any_ ?top_ ?gsn_ ?gst_ ?g_NoStep ?x_NoStep ?sa_NoStep ?ga_NoStep ?gg_NoStep ?nf_NoStep ?ic_NoStep ?ha_NoStep ?tf__NoStep ?kc_NoStep ?ex_NoStep ?ty_NoStep ?hd_NoStep ?ss_NoStep ?qi_NoStep ?ve_NoStep ?mr_NoStep ?mo_NoStep ?su_NoStep ?l_NoStep ?c_NoStep ?lc_NoStep ?vv_NoStep ?ff_NoStep ?cl__NoStep ?g_NoDeed ?x_NoDeed ?sa_NoDeed ?ga_NoDeed ?gg_NoDeed ?nf_NoDeed ?ic_NoDeed ?ha_NoDeed ?tf__NoDeed ?kc_NoDeed ?ex_NoDeed ?ty_NoDeed ?hd_NoDeed ?ss_NoDeed ?qi_NoDeed ?ve_NoDeed ?mr_NoDeed ?mo_NoDeed ?su_NoDeed ?l_NoDeed ?c_NoDeed ?lc_NoDeed ?vv_NoDeed ?ff_NoDeed ?cl__NoDeed ?g_NoLine ?x_NoLine ?sa_NoLine ?ga_NoLine ?gg_NoLine ?nf_NoLine ?ic_NoLine ?ha_NoLine ?tf__NoLine ?kc_NoLine ?ex_NoLine ?ty_NoLine ?hd_NoLine ?ss_NoLine ?qi_NoLine ?ve_NoLine ?mr_NoLine ?mo_NoLine ?su_NoLine ?l_NoLine ?c_NoLine ?lc_NoLine ?vv_NoLine ?ff_NoLine ?cl__NoLine ?q1_Script ?q2_Script ?q3_Script ?q4_Script
    (case g_OldLine => first | k_is | ks_is | rfl | decide +kernel | (k_keys; done))
    (case pg_OldLine => first | k_is | ks_is | rfl | decide +kernel | (k_keys; done))
    (case hd_OldLine => first | k_is | ks_is | rfl | decide +kernel | (k_keys; done))
    (case po_OldLine => first | k_is | ks_is | rfl | decide +kernel | (k_keys; done))
    (case sa_OldLine => first | k_is | ks_is | rfl | decide +kernel | (k_keys; done))
    (case na_OldLine_number => first | k_is | ks_is | rfl | decide +kernel | (k_keys; done))
    (case na_OldLine_label => first | k_is | ks_is | rfl | decide +kernel | (k_keys; done))
    (case na_OldLine_start => first | k_is | ks_is | rfl | decide +kernel | (k_keys; done))
    (case na_OldLine_moves => first | k_is | ks_is | rfl | decide +kernel | (k_keys; done))
    (case na_OldLine_tie => first | k_is | ks_is | rfl | decide +kernel | (k_keys; done))
    (case na_OldLine_standing => first | k_is | ks_is | rfl | decide +kernel | (k_keys; done))
    (case g_NewLine => first | k_is | ks_is | rfl | decide +kernel | (k_keys; done))
    (case pg_NewLine => first | k_is | ks_is | rfl | decide +kernel | (k_keys; done))
    (case hd_NewLine => first | k_is | ks_is | rfl | decide +kernel | (k_keys; done))
    (case po_NewLine => first | k_is | ks_is | rfl | decide +kernel | (k_keys; done))
    (case sa_NewLine => first | k_is | ks_is | rfl | decide +kernel | (k_keys; done))
    (case na_NewLine_number => first | k_is | ks_is | rfl | decide +kernel | (k_keys; done))
    (case na_NewLine_label => first | k_is | ks_is | rfl | decide +kernel | (k_keys; done))
    (case na_NewLine_start => first | k_is | ks_is | rfl | decide +kernel | (k_keys; done))
    (case na_NewLine_moves => first | k_is | ks_is | rfl | decide +kernel | (k_keys; done))
    (case na_NewLine_tie => first | k_is | ks_is | rfl | decide +kernel | (k_keys; done))
    (case na_NewLine_source => first | k_is | ks_is | rfl | decide +kernel | (k_keys; done))
    (case na_NewLine_typed => first | k_is | ks_is | rfl | decide +kernel | (k_keys; done))
    (case g_Ledgers => first | k_is | ks_is | rfl | decide +kernel | (k_keys; done))
    (case pg_Ledgers => first | k_is | ks_is | rfl | decide +kernel | (k_keys; done))
    (case hd_Ledgers => first | k_is | ks_is | rfl | decide +kernel | (k_keys; done))
    (case po_Ledgers => first | k_is | ks_is | rfl | decide +kernel | (k_keys; done))
    (case sa_Ledgers => first | k_is | ks_is | rfl | decide +kernel | (k_keys; done))
    (case na_Ledgers_old_lines => first | k_is | ks_is | rfl | decide +kernel | (k_keys; done))
    (case na_Ledgers_new_lines => first | k_is | ks_is | rfl | decide +kernel | (k_keys; done))
    (case na_Ledgers_made_lines => first | k_is | ks_is | rfl | decide +kernel | (k_keys; done))
    (case na_Ledgers_last_new => first | k_is | ks_is | rfl | decide +kernel | (k_keys; done))
    (case na_Ledgers_tie => first | k_is | ks_is | rfl | decide +kernel | (k_keys; done))
    (case g_Script => first | k_is | ks_is | rfl | decide +kernel | (k_keys; done))
    (case pg_Script => first | k_is | ks_is | rfl | decide +kernel | (k_keys; done))
    (case hd_Script => first | k_is | ks_is | rfl | decide +kernel | (k_keys; done))
    (case po_Script => first | k_is | ks_is | rfl | decide +kernel | (k_keys; done))
    (case sa_Script => first | k_is | ks_is | rfl | decide +kernel | (k_keys; done))
    (case na_Script__steps => first | k_is | ks_is | rfl | decide +kernel | (k_keys; done))
    (case g_STEPS => first | k_is | ks_is | rfl | decide +kernel | (k_keys; done))
    (case l_STEPS => first | k_is | ks_is | rfl | decide +kernel | (k_keys; done))
    (case l_STEPS_0 => first | k_is | ks_is | rfl | decide +kernel | (k_keys; done))
    (case l_STEPS_1 => first | k_is | ks_is | rfl | decide +kernel | (k_keys; done))
    (case l_STEPS_2 => first | k_is | ks_is | rfl | decide +kernel | (k_keys; done))
    (case l_STEPS_3 => first | k_is | ks_is | rfl | decide +kernel | (k_keys; done))
    (case l_STEPS_4 => first | k_is | ks_is | rfl | decide +kernel | (k_keys; done))
    (case l_STEPS_5 => first | k_is | ks_is | rfl | decide +kernel | (k_keys; done))
    (case l_STEPS_6 => first | k_is | ks_is | rfl | decide +kernel | (k_keys; done))
    (case l_STEPS_7 => first | k_is | ks_is | rfl | decide +kernel | (k_keys; done))
    (case l_STEPS_8 => first | k_is | ks_is | rfl | decide +kernel | (k_keys; done))
    (case l_STEPS_9 => first | k_is | ks_is | rfl | decide +kernel | (k_keys; done))
    (case l_STEPS_10 => first | k_is | ks_is | rfl | decide +kernel | (k_keys; done))
    (case l_STEPS_11 => first | k_is | ks_is | rfl | decide +kernel | (k_keys; done))
    (case g_is_integer => first | k_is | ks_is | rfl | decide +kernel | (k_keys; done))
    (case l_is_integer => first | k_is | ks_is | rfl | decide +kernel | (k_keys; done))
    (case c_is_integer => first | k_is | ks_is | rfl | decide +kernel | (k_keys; done))
    (case k_is_integer => first | k_is | ks_is | rfl | decide +kernel | (k_keys; done))
    (case g_is_step => first | k_is | ks_is | rfl | decide +kernel | (k_keys; done))
    (case l_is_step => first | k_is | ks_is | rfl | decide +kernel | (k_keys; done))
    (case c_is_step => first | k_is | ks_is | rfl | decide +kernel | (k_keys; done))
    (case k_is_step => first | k_is | ks_is | rfl | decide +kernel | (k_keys; done))
    (case fi_Script___init__ => first | k_is | ks_is | rfl | decide +kernel | (k_keys; done))
    (case isf_Script___init__ => first | k_is | ks_is | rfl | decide +kernel | (k_keys; done))
    (case l_Script___init__ => first | k_is | ks_is | rfl | decide +kernel | (k_keys; done))
    (case c_Script___init__ => first | k_is | ks_is | rfl | decide +kernel | (k_keys; done))
    (case k_Script___init__ => first | k_is | ks_is | rfl | decide +kernel | (k_keys; done))
    (case mk_Script => first | k_is | ks_is | rfl | decide +kernel | (k_keys; done))
    (case kc_Script => first | k_is | ks_is | rfl | decide +kernel | (k_keys; done))
    (case fi_Script_steps => first | k_is | ks_is | rfl | decide +kernel | (k_keys; done))
    (case isf_Script_steps => first | k_is | ks_is | rfl | decide +kernel | (k_keys; done))
    (case l_Script_steps => first | k_is | ks_is | rfl | decide +kernel | (k_keys; done))
    (case c_Script_steps => first | k_is | ks_is | rfl | decide +kernel | (k_keys; done))
    (case k_Script_steps => first | k_is | ks_is | rfl | decide +kernel | (k_keys; done))
    (case g_is_deed => first | k_is | ks_is | rfl | decide +kernel | (k_keys; done))
    (case l_is_deed => first | k_is | ks_is | rfl | decide +kernel | (k_keys; done))
    (case c_is_deed => first | k_is | ks_is | rfl | decide +kernel | (k_keys; done))
    (case k_is_deed => first | k_is | ks_is | rfl | decide +kernel | (k_keys; done))
    (case g_is_field => first | k_is | ks_is | rfl | decide +kernel | (k_keys; done))
    (case l_is_field => first | k_is | ks_is | rfl | decide +kernel | (k_keys; done))
    (case c_is_field => first | k_is | ks_is | rfl | decide +kernel | (k_keys; done))
    (case k_is_field => first | k_is | ks_is | rfl | decide +kernel | (k_keys; done))
    (case g_check_deeds => first | k_is | ks_is | rfl | decide +kernel | (k_keys; done))
    (case l_check_deeds => first | k_is | ks_is | rfl | decide +kernel | (k_keys; done))
    (case lT_check_deeds => first | k_is | ks_is | rfl | decide +kernel | (k_keys; done))
    (case c_check_deeds => first | k_is | ks_is | rfl | decide +kernel | (k_keys; done))
    (case k_check_deeds => first | k_is | ks_is | rfl | decide +kernel | (k_keys; done))
    (case g_named_numbers => first | k_is | ks_is | rfl | decide +kernel | (k_keys; done))
    (case l_named_numbers => first | k_is | ks_is | rfl | decide +kernel | (k_keys; done))
    (case c_named_numbers => first | k_is | ks_is | rfl | decide +kernel | (k_keys; done))
    (case k_named_numbers => first | k_is | ks_is | rfl | decide +kernel | (k_keys; done))
    (case g_has_lines => first | k_is | ks_is | rfl | decide +kernel | (k_keys; done))
    (case l_has_lines => first | k_is | ks_is | rfl | decide +kernel | (k_keys; done))
    (case c_has_lines => first | k_is | ks_is | rfl | decide +kernel | (k_keys; done))
    (case k_has_lines => first | k_is | ks_is | rfl | decide +kernel | (k_keys; done))
    (case g_do_deed => first | k_is | ks_is | rfl | decide +kernel | (k_keys; done))
    (case l_do_deed => first | k_is | ks_is | rfl | decide +kernel | (k_keys; done))
    (case c_do_deed => first | k_is | ks_is | rfl | decide +kernel | (k_keys; done))
    (case k_do_deed => first | k_is | ks_is | rfl | decide +kernel | (k_keys; done))
    (case g_write_new => first | k_is | ks_is | rfl | decide +kernel | (k_keys; done))
    (case l_write_new => first | k_is | ks_is | rfl | decide +kernel | (k_keys; done))
    (case c_write_new => first | k_is | ks_is | rfl | decide +kernel | (k_keys; done))
    (case k_write_new => first | k_is | ks_is | rfl | decide +kernel | (k_keys; done))
    (case g_set_field => first | k_is | ks_is | rfl | decide +kernel | (k_keys; done))
    (case l_set_field => first | k_is | ks_is | rfl | decide +kernel | (k_keys; done))
    (case c_set_field => first | k_is | ks_is | rfl | decide +kernel | (k_keys; done))
    (case k_set_field => first | k_is | ks_is | rfl | decide +kernel | (k_keys; done))
    (case fi_OldLine___init__ => first | k_is | ks_is | rfl | decide +kernel | (k_keys; done))
    (case isf_OldLine___init__ => first | k_is | ks_is | rfl | decide +kernel | (k_keys; done))
    (case l_OldLine___init__ => first | k_is | ks_is | rfl | decide +kernel | (k_keys; done))
    (case c_OldLine___init__ => first | k_is | ks_is | rfl | decide +kernel | (k_keys; done))
    (case k_OldLine___init__ => first | k_is | ks_is | rfl | decide +kernel | (k_keys; done))
    (case mk_OldLine => first | k_is | ks_is | rfl | decide +kernel | (k_keys; done))
    (case kc_OldLine => first | k_is | ks_is | rfl | decide +kernel | (k_keys; done))
    (case fi_OldLine_closing => first | k_is | ks_is | rfl | decide +kernel | (k_keys; done))
    (case isf_OldLine_closing => first | k_is | ks_is | rfl | decide +kernel | (k_keys; done))
    (case l_OldLine_closing => first | k_is | ks_is | rfl | decide +kernel | (k_keys; done))
    (case c_OldLine_closing => first | k_is | ks_is | rfl | decide +kernel | (k_keys; done))
    (case k_OldLine_closing => first | k_is | ks_is | rfl | decide +kernel | (k_keys; done))
    (case fi_OldLine_row => first | k_is | ks_is | rfl | decide +kernel | (k_keys; done))
    (case isf_OldLine_row => first | k_is | ks_is | rfl | decide +kernel | (k_keys; done))
    (case l_OldLine_row => first | k_is | ks_is | rfl | decide +kernel | (k_keys; done))
    (case c_OldLine_row => first | k_is | ks_is | rfl | decide +kernel | (k_keys; done))
    (case k_OldLine_row => first | k_is | ks_is | rfl | decide +kernel | (k_keys; done))
    (case fi_NewLine___init__ => first | k_is | ks_is | rfl | decide +kernel | (k_keys; done))
    (case isf_NewLine___init__ => first | k_is | ks_is | rfl | decide +kernel | (k_keys; done))
    (case l_NewLine___init__ => first | k_is | ks_is | rfl | decide +kernel | (k_keys; done))
    (case c_NewLine___init__ => first | k_is | ks_is | rfl | decide +kernel | (k_keys; done))
    (case k_NewLine___init__ => first | k_is | ks_is | rfl | decide +kernel | (k_keys; done))
    (case mk_NewLine => first | k_is | ks_is | rfl | decide +kernel | (k_keys; done))
    (case kc_NewLine => first | k_is | ks_is | rfl | decide +kernel | (k_keys; done))
    (case fi_NewLine_row => first | k_is | ks_is | rfl | decide +kernel | (k_keys; done))
    (case isf_NewLine_row => first | k_is | ks_is | rfl | decide +kernel | (k_keys; done))
    (case l_NewLine_row => first | k_is | ks_is | rfl | decide +kernel | (k_keys; done))
    (case c_NewLine_row => first | k_is | ks_is | rfl | decide +kernel | (k_keys; done))
    (case k_NewLine_row => first | k_is | ks_is | rfl | decide +kernel | (k_keys; done))
    (case fi_Ledgers___init__ => first | k_is | ks_is | rfl | decide +kernel | (k_keys; done))
    (case isf_Ledgers___init__ => first | k_is | ks_is | rfl | decide +kernel | (k_keys; done))
    (case l_Ledgers___init__ => first | k_is | ks_is | rfl | decide +kernel | (k_keys; done))
    (case c_Ledgers___init__ => first | k_is | ks_is | rfl | decide +kernel | (k_keys; done))
    (case k_Ledgers___init__ => first | k_is | ks_is | rfl | decide +kernel | (k_keys; done))
    (case mk_Ledgers => first | k_is | ks_is | rfl | decide +kernel | (k_keys; done))
    (case kc_Ledgers => first | k_is | ks_is | rfl | decide +kernel | (k_keys; done))
    (case fi_Ledgers_add_old => first | k_is | ks_is | rfl | decide +kernel | (k_keys; done))
    (case isf_Ledgers_add_old => first | k_is | ks_is | rfl | decide +kernel | (k_keys; done))
    (case l_Ledgers_add_old => first | k_is | ks_is | rfl | decide +kernel | (k_keys; done))
    (case c_Ledgers_add_old => first | k_is | ks_is | rfl | decide +kernel | (k_keys; done))
    (case k_Ledgers_add_old => first | k_is | ks_is | rfl | decide +kernel | (k_keys; done))
    (case fi_Ledgers_add_new => first | k_is | ks_is | rfl | decide +kernel | (k_keys; done))
    (case isf_Ledgers_add_new => first | k_is | ks_is | rfl | decide +kernel | (k_keys; done))
    (case l_Ledgers_add_new => first | k_is | ks_is | rfl | decide +kernel | (k_keys; done))
    (case c_Ledgers_add_new => first | k_is | ks_is | rfl | decide +kernel | (k_keys; done))
    (case k_Ledgers_add_new => first | k_is | ks_is | rfl | decide +kernel | (k_keys; done))
    (case fi_Ledgers_make_line => first | k_is | ks_is | rfl | decide +kernel | (k_keys; done))
    (case isf_Ledgers_make_line => first | k_is | ks_is | rfl | decide +kernel | (k_keys; done))
    (case l_Ledgers_make_line => first | k_is | ks_is | rfl | decide +kernel | (k_keys; done))
    (case c_Ledgers_make_line => first | k_is | ks_is | rfl | decide +kernel | (k_keys; done))
    (case k_Ledgers_make_line => first | k_is | ks_is | rfl | decide +kernel | (k_keys; done))
    (case fi_Ledgers_drop_line => first | k_is | ks_is | rfl | decide +kernel | (k_keys; done))
    (case isf_Ledgers_drop_line => first | k_is | ks_is | rfl | decide +kernel | (k_keys; done))
    (case l_Ledgers_drop_line => first | k_is | ks_is | rfl | decide +kernel | (k_keys; done))
    (case c_Ledgers_drop_line => first | k_is | ks_is | rfl | decide +kernel | (k_keys; done))
    (case k_Ledgers_drop_line => first | k_is | ks_is | rfl | decide +kernel | (k_keys; done))
    (case fi_Ledgers_made_number => first | k_is | ks_is | rfl | decide +kernel | (k_keys; done))
    (case isf_Ledgers_made_number => first | k_is | ks_is | rfl | decide +kernel | (k_keys; done))
    (case l_Ledgers_made_number => first | k_is | ks_is | rfl | decide +kernel | (k_keys; done))
    (case c_Ledgers_made_number => first | k_is | ks_is | rfl | decide +kernel | (k_keys; done))
    (case k_Ledgers_made_number => first | k_is | ks_is | rfl | decide +kernel | (k_keys; done))
    (case fi_Ledgers_old_rows => first | k_is | ks_is | rfl | decide +kernel | (k_keys; done))
    (case isf_Ledgers_old_rows => first | k_is | ks_is | rfl | decide +kernel | (k_keys; done))
    (case l_Ledgers_old_rows => first | k_is | ks_is | rfl | decide +kernel | (k_keys; done))
    (case c_Ledgers_old_rows => first | k_is | ks_is | rfl | decide +kernel | (k_keys; done))
    (case k_Ledgers_old_rows => first | k_is | ks_is | rfl | decide +kernel | (k_keys; done))
    (case fi_Ledgers_new_rows => first | k_is | ks_is | rfl | decide +kernel | (k_keys; done))
    (case isf_Ledgers_new_rows => first | k_is | ks_is | rfl | decide +kernel | (k_keys; done))
    (case l_Ledgers_new_rows => first | k_is | ks_is | rfl | decide +kernel | (k_keys; done))
    (case c_Ledgers_new_rows => first | k_is | ks_is | rfl | decide +kernel | (k_keys; done))
    (case k_Ledgers_new_rows => first | k_is | ks_is | rfl | decide +kernel | (k_keys; done))
    (case g_run_script => first | k_is | ks_is | rfl | decide +kernel | (k_keys; done))
    (case l_run_script => first | k_is | ks_is | rfl | decide +kernel | (k_keys; done))
    (case c_run_script => first | k_is | ks_is | rfl | decide +kernel | (k_keys; done))
    (case k_run_script => first | k_is | ks_is | rfl | decide +kernel | (k_keys; done))
    (case g_make_lines => first | k_is | ks_is | rfl | decide +kernel | (k_keys; done))
    (case l_make_lines => first | k_is | ks_is | rfl | decide +kernel | (k_keys; done))
    (case c_make_lines => first | k_is | ks_is | rfl | decide +kernel | (k_keys; done))
    (case k_make_lines => first | k_is | ks_is | rfl | decide +kernel | (k_keys; done))
    (case g_drop_lines => first | k_is | ks_is | rfl | decide +kernel | (k_keys; done))
    (case l_drop_lines => first | k_is | ks_is | rfl | decide +kernel | (k_keys; done))
    (case c_drop_lines => first | k_is | ks_is | rfl | decide +kernel | (k_keys; done))
    (case k_drop_lines => first | k_is | ks_is | rfl | decide +kernel | (k_keys; done))
    (case g_renew_lines => first | k_is | ks_is | rfl | decide +kernel | (k_keys; done))
    (case l_renew_lines => first | k_is | ks_is | rfl | decide +kernel | (k_keys; done))
    (case c_renew_lines => first | k_is | ks_is | rfl | decide +kernel | (k_keys; done))
    (case k_renew_lines => first | k_is | ks_is | rfl | decide +kernel | (k_keys; done))
    (case g_in_scope => first | k_is | ks_is | rfl | decide +kernel | (k_keys; done))
    (case l_in_scope => first | k_is | ks_is | rfl | decide +kernel | (k_keys; done))
    (case c_in_scope => first | k_is | ks_is | rfl | decide +kernel | (k_keys; done))
    (case k_in_scope => first | k_is | ks_is | rfl | decide +kernel | (k_keys; done))
    (case g_renew_line => first | k_is | ks_is | rfl | decide +kernel | (k_keys; done))
    (case l_renew_line => first | k_is | ks_is | rfl | decide +kernel | (k_keys; done))
    (case c_renew_line => first | k_is | ks_is | rfl | decide +kernel | (k_keys; done))
    (case k_renew_line => first | k_is | ks_is | rfl | decide +kernel | (k_keys; done))
    (case g_carry_out => first | k_is | ks_is | rfl | decide +kernel | (k_keys; done))
    (case l_carry_out => first | k_is | ks_is | rfl | decide +kernel | (k_keys; done))
    (case c_carry_out => first | k_is | ks_is | rfl | decide +kernel | (k_keys; done))
    (case k_carry_out => first | k_is | ks_is | rfl | decide +kernel | (k_keys; done))
    (case g_play => first | k_is | ks_is | rfl | decide +kernel | (k_keys; done))
    (case l_play => first | k_is | ks_is | rfl | decide +kernel | (k_keys; done))
    (case c_play => first | k_is | ks_is | rfl | decide +kernel | (k_keys; done))
    (case k_play => first | k_is | ks_is | rfl | decide +kernel | (k_keys; done))
    (case g__law_well => first | k_is | ks_is | rfl | decide +kernel | (k_keys; done))
    (case l__law_well => first | k_is | ks_is | rfl | decide +kernel | (k_keys; done))
    (case c__law_well => first | k_is | ks_is | rfl | decide +kernel | (k_keys; done))
    (case k__law_well => first | k_is | ks_is | rfl | decide +kernel | (k_keys; done))
    (case g__law_draw => first | k_is | ks_is | rfl | decide +kernel | (k_keys; done))
    (case l__law_draw => first | k_is | ks_is | rfl | decide +kernel | (k_keys; done))
    (case c__law_draw => first | k_is | ks_is | rfl | decide +kernel | (k_keys; done))
    (case k__law_draw => first | k_is | ks_is | rfl | decide +kernel | (k_keys; done))
    (case g__law_label => first | k_is | ks_is | rfl | decide +kernel | (k_keys; done))
    (case l__law_label => first | k_is | ks_is | rfl | decide +kernel | (k_keys; done))
    (case c__law_label => first | k_is | ks_is | rfl | decide +kernel | (k_keys; done))
    (case k__law_label => first | k_is | ks_is | rfl | decide +kernel | (k_keys; done))
    (case g__law_like => first | k_is | ks_is | rfl | decide +kernel | (k_keys; done))
    (case l__law_like => first | k_is | ks_is | rfl | decide +kernel | (k_keys; done))
    (case c__law_like => first | k_is | ks_is | rfl | decide +kernel | (k_keys; done))
    (case k__law_like => first | k_is | ks_is | rfl | decide +kernel | (k_keys; done))
    (case g__law_deed => first | k_is | ks_is | rfl | decide +kernel | (k_keys; done))
    (case l__law_deed => first | k_is | ks_is | rfl | decide +kernel | (k_keys; done))
    (case c__law_deed => first | k_is | ks_is | rfl | decide +kernel | (k_keys; done))
    (case k__law_deed => first | k_is | ks_is | rfl | decide +kernel | (k_keys; done))
    (case g__law_run => first | k_is | ks_is | rfl | decide +kernel | (k_keys; done))
    (case l__law_run => first | k_is | ks_is | rfl | decide +kernel | (k_keys; done))
    (case c__law_run => first | k_is | ks_is | rfl | decide +kernel | (k_keys; done))
    (case k__law_run => first | k_is | ks_is | rfl | decide +kernel | (k_keys; done))
    (case g_law => first | k_is | ks_is | rfl | decide +kernel | (k_keys; done))
    (case l_law => first | k_is | ks_is | rfl | decide +kernel | (k_keys; done))
    (case c_law => first | k_is | ks_is | rfl | decide +kernel | (k_keys; done))
    (case k_law => first | k_is | ks_is | rfl | decide +kernel | (k_keys; done))
    (case g_FORMS => first | k_is | ks_is | rfl | decide +kernel | (k_keys; done))
    (case l_FORMS => first | k_is | ks_is | rfl | decide +kernel | (k_keys; done))
    (case kl_FORMS => first | k_is | ks_is | rfl | decide +kernel | (k_keys; done))
    (case lo_FORMS => first | k_is | ks_is | rfl | decide +kernel | (k_keys; done))
    (case n_FORMS_r0 => first | k_is | ks_is | rfl | decide +kernel | (k_keys; done))
    (case l_FORMS_r0 => first | k_is | ks_is | rfl | decide +kernel | (k_keys; done))
    (case n_FORMS_r1 => first | k_is | ks_is | rfl | decide +kernel | (k_keys; done))
    (case l_FORMS_r1 => first | k_is | ks_is | rfl | decide +kernel | (k_keys; done))
    (case n_FORMS_r2 => first | k_is | ks_is | rfl | decide +kernel | (k_keys; done))
    (case l_FORMS_r2 => first | k_is | ks_is | rfl | decide +kernel | (k_keys; done))
    (case n_FORMS_r3 => first | k_is | ks_is | rfl | decide +kernel | (k_keys; done))
    (case l_FORMS_r3 => first | k_is | ks_is | rfl | decide +kernel | (k_keys; done))
    (case n_FORMS_r4 => first | k_is | ks_is | rfl | decide +kernel | (k_keys; done))
    (case l_FORMS_r4 => first | k_is | ks_is | rfl | decide +kernel | (k_keys; done))
    (case n_FORMS_r5 => first | k_is | ks_is | rfl | decide +kernel | (k_keys; done))
    (case l_FORMS_r5 => first | k_is | ks_is | rfl | decide +kernel | (k_keys; done))
    (case n_FORMS_r6 => first | k_is | ks_is | rfl | decide +kernel | (k_keys; done))
    (case l_FORMS_r6 => first | k_is | ks_is | rfl | decide +kernel | (k_keys; done))
    (case n_FORMS_r7 => first | k_is | ks_is | rfl | decide +kernel | (k_keys; done))
    (case l_FORMS_r7 => first | k_is | ks_is | rfl | decide +kernel | (k_keys; done))
    (case n_FORMS_r8 => first | k_is | ks_is | rfl | decide +kernel | (k_keys; done))
    (case l_FORMS_r8 => first | k_is | ks_is | rfl | decide +kernel | (k_keys; done))
    (case n_FORMS_r9 => first | k_is | ks_is | rfl | decide +kernel | (k_keys; done))
    (case l_FORMS_r9 => first | k_is | ks_is | rfl | decide +kernel | (k_keys; done))
    (case g_MOST_AMOUNT => first | k_is | ks_is | rfl | decide +kernel | (k_keys; done))
    (case g_MOST_LABEL => first | k_is | ks_is | rfl | decide +kernel | (k_keys; done))
    (case g_MOST_NUMBER => first | k_is | ks_is | rfl | decide +kernel | (k_keys; done))
    (case g_MOST_STEPS => first | k_is | ks_is | rfl | decide +kernel | (k_keys; done))
    (case g_WRITE => first | k_is | ks_is | rfl | decide +kernel | (k_keys; done))
    (case g_abs => first | k_is | ks_is | rfl | decide +kernel | (k_keys; done))
    (case g_all => first | k_is | ks_is | rfl | decide +kernel | (k_keys; done))
    (case g_bool => first | k_is | ks_is | rfl | decide +kernel | (k_keys; done))
    (case g_enumerate => first | k_is | ks_is | rfl | decide +kernel | (k_keys; done))
    (case g_int => first | k_is | ks_is | rfl | decide +kernel | (k_keys; done))
    (case g_isinstance => first | k_is | ks_is | rfl | decide +kernel | (k_keys; done))
    (case g_len => first | k_is | ks_is | rfl | decide +kernel | (k_keys; done))
    (case g_list => first | k_is | ks_is | rfl | decide +kernel | (k_keys; done))
    (case g_max => first | k_is | ks_is | rfl | decide +kernel | (k_keys; done))
    (case g_min => first | k_is | ks_is | rfl | decide +kernel | (k_keys; done))
    (case g_range => first | k_is | ks_is | rfl | decide +kernel | (k_keys; done))
    (case g_str => first | k_is | ks_is | rfl | decide +kernel | (k_keys; done))
    (case g_tuple => first | k_is | ks_is | rfl | decide +kernel | (k_keys; done))
    (case g_zip => first | k_is | ks_is | rfl | decide +kernel | (k_keys; done))
    (case g_super => first | k_is | ks_is | rfl | decide +kernel | (k_keys; done))
    (case any_ => first | k_is | ks_is | rfl | decide +kernel | (k_keys; done))
    (case top_ => first | k_is | ks_is | rfl | decide +kernel | (k_keys; done))
    (case gsn_ => first | k_is | ks_is | rfl | decide +kernel | (k_keys; done))
    (case gst_ => first | k_is | ks_is | rfl | decide +kernel | (k_keys; done))
    (case g_NoStep => first | k_is | ks_is | rfl | decide +kernel | (k_keys; done))
    (case x_NoStep => first | k_is | ks_is | rfl | decide +kernel | (k_keys; done))
    (case sa_NoStep => first | k_is | ks_is | rfl | decide +kernel | (k_keys; done))
    (case ga_NoStep => first | k_is | ks_is | rfl | decide +kernel | (k_keys; done))
    (case gg_NoStep => first | k_is | ks_is | rfl | decide +kernel | (k_keys; done))
    (case nf_NoStep => first | k_is | ks_is | rfl | decide +kernel | (k_keys; done))
    (case ic_NoStep => first | k_is | ks_is | rfl | decide +kernel | (k_keys; done))
    (case ha_NoStep => first | k_is | ks_is | rfl | decide +kernel | (k_keys; done))
    (case tf__NoStep => first | k_is | ks_is | rfl | decide +kernel | (k_keys; done))
    (case kc_NoStep => first | k_is | ks_is | rfl | decide +kernel | (k_keys; done))
    (case ex_NoStep => first | k_is | ks_is | rfl | decide +kernel | (k_keys; done))
    (case ty_NoStep => first | k_is | ks_is | rfl | decide +kernel | (k_keys; done))
    (case hd_NoStep => first | k_is | ks_is | rfl | decide +kernel | (k_keys; done))
    (case ss_NoStep => first | k_is | ks_is | rfl | decide +kernel | (k_keys; done))
    (case qi_NoStep => first | k_is | ks_is | rfl | decide +kernel | (k_keys; done))
    (case ve_NoStep => first | k_is | ks_is | rfl | decide +kernel | (k_keys; done))
    (case mr_NoStep => first | k_is | ks_is | rfl | decide +kernel | (k_keys; done))
    (case mo_NoStep => first | k_is | ks_is | rfl | decide +kernel | (k_keys; done))
    (case su_NoStep => first | k_is | ks_is | rfl | decide +kernel | (k_keys; done))
    (case l_NoStep => first | k_is | ks_is | rfl | decide +kernel | (k_keys; done))
    (case c_NoStep => first | k_is | ks_is | rfl | decide +kernel | (k_keys; done))
    (case lc_NoStep => first | k_is | ks_is | rfl | decide +kernel | (k_keys; done))
    (case vv_NoStep => first | k_is | ks_is | rfl | decide +kernel | (k_keys; done))
    (case ff_NoStep => first | k_is | ks_is | rfl | decide +kernel | (k_keys; done))
    (case cl__NoStep => first | k_is | ks_is | rfl | decide +kernel | (k_keys; done))
    (case g_NoDeed => first | k_is | ks_is | rfl | decide +kernel | (k_keys; done))
    (case x_NoDeed => first | k_is | ks_is | rfl | decide +kernel | (k_keys; done))
    (case sa_NoDeed => first | k_is | ks_is | rfl | decide +kernel | (k_keys; done))
    (case ga_NoDeed => first | k_is | ks_is | rfl | decide +kernel | (k_keys; done))
    (case gg_NoDeed => first | k_is | ks_is | rfl | decide +kernel | (k_keys; done))
    (case nf_NoDeed => first | k_is | ks_is | rfl | decide +kernel | (k_keys; done))
    (case ic_NoDeed => first | k_is | ks_is | rfl | decide +kernel | (k_keys; done))
    (case ha_NoDeed => first | k_is | ks_is | rfl | decide +kernel | (k_keys; done))
    (case tf__NoDeed => first | k_is | ks_is | rfl | decide +kernel | (k_keys; done))
    (case kc_NoDeed => first | k_is | ks_is | rfl | decide +kernel | (k_keys; done))
    (case ex_NoDeed => first | k_is | ks_is | rfl | decide +kernel | (k_keys; done))
    (case ty_NoDeed => first | k_is | ks_is | rfl | decide +kernel | (k_keys; done))
    (case hd_NoDeed => first | k_is | ks_is | rfl | decide +kernel | (k_keys; done))
    (case ss_NoDeed => first | k_is | ks_is | rfl | decide +kernel | (k_keys; done))
    (case qi_NoDeed => first | k_is | ks_is | rfl | decide +kernel | (k_keys; done))
    (case ve_NoDeed => first | k_is | ks_is | rfl | decide +kernel | (k_keys; done))
    (case mr_NoDeed => first | k_is | ks_is | rfl | decide +kernel | (k_keys; done))
    (case mo_NoDeed => first | k_is | ks_is | rfl | decide +kernel | (k_keys; done))
    (case su_NoDeed => first | k_is | ks_is | rfl | decide +kernel | (k_keys; done))
    (case l_NoDeed => first | k_is | ks_is | rfl | decide +kernel | (k_keys; done))
    (case c_NoDeed => first | k_is | ks_is | rfl | decide +kernel | (k_keys; done))
    (case lc_NoDeed => first | k_is | ks_is | rfl | decide +kernel | (k_keys; done))
    (case vv_NoDeed => first | k_is | ks_is | rfl | decide +kernel | (k_keys; done))
    (case ff_NoDeed => first | k_is | ks_is | rfl | decide +kernel | (k_keys; done))
    (case cl__NoDeed => first | k_is | ks_is | rfl | decide +kernel | (k_keys; done))
    (case g_NoLine => first | k_is | ks_is | rfl | decide +kernel | (k_keys; done))
    (case x_NoLine => first | k_is | ks_is | rfl | decide +kernel | (k_keys; done))
    (case sa_NoLine => first | k_is | ks_is | rfl | decide +kernel | (k_keys; done))
    (case ga_NoLine => first | k_is | ks_is | rfl | decide +kernel | (k_keys; done))
    (case gg_NoLine => first | k_is | ks_is | rfl | decide +kernel | (k_keys; done))
    (case nf_NoLine => first | k_is | ks_is | rfl | decide +kernel | (k_keys; done))
    (case ic_NoLine => first | k_is | ks_is | rfl | decide +kernel | (k_keys; done))
    (case ha_NoLine => first | k_is | ks_is | rfl | decide +kernel | (k_keys; done))
    (case tf__NoLine => first | k_is | ks_is | rfl | decide +kernel | (k_keys; done))
    (case kc_NoLine => first | k_is | ks_is | rfl | decide +kernel | (k_keys; done))
    (case ex_NoLine => first | k_is | ks_is | rfl | decide +kernel | (k_keys; done))
    (case ty_NoLine => first | k_is | ks_is | rfl | decide +kernel | (k_keys; done))
    (case hd_NoLine => first | k_is | ks_is | rfl | decide +kernel | (k_keys; done))
    (case ss_NoLine => first | k_is | ks_is | rfl | decide +kernel | (k_keys; done))
    (case qi_NoLine => first | k_is | ks_is | rfl | decide +kernel | (k_keys; done))
    (case ve_NoLine => first | k_is | ks_is | rfl | decide +kernel | (k_keys; done))
    (case mr_NoLine => first | k_is | ks_is | rfl | decide +kernel | (k_keys; done))
    (case mo_NoLine => first | k_is | ks_is | rfl | decide +kernel | (k_keys; done))
    (case su_NoLine => first | k_is | ks_is | rfl | decide +kernel | (k_keys; done))
    (case l_NoLine => first | k_is | ks_is | rfl | decide +kernel | (k_keys; done))
    (case c_NoLine => first | k_is | ks_is | rfl | decide +kernel | (k_keys; done))
    (case lc_NoLine => first | k_is | ks_is | rfl | decide +kernel | (k_keys; done))
    (case vv_NoLine => first | k_is | ks_is | rfl | decide +kernel | (k_keys; done))
    (case ff_NoLine => first | k_is | ks_is | rfl | decide +kernel | (k_keys; done))
    (case cl__NoLine => first | k_is | ks_is | rfl | decide +kernel | (k_keys; done))
    (case q1_Script => first | k_is | ks_is | rfl | decide +kernel | (k_keys; done))
    (case q2_Script => first | k_is | ks_is | rfl | decide +kernel | (k_keys; done))
    (case q3_Script => first | k_is | ks_is | rfl | decide +kernel | (k_keys; done))
    (case q4_Script => first | k_is | ks_is | rfl | decide +kernel | (k_keys; done))


