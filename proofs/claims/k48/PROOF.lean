import PyProof.Rows.All
import Wide.All
import OpenK.AllK
import Wide.FinOn
import HandS.Base
import HandS.Call
import HandS.List
import HandS.Comp
import HandS.Dict
import HandS.Iter
import HandS.Text
import HandS.TupAny
import HandS.Wide
import HandS.Deep
import HandS.Style
import HandS.ForMost
import HandS.IsInst
import HandS.Defaults
import HandS.MakeKw
import HandS.Conv
import OpenK.KMeth
import OpenK.KOps
import KE.GoesMore
import KE.GoesEnum
import HandS.MakeKwOnly
import HandS.Walk
import HandS.Exc
import KE.KExcSuper
import HandS.ExcOwn
import HandS.WordsExc
import HandS.ExcIs
import KE.DataFind
import HandS.More
import PySem.Challenge.RW_yearturned_k48_what_is_still_wanted
import HandS.EndBits
import HandS.Ends
set_option Elab.async false
set_option linter.all false
set_option maxRecDepth 100000
namespace Y
open PySem L2
/-! frames -/
abbrev VL := List V → Hp → Prop
def fOp1 (r : R2) (tb : TE) (σ : St) (Q : VK) : VK := fun x H => tb σ H fun y H2 => r x y H2 Q
def fOp2 (r : R2) (x : V) (Q : VK) : VK := fun y H => r x y H Q
def fUn (r : V → Hp → VK → Prop) (Q : VK) : VK := fun x H => r x H Q
def fFld (K : PySem.W.Frag) (f : Str) (Q : VK) : VK := fun x H1 => ∃ a C dx fs v, x = .ref a ∧ H1 a = some (.ins C dx fs) ∧ Cls K C ∧ NoAttr K C f ∧ fs.lookup f = some v ∧ Q v H1
def fTup (Q : VK) : VL := fun xs H1 => xs.length ≤ sizeLine ∧ ∀ p, H1 p = none → Q (.ref p) (upd H1 p (.tup xs))
def fLst (Q : VK) : VL := fun xs H1 => xs.length ≤ sizeLine ∧ ∀ p, H1 p = none → Q (.ref p) (upd H1 p (.lst xs))
def fCons (tr : TA) (σ : St) (Q : VL) : VK := fun x H1 => tr σ H1 fun xs H2 => Q (x :: xs) H2
def fCons2 (x : V) (Q : VL) : VL := fun xs H2 => Q (x :: xs) H2
def fCall (sp : Sp) (dvs : List V) (E : XK) (Q : VK) : VL := fun vs H1 => sp (vs ++ dvs) H1 Q E
def fCB (r : List V → Hp → VK → Prop) (Q : VK) : VL := fun vs H1 => r vs H1 Q
def fMeth (C : Addr) (m : Str) (sp : Sp) (dvs : List V) (E : XK) (t : TA) (σ : St) (Q : VK) : VK := fun x H1 => ∃ a dx fs, x = .ref a ∧ H1 a = some (.ins C dx fs) ∧ fs.lookup m = none ∧ t σ H1 fun vs H2 => sp (.ref a :: (vs ++ dvs)) H2 Q E
def fMake (C : Addr) (sp : Sp) (dvs : List V) (E : XK) (Q : VK) : VL := fun vs H1 => ∀ x dx, H1 x = none → H1 dx = none → dx ≠ x →
  sp (.ref x :: (vs ++ dvs)) (upd (upd H1 dx (.own x)) x (.ins C dx [])) (fun v H2 => v = .non ∧ Q (.ref x) H2) E
def fB (Q : Bool → Hp → Prop) : VK := fun x H1 => ∃ c, x = .bl c ∧ Q c H1
def fIf (ta tb : TE) (σ : St) (Q : VK) : Bool → Hp → Prop := fun c H1 => if c = true then ta σ H1 Q else tb σ H1 Q
def fIfS (t u : TS) (D : Ends) (σ : St) : Bool → Hp → Prop := fun b H1 => if b = true then t D σ H1 else u D σ H1
def fAnd (u : TT) (σ : St) (Q : Bool → Hp → Prop) : Bool → Hp → Prop := fun c H1 => if c = true then u σ H1 Q else Q false H1
def fOr (u : TT) (σ : St) (Q : Bool → Hp → Prop) : Bool → Hp → Prop := fun c H1 => if c = true then Q true H1 else u σ H1 Q
def fNot (Q : Bool → Hp → Prop) : Bool → Hp → Prop := fun c H1 => Q (!c) H1
def fAndV (tb : TE) (σ : St) (Q : VK) : VK := fun x H1 => ∃ c, x = .bl c ∧ if c = true then tb σ H1 Q else Q (.bl false) H1
def fOrV (tb : TE) (σ : St) (Q : VK) : VK := fun x H1 => ∃ c, x = .bl c ∧ if c = true then Q (.bl true) H1 else tb σ H1 Q
def fNotV (Q : VK) : VK := fun x H1 => ∃ c, x = .bl c ∧ Q (.bl (!c)) H1
def fDrop (nx : St → Hp → Prop) (σ : St) : VK := fun _ H1 => nx σ H1
def fAsg (g : TG) (σ : St) (nx : St → Hp → Prop) : VK := fun x H1 => g x σ H1 nx
def fPart (Q : Option Int → Hp → Prop) : VK := fun x H1 => ∃ i, x = .int i ∧ Q (some i) H1
def fSl1 (r : V → Option Int → Option Int → Hp → VK → Prop) (tl th : TO) (σ : St) (Q : VK) : VK := fun x H1 => tl σ H1 fun l H2 => th σ H2 fun u H3 => r x l u H3 Q
def fSl2 (r : V → Option Int → Option Int → Hp → VK → Prop) (x : V) (th : TO) (σ : St) (Q : VK) : Option Int → Hp → Prop := fun l H2 => th σ H2 fun u H3 => r x l u H3 Q
def fSl3 (r : V → Option Int → Option Int → Hp → VK → Prop) (x : V) (l : Option Int) (Q : VK) : Option Int → Hp → Prop := fun u H3 => r x l u H3 Q
section
variable {K : PySem.W.Frag} {σ : St} {H : Hp} {Q : VK} {QT : Bool → Hp → Prop} {r : R2} {ta tb tc : TE} {t u : TT} {v : V} {f m : Str} {tl tr : TA} {sp : Sp} {dvs : List V} {E : XK} {C : Addr} {QL : VL} {D : Ends} {nx : St → Hp → Prop} {rt : VK} {bk ct : St → Hp → Prop} {s1 s2 : TS} {g : TG} {i : Nat}
theorem e_C : tC v σ H Q = Q v H := rfl
theorem e_var0 {x : V} {l : St} : tVar 0 (some x :: l) H Q = Q x H := by
  show (∃ v, (some x :: l)[0]? = some (some v) ∧ Q v H) = Q x H
  simp
theorem e_varS {x : Option V} {l : St} {n : Nat} : tVar (n + 1) (x :: l) H Q = tVar n l H Q := by
  show (∃ v, (x :: l)[n + 1]? = some (some v) ∧ Q v H) = (∃ v, l[n]? = some (some v) ∧ Q v H)
  simp
theorem e_op : tOp r ta tb σ H Q = ta σ H (fOp1 r tb σ Q) := rfl
theorem e_op1 : fOp1 r tb σ Q v H = tb σ H (fOp2 r v Q) := rfl
theorem e_un {r : V → Hp → VK → Prop} : tUn r ta σ H Q = ta σ H (fUn r Q) := rfl
theorem e_fld : tFld K ta f σ H Q = ta σ H (fFld K f Q) := rfl
theorem e_tup : tTup tl σ H Q = tl σ H (fTup Q) := rfl
theorem e_lst : tLst tl σ H Q = tl σ H (fLst Q) := rfl
theorem e_cons : tCons ta tr σ H QL = ta σ H (fCons tr σ QL) := rfl
theorem e_cons1 : fCons tr σ QL v H = tr σ H (fCons2 v QL) := rfl
theorem e_cons2 {xs : List V} : fCons2 v QL xs H = QL (v :: xs) H := rfl
theorem e_nil : tNil σ H QL = QL [] H := rfl
theorem e_call : tCall sp dvs E tl σ H Q = tl σ H (fCall sp dvs E Q) := rfl
theorem e_call1 {vs : List V} : fCall sp [] E Q vs H = sp vs H Q E := by
  show sp (vs ++ []) H Q E = _
  rw [List.append_nil]
theorem e_CB {r : List V → Hp → VK → Prop} : tCB r tl σ H Q = tl σ H (fCB r Q) := rfl
theorem e_CB1 {r : List V → Hp → VK → Prop} {vs : List V} : fCB r Q vs H = r vs H Q := rfl
theorem e_meth : tMeth C m sp dvs E ta tl σ H Q = ta σ H (fMeth C m sp dvs E tl σ Q) := by
  unfold tMeth fMeth
  congr 1
  funext x H1
  apply propext
  constructor
  · rintro ⟨a, dx, fs, rfl, h1, h2, h3⟩
    exact ⟨a, dx, fs, rfl, h1, h2, h3⟩
  · rintro ⟨a, dx, fs, rfl, h1, h2, h3⟩
    exact ⟨a, dx, fs, rfl, h1, h2, h3⟩
theorem e_make : tMake C sp dvs E tl σ H Q = tl σ H (fMake C sp dvs E Q) := rfl
theorem e_B : tB ta σ H QT = ta σ H (fB QT) := rfl
theorem e_test : tTest ta σ H QT = ta σ H (fB QT) := rfl
theorem e_B1 {b : Bool} : fB QT (.bl b) H = QT b H := by
  apply propext
  constructor
  · rintro ⟨c, h, q⟩
    cases h
    exact q
  · exact fun q => ⟨b, rfl, q⟩
theorem e_if : tIf t ta tb σ H Q = t σ H (fIf ta tb σ Q) := rfl
theorem e_if1 {c : Bool} : fIf ta tb σ Q c H = (if c = true then ta σ H Q else tb σ H Q) := rfl
theorem e_ifS : tIfS t s1 s2 D σ H = t σ H (fIfS s1 s2 D σ) := rfl
theorem e_ifS1 {c : Bool} : fIfS s1 s2 D σ c H = (if c = true then s1 D σ H else s2 D σ H) := rfl
theorem e_and : tAnd t u σ H QT = t σ H (fAnd u σ QT) := rfl
theorem e_and1 : fAnd u σ QT true H = u σ H QT := rfl
theorem e_and0 : fAnd u σ QT false H = QT false H := rfl
theorem e_or : tOr t u σ H QT = t σ H (fOr u σ QT) := rfl
theorem e_or1 : fOr u σ QT true H = QT true H := rfl
theorem e_or0 : fOr u σ QT false H = u σ H QT := rfl
theorem e_not : tNot t σ H QT = t σ H (fNot QT) := rfl
theorem e_not1 {c : Bool} : fNot QT c H = QT (!c) H := rfl
theorem e_andV : tAndV ta tb σ H Q = ta σ H (fAndV tb σ Q) := rfl
theorem e_andV1 : fAndV tb σ Q (.bl true) H = tb σ H Q := propext ⟨fun ⟨c, h, q⟩ => by cases h; exact q, fun q => ⟨true, rfl, q⟩⟩
theorem e_andV0 : fAndV tb σ Q (.bl false) H = Q (.bl false) H := propext ⟨fun ⟨c, h, q⟩ => by cases h; exact q, fun q => ⟨false, rfl, q⟩⟩
theorem e_orV : tOrV ta tb σ H Q = ta σ H (fOrV tb σ Q) := rfl
theorem e_orV1 : fOrV tb σ Q (.bl true) H = Q (.bl true) H := propext ⟨fun ⟨c, h, q⟩ => by cases h; exact q, fun q => ⟨true, rfl, q⟩⟩
theorem e_orV0 : fOrV tb σ Q (.bl false) H = tb σ H Q := propext ⟨fun ⟨c, h, q⟩ => by cases h; exact q, fun q => ⟨false, rfl, q⟩⟩
theorem e_notV : tNotV ta σ H Q = ta σ H (fNotV Q) := rfl
theorem e_notV1 {b : Bool} : fNotV Q (.bl b) H = Q (.bl (!b)) H := propext ⟨fun ⟨c, h, q⟩ => by cases h; exact q, fun q => ⟨b, rfl, q⟩⟩
theorem e_seq : tSeq s1 s2 ⟨nx, rt, bk, ct⟩ σ H = s1 ⟨s2 ⟨nx, rt, bk, ct⟩, rt, bk, ct⟩ σ H := rfl
theorem e_next : tNext ⟨nx, rt, bk, ct⟩ σ H = nx σ H := rfl
theorem e_break : tBreak ⟨nx, rt, bk, ct⟩ σ H = bk σ H := rfl
theorem e_cont : tCont ⟨nx, rt, bk, ct⟩ σ H = ct σ H := rfl
theorem e_drop : tDrop ta ⟨nx, rt, bk, ct⟩ σ H = ta σ H (fDrop nx σ) := rfl
theorem e_drop1 : fDrop nx σ v H = nx σ H := rfl
theorem e_ret : tRet ta ⟨nx, rt, bk, ct⟩ σ H = ta σ H rt := rfl
theorem e_retN : tRetN ⟨nx, rt, bk, ct⟩ σ H = rt .non H := rfl
theorem e_asg : tAsg ta g ⟨nx, rt, bk, ct⟩ σ H = ta σ H (fAsg g σ nx) := rfl
theorem e_name : fAsg (gName i) σ nx v H = nx (σ.set i (some v)) H := rfl
theorem e_part : tPart ta σ H = fun q => ta σ H (fPart q) := rfl
theorem e_part1 {q : Option Int → Hp → Prop} {j : Int} : fPart q (.int j) H = q (some j) H := propext ⟨fun ⟨c, h, q⟩ => by cases h; exact q, fun q => ⟨j, rfl, q⟩⟩
theorem e_noPart {q : Option Int → Hp → Prop} : tNoPart σ H q = q none H := rfl
theorem e_sl {r : V → Option Int → Option Int → Hp → VK → Prop} {tl th : TO} : tSl r ta tl th σ H Q = ta σ H (fSl1 r tl th σ Q) := rfl
theorem e_sl1 {r : V → Option Int → Option Int → Hp → VK → Prop} {tl th : TO} : fSl1 r tl th σ Q v H = tl σ H (fSl2 r v th σ Q) := rfl
theorem e_sl2 {r : V → Option Int → Option Int → Hp → VK → Prop} {th : TO} {o : Option Int} : fSl2 r v th σ Q o H = th σ H (fSl3 r v o Q) := rfl
theorem e_sl3 {r : V → Option Int → Option Int → Hp → VK → Prop} {o o2 : Option Int} : fSl3 r v o Q o2 H = r v o o2 H Q := rfl
end
end Y

set_option Elab.async false
set_option linter.all false
set_option maxRecDepth 100000
namespace Y
open PySem L2
/-! ### operators whatever their operands are -/
def rAddU (K : PySem.W.Frag) : R2 := fun x y H Q => match x, y with
  | .int i, .int j => Q (.int (i + j)) H
  | .str a, .str b => a.length + b.length ≤ sizeLine ∧ Q (.str (a ++ b)) H
  | .ref a, .ref b => rCatA K (.ref a) (.ref b) H Q ∨ rCat (.ref a) (.ref b) H Q
  | _, _ => False
theorem op_addU {X : Cx} : OpR X (binaryOp .Add) (rAddU X.K) := by
  intro pins s σ H x y v u Q I rx ry h
  unfold rAddU at h
  split at h
  · exact op_add pins s σ H _ _ v u Q I rx ry ⟨_, _, rfl, rfl, h⟩
  · exact op_add_str pins s σ H _ _ v u Q I rx ry ⟨_, _, rfl, rfl, h.1, h.2⟩
  · rcases h with h | h
    · exact op_catA pins s σ H _ _ v u Q I rx ry h
    · exact op_cat pins s σ H _ _ v u Q I rx ry h
  · exact h.elim
/-- * of two factors of together at most a hundred million bits -/
def CMulX (i j : Int) : Prop := Builtin.Int.intBits i + Builtin.Int.intBits j ≤ 100000000
theorem CMulX.ok {i j : Int} (h : CMulX i j) : IntMulOk i j := by
  have h' : Builtin.Int.intBits i + Builtin.Int.intBits j ≤ 100000000 := h
  have e : bitsLine = 134217728 := by decide
  unfold IntMulOk
  intro z
  rw [Bool.and_eq_true] at z
  have z2 := z.2
  unfold Builtin.Int.intTooBig at z2
  have z3 := of_decide_eq_true z2
  rw [e] at z3
  omega
theorem op_mulX {X : Cx} : OpR X (binaryOp .Mult) (rI CMulX fun i j => .int (i * j)) := opI fun _ _ _ _ _ _ _ hc q => PyProof.Rows.mul_int q hc.ok
theorem bits_lt {i : Int} {a : Nat} (ha : i.natAbs < 2 ^ a) (h0 : 0 < a) : Builtin.Int.intBits i ≤ a := by
  have x := PySem.Flt.log2_lt_of h0 ha
  unfold Builtin.Int.intBits
  split <;> omega
theorem mulX {i j : Int} {a b : Nat} (ha : i.natAbs < 2 ^ a) (hb : j.natAbs < 2 ^ b) (h0 : 0 < a) (h1 : 0 < b) (h : a + b ≤ 100000000) : CMulX i j := by
  have x := bits_lt ha h0
  have y := bits_lt hb h1
  unfold CMulX
  omega
def rMulU : R2 := fun x y H Q => match x, y with
  | .int i, .int j => CMulX i j ∧ Q (.int (i * j)) H
  | .ref a, .int k => rRep (.ref a) (.int k) H Q
  | _, _ => False
theorem op_mulU {X : Cx} : OpR X (binaryOp .Mult) rMulU := by
  intro pins s σ H x y v u Q I rx ry h
  unfold rMulU at h
  split at h
  · exact op_mulX pins s σ H _ _ v u Q I rx ry ⟨_, _, rfl, rfl, h.1, h.2⟩
  · exact op_rep pins s σ H _ _ v u Q I rx ry h
  · exact h.elim
/-- a power of at most 2 ^ 27 bits -/
def CPowW (i j : Int) : Prop := 0 ≤ j ∧ ((i.natAbs.log2 : Int) + 1) * j ≤ 134217728
theorem op_powW {X : Cx} : OpR X (binaryOp .Pow) (rI CPowW fun i j => .int (i ^ j.toNat)) := opI fun i j _ _ _ _ _ hc q => by
  refine PyProof.Rows.pow_int hc.1 ?_ q
  have b : Builtin.Int.intBits i ≤ i.natAbs.log2 + 1 := by
    unfold Builtin.Int.intBits
    split <;> omega
  have h0 : (Builtin.Int.intBits i : Int) ≤ (i.natAbs.log2 : Int) + 1 := by omega
  have h1 : (Builtin.Int.intBits i : Int) * j ≤ ((i.natAbs.log2 : Int) + 1) * j := Int.mul_le_mul_of_nonneg_right h0 hc.1
  have := hc.2
  omega
/-- what the rules of great numbers ask, from bounds -/
theorem powW {i j : Int} {b : Nat} (h0 : 0 ≤ j) (hb : i.natAbs < 2 ^ b) (hp : 0 < b) (h : (b : Int) * j ≤ 134217728) : CPowW i j := by
  have x := PySem.Flt.log2_lt_of hp hb
  refine ⟨h0, ?_⟩
  have h1 : (i.natAbs.log2 : Int) + 1 ≤ (b : Int) := by omega
  have h2 : ((i.natAbs.log2 : Int) + 1) * j ≤ (b : Int) * j := Int.mul_le_mul_of_nonneg_right h1 h0
  omega
def rEqU (K : PySem.W.Frag) : R2 := fun x y H Q => rEq x y H Q ∨ rEqD K x y H Q
def rNeU (K : PySem.W.Frag) : R2 := fun x y H Q => rNe x y H Q ∨ rNeD K x y H Q
theorem op_eqU {X : Cx} (hu : X.A.units + 65 < cLine) : OpR X (compareOp .Eq) (rEqU X.K) := by
  intro pins s σ H x y v u Q I rx ry h
  rcases h with h | h
  · exact op_eq pins s σ H _ _ v u Q I rx ry h
  · exact op_eqD (by omega) pins s σ H _ _ v u Q I rx ry h
theorem op_neU {X : Cx} (hu : X.A.units + 65 < cLine) : OpR X (compareOp .NotEq) (rNeU X.K) := by
  intro pins s σ H x y v u Q I rx ry h
  rcases h with h | h
  · exact op_ne pins s σ H _ _ v u Q I rx ry h
  · exact op_neD (by omega) pins s σ H _ _ v u Q I rx ry h
/-- x in t, t a tuple of data -/
def rInT (K : PySem.W.Frag) : R2 := fun x y H Q => ∃ d ds, Dp K H x d ∧ Dp K H y (.tuple ds) ∧ SeqAt.shaped d = true ∧ SeqAt.shaped (.tuple ds) = true ∧ Q (.bl (ds.any fun z => PyData.eqv z d)) H
theorem op_inT {X : Cx} (hu : X.A.units + 65 < cLine) : OpR X (compareOp .In) (rInT X.K) := by
  intro pins s σ H x y v u Q I rx ry h
  obtain ⟨d, ds, hd, he, sd, se, q⟩ := h
  obtain ⟨as, r1⟩ := Dp.reads I d x v hd rx
  obtain ⟨bs, r2⟩ := Dp.reads I (.tuple ds) y u he ry
  exact SeqAt.in_tuple_reads r2 r1 (SeqAt.canLay_of_shaped se) (SeqAt.canLay_of_shaped sd) (PyProof.Rows.room_in_shaped sd hu) ⟨.bl _, H, I, rfl, q⟩
def rInU (K : PySem.W.Frag) : R2 := fun x y H Q => rIn K false x y H Q ∨ rInT K x y H Q ∨ rInD K x y H Q
theorem op_inU {X : Cx} (hu : X.A.units + 65 < cLine) : OpR X (compareOp .In) (rInU X.K) := by
  intro pins s σ H x y v u Q I rx ry h
  rcases h with h | h | h
  · exact op_in_seq pins s σ H _ _ v u Q I rx ry h
  · exact op_inT hu pins s σ H _ _ v u Q I rx ry h
  · exact op_inD hu pins s σ H _ _ v u Q I rx ry h
theorem hu65 {A : Around} {k : Nat} (hr : Room k A) : A.units + 65 < cLine := by
  have := hr.un
  omega
end Y

set_option Elab.async false
set_option linter.all false
set_option maxRecDepth 100000
namespace Y
open PySem L2
/-! ### names of Python's own -/
theorem b_len : bootBuiltins "len" = some (.builtin "len") := by decide +kernel
theorem b_abs : bootBuiltins "abs" = some (.builtin "abs") := by decide +kernel
theorem b_isinstance : bootBuiltins "isinstance" = some (.builtin "isinstance") := by decide +kernel
theorem b_all : bootBuiltins "all" = some (.builtin "all") := by decide +kernel
theorem b_any : bootBuiltins "any" = some (.builtin "any") := by decide +kernel
theorem b_max : bootBuiltins "max" = some (.builtin "max") := by decide +kernel
theorem b_min : bootBuiltins "min" = some (.builtin "min") := by decide +kernel
theorem b_int : bootBuiltins "int" = some (.type "int") := by decide +kernel
theorem b_bool : bootBuiltins "bool" = some (.type "bool") := by decide +kernel
theorem b_str : bootBuiltins "str" = some (.type "str") := by decide +kernel
theorem b_tuple : bootBuiltins "tuple" = some (.type "tuple") := by decide +kernel
theorem b_list : bootBuiltins "list" = some (.type "list") := by decide +kernel
theorem b_dict : bootBuiltins "dict" = some (.type "dict") := by decide +kernel
/-! ### is, is not -/
def rIsU (neg : Bool) : R2 := fun x y H Q => match x, y with
  | x, .non => Q (.bl (if neg then !decide (x = .non) else decide (x = .non))) H
  | .bl a, .bl b => Q (.bl (if neg then !decide (a = b) else decide (a = b))) H
  | _, _ => False
/-! ### len -/
def rLenU (K : PySem.W.Frag) : List V → Hp → VK → Prop := fun xs H Q => match xs with
  | [.str z] => z.length ≤ sizeLine ∧ Q (.int z.length) H
  | [.ref a] => (∃ ys, (SqL K H a ys ∨ SqT K H a ys) ∧ Q (.int ys.length) H) ∨ ∃ kvs, H a = some (.dK kvs) ∧ Q (.int kvs.length) H
  | _ => False
theorem call_lenU {X : Cx} : CallR X (.builtin "len") (rLenU X.K) := by
  intro pins s σ H xs us Q I r h
  unfold rLenU at h
  split at h
  · exact call_len pins s σ H _ us Q I r ⟨_, _, rfl, ⟨h.1, rfl⟩, h.2⟩
  · rcases h with ⟨ys, hq, q⟩ | ⟨kvs, hq, q⟩
    · exact call_len_seq pins s σ H _ us Q I r ⟨_, ys, rfl, hq, q⟩
    · exact call_lenD pins s σ H _ us Q I r ⟨_, kvs, rfl, hq, q⟩
  · exact h.elim
/-! ### isinstance -/
def rIsiU (K : PySem.W.Frag) : List V → Hp → VK → Prop := fun xs H Q => rIsi K xs H Q ∨ rIsiT K xs H Q
theorem call_isiU {X : Cx} : CallR X (.builtin "isinstance") (rIsiU X.K) := by
  intro pins s σ H xs us Q I r h
  rcases h with h | h
  · exact call_isi pins s σ H _ us Q I r h
  · exact call_isiT pins s σ H _ us Q I r h
/-! ### slices -/
def rSlU (K : PySem.W.Frag) : V → Option Int → Option Int → Hp → VK → Prop := fun x lo hi H Q => rSlA K x lo hi H Q ∨ rSlL K x lo hi H Q
/-! ### a method of one's own behind an operator -/
section
variable {X : Cx} {CX : CXT} {k : Nat} {f C : Addr} {fd : FuncData} {ps : List Str} {sp : Sp} {E : XK}
/-- x in o, o an instance with its own __contains__ -/
def rInO (C : Addr) (sp : Sp) (E : XK) : R2 := fun x y H Q => ∃ a dx fs, y = .ref a ∧ H a = some (.ins C dx fs) ∧ sp [.ref a, x] H (fun v H' => ∃ b, v = .bl b ∧ Q (.bl b) H') E
theorem op_inO (hs : PySem.W.findIn X.K (.ref C) "__contains__" = some (some (.ref f))) (hf : PySem.W.isFn X.K (.ref f) = true) (F : FnOk X.prog X.w X.K X.mg X.base CX k f fd ps sp) (hr : Room k X.A) (hb : Binds X.K fd ps []) (hx : Passes CX X E) :
    OpR X (compareOp .In) (rInO C sp E) := by
  intro pins s σ H x y v u Q I rx ry h
  obtain ⟨a, dx, fs, rfl, ha, q⟩ := h
  obtain rfl : u = Value.ref a := ry
  obtain ⟨mA, O, _⟩ := ins_get I.hok ha
  obtain ⟨od, J, _⟩ := O.look
  obtain ⟨m, fr⟩ := I.fr
  refine PySem.W.in_K fr I.ok.mod.kin J hs hf ?_
  refine thn (run_fn (us := [.ref a, v]) (vs := [.ref a, x]) (dvs := []) (ds := []) F hr hb .nil hx I (.cons rfl (.cons rx .nil)) q) fun w s1 ⟨z, H1, I1, rz, b, ez, q1⟩ => ?_
  subst ez
  cases rz
  exact wpAny_truthy_bool ⟨.bl b, H1, I1, rfl, q1⟩
/-- the callee runs, at an around of the same frames -/
theorem run_fnA {A : Around} {pins : List (Addr × Obj)} {σ : St} {H : Hp} {s : Shared} {Q : VK} {us : List Value} {vs : List V} (hf : A.frames = X.A.frames) (F : FnOk X.prog X.w X.K X.mg X.base CX k f fd ps sp) (hr : Room k A) (hb : Binds X.K fd ps []) (hx : Passes CX X E)
    (I : Inv X pins σ H s) (r : Vals vs us) (h : sp vs H Q E) : wpAny (model X.prog X.w) A (call (.ref f) us) (EP X pins σ Q) X.xe s := by
  have hl : (us ++ []).length = ps.length := by rw [List.append_nil, ← r.length]; exact F.len _ _ _ _ h
  have e := I.env0
  have e0 : Env0 X.prog X.w X.K X.mg X.base A X.stack s H := ⟨by rw [hf]; exact e.frames, e.mod, e.bs, e.bsz, e.funs, e.frf, e.hok, e.bare⟩
  have hb' := hb s us I.kIn hl
  rw [List.append_nil] at hb'
  refine wpAny_call (codeAny_mono (F.run A X.stack s H ⟨us, []⟩ us vs Q E hr e0 hb' r h) fun r s' hq => ?_)
  cases r with
  | error e => exact hx pins σ H s e s' I hq
  | ok fl =>
    cases fl with
    | ret u => exact I.after hq
    | next => exact False.elim hq
    | brk => exact False.elim hq
    | cont => exact False.elim hq
/-- o[i], o an instance with its own __getitem__ -/
def rIxO (C : Addr) (sp : Sp) (E : XK) : R2 := fun x y H Q => ∃ a dx fs, x = .ref a ∧ H a = some (.ins C dx fs) ∧ sp [.ref a, y] H Q E
theorem pe_ixO {a b : Expr} {ta tb : TE} {pos : Pos} (hs : PySem.W.findIn X.K (.ref C) "__getitem__" = some (some (.ref f))) (hf : PySem.W.isFn X.K (.ref f) = true) (hn : PySem.W.fnIn X.K f = true) (F : FnOk X.prog X.w X.K X.mg X.base CX k f fd ps sp) (hr : Room (k + 1) X.A) (hb : Binds X.K fd ps [])
    (hx : Passes CX X E) (ha : PE X a ta) (hi : PE X b tb) (hsl : ∀ o i, subscripted b true o i = runValue (.builtin "lifetime.subscript" ⟨[o, i], []⟩) := by intro _ _; with_unfolding_all rfl) :
    PE X (.Subscript a b pos) (tOp (rIxO C sp E) ta tb) := by
  refine ⟨fun pins s σ H Q I h => ?_⟩
  refine PyProof.Rows.Subscript_ (binT ha hi I h fun v u s2 x y H2 I2 rx ry q => ?_)
  obtain ⟨o, dx, fs, rfl, ho, q⟩ := q
  obtain rfl : v = Value.ref o := rx
  obtain ⟨mA, O, _⟩ := ins_get I2.hok ho
  obtain ⟨od, J, _⟩ := O.look
  obtain ⟨m, fr⟩ := I2.fr
  exact PySem.W.sub_K fr I2.ok.mod.kin J hs hn hf (run_fnA (A := X.A.in1) (vs := [.ref o, y]) rfl F hr.in1 hb hx I2 (.cons rfl (.cons ry .nil)) q) (hsl _ _)
/-- len(o), o an instance with its own __len__ -/
def rLenO (C : Addr) (sp : Sp) (E : XK) : List V → Hp → VK → Prop := fun xs H Q => ∃ a dx fs, xs = [.ref a] ∧ H a = some (.ins C dx fs) ∧ sp [.ref a] H (fun v H' => ∃ n : Nat, v = .int n ∧ n < 2 ^ 63 ∧ Q (.int n) H') E
theorem call_lenO (hs : PySem.W.findIn X.K (.ref C) "__len__" = some (some (.ref f))) (hf : PySem.W.isFn X.K (.ref f) = true) (F : FnOk X.prog X.w X.K X.mg X.base CX k f fd ps sp) (hr : Room (k + 1) X.A) (hb : Binds X.K fd ps []) (hx : Passes CX X E) :
    CallR X (.builtin "len") (rLenO C sp E) := by
  intro pins s σ H xs us Q I r h
  obtain ⟨a, dx, fs, rfl, ha, q⟩ := h
  obtain ⟨u, rfl, rx⟩ := vals1 r
  obtain rfl : u = Value.ref a := rx
  obtain ⟨mA, O, _⟩ := ins_get I.hok ha
  obtain ⟨od, J, _⟩ := O.look
  obtain ⟨m, fr⟩ := I.fr
  refine PySem.W.len_K fr I.ok.mod.kin J hs hf (thn (run_fnA (A := X.A.in1) (vs := [.ref a]) rfl F hr.in1 hb hx I (.cons rfl .nil) q) fun w s1 ⟨z, H1, I1, rz, n, ez, hn, q1⟩ => ?_)
  subst ez
  obtain ⟨t, rfl⟩ := rz
  exact ⟨⟨by omega, by omega⟩, .int n, H1, I1.tok _, ⟨_, rfl⟩, q1⟩
/-- o + p, both instances of the class at C, with its own __add__ -/
def rAddO (C : Addr) (sp : Sp) (E : XK) : R2 := fun x y H Q => ∃ a b dx dy fs gs, x = .ref a ∧ y = .ref b ∧ H a = some (.ins C dx fs) ∧ H b = some (.ins C dy gs) ∧ sp [.ref a, .ref b] H Q E
theorem op_addO (hs : PySem.W.findIn X.K (.ref C) "__add__" = some (some (.ref f))) (hf : PySem.W.isFn X.K (.ref f) = true) (hc : PySem.W.selfFirst X.K C = true) (F : FnOk X.prog X.w X.K X.mg X.base CX k f fd ps sp) (hr : Room k X.A) (hb : Binds X.K fd ps []) (hx : Passes CX X E) :
    OpR X (binaryOp .Add) (rAddO C sp E) := by
  intro pins s σ H x y v u Q I rx ry h
  obtain ⟨a, b, dx, dy, fs, gs, rfl, rfl, ha, hb', q⟩ := h
  obtain rfl : v = Value.ref a := rx
  obtain rfl : u = Value.ref b := ry
  obtain ⟨mA, O, _⟩ := ins_get I.hok ha
  obtain ⟨od, J, _⟩ := O.look
  obtain ⟨mB, O', _⟩ := ins_get I.hok hb'
  obtain ⟨od', J', _⟩ := O'.look
  obtain ⟨m, fr⟩ := I.fr
  refine PySem.W.binop_K (op := .Add) fr I.ok.mod.kin J J'.type hc hs hf (thn (run_fnA (A := X.A) (vs := [.ref a, .ref b]) rfl F hr hb hx I (.cons rfl (.cons rfl .nil)) q) fun w s1 hw => ?_)
  obtain ⟨z, H1, I1, rz, q1⟩ := hw
  have nn : w ≠ .notImplemented := by
    intro e
    subst e
    cases z <;> first
      | exact nomatch (show Value.notImplemented = _ from rz)
      | (obtain ⟨t, e⟩ := rz; cases e)
  cases w <;> first
    | exact absurd rfl nn
    | exact ⟨z, H1, I1, rz, q1⟩
end
/-! ### is, is not; slices -/
section
variable {X : Cx}
theorem op_isU : OpR X (compareOp .Is) (rIsU false) := by
  intro pins s σ H x y v u Q I rx ry h
  unfold rIsU at h
  split at h
  · exact op_isN pins s σ H _ _ v u Q I rx ry ⟨rfl, by simpa using h⟩
  · exact op_isBl pins s σ H _ _ v u Q I rx ry ⟨_, _, rfl, rfl, by simpa using h⟩
  · exact h.elim
theorem op_isNotU : OpR X (compareOp .IsNot) (rIsU true) := by
  intro pins s σ H x y v u Q I rx ry h
  unfold rIsU at h
  split at h
  · exact op_notN pins s σ H _ _ v u Q I rx ry ⟨rfl, by simpa using h⟩
  · exact op_notBl pins s σ H _ _ v u Q I rx ry ⟨_, _, rfl, rfl, by simpa using h⟩
  · exact h.elim
theorem sl_U : SlR X (rSlU X.K) := SlR.or sl_tupA sl_list
end
end Y

set_option Elab.async false
set_option linter.all false
set_option maxRecDepth 100000
namespace Y
open PySem L2
theorem pe_gint {X : Cx} {x : Str} {i : Int} {pos : Pos} (hg : Gl X x) (hm : ∃ t, X.mg x = some (.int i t)) (hd : (x == ("__debug__" : Str)) = false := by decide) : PE X (.Name x pos) (tC (.int i)) := by
  obtain ⟨t, e⟩ := hm
  exact pe_glob hg e ⟨t, rfl⟩ hd
theorem pe_gstr {X : Cx} {x : Str} {i : Str} {pos : Pos} (hg : Gl X x) (hm : ∃ t, X.mg x = some (.str i t)) (hd : (x == ("__debug__" : Str)) = false := by decide) : PE X (.Name x pos) (tC (.str i)) := by
  obtain ⟨t, e⟩ := hm
  exact pe_glob hg e ⟨t, rfl⟩ hd
section
variable {K : PySem.W.Frag} {σ : St} {H : Hp} {Q : VK} {QT : Bool → Hp → Prop} {r : R2} {ta tb tc : TE} {t u : TT} {v x y : V} {f m : Str} {tl tr : TA} {sp : Sp} {dvs : List V} {E : XK} {a b C dx p : Addr} {fs : List (Str × V)} {QL : VL} {D : Ends} {nx : St → Hp → Prop} {rt : VK} {bk ct : St → Hp → Prop} {s1 s2 : TS} {g : TG} {i j : Int} {n : Nat} {xs ys : List V}
/-! ### values in frames -/
theorem k_fld (h : H a = some (.ins C dx fs)) (c : Cls K C) (n : NoAttr K C f) (l : fs.lookup f = some v) (q : Q v H) : fFld K f Q (.ref a) H := ⟨a, C, dx, fs, v, rfl, h, c, n, l, q⟩
theorem k_tup (hl : xs.length ≤ 100000) (q : ∀ p, H p = none → Q (.ref p) (upd H p (.tup xs))) : fTup Q xs H := ⟨Nat.le_trans hl (by decide), q⟩
theorem k_lst (hl : xs.length ≤ 100000) (q : ∀ p, H p = none → Q (.ref p) (upd H p (.lst xs))) : fLst Q xs H := ⟨Nat.le_trans hl (by decide), q⟩
theorem o_add_int : fOp2 (rAddU K) (.int i) Q (.int j) H = Q (.int (i + j)) H := rfl
theorem o_add_str {a b : Str} : fOp2 (rAddU K) (.str a) Q (.str b) H = (a.length + b.length ≤ sizeLine ∧ Q (.str (a ++ b)) H) := rfl
theorem o_I0 {g : Int → Int → V} : fOp2 (rI0 g) (.int i) Q (.int j) H = Q (g i j) H := propext ⟨fun ⟨a, b, h1, h2, q⟩ => by cases h1; cases h2; exact q, fun q => ⟨i, j, rfl, rfl, q⟩⟩
theorem o_un {g : Int → V} : fUn (rU g) Q (.int i) H = Q (g i) H := propext ⟨fun ⟨a, h1, q⟩ => by cases h1; exact q, fun q => ⟨i, rfl, q⟩⟩
theorem k_I {P : Int → Int → Prop} {g : Int → Int → V} (h : P i j) (q : Q (g i j) H) : fOp2 (rI P g) (.int i) Q (.int j) H := ⟨i, j, rfl, rfl, h, q⟩
theorem k_mul (h : CMulX i j) (q : Q (.int (i * j)) H) : fOp2 rMulU (.int i) Q (.int j) H := ⟨h, q⟩
theorem k_eq_int (q : Q (.bl (decide (i = j))) H) : fOp2 (rEqU K) (.int i) Q (.int j) H := .inl ⟨rfl, by
  have e : decide (V.int i = V.int j) = decide (i = j) := by simp
  rw [e]
  exact q⟩
theorem k_ne_int (q : Q (.bl (!decide (i = j))) H) : fOp2 (rNeU K) (.int i) Q (.int j) H := .inl ⟨rfl, by
  have e : decide (V.int i = V.int j) = decide (i = j) := by simp
  rw [e]
  exact q⟩
theorem k_eq_str {i j : Str} (q : Q (.bl (decide (i = j))) H) : fOp2 (rEqU K) (.str i) Q (.str j) H := .inl ⟨rfl, by
  have e : decide (V.str i = V.str j) = decide (i = j) := by simp
  rw [e]
  exact q⟩
theorem k_ne_str {i j : Str} (q : Q (.bl (!decide (i = j))) H) : fOp2 (rNeU K) (.str i) Q (.str j) H := .inl ⟨rfl, by
  have e : decide (V.str i = V.str j) = decide (i = j) := by simp
  rw [e]
  exact q⟩
theorem k_eq_bl {i j : Bool} (q : Q (.bl (decide (i = j))) H) : fOp2 (rEqU K) (.bl i) Q (.bl j) H := .inl ⟨rfl, by
  have e : decide (V.bl i = V.bl j) = decide (i = j) := by simp
  rw [e]
  exact q⟩
theorem k_ne_bl {i j : Bool} (q : Q (.bl (!decide (i = j))) H) : fOp2 (rNeU K) (.bl i) Q (.bl j) H := .inl ⟨rfl, by
  have e : decide (V.bl i = V.bl j) = decide (i = j) := by simp
  rw [e]
  exact q⟩
/-- == of data -/
theorem k_eq_D {d e : PyData} (h1 : Dp K H x d) (h2 : Dp K H y e) (s1 : SeqAt.shaped d = true) (s2 : SeqAt.shaped e = true) (q : Q (.bl (PyData.eqv d e)) H) : fOp2 (rEqU K) x Q y H := .inr ⟨d, e, h1, h2, s1, s2, q⟩
theorem k_ne_D {d e : PyData} (h1 : Dp K H x d) (h2 : Dp K H y e) (s1 : SeqAt.shaped d = true) (s2 : SeqAt.shaped e = true) (q : Q (.bl (!PyData.eqv d e)) H) : fOp2 (rNeU K) x Q y H := .inr ⟨d, e, h1, h2, s1, s2, q⟩
theorem k_isN : fOp2 (rIsU false) x Q .non H = Q (.bl (decide (x = .non))) H := by
  show rIsU false x .non H Q = _
  unfold rIsU
  split
  · simp
  · simp_all
  · simp_all
theorem k_notN : fOp2 (rIsU true) x Q .non H = Q (.bl (!decide (x = .non))) H := by
  show rIsU true x .non H Q = _
  unfold rIsU
  split
  · simp
  · simp_all
  · simp_all
theorem k_isB {i j : Bool} : fOp2 (rIsU false) (.bl i) Q (.bl j) H = Q (.bl (decide (i = j))) H := rfl
theorem k_notB {i j : Bool} : fOp2 (rIsU true) (.bl i) Q (.bl j) H = Q (.bl (!decide (i = j))) H := rfl
/-! calls of Python's own -/
theorem c_int : fCB (fun xs H Q => (∃ i, xs = [V.int i] ∧ Q (.int i) H) ∨ ∃ k, xs = [V.bl k] ∧ Q (.int (if k then 1 else 0)) H) Q [.int i] H = Q (.int i) H := by
  show ((∃ i', [V.int i] = [V.int i'] ∧ Q (.int i') H) ∨ ∃ k, [V.int i] = [V.bl k] ∧ Q (.int (if k then 1 else 0)) H) = _
  apply propext
  constructor
  · rintro (⟨k, h, q⟩ | ⟨k, h, q⟩)
    · cases h
      exact q
    · cases h
  · exact fun q => .inl ⟨i, rfl, q⟩
theorem c_intB {k : Bool} : fCB (fun xs H Q => (∃ i, xs = [V.int i] ∧ Q (.int i) H) ∨ ∃ k, xs = [V.bl k] ∧ Q (.int (if k then 1 else 0)) H) Q [.bl k] H = Q (.int (if k then 1 else 0)) H := by
  show ((∃ i', [V.bl k] = [V.int i'] ∧ Q (.int i') H) ∨ ∃ k', [V.bl k] = [V.bl k'] ∧ Q (.int (if k' then 1 else 0)) H) = _
  apply propext
  constructor
  · rintro (⟨k, h, q⟩ | ⟨k, h, q⟩)
    · cases h
    · cases h
      exact q
  · exact fun q => .inr ⟨k, rfl, q⟩
theorem c_abs : fCB (fun xs H Q => ∃ i, xs = [V.int i] ∧ Q (.int (if i < 0 then -i else i)) H) Q [.int i] H = Q (.int (if i < 0 then -i else i)) H := propext ⟨fun ⟨k, h, q⟩ => by cases h; exact q, fun q => ⟨i, rfl, q⟩⟩
theorem c_max : fCB (fun xs H Q => ∃ i j, xs = [V.int i, V.int j] ∧ Q (.int (if j > i then j else i)) H) Q [.int i, .int j] H = Q (.int (if j > i then j else i)) H := propext ⟨fun ⟨k, l, h, q⟩ => by cases h; exact q, fun q => ⟨i, j, rfl, q⟩⟩
theorem c_min : fCB (fun xs H Q => ∃ i j, xs = [V.int i, V.int j] ∧ Q (.int (if j < i then j else i)) H) Q [.int i, .int j] H = Q (.int (if j < i then j else i)) H := propext ⟨fun ⟨k, l, h, q⟩ => by cases h; exact q, fun q => ⟨i, j, rfl, q⟩⟩
theorem k_lenS (h : SqL K H a xs ∨ SqT K H a xs) (q : Q (.int xs.length) H) : fCB (rLenU K) Q [.ref a] H := .inl ⟨xs, h, q⟩
theorem k_lenD {kvs : List (Key × V)} (h : H a = some (.dK kvs)) (q : Q (.int kvs.length) H) : fCB (rLenU K) Q [.ref a] H := .inr ⟨kvs, h, q⟩
theorem k_isi {c : V} {w z : Value} {k : Bool} (hc : ClsV c z) (ht : TyX K H x w) (hk : PySem.W.kitOne K w z = some k) (q : Q (.bl k) H) : fCB (rIsiU K) Q [x, c] H := .inl ⟨x, c, w, z, k, rfl, hc, ht, hk, q⟩
theorem k_isiT {tp : Addr} {cs : List V} {w : Value} {us : List Value} {k : Bool} (h : H tp = some (.tup cs)) (hc : Paired ClsV cs us) (ht : TyX K H x w) (hk : PySem.W.kitAny K w us = some k) (q : Q (.bl k) H) : fCB (rIsiU K) Q [x, .ref tp] H := .inr ⟨x, tp, cs, w, us, k, rfl, h, hc, ht, hk, q⟩
theorem k_listOf (h : SqL K H a xs ∨ SqT K H a xs) (q : ∀ l, H l = none → Q (.ref l) (upd H l (.lst xs))) : fCB (fun xs H Q => ∃ p ys, xs = [V.ref p] ∧ (SqL K H p ys ∨ SqT K H p ys) ∧ ∀ l, H l = none → Q (.ref l) (upd H l (.lst ys))) Q [.ref a] H := ⟨a, xs, rfl, h, q⟩
theorem k_tupOfL (h : SqL K H a xs) (q : ∀ l, H l = none → Q (.ref l) (upd H l (.tup xs))) : fCB (fun xs H Q => ∃ p ys, xs = [V.ref p] ∧ ((SqL K H p ys ∧ ∀ l, H l = none → Q (.ref l) (upd H l (.tup ys))) ∨ (SqT K H p ys ∧ Q (.ref p) H))) Q [.ref a] H := ⟨a, xs, rfl, .inl ⟨h, q⟩⟩
theorem k_tupOfT (h : SqT K H a xs) (q : Q (.ref a) H) : fCB (fun xs H Q => ∃ p ys, xs = [V.ref p] ∧ ((SqL K H p ys ∧ ∀ l, H l = none → Q (.ref l) (upd H l (.tup ys))) ∨ (SqT K H p ys ∧ Q (.ref p) H))) Q [.ref a] H := ⟨a, xs, rfl, .inr ⟨h, q⟩⟩
/-! items -/
theorem k_ixL (h : SqL K H a xs) (e : atI xs i = some v) (q : Q v H) : fOp2 (rIx K) (.ref a) Q (.int i) H := .inl ⟨a, xs, i, v, rfl, rfl, h, e, q⟩
theorem k_ixT (h : SqT K H a xs) (e : atI xs i = some v) (q : Q v H) : fOp2 (rIx K) (.ref a) Q (.int i) H := .inr (.inl ⟨a, xs, i, v, rfl, rfl, h, e, q⟩)
theorem k_ixS {z : Str} {c : Nat} (h : z.length ≤ sizeLine) (e : atI z.cps.toList i = some c) (q : Q (.str ⟨#[c]⟩) H) : fOp2 (rIx K) (.str z) Q (.int i) H := .inr (.inr ⟨z, i, c, rfl, rfl, h, e, q⟩)
/-- xs[i] = v -/
def fSub (ti : TE) (t : TSet) (v : V) (σ : St) (nx : St → Hp → Prop) : VK := fun o H1 => ti σ H1 fun i H2 => t o i v H2 fun H3 => nx σ H3
def fSub2 (t : TSet) (o v : V) (σ : St) (nx : St → Hp → Prop) : VK := fun i H2 => t o i v H2 fun H3 => nx σ H3
theorem e_sub {to ti : TE} {ts : TSet} : fAsg (gSub to ti ts) σ nx v H = to σ H (fSub ti ts v σ nx) := rfl
theorem e_sub1 {ti : TE} {ts : TSet} : fSub ti ts v σ nx x H = ti σ H (fSub2 ts x v σ nx) := rfl
theorem k_setL {j : Nat} (h : H p = some (.lst xs)) (e : ixN xs.length i = some j) (q : nx σ (upd H p (.lst (xs.set j v)))) : fSub2 rSetL (.ref p) v σ nx (.int i) H := ⟨p, xs, i, j, rfl, rfl, h, e, q⟩
theorem e_andc {c : Bool} : fAnd u σ QT c H = (if c = true then u σ H QT else QT false H) := rfl
theorem e_orc {c : Bool} : fOr u σ QT c H = (if c = true then QT true H else u σ H QT) := rfl
theorem e_andVc {c : Bool} : fAndV tb σ Q (.bl c) H = (if c = true then tb σ H Q else Q (.bl false) H) := propext ⟨fun ⟨c, h, q⟩ => by cases h; exact q, fun q => ⟨c, rfl, q⟩⟩
theorem e_orVc {c : Bool} : fOrV tb σ Q (.bl c) H = (if c = true then Q (.bl true) H else tb σ H Q) := propext ⟨fun ⟨c, h, q⟩ => by cases h; exact q, fun q => ⟨c, rfl, q⟩⟩
theorem cx_K {CX : CXT} {P : Program} {w : World} {mg : Str → Option Value} {base : Heap} {N : List Str} {qual : Str} {scope : Scope} {f : Addr} {cd : Value} {A : Around} {outer : List Env} {s : Shared} : (cxOf CX P w K mg base N qual scope f cd A outer s H E).K = K := rfl
theorem cx_noxK {X : Cx} : X.nox.K = X.K := rfl
theorem cx_P {CX : CXT} {P : Program} {w : World} {mg : Str → Option Value} {base : Heap} {N : List Str} {qual : Str} {scope : Scope} {f : Addr} {cd : Value} {A : Around} {outer : List Env} {s : Shared} : (cxOf CX P w K mg base N qual scope f cd A outer s H E).prog = P := rfl
theorem cx_w {CX : CXT} {P : Program} {w : World} {mg : Str → Option Value} {base : Heap} {N : List Str} {qual : Str} {scope : Scope} {f : Addr} {cd : Value} {A : Around} {outer : List Env} {s : Shared} : (cxOf CX P w K mg base N qual scope f cd A outer s H E).w = w := rfl
end
end Y

set_option Elab.async false
set_option linter.all false
set_option maxRecDepth 100000
namespace PySem
set_option maxHeartbeats 1000000 in
/-- enumerate(v), v begun as B says: its two new cells -/
theorem yEnumNew {v : Value} {o : Obj} {H : Heap → Prop} (B : Begins v o H) : Meets (Builtin.«enumerate.__new__» ⟨[.type "enumerate", v], []⟩) (fun _ R s =>
    H s.heap ∧ R (.ok (.ret (.ref (s.heap.push o).objs.size))) { s with heap := (s.heap.push o).push { cls := .type "enumerate", data := .fields #[.none, .bool false, .ref s.heap.objs.size, rawInt 0, .none, .none] } }) := by
  refine .of_wp fun prog w A R s h => ?_
  rcases s with ⟨hp, g, d, tk, os⟩
  rcases h with ⟨h1, h⟩
  have hs := sub_enumerate
  have go : ∀ {A' : Around} {E Q : Value → Shared → Prop}, Q (.ref hp.objs.size) ⟨hp.push o, g, d, tk, os⟩ → wpAny (model prog w) A' (pyIter v) Q E ⟨hp, g, d, tk, os⟩ := fun q => B.iter prog w _ _ ⟨hp, g, d, tk, os⟩ _ h1 q
  wp_walk using go
  refine wpAny_stack_any fun _ => wpAny_pure ?_
  split <;> first
    | (rename_i c _ _ _ _ _
       cases (c == Value.type "enumerate") <;> (wp_walk using go; exact ⟨_, rfl, h⟩))
    | (wp_walk using go; exact ⟨_, rfl, h⟩)
theorem yEnum1 {prog : Program} {w : World} {A : Around} {E : Value → Shared → Prop} {s : Shared} {v : Value} {o : Obj} {H : Heap → Prop} {Q : Value → Shared → Prop} (B : Begins v o H) (h1 : H s.heap)
    (h : ∀ h', IsEnum h' (s.heap.objs.size + 1) s.heap.objs.size 0 .none → h'.get? s.heap.objs.size = some o → (∀ b o, s.heap.get? b = some o → h'.get? b = some o) → Q (.ref (s.heap.objs.size + 1)) { s with heap := h' }) :
    wpAny (model prog w) A (call (.type "enumerate") [v]) Q E s := by
  refine callType_new F.called_enumerate (by decide) (F.typeCall_enumerate_1 _) (F.newCall_enumerate_1 _) (fun obj => F.args_object_init_2 obj _) F.entry_enumerate_new (yEnumNew B) ⟨h1, ?_⟩
  have z : (s.heap.push o).objs.size = s.heap.objs.size + 1 := Heap.size_push ..
  show _ ∧ _
  rw [z]
  have e := Heap.get?_push_size (s.heap.push o) (o := { cls := .type "enumerate", data := .fields #[.none, .bool false, .ref s.heap.objs.size, rawInt 0, .none, .none] }) rfl
  rw [z] at e
  exact ⟨⟨_, e, rfl⟩, h _ e (Heap.get?_push_of_some _ (Heap.get?_push_size _ B.free)) fun b o x => Heap.get?_push_of_some _ (Heap.get?_push_of_some _ x)⟩
end PySem
namespace Y
open PySem L2
/-! ### for i, x in enumerate(t), t a tuple -/
def IteT (K : PySem.W.Frag) (a : Addr) : It :=
  ⟨fun i H => ∃ (xs : List V) (x : V), SqT K H a xs ∧ xs[i]? = some x, fun i H v H' => ∃ T x, v = .ref T ∧ H T = none ∧ H' = upd H T (.tup [.int (i : Nat), x]) ∧ ∀ xs, SqT K H a xs → xs[i]? = some x,
    fun i H => ∃ xs : List V, SqT K H a xs ∧ xs.length ≤ i⟩
theorem tup_inj {X : Cx} {pins : List (Addr × Obj)} {σ : St} {H : Hp} {s : Shared} {a : Addr} {xs ys : List V} (I : Inv X pins σ H s) (h1 : SqT X.K H a xs) (h2 : SqT X.K H a ys) : xs = ys := by
  obtain ⟨its, r1, ⟨o1, e1, c1, n1, d1⟩, _⟩ := I.tuple h1
  obtain ⟨its2, r2, ⟨o2, e2, c2, n2, d2⟩, _⟩ := I.tuple h2
  rw [e1] at e2
  cases e2
  rw [d1] at d2
  have e : its = its2 := by
    have := congrArg Array.toList (by injection d2)
    simpa using this
  subst e
  exact r1.inj r2
theorem turn_enumT {P : Program} {w : World} {K : PySem.W.Frag} {elts : List Expr} {kk : Nat} {tpos : Pos} (a e it : Addr) :
    Turn P w K (.Tuple elts kk tpos) (IteT K a) [e, it] e (fun i h => (∃ old, IsEnum h e it ((i : Nat) : Int) old) ∧ h.IsTupleIter it a i ∧ e ≠ it ∧ a ≠ it ∧ a ≠ e) where
  mem := by simp
  obj := fun i h st b hb => by
    rcases st with ⟨⟨old, he⟩, ⟨o, ho, hc, hd⟩, _⟩
    rcases List.mem_cons.mp hb with z | z
    · subst z
      exact ⟨_, he, fun v q => nomatch q⟩
    · have z' := List.mem_singleton.mp z
      subst z'
      exact ⟨o, ho, fun v q => by rw [hd] at q; cases q⟩
  keep := fun i h h' st k => by
    rcases st with ⟨⟨old, he⟩, hi, ne⟩
    exact ⟨⟨old, k e (by simp) _ he⟩, hi.at fun o q => k it (by simp) o q, ne⟩
  item := by
    rintro X rfl rfl rfl hc i pins s σ H E I hf st ⟨xs, x, hq, hx⟩
    rcases st with ⟨⟨old, he⟩, hit, hne, hai, hae⟩
    obtain ⟨its, rv, p, hz⟩ := I.tuple hq
    obtain ⟨u, hu, ru⟩ := rv.get hx
    have hel : e < s.heap.objs.size := Heap.lt_size he
    have hil : it < s.heap.objs.size := by
      obtain ⟨_, q, _⟩ := hit
      exact Heap.lt_size q
    have hlt : i < its.toArray.size := by
      have := (List.getElem?_eq_some_iff.mp hu).1
      simpa using this
    have D := Draws.tuple (prog := X.prog) (w := X.w) (A := X.A.in1) (I.ok.hd hc) it a hai its.toArray
    refine wpAny_pyNext_enum_itemD D he ⟨hit, p⟩ hlt hne (by simp [hne, Ne.symm hae]) fun y h' tk hy ho hst' hT hsz hk => ?_
    have hy' : y = u := by
      have e1 : its.toArray[i]? = its[i]? := by simp
      rw [e1, hu] at hy
      exact (Option.some.inj hy).symm
    subst hy'
    refine ⟨_, rfl, wpAny_letOwnedTupleGo_enum (s := { s with heap := h', toks := tk + 1 }) ho fun h2 he' sb => ?_⟩
    have hT2 : h2.get? s.heap.objs.size = some { cls := .type "tuple", data := .seq #[.int i tk, y] } := (sb.2 _ (Nat.ne_of_gt hel)).trans hT
    have new : ObjOk X.prog X.w (upd H s.heap.objs.size (.tup [.int (i : Nat), x])) h2 s.heap.objs.size (.tup [.int (i : Nat), x]) :=
      ⟨(by decide : 2 ≤ sizeLine), [.int i tk, y], .cons ⟨_, rfl⟩ (.cons ru .nil), ⟨_, hT2, rfl, _, rfl⟩⟩
    have I1 : Inv X pins σ (upd H s.heap.objs.size (.tup [.int (i : Nat), x])) { s with heap := h2, toks := tk + 1 } := by
      refine I.turnedNew (ch := [e, it]) (fun b ob hb q => ?_) hf (Nat.le_refl _) new
      have h1 : b ≠ e := fun z => hb (by simp [z])
      have h3 : b ≠ it := fun z => hb (by simp [z])
      exact (sb.2 b h1).trans (hk b ob h1 h3 q)
    refine ⟨.ref s.heap.objs.size, _, I1, rfl, ⟨_, x, rfl, I.hok.fresh (Nat.le_refl _), rfl, fun ys hy => by rw [tup_inj I hy hq]; exact hx⟩, ⟨⟨y, ?_⟩, hst'.1.at fun o q => (sb.2 it (Ne.symm hne)).trans q, hne, hai, hae⟩, fun b hb => ?_⟩
    · rw [show ((i + 1 : Nat) : Int) = (i : Int) + 1 by omega]
      exact he'
    · have hb' : b < s.heap.objs.size := by
        rcases List.mem_cons.mp hb with z | z
        · rw [z]
          exact hel
        · rw [List.mem_singleton.mp z]
          exact hil
      rw [upd_ne (Nat.ne_of_lt hb')]
      exact (hf b hb).1
  done := by
    rintro X rfl rfl rfl hc i pins s σ H E I hf st ⟨xs, hq, hx⟩
    rcases st with ⟨⟨old, he⟩, hit, hne, hai, hae⟩
    obtain ⟨its, rv, p, hz⟩ := I.tuple hq
    obtain ⟨f0, f1, f2, f3, f4, f5⟩ := hf it (by simp)
    have hl := rv.length
    have D := Draws.tuple (prog := X.prog) (w := X.w) (A := X.A.in1) (I.ok.hd hc) it a hai its.toArray
    have D' : Draws X.prog X.w X.A.in1 it [it, a] 0 (fun _ _ => True) (fun j h => h.IsTupleIter it a (i + j) ∧ h.IsTuple a its.toArray) := {
      live := fun j h st => D.live _ h st
      frame := fun j h h' st k => D.frame _ h h' st k
      item := fun j s Q E hj => absurd hj (Nat.not_lt_zero _)
      done := fun s Q E st hE => wpAny_nextOf_tuple_end (I.ok.hd hc) st.1 st.2 (by simp; omega) hE }
    exact wpAny_pyNext_enum_endD D' he ⟨hit, p⟩ fun h' eb => ⟨rfl, I.turned (t' := s.toks) (fun b o hb q => eb b o hb q) f0 f1 f3 f4 f5⟩
  self := fun A i s Q E st h => by
    rcases st with ⟨⟨_, he⟩, _⟩
    exact wpAny_pyIter_enum he h
/-- what enumerate walks: a list or a tuple -/
def iEnumT (K : PySem.W.Frag) (ta : TA) : TI := fun σ H R => ta σ H fun vs H1 => ∃ a xs, vs = [.ref a] ∧ SqT K H1 a xs ∧ R (IteT K a) H1
theorem pi_enumT {X : Cx} {e : Expr} {ta : TA} {p pos tpos : Pos} {elts : List Expr} {kk : Nat} (hg : Gl X "enumerate") (hm : X.mg "enumerate" = none) (ha : PA X [e] ta) (hs : starEach [e] X.env = [(false, eval e X.env)] := by rfl) :
    PI X (.Tuple elts kk tpos) (.Call (.Name "enumerate" p) [e] [] pos) (iEnumT X.K ta) := by
  refine ⟨fun pins s σ H R I h => PyProof.Rows.Call_ (ld_blt I hg hm PyProof.Rows.boot_enumerate (PyProof.Rows.callWith_type1 (thn (ha.run pos pins s σ H _ I h) fun us s1 ⟨vs, H1, I1, r1, q1⟩ => ?_) hs rfl))⟩
  rcases q1 with ⟨a, xs, ex, hq, q⟩
  subst ex
  cases r1 with
  | cons r rr =>
    cases rr
    cases r
    obtain ⟨its, rv, p', hz⟩ := I1.tuple hq
    refine yEnum1 (begins_tuple a its.toArray) p' fun h' he hit hk => wpAny_pyIter_enum he ?_
    have I2 : Inv X pins σ H1 { s1 with heap := h' } := I1.kept (t' := s1.toks) hk
    have hal : a < s1.heap.objs.size := by
      obtain ⟨o, e1, _⟩ := p'
      exact Heap.lt_size e1
    refine ⟨s1.heap.objs.size + 1, [s1.heap.objs.size + 1, s1.heap.objs.size], _, _, H1, rfl, I2, turn_enumT a (s1.heap.objs.size + 1) s1.heap.objs.size, ⟨⟨.none, he⟩, ⟨_, hit, rfl, rfl⟩, Nat.succ_ne_self _, Nat.ne_of_lt hal, Nat.ne_of_lt (Nat.lt_succ_of_lt hal)⟩, fun b hb => ?_, q⟩
    have hle : s1.heap.objs.size ≤ b := by
      rcases List.mem_cons.mp hb with z | z
      · rw [z]
        exact Nat.le_succ _
      · rw [List.mem_singleton.mp z]
        exact Nat.le_refl _
    exact I1.fpOk hle (I1.hok.fresh hle)
theorem walk_enumT {K : PySem.W.Frag} {a : Addr} {xs : List V} : Walk (IteT K a) xs.length (fun H => SqT K H a xs) (YPair (fun i => some (.int (i : Nat))) (fun i => xs[i]?)) := by
  refine ⟨fun i _ hi q => ⟨xs, xs[i], q, by simp [hi]⟩, fun _ q => ⟨xs, q, Nat.le_refl _⟩, fun i H v H' _ q y => ?_⟩
  rcases y with ⟨T, x, h1, h2, h3, h4⟩
  exact ⟨T, .int (i : Nat), x, h1, h2, h3, rfl, h4 xs q⟩
/-- a list or a tuple walked -/
def iSeq (K : PySem.W.Frag) (te : TE) : TI := fun σ H R => te σ H fun x H1 => (∃ a, x = .ref a ∧ (∃ xs, SqL K H1 a xs) ∧ R (Itl K a) H1) ∨ ∃ a, x = .ref a ∧ (∃ xs, SqT K H1 a xs) ∧ R (Itt K a) H1
theorem pi_seq {X : Cx} {tg e : Expr} {te : TE} (he : PE X e te) : PI X tg e (iSeq X.K te) := by
  refine ⟨fun pins s σ H R I h => thn (he.run pins s σ H _ I h) fun v s1 ⟨x, H1, I1, r1, q1⟩ => ?_⟩
  rcases q1 with ⟨a, ex, ⟨xs, hq⟩, q⟩ | ⟨a, ex, ⟨xs, hq⟩, q⟩
  · subst ex
    cases r1
    obtain ⟨its, rv, p, hz⟩ := I1.list hq
    refine wpAny_pyIter_list p.isList ⟨s1.heap.objs.size, [s1.heap.objs.size], _, _, H1, rfl, I1.kept (t' := s1.toks) fun b o e => Heap.get?_push_of_some _ e, turn_list a _, ⟨_, Heap.get?_push_size _ rfl, rfl, rfl⟩, fun b hb => ?_, q⟩
    cases List.mem_singleton.mp hb
    exact I1.fpOk (Nat.le_refl _) (I1.hok.fresh (Nat.le_refl _))
  · subst ex
    cases r1
    obtain ⟨its, rv, p, hz⟩ := I1.tuple hq
    refine wpAny_pyIter_tuple (show s1.heap.IsTuple a its.toArray from p) ⟨s1.heap.objs.size, [s1.heap.objs.size], _, _, H1, rfl, I1.kept (t' := s1.toks) fun b o e => Heap.get?_push_of_some _ e, turn_tuple a _, ⟨_, Heap.get?_push_size _ rfl, rfl, rfl⟩, fun b hb => ?_, q⟩
    cases List.mem_singleton.mp hb
    exact I1.fpOk (Nat.le_refl _) (I1.hok.fresh (Nat.le_refl _))
end Y

set_option Elab.async false
set_option linter.all false
set_option maxRecDepth 100000
namespace Y
open PySem L2
def fFor (g : TG) (tb : TS) (D : Ends) (σ : St) : It → Hp → Prop := fun J H1 => ∃ W : Nat → Nat → St → Hp → Prop, (∃ m, W 0 m σ H1) ∧ ∀ i m σ H, W i m σ H →
  (J.stop i H ∧ D.nx σ H) ∨ (J.go i H ∧ ∃ N : St → Hp → Prop, (∀ σ' H', N σ' H' → ∃ m', m' < m ∧ W (i + 1) m' σ' H') ∧ ∀ x H', J.yld i H x H' → g x σ H' fun σ2 H2 => tb { D with nx := N, ct := N, bk := D.nx } σ2 H2)
def fRng1 (R : It → Hp → Prop) : VL := fun vs H1 => ∃ j : Int, vs = [.int j] ∧ -(2 ^ 62) ≤ j ∧ j < 2 ^ 62 ∧ R (Itr 0 j.toNat) H1
def fRng2 (R : It → Hp → Prop) : VL := fun vs H1 => ∃ i j : Int, vs = [.int i, .int j] ∧ (-(2 ^ 62) ≤ i ∧ i < 2 ^ 62 ∧ -(2 ^ 62) ≤ j ∧ j < 2 ^ 62) ∧ R (Itr i (j - i).toNat) H1
def fSeq (K : PySem.W.Frag) (R : It → Hp → Prop) : VK := fun x H1 => (∃ a, x = .ref a ∧ (∃ xs, SqL K H1 a xs) ∧ R (Itl K a) H1) ∨ ∃ a, x = .ref a ∧ (∃ xs, SqT K H1 a xs) ∧ R (Itt K a) H1
def fEnumT (K : PySem.W.Frag) (R : It → Hp → Prop) : VL := fun vs H1 => ∃ a xs, vs = [.ref a] ∧ SqT K H1 a xs ∧ R (IteT K a) H1
def fEnum (K : PySem.W.Frag) (R : It → Hp → Prop) : VL := fun vs H1 => ∃ a xs, vs = [.ref a] ∧ SqL K H1 a xs ∧ R (Ite K a) H1
def fLc (g : TG) (tt : TT) (te : TE) (vs : List Nat) (σ : St) (Q : VK) : It → Hp → Prop := fun J H1 => ∀ D, H1 D = none → ∃ W : Nat → Nat → Hp → Prop, (∃ m, W 0 m (upd H1 D (.lst []))) ∧ ∀ i m H, W i m H →
  (J.stop i H ∧ Q (.ref D) H) ∨ (J.go i H ∧ ∃ Nx : Hp → Prop, (∀ H', Nx H' → ∃ m', m' < m ∧ W (i + 1) m' H') ∧ ∀ x H', J.yld i H x H' → g x (wipe σ vs) H' fun σ2 H2 => wipe σ2 vs = wipe σ vs ∧ tt σ2 H2 fun b H3 =>
    if b = true then te σ2 H3 fun y H4 => ∃ acc, H4 D = some (.lst acc) ∧ acc.length < sizeLine ∧ Nx (upd H4 D (.lst (acc ++ [y]))) else Nx H3)
/-- a comprehension's element is laid -/
def fAcc (D : Addr) (N : Hp → Prop) : VK := fun y H4 => ∃ acc, H4 D = some (.lst acc) ∧ acc.length < sizeLine ∧ N (upd H4 D (.lst (acc ++ [y])))
def fLcT (te : TE) (σ2 : St) (D : Addr) (N : Hp → Prop) : Bool → Hp → Prop := fun b H3 => if b = true then te σ2 H3 (fAcc D N) else N H3
def fBM (K : PySem.W.Frag) (T : String) (r : V → List V → Hp → VK → Prop) (t : TA) (σ : St) (Q : VK) : VK := fun x H1 => tyV K T x H1 ∧ t σ H1 fun xs H2 => r x xs H2 Q
def fBM2 (r : V → List V → Hp → VK → Prop) (x : V) (Q : VK) : VL := fun xs H2 => r x xs H2 Q
def fBM0 (K : PySem.W.Frag) (T : String) (r : V → List V → Hp → VK → Prop) (Q : VK) : VK := fun x H1 => tyV K T x H1 ∧ r x [] H1 Q
def fPar (i j : Nat) (σ : St) (nx : St → Hp → Prop) : VL := fun vs H1 => ∃ v w, vs = [v, w] ∧ nx ((σ.set i (some v)).set j (some w)) H1
def fPar3 (i j l : Nat) (σ : St) (nx : St → Hp → Prop) : VL := fun vs H1 => ∃ u v w, vs = [u, v, w] ∧ nx (((σ.set i (some u)).set j (some v)).set l (some w)) H1
def fChain1 (r r' : R2) (tb tc : TE) (σ : St) (Q : VK) : VK := fun x H1 => tb σ H1 fun y H2 => r x y H2 fun z H3 => ∃ k, z = .bl k ∧ (if k = true then tc σ H3 fun w' H4 => r' y w' H4 Q else Q (.bl false) H3)
def fChain2 (r r' : R2) (x : V) (tc : TE) (σ : St) (Q : VK) : VK := fun y H2 => r x y H2 fun z H3 => ∃ k, z = .bl k ∧ (if k = true then tc σ H3 fun w' H4 => r' y w' H4 Q else Q (.bl false) H3)
def fChain3 (r' : R2) (y : V) (tc : TE) (σ : St) (Q : VK) : VK := fun z H3 => ∃ k, z = .bl k ∧ (if k = true then tc σ H3 (fOp2 r' y Q) else Q (.bl false) H3)
def fStF (K : PySem.W.Frag) (ta : TE) (f : Str) (σ : St) (nx : St → Hp → Prop) : VK := fun y H1 => ta σ H1 fun x H2 => ∃ a C dx fs, x = .ref a ∧ H2 a = some (.ins C dx fs) ∧ Cls K C ∧ NoAttr K C f ∧ fs.length < 1000 ∧ nx σ (upd H2 a (.ins C dx (putF f y fs)))
def fStF2 (K : PySem.W.Frag) (y : V) (f : Str) (σ : St) (nx : St → Hp → Prop) : VK := fun x H2 => ∃ a C dx fs, x = .ref a ∧ H2 a = some (.ins C dx fs) ∧ Cls K C ∧ NoAttr K C f ∧ fs.length < 1000 ∧ nx σ (upd H2 a (.ins C dx (putF f y fs)))
section
variable {K : PySem.W.Frag} {σ σ2 : St} {H : Hp} {Q : VK} {QT : Bool → Hp → Prop} {r r' : R2} {ta tb tc te : TE} {t u tt : TT} {v x y : V} {f m : Str} {tl tr : TA} {sp : Sp} {dvs : List V} {E : XK} {a b C dx p l : Addr} {fs : List (Str × V)} {QL : VL} {D : Ends} {nx : St → Hp → Prop} {rt : VK} {bk ct : St → Hp → Prop} {s1 s2 ts : TS} {g : TG} {i j : Int} {n : Nat} {xs ys zs vs : List V} {wi : TI} {R : It → Hp → Prop} {J : It} {G : Hp → Prop} {Yd : Nat → Hp → V → Hp → Prop} {T : String} {rm : V → List V → Hp → VK → Prop}
theorem lk_new {o u : HO} (h : H a = some o) (n : H p = none) : upd H p u a = some o := by
  rw [upd_ne (ne_of_none h n)]
  exact h
theorem lk_ne {o u : HO} (h : H a = some o) (n : a ≠ p) : upd H p u a = some o := by
  rw [upd_ne n]
  exact h
theorem sqL_new {o : HO} (h : SqL K H a xs) (n : H p = none) : SqL K (upd H p o) a xs := by
  rcases h with (h | ⟨u, h⟩) | h
  · exact .inl (.inl (lk_new h n))
  · exact .inl (.inr ⟨u, lk_new h n⟩)
  · exact .inr h
theorem sqT_new {o : HO} (h : SqT K H a xs) (n : H p = none) : SqT K (upd H p o) a xs := by
  rcases h with (h | ⟨u, h⟩) | h
  · exact .inl (.inl (lk_new h n))
  · exact .inl (.inr ⟨u, lk_new h n⟩)
  · exact .inr h
theorem sqL_same {H' : Hp} (e : Same H H') (h : SqL K H a xs) : SqL K H' a xs := e.seq h
/-- a list that is read stays where another one is changed -/
theorem sqL_mut {o : HO} (h : SqL K H a xs) (n : a ≠ p) : SqL K (upd H p o) a xs := by
  rcases h with (h | ⟨u, h⟩) | h
  · exact .inl (.inl (lk_ne h n))
  · exact .inl (.inr ⟨u, lk_ne h n⟩)
  · exact .inr h
theorem e_for : tFor wi g ts D σ H = wi σ H (fFor g ts D σ) := rfl
theorem e_rng1 : iRng1 tl σ H R = tl σ H (fRng1 R) := rfl
theorem e_rng2 : iRng2 tl σ H R = tl σ H (fRng2 R) := rfl
theorem e_seqI : iSeq K te σ H R = te σ H (fSeq K R) := rfl
theorem e_enumT : iEnumT K tl σ H R = tl σ H (fEnumT K R) := rfl
theorem e_enum : iEnum K tl σ H R = tl σ H (fEnum K R) := rfl
theorem k_rng1 (h1 : -(2 ^ 62) ≤ j) (h2 : j < 2 ^ 62) (q : R (Itr 0 j.toNat) H) : fRng1 R [.int j] H := ⟨j, rfl, h1, h2, q⟩
theorem k_rng2 (h : -(2 ^ 62) ≤ i ∧ i < 2 ^ 62 ∧ -(2 ^ 62) ≤ j ∧ j < 2 ^ 62) (q : R (Itr i (j - i).toNat) H) : fRng2 R [.int i, .int j] H := ⟨i, j, rfl, h, q⟩
theorem k_seqL (h : SqL K H a xs) (q : R (Itl K a) H) : fSeq K R (.ref a) H := .inl ⟨a, rfl, ⟨xs, h⟩, q⟩
theorem k_seqT (h : SqT K H a xs) (q : R (Itt K a) H) : fSeq K R (.ref a) H := .inr ⟨a, rfl, ⟨xs, h⟩, q⟩
theorem k_enumT (h : SqT K H a xs) (q : R (IteT K a) H) : fEnumT K R [.ref a] H := ⟨a, xs, rfl, h, q⟩
theorem k_enum (h : SqL K H a xs) (q : R (Ite K a) H) : fEnum K R [.ref a] H := ⟨a, xs, rfl, h, q⟩
/-- a for, by what holds at each turn -/
theorem k_for (w : Walk J n G Yd) (Pv : Nat → St → Hp → Prop) (h0 : Pv 0 σ H) (hG : ∀ i σ H, i ≤ n → Pv i σ H → G H)
    (hs : ∀ i x σ H H', i < n → Pv i σ H → Yd i H x H' → g x σ H' fun σ2 H2 => ts ⟨Pv (i + 1), rt, nx, Pv (i + 1)⟩ σ2 H2) (hd : ∀ σ H, Pv n σ H → nx σ H) : fFor g ts ⟨nx, rt, bk, ct⟩ σ J H :=
  for_it w (D := ⟨nx, rt, bk, ct⟩) Pv h0 hG hs hd
theorem e_gname {i : Nat} {Qs : St → Hp → Prop} : gName i v σ H Qs = Qs (σ.set i (some v)) H := rfl
/-- the pair of an enumerate, of a dict's items .. -/
theorem k_pairS {t1 t2 : TG} {Qs : St → Hp → Prop} (h : SqT K H p [x, y]) (q : t1 x σ H fun σ1 H1 => t2 y σ1 H1 Qs) : gTup K 2 (gCons t1 (gCons t2 gNil)) (.ref p) σ H Qs :=
  ⟨p, [x, y], rfl, h, rfl, x, [y], rfl, (by
    have e : (fun σ' H' => (gCons t2 gNil) [y] σ' H' Qs) = fun σ1 H1 => t2 y σ1 H1 Qs := by
      funext σ1 H1
      apply propext
      constructor
      · rintro ⟨v, r, e, q⟩
        cases e
        have e2 : (fun σ' H' => gNil [] σ' H' Qs) = Qs := by
          funext σ' H'
          exact propext ⟨fun z => z.2, fun z => ⟨rfl, z⟩⟩
        rw [e2] at q
        exact q
      · intro q
        refine ⟨y, [], rfl, ?_⟩
        have e2 : (fun σ' H' => gNil [] σ' H' Qs) = Qs := by
          funext σ' H'
          exact propext ⟨fun z => z.2, fun z => ⟨rfl, z⟩⟩
        rw [e2]
        exact q
    rw [e]
    exact q)⟩
/-! comprehensions -/
theorem k_pair {t1 t2 : TG} {Qs : St → Hp → Prop} (h : H p = some (.tup [x, y])) (q : t1 x σ H fun σ1 H1 => t2 y σ1 H1 Qs) : gTup K 2 (gCons t1 (gCons t2 gNil)) (.ref p) σ H Qs := k_pairS (SqT.of h) q
theorem e_lc : tLc wi g tt te ((n : Nat) :: []) σ H Q = wi σ H (fLc g tt te [n] σ Q) := rfl
theorem e_acc {Nx : Hp → Prop} : fAcc l Nx v H = ∃ acc, H l = some (.lst acc) ∧ acc.length < sizeLine ∧ Nx (upd H l (.lst (acc ++ [v]))) := rfl
theorem k_acc {Nx : Hp → Prop} {acc : List V} (h : H l = some (.lst acc)) (hl : acc.length < 100000) (q : Nx (upd H l (.lst (acc ++ [v])))) : fAcc l Nx v H := ⟨acc, h, Nat.lt_of_lt_of_le hl (by decide), q⟩
theorem e_lcT {Nx : Hp → Prop} {b : Bool} : fLcT te σ2 l Nx b H = (if b = true then te σ2 H (fAcc l Nx) else Nx H) := rfl
theorem e_yes : tYes σ H QT = QT true H := rfl
/-- a list comprehension, by what holds at each turn; l: the new list -/
theorem k_lc {wp : List Nat} (w : Walk J n G Yd) (q : ∀ l, H l = none → ∃ Pv : Nat → Hp → Prop, Pv 0 (upd H l (.lst [])) ∧ (∀ i H, i ≤ n → Pv i H → G H) ∧
    (∀ i x H H', i < n → Pv i H → Yd i H x H' → g x (wipe σ wp) H' fun σ2 H2 => wipe σ2 wp = wipe σ wp ∧ tt σ2 H2 (fLcT te σ2 l (Pv (i + 1)))) ∧ ∀ H, Pv n H → Q (.ref l) H) : fLc g tt te wp σ Q J H := by
  intro l hl
  obtain ⟨Pv, h0, hG, hs, hd⟩ := q l hl
  exact lc_it w (Qd := fun H => Q (.ref l) H) Pv h0 hG hs hd
/-! methods of Python's own -/
theorem e_bm : tBM K T rm ta tl σ H Q = ta σ H (fBM K T rm tl σ Q) := rfl
theorem e_bm2 : fBM2 rm x Q xs H = rm x xs H Q := rfl
theorem k_bmL (h : H a = some (.lst xs)) (q : tl σ H (fBM2 rm (.ref a) Q)) : fBM K "list" rm tl σ Q (.ref a) H := ⟨.inl ⟨rfl, xs, SqL.of h⟩, q⟩
theorem k_bmS {z : Str} (q : tl σ H (fBM2 rm (.str z) Q)) : fBM K "str" rm tl σ Q (.str z) H := ⟨rfl, q⟩
theorem k_append (h : H a = some (.lst xs)) (hl : xs.length < 100000) (q : Q .non (upd H a (.lst (xs ++ [y])))) : fBM2 rAppend (.ref a) Q [y] H := ⟨a, xs, y, rfl, rfl, h, Nat.lt_of_lt_of_le hl (by decide), q⟩
theorem k_extend (h : H a = some (.lst xs)) (h' : H b = some (.lst zs)) (hl : xs.length + zs.length ≤ 100000) (q : Q .non (upd H a (.lst (xs ++ zs)))) : fBM2 rExtend (.ref a) Q [.ref b] H :=
  ⟨a, b, xs, zs, rfl, rfl, h, h', Nat.le_trans hl (by decide), q⟩
/-! several targets, chains, fields stored -/
theorem e_par {i j : Nat} : tPar i j tl ⟨nx, rt, bk, ct⟩ σ H = tl σ H (fPar i j σ nx) := rfl
theorem e_par1 {i j : Nat} : fPar i j σ nx [x, y] H = nx ((σ.set i (some x)).set j (some y)) H := propext ⟨fun ⟨v, w, e, q⟩ => by cases e; exact q, fun q => ⟨x, y, rfl, q⟩⟩
theorem e_par3 {i j l : Nat} : tPar3 i j l tl ⟨nx, rt, bk, ct⟩ σ H = tl σ H (fPar3 i j l σ nx) := rfl
theorem e_par31 {i j l : Nat} {z : V} : fPar3 i j l σ nx [x, y, z] H = nx (((σ.set i (some x)).set j (some y)).set l (some z)) H := propext ⟨fun ⟨u, v, w, e, q⟩ => by cases e; exact q, fun q => ⟨x, y, z, rfl, q⟩⟩
theorem e_chain : tChain r r' ta tb tc σ H Q = ta σ H (fChain1 r r' tb tc σ Q) := rfl
theorem e_chain1 : fChain1 r r' tb tc σ Q x H = tb σ H (fChain2 r r' x tc σ Q) := rfl
theorem e_chain2 : fChain2 r r' x tc σ Q y H = fOp2 r x (fChain3 r' y tc σ Q) y H := rfl
theorem e_chain3 {k : Bool} : fChain3 r' y tc σ Q (.bl k) H = (if k = true then tc σ H (fOp2 r' y Q) else Q (.bl false) H) := propext ⟨fun ⟨u, e, q⟩ => by cases e; exact q, fun q => ⟨k, rfl, q⟩⟩
theorem e_sfld : sFld K ta tb f ⟨nx, rt, bk, ct⟩ σ H = tb σ H (fStF K ta f σ nx) := rfl
theorem e_sfld1 : fStF K ta f σ nx y H = ta σ H (fStF2 K y f σ nx) := rfl
theorem k_sfld (h : H a = some (.ins C dx fs)) (c : Cls K C) (n : NoAttr K C f) (hl : fs.length < 1000) (q : nx σ (upd H a (.ins C dx (putF f y fs)))) : fStF2 K y f σ nx (.ref a) H := ⟨a, C, dx, fs, rfl, h, c, n, hl, q⟩
theorem k_meth (h : H a = some (.ins C dx fs)) (hl : fs.lookup m = none) (q : tl σ H (fCons2 (.ref a) (fCall sp dvs E Q))) : fMeth C m sp dvs E tl σ Q (.ref a) H := ⟨a, dx, fs, rfl, h, hl, q⟩
end
end Y

set_option Elab.async false
set_option linter.all false
set_option maxRecDepth 100000
namespace Y
open PySem L2
section
variable {K : PySem.W.Frag}
theorem e_never {D : Ends} {σ : St} {H : Hp} : tNever D σ H = False := rfl
theorem kt_self {t : Value} : PySem.W.kitOne K t t = some true := by
  unfold PySem.W.kitOne
  rw [if_pos (by simp)]
theorem kt_int_bool : PySem.W.kitOne K (.type "int") (.type "bool") = some false := kit_ty (by decide +kernel)
theorem kt_int_str : PySem.W.kitOne K (.type "int") (.type "str") = some false := kit_ty (by decide +kernel)
theorem kt_int_list : PySem.W.kitOne K (.type "int") (.type "list") = some false := kit_ty (by decide +kernel)
theorem kt_int_tuple : PySem.W.kitOne K (.type "int") (.type "tuple") = some false := kit_ty (by decide +kernel)
theorem kt_bool_int : PySem.W.kitOne K (.type "bool") (.type "int") = some true := kit_ty (by decide +kernel)
theorem kt_bool_str : PySem.W.kitOne K (.type "bool") (.type "str") = some false := kit_ty (by decide +kernel)
theorem kt_bool_list : PySem.W.kitOne K (.type "bool") (.type "list") = some false := kit_ty (by decide +kernel)
theorem kt_bool_tuple : PySem.W.kitOne K (.type "bool") (.type "tuple") = some false := kit_ty (by decide +kernel)
theorem kt_str_int : PySem.W.kitOne K (.type "str") (.type "int") = some false := kit_ty (by decide +kernel)
theorem kt_str_bool : PySem.W.kitOne K (.type "str") (.type "bool") = some false := kit_ty (by decide +kernel)
theorem kt_str_list : PySem.W.kitOne K (.type "str") (.type "list") = some false := kit_ty (by decide +kernel)
theorem kt_str_tuple : PySem.W.kitOne K (.type "str") (.type "tuple") = some false := kit_ty (by decide +kernel)
theorem kt_non_int : PySem.W.kitOne K (.type "NoneType") (.type "int") = some false := kit_ty (by decide +kernel)
theorem kt_non_bool : PySem.W.kitOne K (.type "NoneType") (.type "bool") = some false := kit_ty (by decide +kernel)
theorem kt_non_str : PySem.W.kitOne K (.type "NoneType") (.type "str") = some false := kit_ty (by decide +kernel)
theorem kt_non_list : PySem.W.kitOne K (.type "NoneType") (.type "list") = some false := kit_ty (by decide +kernel)
theorem kt_non_tuple : PySem.W.kitOne K (.type "NoneType") (.type "tuple") = some false := kit_ty (by decide +kernel)
theorem kt_tuple_int : PySem.W.kitOne K (.type "tuple") (.type "int") = some false := kit_ty (by decide +kernel)
theorem kt_tuple_bool : PySem.W.kitOne K (.type "tuple") (.type "bool") = some false := kit_ty (by decide +kernel)
theorem kt_tuple_str : PySem.W.kitOne K (.type "tuple") (.type "str") = some false := kit_ty (by decide +kernel)
theorem kt_tuple_list : PySem.W.kitOne K (.type "tuple") (.type "list") = some false := kit_ty (by decide +kernel)
theorem kt_list_int : PySem.W.kitOne K (.type "list") (.type "int") = some false := kit_ty (by decide +kernel)
theorem kt_list_bool : PySem.W.kitOne K (.type "list") (.type "bool") = some false := kit_ty (by decide +kernel)
theorem kt_list_str : PySem.W.kitOne K (.type "list") (.type "str") = some false := kit_ty (by decide +kernel)
theorem kt_list_tuple : PySem.W.kitOne K (.type "list") (.type "tuple") = some false := kit_ty (by decide +kernel)
theorem kt_dict_int : PySem.W.kitOne K (.type "dict") (.type "int") = some false := kit_ty (by decide +kernel)
theorem kt_dict_bool : PySem.W.kitOne K (.type "dict") (.type "bool") = some false := kit_ty (by decide +kernel)
theorem kt_dict_str : PySem.W.kitOne K (.type "dict") (.type "str") = some false := kit_ty (by decide +kernel)
theorem kt_dict_list : PySem.W.kitOne K (.type "dict") (.type "list") = some false := kit_ty (by decide +kernel)
theorem kt_dict_tuple : PySem.W.kitOne K (.type "dict") (.type "tuple") = some false := kit_ty (by decide +kernel)
/-- (list, tuple) -/
theorem ka_tuple : PySem.W.kitAny K (.type "tuple") [.type "list", .type "tuple"] = some true := kitAny_cons kt_tuple_list (fun _ => kitAny_cons kt_self (fun z => nomatch z) fun _ => rfl) fun z => nomatch z
theorem ka_list : PySem.W.kitAny K (.type "list") [.type "list", .type "tuple"] = some true := kitAny_cons kt_self (fun z => nomatch z) fun _ => rfl
theorem ka_no {t : Value} (h1 : PySem.W.kitOne K t (.type "list") = some false) (h2 : PySem.W.kitOne K t (.type "tuple") = some false) : PySem.W.kitAny K t [.type "list", .type "tuple"] = some false :=
  kitAny_cons h1 (fun _ => kitAny_cons h2 (fun _ => rfl) fun z => nomatch z) fun z => nomatch z
/-- (bool, int), (bool, str) -/
theorem ka_bi_int : PySem.W.kitAny K (.type "int") [.type "bool", .type "int"] = some true := kitAny_cons kt_int_bool (fun _ => kitAny_cons kt_self (fun z => nomatch z) fun _ => rfl) fun z => nomatch z
variable {H : Hp} {a : Addr} {xs : List V} {Q : VK} {QL : VL}
theorem tyx_tup (h : SqT K H a xs) : TyX K H (.ref a) (.type "tuple") := by
  rcases h with (h | ⟨o, h⟩) | ⟨o, its, n, h1, h2, _⟩
  · exact .base (.tup h)
  · exact .fTuple h
  · exact .kTuple h1 h2
theorem tyx_lst (h : SqL K H a xs) : TyX K H (.ref a) (.type "list") := by
  rcases h with (h | ⟨o, h⟩) | ⟨o, its, n, h1, h2, _⟩
  · exact .base (.lst h)
  · exact .base (.frz h)
  · exact .kList h1 h2
theorem k_all {bs : List Bool} (h : SqL K H a (bs.map V.bl)) (q : Q (.bl (bs.all id)) H) : fCB (rAll K) Q [.ref a] H := ⟨a, bs, rfl, h, q⟩
theorem k_inT {x y : V} {d : PyData} {ds : List PyData} (h1 : Dp K H x d) (h2 : Dp K H y (.tuple ds)) (s1 : SeqAt.shaped d = true) (s2 : SeqAt.shaped (.tuple ds) = true) (q : Q (.bl (ds.any fun z => PyData.eqv z d)) H) : fOp2 (rInU K) x Q y H :=
  .inr (.inl ⟨d, ds, h1, h2, s1, s2, q⟩)
theorem k_inL {x y : V} {d : PyData} {ds : List PyData} (h1 : Dp K H x d) (h2 : Dp K H y (.list ds)) (s1 : SeqAt.shaped d = true) (s2 : SeqAt.shaped (.list ds) = true) (q : Q (.bl (ds.any fun z => PyData.eqv z d)) H) : fOp2 (rInU K) x Q y H :=
  .inr (.inr ⟨d, ds, h1, h2, s1, s2, q⟩)
/-- data from tuples of texts -/
theorem dp_strs : ∀ {w : List Str}, DpAll K H (w.map V.str) (w.map PyData.str)
  | [] => .nil
  | _ :: _ => .cons (.str _) dp_strs
end
/-! ### the rules with the written part named -/
section
variable {X : Cx} (K : PySem.W.Frag)
theorem pe_bty {x : Str} {n : String} {pos : Pos} (hg : Gl X x) (hm : X.mg x = none) (hv : bootBuiltins x = some (.type n)) (hn : x ≠ "__name__" := by decide) (hd : (x == ("__debug__" : Str)) = false := by decide) : PE X (.Name x pos) (tC (.ty n)) :=
  pe_bltn hg hm hv (v := .ty n) rfl hn hd
theorem call_isiUk (h : X.K = K := by rfl) : CallR X (.builtin "isinstance") (rIsiU K) := by subst h; exact call_isiU
theorem call_lenUk (h : X.K = K := by rfl) : CallR X (.builtin "len") (rLenU K) := by subst h; exact call_lenU
theorem op_addUk (h : X.K = K := by rfl) : OpR X (binaryOp .Add) (rAddU K) := by subst h; exact op_addU
theorem op_eqUk (hu : X.A.units + 65 < cLine) (h : X.K = K := by rfl) : OpR X (compareOp .Eq) (rEqU K) := by subst h; exact op_eqU hu
theorem op_neUk (hu : X.A.units + 65 < cLine) (h : X.K = K := by rfl) : OpR X (compareOp .NotEq) (rNeU K) := by subst h; exact op_neU hu
theorem op_inUk (hu : X.A.units + 65 < cLine) (h : X.K = K := by rfl) : OpR X (compareOp .In) (rInU K) := by subst h; exact op_inU hu
theorem ix_seqk (h : X.K = K := by rfl) : IxR X (rIx K) := by subst h; exact ix_seq
theorem sl_Uk (h : X.K = K := by rfl) : SlR X (rSlU K) := by subst h; exact sl_U
theorem cr_allk (hc : X.calm = true) (h : X.K = K := by rfl) : CallR X (.builtin "all") (rAll K) := by subst h; exact cr_all hc
theorem cr_anyk (hc : X.calm = true) (h : X.K = K := by rfl) : CallR X (.builtin "any") (rAny K) := by subst h; exact cr_any hc
theorem call_tuple_ofk (h : X.K = K := by rfl) : CallR X (.type "tuple") (fun xs H Q => ∃ p ys, xs = [.ref p] ∧ ((SqL K H p ys ∧ ∀ l, H l = none → Q (.ref l) (upd H l (.tup ys))) ∨ (SqT K H p ys ∧ Q (.ref p) H))) := by subst h; exact call_tuple_of
theorem call_list_ofk (h : X.K = K := by rfl) : CallR X (.type "list") (fun xs H Q => ∃ p ys, xs = [.ref p] ∧ (SqL K H p ys ∨ SqT K H p ys) ∧ ∀ l, H l = none → Q (.ref l) (upd H l (.lst ys))) := by subst h; exact call_list_of
theorem pe_fldk {e : Expr} {f : Str} {ta : TE} {pos : Pos} (he : PE X e ta) (hb : attributeBase e f X.env (eval e X.env) = eval e X.env) (h : X.K = K := by rfl) : PE X (.Attribute e f pos) (tFld K ta f) := by subst h; exact pe_fld he hb
theorem pi_seqk {tg e : Expr} {te : TE} (he : PE X e te) (h : X.K = K := by rfl) : PI X tg e (iSeq K te) := by subst h; exact pi_seq he
end
end Y

set_option Elab.async false
set_option linter.all false
set_option maxRecDepth 100000
set_option maxHeartbeats 2000000
namespace PySem
namespace ErrX
open PySem.W PySem.Calls PyProof.Rows PySem.HandSPX
/-! an own error whose __init__ says super().__init__(text); self.f = f -/
def iA (fl : Str) (p1 p2 : Pos) : Arguments := { posonlyargs := [], args := [{ arg := "self", annotation := none, pos := p1 }, { arg := fl, annotation := none, pos := p2 }], vararg := none, kwonlyargs := [], kw_defaults := [], kwarg := none, defaults := [] }
def iB (fl msg : Str) (a b c d e f g h i j : Pos) : List Stmt :=
  [.Expr (.Call (.Attribute (.Call (.Name "super" a) [] [] b) "__init__" c) [.Constant (.str msg) 0 d] [] e) f, .Assign [.Attribute (.Name "self" g) fl h] (.Name fl i) j]
def iS (fl : Str) : Scope := { kind := .function, names := [("self", .local), (fl, .local), ("__class__", .free), ("super", .globalImplicit)], isGenerator := false, isCoroutine := false, more := [] }
/-- what the written part says of the class, at C, and of its __init__, at fI -/
structure ErrTxt (P : Program) (K : Frag) (mg : Str → Option Value) (nm fl msg : Str) (C fI : Addr) : Prop where
  gC : mg nm = some (.ref C)
  gS : mg "super" = none
  cls : ∃ nm q N bs bm sn sub ab col dd k0 k1 k2 k3 k5, K.lookup C = some (excClassObj nm q C N bs bm true sn sub ab col dd k0 k1 k2 k3 k5 "ValueError.__new__") ∧ refsVE bm = true
  sa : findIn K (.ref C) "__setattr__" = some (some (.builtin "object.__setattr__"))
  ga : findIn K (.ref C) "__getattribute__" = some (some (.builtin "BaseException.__getattribute__"))
  gg : findIn K (.ref C) "__getattr__" = some none
  noN : findIn K (.ref C) fl = some none
  iC : findIn K (.ref C) "__init__" = some (some (.ref fI))
  tC : typeIn K (.ref fI) = some (.type "function")
  kC : keepIn K (.ref C) = true
  exC : subIn K (.ref C) (.type "BaseException") = some true
  tyC : typeIn K (.ref C) = some (.type "type")
  hdC : hasDictIn K C = true
  te : exmOne K (.ref C) (.ref C) = some true
  qI : excInitIn K C [.type "ValueError", .type "Exception", .type "BaseException", .type "object"] "ValueError.__new__" = true
  veC : subIn K (.ref C) (.type "ValueError") = some true
  mro : mroIn K C (.ref C) = some true
  sup : ks_superIn K C C "__init__" = some (some (.builtin "ValueError.__init__"))
  any : nsIn K cStatics "thirdparty.any" = some none
  top : (P.main.scope.names.lookup ("super" : Str)).isSome = false
  fn : ∃ (qual : Str) (oc : Value) (od : Option Addr) (doc pm : Value) (an : Option Addr) (cda : Addr) (ct : Value) (osl : Array (Option Value)) (cc : Addr) (p1 p2 a b c d e f g h i j : Pos) (ccl : Value) (cdd : Option Addr) (vs : Array Value) (ccs : Array (Option Value)) (file : Str) (tf : Tok) (cl : Value) (cld : Option Addr) (csl : Array (Option Value)),
    K.lookup fI = some ⟨oc, od, .func (ksFn "__init__" qual (iA fl p1 p2) (iB fl msg a b c d e f g h i j) (iS fl) .none .none doc pm an (.ref cda) ct cc), osl⟩ ∧ codeIn K (.ref cda) qual = true ∧
    K.lookup cda = some ⟨ccl, cdd, .fields vs, ccs⟩ ∧ vs[2]? = some (.str file tf) ∧ ((P.main.file : Str) == file) = true ∧ K.lookup cc = some ⟨cl, cld, .cell (some (.ref C)), csl⟩ ∧
    (∃ pl : Env → Sem Bool, ∀ env : Env, eval (.Call (.Attribute (.Call (.Name "super" a) [] [] b) "__init__" c) [.Constant (.str msg) 0 d] [] e) env = (do
      let ov ← attributeBase (.Call (.Name "super" a) [] [] b) "__init__" env (eval (.Call (.Name "super" a) [] [] b) env)
      standAt c.atName
      let (f, first) ← holding [ov] (getMethod ov "__init__" (pl env))
      callWith e f first (backTo e (starEach [.Constant (.str msg) 0 d] env)) []))
theorem one_size (v : Value) : [v].length ≤ sizeLine := by
  rw [sizeLine_eq]
  exact (by decide : 1 ≤ 16777216)
theorem ldC {M : Model} {s : Shared} {env : Env} {m : Str → Option Value} {x : Str} {pos : Pos} {v : Value} {Q : Value → Shared → Prop} {A : Around} {E : Value → Shared → Prop} (hn : s.heap.Ns env.locals m) (hv : m x = some v) (h : Q v s)
    (hk : env.scope.kind = .function := by rfl) (hl : env.kindOf x = some .local := by rfl) (hd : (x == ("__debug__" : Str)) = false := by decide) :
    wpAny M A (eval (.Name x pos) env) Q E s := wpAny_Name (wpAny_loadName_local hk hl hn hv h) hd
/-- what __init__ leaves of a fresh exception at x -/
structure InitEnd (fl : Str) (h h' : Heap) (x C dx t1 : Addr) (v : Value) : Prop where
  keep : ∀ b o, b ≠ x → h.get? b = some o → h'.get? b = some o
  obj : h'.get? x = some { cls := .ref C, dict := some dx, data := .fields #[.ref t1, .none, .none, .none, .bool false, .none] }
  dbig : h.objs.size ≤ dx
  dne : dx ≠ x
  ns : h'.Ns1 dx (fun y => if y = fl then some v else none)
/-- a made error -/
structure OwnMade (fl : Str) (h h' : Heap) (e C d : Addr) (v : Value) : Prop where
  keep : ∀ b o, h.get? b = some o → h'.get? b = some o
  new : h.objs.size ≤ e
  obj : ∃ oe vs, h'.get? e = some oe ∧ oe.cls = .ref C ∧ oe.dict = some d ∧ oe.data = .fields vs ∧ vs[1]? = some .none
  dbig : h.objs.size ≤ d
  dne : d ≠ e
  ns : h'.Ns1 d (fun y => if y = fl then some v else none)
section
variable {P : Program} {w : World} {A : Around} {E : Value → Shared → Prop} {R : Result → Shared → Prop} {s : Shared} {K : Frag} {mg mb : Str → Option Value} {nm fl msg : Str} {C fI : Addr}
theorem err_init (T : ErrTxt P K mg nm fl msg C fI) (hfl : fl = "index" ∨ fl = "number" ∨ fl = "part") {x t0 : Addr} {v : Value} (X : K.In s.heap) (G : s.heap.Ns mainGlobals mg) (Bn : s.heap.Ns builtinsNs mb) (hmb : mb "super" = bootBuiltins "super")
    (hlim : s.heap.NoLimit) (hnx : K.lookup x = none) (hx : s.heap.get? x = some (excO C t0)) (hroom : A.depth < recursionLimit)
    (hq : ∀ h' tk dx t1, InitEnd fl s.heap h' x C dx t1 v → R (.ok (.ret .none)) { s with heap := h', toks := tk }) :
    codeAny (model P w) A (.call (.ref fI) ⟨[.ref x, v], []⟩) R s := by
  obtain ⟨qual, oc, od, doc, pm, an, cda, ct, osl, cc, p1, p2, a, b, c, d, e, f, g, h, i, j, ccl, cdd, vs, ccs, file, tf, cl, cld, csl, ho, hcd, hcda, hvs, hfile, hcc, pl, he⟩ := T.fn
  obtain ⟨nm', q, N, bs, bm, sn, sub, ab, col, dd, k0, k1, k2, k3, k5, hC, hbm⟩ := T.cls
  have hcl : clsIn K C = some { name := nm', bases := bs, mro := .ref C :: bm, ns := N, qualname := q, hasDict := true, slotNames := sn, subclasses := sub, abstract := ab, collection := col, hasDel := false } := by unfold clsIn; rw [hC] <;> rfl
  have tab : ∀ z ∈ (iS fl).names, z.2 ≠ .cell := by rcases hfl with rfl | rfl | rfl <;> decide
  have hb : BindsTo s (ksFn "__init__" qual (iA fl p1 p2) (iB fl msg a b c d e f g h i j) (iS fl) .none .none doc pm an (.ref cda) ct cc) ⟨[.ref x, v], []⟩ [("self", .ref x), (fl, v)] := by
    rcases hfl with rfl | rfl | rfl <;> exact BindsTo.of_eq (by first | rfl | with_unfolding_all rfl)
  have hloc : ∀ z ∈ ([("self", .ref x), (fl, v)] : List (Str × Value)), (iS fl).names.lookup z.1 = some .local := by
    rcases hfl with rfl | rfl | rfl <;> exact locs rfl
  have hnk : (iS fl).names.lookup ("super" : Str) = some .globalImplicit := by rcases hfl with rfl | rfl | rfl <;> rfl
  have hck : (iS fl).names.lookup ("__class__" : Str) = some .free := by rcases hfl with rfl | rfl | rfl <;> rfl
  have hsk : (iS fl).names.lookup ("self" : Str) = some .local := by rcases hfl with rfl | rfl | rfl <;> rfl
  have hfk : (iS fl).names.lookup fl = some .local := by rcases hfl with rfl | rfl | rfl <;> rfl
  have hfd : (fl == ("__debug__" : Str)) = false := by rcases hfl with rfl | rfl | rfl <;> decide
  have hls : ([("self", Value.ref x), (fl, v)] : List (Str × Value)).reverse.lookup ("self" : Str) = some (Value.ref x) := by rcases hfl with rfl | rfl | rfl <;> rfl
  have hlf : ([("self", Value.ref x), (fl, v)] : List (Str × Value)).reverse.lookup fl = some v := by rcases hfl with rfl | rfl | rfl <;> rfl
  have sup : alongIn K "__init__" (((.ref C :: bm : List Value).dropWhile (· != .ref C)).drop 1) = some (some (.builtin "ValueError.__init__")) := by
    have q := T.sup
    unfold ks_superIn at q
    rw [hcl] at q
    exact q
  refine ks_codeAny_call_defAt (fd := ksFn "__init__" qual (iA fl p1 p2) (iB fl msg a b c d e f g h i j) (iS fl) .none .none doc pm an (.ref cda) ct cc) (binds := [("self", .ref x), (fl, v)]) hroom (X _ _ ho) rfl hlim (codeRec_of X hcd) rfl hb tab hloc (fun h₁ hn k => ?_)
  obtain ⟨hp, gg, dd', tt, os⟩ := s
  have X₁ : K.In h₁ := X.keeps k
  have hx₁ := k _ _ hx
  refine ks_wpAt_execs_cons (ks_wpAt_Expr_any (ks_wpAt_MethodCall (pl := pl _) ?_ (he _)))
  refine ks_wpAt_super_base (env := callEnv (ksFn "__init__" qual (iA fl p1 p2) (iB fl msg a b c d e f g h i j) (iS fl) .none .none doc pm an (.ref cda) ct cc) hp.objs.size fI) hnk hck (by decide) rfl (X₁ _ _ ho) rfl rfl rfl (X₁ _ _ hcda) rfl hvs hfile T.top ?_
  refine ks_loadName_global rfl hnk (loadGlobal_builtin (G.keeps k) T.gS (Bn.keeps k) (hmb.trans (by decide +kernel : bootBuiltins "super" = some (.type "super"))) ⟨rfl, ?_⟩)
  refine wpAny_loadName_free rfl hck rfl ⟨_, X₁ _ _ hcc, rfl⟩ ?_
  refine wpAny_loadName_local rfl hsk hn hls ?_
  refine ks_wpAny_isType_cls (X₁ _ _ hC) rfl ⟨rfl, ?_⟩
  refine ks_wpAny_call_super (X₁ _ _ hC) rfl hx₁ rfl (fun c e => by cases e) (looks_mroIn X₁ T.mro) (fun h₂ e₂ k₂ => ?_)
  have X₂ : K.In h₂ := X₁.keeps k₂
  have hx₂ := k₂ _ _ hx₁
  have I₂ : InstAt h₂ x (excO C t0) C none := ⟨hx₂, rfl, rfl, trivial⟩
  refine kxs_getMethod kxs_ValueError e₂ (looks_opaque X₂ T.any) (l₀ := .ref C :: bm) (fun A Q E s k q => wpAny_bind ((looks_clsIn X₂ hcl) A _ E s k (wpAny_pure q))) rfl X₂ sup (I₂.type.andThen (looks_subIn X₂ T.veC)) (ks_ne X₂ I₂ hcl) (by decide) ?_
  have lt1 : hp.objs.size < h₁.objs.size := hn.lt
  have lt2 : h₁.objs.size < h₂.objs.size := Heap.lt_size e₂
  have ltx : x < hp.objs.size := Heap.lt_size hx
  have k₃ : ∀ b o, h₂.get? b = some o → (h₂.push (kxs_mw "ValueError.__init__" x)).get? b = some o := fun b o e => Heap.get?_push_of_some _ e
  have XH : K.In (hp.hide x) := fun a o e => (Heap.hide_ne hp fun z => by rw [z, hnx] at e; cases e).trans (X a o e)
  have F₃ : Fr (hp.hide x) hp.objs.size (h₂.push (kxs_mw "ValueError.__init__" x)) (fun y => ([("self", .ref x), (fl, v)] : List (Str × Value)).reverse.lookup y) :=
    ⟨hn.keeps fun b o e => k₃ b o (k₂ b o e), fun b o e => k₃ b o (k₂ b o (k b o (Heap.of_hide e))), Nat.le_of_eq (Heap.hide_size hp x)⟩
  have N₃ : News (hp.hide x) hp.objs.size (h₂.push (kxs_mw "ValueError.__init__" x)) [(h₂.objs.size, kxs_mw "ValueError.__init__" x), (x, excObj C t0 none .none)] := fun p hp' => by
    rcases List.mem_cons.mp hp' with rfl | hp'
    · refine ⟨Heap.get?_push_at rfl rfl, Nat.ne_of_gt (Nat.lt_trans lt1 lt2), ?_⟩
      cases z : (hp.hide x).get? h₂.objs.size with
      | none => rfl
      | some o => exact absurd (Heap.lt_size (Heap.of_hide z)) (Nat.not_lt_of_gt (Nat.lt_trans lt1 lt2))
    · rw [List.mem_singleton.mp hp']
      exact ⟨k₃ _ _ hx₂, Nat.ne_of_lt ltx, Heap.hide_self hp x⟩
  refine kxs_callWith1 N₃ (List.mem_cons_self ..) (spliced_more (Constant_str (spliced_none ⟨(N₃ _ (List.mem_cons_self ..)).1, ?_⟩)))
  refine kxs_call F₃ XH N₃ F.excBase_ValueError T.qI (List.mem_cons_self ..) (.tail (Nat.ne_of_gt (Nat.lt_trans ltx (Nat.lt_trans lt1 lt2))) (.head fun _ z => nomatch z)) (one_size _) (fun t' h₄ F₄ N₄ _ => ?_)
  have X₄ : K.In h₄ := XH.keeps F₄.keep
  have hx₄ : h₄.get? x = some (excO C t') := (N₄ (x, excObj C t' none .none) (by simp)).1
  have hn₄ := F₄.ns
  have lt4 : hp.objs.size < h₄.objs.size := hn₄.lt
  show wpAt _ _ _ (execs _ _) _ _ _
  refine wpAt_of_wpAny (wpAny_execs_cons (plainObj_wpAny_Assign_Attribute ?_))
  refine ldC (v := v) hn₄ hlf (ldC (v := .ref x) hn₄ hls ?_ rfl hsk) rfl hfk hfd
  refine set_plain X₄ (ox := excO C t') (od := none) ⟨hx₄, rfl, rfl, trivial⟩ T.sa ?_
  refine exc_osa X₄ hx₄ hcl (show refsVE (.ref C :: bm) = true from hbm) rfl T.noN (fun h₅ tk₅ dx k₅ dn dne hx₅ hn₅ => ?_)
  show wpAny _ _ (execs _ _) _ _ _
  exact wpAny_execs_nil (hq h₅ tk₅ dx t' ⟨fun b o hb e => k₅ b o hb (F₄.keep b o ((Heap.hide_ne hp hb).trans e)), hx₅, Nat.le_of_lt (Nat.lt_of_lt_of_le lt4 dn), dne, hn₅⟩)
end
end ErrX
end PySem

set_option Elab.async false
set_option linter.all false
set_option maxRecDepth 100000
set_option maxHeartbeats 2000000
namespace PySem
namespace ErrX
open PySem.W PySem.Calls PyProof.Rows PySem.HandSPX
section
variable {P : Program} {w : World} {A : Around} {R : Result → Shared → Prop} {s : Shared} {K : Frag} {mg mb : Str → Option Value} {nm fl msg : Str} {C fI : Addr}
theorem err_made (T : ErrTxt P K mg nm fl msg C fI) (hfl : fl = "index" ∨ fl = "number" ∨ fl = "part") {v : Value} (X : K.In s.heap) (G : s.heap.Ns mainGlobals mg) (Bn : s.heap.Ns builtinsNs mb) (hmb : mb "super" = bootBuiltins "super")
    (hlim : s.heap.NoLimit) (hroom : A.depth + 1 < recursionLimit)
    (hq : ∀ h' tk e d, OwnMade fl s.heap h' e C d v → R (.ok (.ret (.ref e))) { s with heap := h', toks := tk }) :
    codeAny (model P w) A (.call (.ref C) ⟨[v], []⟩) R s := by
  obtain ⟨nm', q, N, bs, bm, sn, sub, ab, col, dd, k0, k1, k2, k3, k5, hC, hbm⟩ := T.cls
  obtain ⟨hp, g, dr, tk, os⟩ := s
  have up : ∀ b o, hp.get? b = some o → ((hp.push (kdv_tup [v])).push (excO C hp.objs.size)).get? b = some o :=
    fun b o e => Heap.get?_push_of_some _ (Heap.get?_push_of_some _ e)
  have mine : ((hp.push (kdv_tup [v])).push (excO C hp.objs.size)).get? (hp.objs.size + 1) = some (excO C hp.objs.size) := by heap_get
  have free : K.lookup (hp.objs.size + 1) = none := by
    cases e : K.lookup (hp.objs.size + 1) with
    | none => rfl
    | some o => exact absurd (Nat.lt_of_succ_lt (Heap.lt_size (X _ _ e))) (Nat.lt_irrefl _)
  refine call_own F.excBase_ValueError (fun Y => refsVE_contains Y bm hbm) (X _ _ hC) (looks_findIn X T.iC) (fun self => bind_fn X self T.tC) (one_size v) ?_
  refine err_init (s := ⟨(hp.push (kdv_tup [v])).push (excO C hp.objs.size), g, dr, tk, os⟩) T hfl (X.keeps up) (G.keeps up) (Bn.keeps up) hmb (hlim.keeps up) free mine ?_ fun h' tk' dx t1 I => ?_
  · show A.depth + 1 < recursionLimit
    exact hroom
  · have old : ∀ b o, hp.get? b = some o → h'.get? b = some o := fun b o e => I.keep b o (Nat.ne_of_lt (Nat.lt_succ_of_lt (Heap.lt_size e))) (up b o e)
    have z : hp.objs.size + 1 + 1 ≤ dx := by
      have q := I.dbig
      first
        | exact q
        | (rw [Heap.size_push, Heap.size_push] at q; exact q)
        | (simpa only [Heap.size_push] using q)
    exact ⟨rfl, hq h' tk' (hp.objs.size + 1) dx ⟨old, Nat.le_succ _, ⟨_, _, I.obj, rfl, rfl, rfl, rfl⟩, Nat.le_trans (Nat.le_trans (Nat.le_succ _) (Nat.le_succ _)) z, I.dne, I.ns⟩⟩
end
end ErrX
end PySem
namespace L2
open PySem PySem.Spec PyProof.Rows
theorem relO_err {fl : Str} {v : V} {v' : Value} (r : RelV v v') (f : Str) : RelO (List.lookup f [(fl, v)]) (if f = fl then some v' else none) := by
  by_cases hw : f = fl
  · subst hw
    rw [if_pos rfl]
    have q : List.lookup f [(f, v)] = some v := by simp [List.lookup]
    rw [q]
    exact r
  · have e : (f == fl) = false := by simpa using hw
    rw [if_neg hw]
    simp [List.lookup, e, RelO]
section
variable {X : Cx} {nm fl msg : Str} {C fI : Addr}
/-- C(e): for every new dict d that holds the field -/
def tMkErr (fl : Str) (C : Addr) (ta : TA) : St → Hp → XK → Prop := fun σ H Q => ta σ H fun vs H1 => ∃ v, vs = [v] ∧ ∀ d, H1 d = none → Q (.ref C) (some d) (upd H1 d (.xd [(fl, v)]))
theorem pmk_err {a : Expr} {ta : TA} {p pos : Pos} {k : Nat} (T : PySem.ErrX.ErrTxt X.prog X.K X.mg nm fl msg C fI) (hfl : fl = "index" ∨ fl = "number" ∨ fl = "part") (hr : Room k X.A) (ha : PA X [a] ta) (hg : Gl X nm) (hd : (nm == ("__debug__" : Str)) = false)
    (he : starEach (a :: []) X.env = (false, eval a X.env) :: starEach [] X.env := by rfl) (hpl : (backTo pos (starEach [] X.env)).any (·.1) = false := by rfl) :
    PMk X (.Call (.Name nm p) [a] [] pos) (tMkErr fl C ta) := by
  intro pins s σ H Q I h
  refine wpAny_Call_Name_kw (ld_glob I hg T.gC ?_ hd)
  refine PySem.W.callWith_K (h₀ := X.base) I.ok.mod.kin T.kC (thn (ha.run pos pins s σ H _ I h) fun us s1 hh => ?_) he hpl
  obtain ⟨vs, H1, I1, r1, v, ev, q1⟩ := hh
  subst ev
  refine ⟨I1.kIn, ?_⟩
  cases r1 with
  | cons rv rn =>
    rename_i v' us'
    cases rn
    show wpAny _ _ (call (.ref C) [v']) _ _ _
    have hlim := I1.nolimit
    obtain ⟨mb, b1, b2⟩ := I1.mod.blt
    have gl := I1.mod.glob.keeps I1.bk
    have bl := b1.keeps I1.bk
    obtain ⟨hp, g, dr, tk, os⟩ := s1
    refine wpAny_call (PySem.ErrX.err_made T hfl I1.kIn gl bl (b2 _ (by decide)) hlim (by have := hr.dp; omega) fun h' tk' e d M => ?_)
    show MkP X pins σ Q (.ref e) ⟨h', g, dr, tk', os⟩
    obtain ⟨oe, fv, hoe, hc, hd', hdat, h1⟩ := M.obj
    have hns := M.ns
    obtain ⟨G', g1, g2⟩ := restrict h' fun b => decide (b ≠ e)
    have gk : ∀ b, b ≠ e → G'.get? b = h'.get? b := fun b hb => g1 b (decide_eq_true hb)
    have ge : G'.get? e = none := g2 e (by simp)
    have old : ∀ b o, hp.get? b = some o → G'.get? b = some o := fun b o q => (gk b (Nat.ne_of_lt (Nat.lt_of_lt_of_le (Heap.lt_size q) M.new))).trans (M.keep b o q)
    have ob : ObjOk X.prog X.w (upd H1 d (.xd [(fl, v)])) G' d (.xd [(fl, v)]) := ⟨_, hns.at (fun o q => (gk d M.dne).trans q), fun f => relO_err rv f⟩
    have J : Inv X pins σ (upd H1 d (.xd [(fl, v)])) ⟨G', g, dr, tk', os⟩ := I1.laid (t' := tk') old M.dbig ob
    refine ⟨e, oe, fv, ⟨G', g, dr, tk', os⟩, _, .ref C, some d, rfl, J, fun b o q => ?_, ge, hoe, ⟨hc, hd'⟩, hdat, h1, ?_, rfl, I1.bare, raises_own T.exC T.tyC, q1 d (I1.hok.fresh M.dbig)⟩
    · by_cases hb : b = e
      · have q' : G'.get? b = some o := q
        rw [hb, ge] at q'
        cases q'
      · exact (gk b hb).symm.trans q
    · rw [upd_ne (Ne.symm M.dne)]
      exact I1.hok.fresh M.new
/-- raise C(e) -/
def tRaiseErr (fl : Str) (C : Addr) (W : WX) (ta : TA) : TS := fun _ σ H => tMkErr fl C ta σ H fun cls d H' => W cls d σ H'
theorem ps_raiseErr {a : Expr} {ta : TA} {W : WX} {p pos pos2 : Pos} {k : Nat} (hc : X.calm = true) (T : PySem.ErrX.ErrTxt X.prog X.K X.mg nm fl msg C fI) (hfl : fl = "index" ∨ fl = "number" ∨ fl = "part") (hr : Room k X.A) (tk : Takes X W) (ha : PA X [a] ta) (hg : Gl X nm) (hd : (nm == ("__debug__" : Str)) = false)
    (he : starEach (a :: []) X.env = (false, eval a X.env) :: starEach [] X.env := by rfl) (hpl : (backTo pos (starEach [] X.env)).any (·.1) = false := by rfl) :
    PS X (.Raise (some (.Call (.Name nm p) [a] [] pos)) none pos2) (tRaiseErr fl C W ta) := ps_raise hc tk (pmk_err T hfl hr ha hg hd he hpl)
/-- e.field, e the exception that the suite holds (at a; its class cls, its dict d) -/
def tFldErr (fl : Str) (C : Addr) (a : Addr) (cls : Value) (d : Option Addr) (te : TE) : TE := fun σ H Q => te σ H fun x H1 => x = .ref a ∧ cls = .ref C ∧ ∃ (dd : Addr) (v : V), d = some dd ∧ H1 dd = some (.xd [(fl, v)]) ∧ Q v H1
theorem pe_fldErr {a : Addr} {oe : Obj} {cls : Value} {d : Option Addr} {pn : List (Addr × Obj)} {e : Expr} {te : TE} {pos : Pos} (T : PySem.ErrX.ErrTxt X.prog X.K X.mg nm fl msg C fI) (hz : Zc cls d oe) (hf : ∃ vs, oe.data = .fields vs) (he : PE (X.suite a ((a, oe) :: pn)) e te)
    (hb : attributeBase e fl X.env (eval e X.env) = eval e X.env := by rfl) :
    PE (X.suite a ((a, oe) :: pn)) (.Attribute e fl pos) (tFldErr fl C a cls d te) := by
  refine ⟨fun pins s σ H Q I h => ?_⟩
  refine attr_of hb (thn (he.run pins s σ H _ I h) fun u s1 hh => ?_)
  obtain ⟨x, H1, I1, rx, ex, ec, dd, v, ed, ea, q⟩ := hh
  subst ex
  obtain rfl : u = Value.ref a := rx
  subst ec
  subst ed
  obtain ⟨ha, _⟩ := I1.pin (a, oe) (List.mem_append_left _ List.mem_cons_self)
  obtain ⟨vs, hd⟩ := hf
  have hx : ObjOk X.prog X.w H1 s1.heap dd (.xd [(fl, v)]) := I1.hok dd _ ea
  obtain ⟨mA, hns, hr⟩ := hx
  obtain ⟨od, ho, hl⟩ := lookIn_ns hns
  have l : List.lookup fl [(fl, v)] = some v := by simp [List.lookup]
  obtain ⟨u, hu, ru⟩ := RelO.some_of (v := v) (o := mA fl) (by rw [← l]; exact hr fl)
  have J : PySem.W.InstAt s1.heap a oe C (some od) := ⟨ha, hz.1, by unfold PySem.W.notCls; rw [hd] <;> rfl, by rw [hz.2]; exact ho⟩
  exact PySem.HandSPX.exc_get I1.kIn J T.ga T.gg T.exC (PySem.W.findObj_own T.hdC T.noN rfl (by rw [hl, hu])) (handed_of ru) ⟨v, H1, I1.tok _, ru, q⟩
end
end L2

set_option Elab.async false
set_option linter.all false
set_option maxRecDepth 100000
set_option maxHeartbeats 2000000
namespace Y
open PySem L2
/-! calls that may raise, for a try around: what is wanted of an error may speak of the slots -/
section
variable {X : Cx} {CX : CXT} {k : Nat} {f C : Addr} {fd : FuncData} {ps : List Str} {sp : Sp}
theorem run_fnT {A : Around} {pins : List (Addr × Obj)} {σ : St} {H : Hp} {s : Shared} {Q : VK} {E : XK} {us ds : List Value} {vs dvs : List V} (hf : A.frames = X.A.frames) (F : FnOk X.prog X.w X.K X.mg X.base CX k f fd ps sp) (hr : Room k A) (hb : Binds X.K fd ps ds) (hd : Vals dvs ds) (hx : PassesAt CX X σ E)
    (I : Inv X pins σ H s) (r : Vals vs us) (h : sp (vs ++ dvs) H Q E) : wpAny (model X.prog X.w) A (call (.ref f) us) (EP X pins σ Q) X.xe s := by
  have r2 := r.append hd
  have len : (us ++ ds).length = ps.length := r2.length.symm.trans (F.len _ _ _ _ h)
  have e := I.env0
  have e0 : Env0 X.prog X.w X.K X.mg X.base A X.stack s H := ⟨hf.trans e.frames, e.mod, e.bs, e.bsz, e.funs, e.frf, e.hok, e.bare⟩
  refine wpAny_call (codeAny_mono (F.run A X.stack s H ⟨us, []⟩ _ _ Q E hr e0 (hb s us I.kIn len) r2 h) fun r t hq => ?_)
  rcases r with x | fl
  · exact hx pins H s x t I hq
  · cases fl <;> first | exact I.after hq | exact hq.elim
def tOpS (r : St → R2) (ta tb : TE) : TE := fun σ H Q => ta σ H fun x H1 => tb σ H1 fun y H2 => r σ x y H2 Q
/-- a + b of two instances, their class's own __add__ may raise -/
theorem pe_addOS {E : St → XK} {a b : Expr} {ta tb : TE} {pos : Pos} (hs : PySem.W.findIn X.K (.ref C) "__add__" = some (some (.ref f))) (hf : PySem.W.isFn X.K (.ref f) = true) (hc : PySem.W.selfFirst X.K C = true) (F : FnOk X.prog X.w X.K X.mg X.base CX k f fd ps sp) (hr : Room k X.A) (hb : Binds X.K fd ps [])
    (hx : ∀ σ, PassesAt CX X σ (E σ)) (ha : PE X a ta) (hb2 : PE X b tb) : PE X (.BinOp a .Add b pos) (tOpS (fun σ => rAddO C sp (E σ)) ta tb) := by
  refine ⟨fun pins s σ H Q I h => wpAny_BinOp (binT ha hb2 I (R := fun x y H2 => rAddO C sp (E σ) x y H2 Q) h fun v u s2 x y H2 I2 rx ry q => ?_)⟩
  obtain ⟨a, b, dx, dy, fs, gs, rfl, rfl, e1, e2, q⟩ := q
  obtain rfl : v = Value.ref a := rx
  obtain rfl : u = Value.ref b := ry
  obtain ⟨_, O, _⟩ := ins_get I2.hok e1
  obtain ⟨_, J, _⟩ := O.look
  obtain ⟨_, O', _⟩ := ins_get I2.hok e2
  obtain ⟨_, J', _⟩ := O'.look
  obtain ⟨m, fr⟩ := I2.fr
  refine PySem.W.binop_K (op := .Add) fr I2.ok.mod.kin J J'.type hc hs hf (thn (run_fnT (A := X.A) (vs := [.ref a, .ref b]) (dvs := []) (ds := []) rfl F hr hb .nil (hx σ) I2 (.cons rfl (.cons rfl .nil)) q) fun w s1 hw => ?_)
  obtain ⟨z, H1, I1, rz, q1⟩ := hw
  have nn : w ≠ .notImplemented := fun e => by
    subst e
    cases z <;> first
      | exact nomatch (show Value.notImplemented = _ from rz)
      | (obtain ⟨t, e⟩ := rz; cases e)
  cases w <;> first
    | exact absurd rfl nn
    | exact ⟨z, H1, I1, rz, q1⟩
/-- o[i], the class's own __getitem__ may raise -/
theorem pe_ixOS {E : St → XK} {a b : Expr} {ta tb : TE} {pos : Pos} (hs : PySem.W.findIn X.K (.ref C) "__getitem__" = some (some (.ref f))) (hf : PySem.W.isFn X.K (.ref f) = true) (hn : PySem.W.fnIn X.K f = true) (F : FnOk X.prog X.w X.K X.mg X.base CX k f fd ps sp) (hr : Room (k + 1) X.A) (hb : Binds X.K fd ps [])
    (hx : ∀ σ, PassesAt CX X σ (E σ)) (ha : PE X a ta) (hi : PE X b tb) (hsl : ∀ o i, subscripted b true o i = runValue (.builtin "lifetime.subscript" ⟨[o, i], []⟩) := by intro _ _; with_unfolding_all rfl) :
    PE X (.Subscript a b pos) (tOpS (fun σ => rIxO C sp (E σ)) ta tb) := by
  refine ⟨fun pins s σ H Q I h => PyProof.Rows.Subscript_ (binT ha hi I (R := fun x y H2 => rIxO C sp (E σ) x y H2 Q) h fun v u s2 x y H2 I2 rx ry q => ?_)⟩
  obtain ⟨o, dx, fs, rfl, ho, q⟩ := q
  obtain rfl : v = Value.ref o := rx
  obtain ⟨_, O, _⟩ := ins_get I2.hok ho
  obtain ⟨_, J, _⟩ := O.look
  obtain ⟨_, fr⟩ := I2.fr
  exact PySem.W.sub_K fr I2.ok.mod.kin J hs hn hf (run_fnT (A := X.A.in1) (vs := [.ref o, y]) (dvs := []) (ds := []) rfl F hr.in1 hb .nil (hx σ) I2 (.cons rfl (.cons ry .nil)) q) (hsl _ _)
/-- o.m(..), which may raise -/
def tMethS (C : Addr) (m : Str) (sp : Sp) (E : St → XK) (ta : TE) (t : TA) : TE := fun σ H Q => ta σ H fun x H1 => ∃ a dx fs, x = .ref a ∧ H1 a = some (.ins C dx fs) ∧ fs.lookup m = none ∧ t σ H1 fun vs H2 => sp (x :: vs) H2 Q (E σ)
theorem pe_methS {m : Str} {E : St → XK} {o e : Expr} {es : List Expr} {ta : TE} {t : TA} {apos pos : Pos} {pl : Sem Bool} (ho : PE X o ta) (c : Cls X.K C) (hm : Meth X.K C m f) (F : FnOk X.prog X.w X.K X.mg X.base CX k f fd ps sp) (hr : Room k X.A) (hb : Binds X.K fd ps []) (hx : ∀ σ, PassesAt CX X σ (E σ)) (ha : PA X (e :: es) t)
    (hst : starEach (e :: es) X.env = (false, eval e X.env) :: starEach es X.env := by rfl) (hpl : (backTo pos (starEach es X.env)).any (·.1) = false := by rfl)
    (ht : eval (.Call (.Attribute o m apos) (e :: es) [] pos) X.env = (do
      let ov ← eval o X.env
      standAt apos.atName
      let (g, first) ← holding [ov] (getMethod ov m pl)
      callWith pos g first (backTo pos (starEach (e :: es) X.env)) (backToKw pos (keywordEach [] X.env))) := by rfl) :
    PE X (.Call (.Attribute o m apos) (e :: es) [] pos) (tMethS C m sp E ta t) := by
  refine ⟨fun pins s σ H Q I h => PySem.W.methodCall_KW (pl := pl) (thn (ho.run pins s σ H _ I h) fun z s1 hz => ?_) ht⟩
  obtain ⟨x, H1, I1, rx, a, dx, fs, rfl, ea, l, q⟩ := hz
  obtain rfl : z = Value.ref a := rx
  refine getmeth_ok I1 ea c hm l (PySem.W.callWith_K (first := [.ref a]) (h₀ := X.base) I.ok.mod.kin hm.kp (thn (ha.run pos pins s1 σ H1 _ I1 q) fun us s2 hu => ?_) hst hpl)
  obtain ⟨vs, H2, I2, r, q2⟩ := hu
  refine ⟨I2.kIn, run_fnT (us := .ref a :: us) (vs := .ref a :: vs) (dvs := []) (ds := []) rfl F hr hb .nil (hx σ) I2 (.cons rfl r) ?_⟩
  rw [List.append_nil]
  exact q2
/-- C(..), whose own __init__ may raise -/
def tMakeS (C : Addr) (sp : Sp) (E : St → XK) (t : TA) : TE := fun σ H Q => t σ H fun vs H1 => ∀ x dx, H1 x = none → H1 dx = none → dx ≠ x → sp (.ref x :: vs) (upd (upd H1 dx (.own x)) x (.ins C dx [])) (fun v H2 => v = .non ∧ Q (.ref x) H2) (E σ)
theorem run_makeS {pins : List (Addr × Obj)} {σ : St} {H : Hp} {s : Shared} {Q : VK} {E : XK} {us : List Value} {vs : List V} (M : Mk X.K C f) (F : FnOk X.prog X.w X.K X.mg X.base CX k f fd ps sp) (hr : Room (k + 1) X.A) (hb : Binds X.K fd ps [])
    (hx : PassesAt CX X σ E) (I : Inv X pins σ H s) (r : Vals vs us) (h : ∀ x dx, H x = none → H dx = none → dx ≠ x → sp (.ref x :: vs) (upd (upd H dx (.own x)) x (.ins C dx [])) (fun v H2 => v = .non ∧ Q (.ref x) H2) E) :
    wpAny (model X.prog X.w) X.A (call (.ref C) us) (EP X pins σ Q) X.xe s := by
  have q := h (s.heap.objs.size + 1) s.heap.objs.size (I.hok.fresh (Nat.le_succ _)) (I.hok.fresh (Nat.le_refl _)) (Nat.ne_of_lt (Nat.lt_succ_self _))
  have J := Inv.made (C := C) I
  have r2 : Vals (V.ref (s.heap.objs.size + 1) :: vs) (Value.ref (s.heap.objs.size + 1) :: us) := .cons rfl r
  have len : (Value.ref (s.heap.objs.size + 1) :: us ++ []).length = ps.length := by
    rw [List.append_nil]
    exact r2.length.symm.trans (F.len _ _ _ _ q)
  have bd := hb _ (Value.ref (s.heap.objs.size + 1) :: us) J.kIn len
  rw [List.append_nil] at bd
  refine wpAny_call (make_map (f := f) I.kIn M.makes M.init (beq_iff_eq.mp M.fn) (codeAny_mono (F.run _ X.stack _ _ ⟨Value.ref (s.heap.objs.size + 1) :: us, []⟩ _ _ _ E (hr.make C us []) (J.env0.make C us []) bd r2 q) fun r t hq => ?_))
  rcases r with x | fl
  · exact hx pins _ _ x t J hq
  · cases fl with
    | ret u =>
      obtain ⟨v, H', I3, rv, rfl, q3⟩ := J.after hq
      exact ⟨rv, V.ref (s.heap.objs.size + 1), H', I3, rfl, q3⟩
    | next => exact hq.elim
    | brk => exact hq.elim
    | cont => exact hq.elim
theorem pe_makeS {x : Str} {E : St → XK} {e : Expr} {es : List Expr} {t : TA} {p pos : Pos} (M : Mk X.K C f) (F : FnOk X.prog X.w X.K X.mg X.base CX k f fd ps sp) (hr : Room (k + 1) X.A) (hg : Gl X x) (hm : X.mg x = some (.ref C)) (hb : Binds X.K fd ps []) (hx : ∀ σ, PassesAt CX X σ (E σ))
    (ha : PA X (e :: es) t) (hdb : (x == ("__debug__" : Str)) = false := by decide) (he : starEach (e :: es) X.env = (false, eval e X.env) :: starEach es X.env := by rfl) (hpl : (backTo pos (starEach es X.env)).any (·.1) = false := by rfl) :
    PE X (.Call (.Name x p) (e :: es) [] pos) (tMakeS C sp E t) :=
  ⟨fun pins s σ H Q I h => wpAny_Call_Name_kw (ld_glob I hg hm (PySem.W.callWith_K (h₀ := X.base) I.ok.mod.kin M.kp (thn (ha.run pos pins s σ H _ I h) fun us s1 hu => by
    obtain ⟨vs, H1, I1, r, q⟩ := hu
    exact ⟨I1.kIn, run_makeS M F hr hb (hx σ) I1 r q⟩) he hpl) hdb)⟩
end
end Y
namespace Y
open PySem L2
/-- a call of what may raise, where it does not -/
theorem passX0 {X : Cx} : Passes (L2.CX X.prog X.w) X (fun _ _ _ => False) := passes_call (W := fun _ _ _ _ => False) takes0 fun _ _ _ _ z => z
end Y

set_option Elab.async false
set_option linter.all false
set_option maxRecDepth 100000
set_option maxHeartbeats 2000000
namespace PySem
namespace ErrX
open PySem.W PySem.Calls PyProof.Rows PySem.Spec
section
variable {prog : Program} {w : World} {A : Around} {E : Value → Shared → Prop} {s : Shared} {K : Frag} {x D : Addr} {ox : Obj} {od : Option Obj}
theorem find_data {name : Str} {a g : Value} (hc : (clsIn K D).isSome = true) (ha : findIn K (.ref D) name = some (some a)) (hg : specialIn K a "__get__" = some (some g)) (ht : takesIn K a = some true) : findObj K D od name = some (.bind g a) := by
  obtain ⟨cd, e⟩ := Option.isSome_iff_exists.mp hc
  unfold findObj
  rw [e, Option.bind_some, ha, Option.bind_some]
  cases od <;> simp [hg, ht]
/-- e.__class__ of an own error, whatever its dict holds -/
theorem cls_asked {Q : Option Value → Shared → Prop} (Y : L2.ExcC K D) (X : K.In s.heap) (J : InstAt s.heap x ox D od) (h : Q (some (.ref D)) { s with toks := s.toks + 1 }) : wpAny (model prog w) A (getAttr? (.ref x) "__class__") Q E s := by
  have found : findObj K D od "__class__" = some (.bind (.builtin "getset_descriptor.__get__") (.builtin "object.__class__")) :=
    find_data (by obtain ⟨c, e, _⟩ := any_some Y.hd; rw [e]; rfl) Y.ha Y.hn Y.ht
  rcases s with ⟨hh, gg, dd, tt, oo⟩
  have a0 := J.type (M := model prog w)
  have a1 := looks_findIn (M := model prog w) X Y.hg
  have a2 := looks_findIn (M := model prog w) X Y.hk
  have a3 := looks_find (M := model prog w) X J found
  have base : Looks (model prog w) hh (isInstance (.ref x) (.type "BaseException")) true := a0.andThen (looks_subIn X Y.hs)
  have other : (Value.builtin "BaseException.__getattribute__" == Value.builtin "object.__getattribute__") = false := by decide +kernel
  unfold getAttr? getAttrBy? getAttrBy
  refine wpAny_bind (wpAny_mkText (wpAny_bind (wpAny_attempt (wpAny_holding (wpAny_bind (a0.at (wpAny_bind (a1.at ?_))))))))
  simp only [other, Bool.and_false, Bool.false_eq_true, if_false]
  unfold getAttrByItsOwn hookBefore
  refine wpAny_bind ?_
  simp only [show onTheHeap (Value.ref D) = true from rfl, if_true]
  refine a2.at (wpAny_bind (wpAny_attempt (wpAny_holding ?_)))
  unfold callGetattribute
  simp only [Bool.false_and, Bool.false_eq_true, if_false]
  unfold boundAndCalled
  rw [PySem.F.excAttr_ValueError.ga.bind (.ref x)]
  refine wpAny_bind (wpAny_pure (wpAny_call (codeAny_call_builtin PySem.F.excAttr_ValueError.ga.plain PySem.F.entry_bexc_ga
    (@check_slot (model prog w) _ _ ⟨hh, gg, dd, tt + 1, oo⟩ "BaseException.__getattribute__" "BaseException" "__getattribute__" (.ref x) [.str "__class__" tt] [] _ (by decide +kernel) (by decide +kernel) base (PySem.F.args_bexc_ga (.ref x) (.str "__class__" tt)) ?_))))
  unfold Builtin.«object.__getattribute__»
  refine wpAny_bind (wpAny_of_eq (a := ((Value.ref x : Value), [Value.str "__class__" tt])) (by first | rfl | (simp only [slotArgs]; rfl)) (wpAny_bind (wpAny_pure (wpAny_bind (a0.at (wpAny_bind (a3.at ?_)))))))
  show wpAny _ _ (holding [_] (call (.builtin "getset_descriptor.__get__") [.builtin "object.__class__", .ref x, .ref D]) >>= ret) _ _ _
  refine wpAny_bind (wpAny_holding (wpAny_call (class_get (s := ⟨hh, gg, dd, tt + 1, oo⟩) (ox := ox) (od := od) X J Y.hm (wpAny_pure ?_))))
  show wpAny _ _ (handedOut (.ref D)) _ _ _
  rw [handedOut_of (v := .ref D) rfl]
  first
    | exact wpAny_pure h
    | exact wpAny_pure (wpAny_pure h)
    | exact wpAny_pure (wpAny_bind (wpAny_pure (wpAny_pure h)))
theorem cls_at {h : Heap} {cd : ClassData} (X : K.In h) (e : clsIn K D = some cd) : ∃ o, h.get? D = some o ∧ o.data = .cls cd := by
  unfold clsIn at e
  split at e
  · rename_i z
    cases e
    exact ⟨_, X _ _ z, rfl⟩
  · cases e
theorem kitx_err (Y : L2.ExcC K D) : KitX K (.ref x) (.ref D) (fun h => InstAt h x ox D od) where
  ty := fun _ _ _ J => J.type
  it := fun _ h X _ A Q E t k q => by
    obtain ⟨c, e, _⟩ := any_some Y.hd
    obtain ⟨o, e1, e2⟩ := cls_at X e
    obtain ⟨hp, g, d, t, os⟩ := t
    exact ks_wpAny_isType_cls (k _ _ e1) e2 q
  ne := (PySem.W.handS_kitx_exc (x := x) (ox := ox) Y.hg Y.hk Y.hs Y.hd Y.ha Y.hn Y.ht Y.hm).ne
  ca := fun X J k => cls_asked Y X J k
end
end ErrX
end PySem

namespace L2
open PySem PySem.Spec PyProof.Rows
/-- isinstance(e, c), e the exception that the suite holds at a, whatever its own dict holds -/
def rIsErr (K : PySem.W.Frag) (D a : Addr) (cls : Value) (d : Option Addr) : List V → Hp → VK → Prop := fun xs H Q => ∃ (c : V) (cv : Value) (b : Bool) (dd : Addr) (fs : List (Str × V)), d = some dd ∧ H dd = some (.xd fs) ∧ cls = .ref D ∧ xs = [.ref a, c] ∧ (∀ u, RelV c u → u = cv) ∧ PySem.W.kitOne K (.ref D) cv = some b ∧ Q (.bl b) H
theorem call_isErr {X : Cx} {a D : Addr} {cls : Value} {d : Option Addr} {oe : Obj} {pn : List (Addr × Obj)} (Y : ExcC X.K D) (hz : Zc cls d oe) (hf : ∃ vs, oe.data = .fields vs) :
    CallR (X.suite a ((a, oe) :: pn)) (.builtin "isinstance") (rIsErr X.K D a cls d) := by
  intro pins s σ H xs us Q I r h
  obtain ⟨c, cv, b, dd, fs, rfl, hd, rfl, rfl, hcv, e, q⟩ := h
  obtain ⟨u, v, rfl, rx, rt⟩ := vals2 r
  obtain rfl : u = Value.ref a := rx
  obtain rfl := hcv _ rt
  obtain ⟨ha, _⟩ := I.pin (a, oe) (List.mem_append_left _ List.mem_cons_self)
  obtain ⟨vs, hv⟩ := hf
  have ob : ObjOk X.prog X.w H s.heap dd (.xd fs) := I.hok dd _ hd
  obtain ⟨mA, hns, hr⟩ := ob
  obtain ⟨od, ho, hl⟩ := lookIn_ns hns
  have J : PySem.W.InstAt s.heap a oe D (some od) := ⟨ha, hz.1, by unfold PySem.W.notCls; rw [hv], by rw [hz.2]; exact ho⟩
  exact PySem.W.kia_one (PySem.ErrX.kitx_err Y) I.kIn J e (fun z => nomatch z) fun tk => ⟨.bl b, H, I.kept (t' := tk) fun _ _ z => z, rfl, q⟩
end L2

set_option Elab.async false
set_option linter.all false
set_option maxRecDepth 100000
set_option maxHeartbeats 2000000
namespace Y
open PySem L2
section
variable {X : Cx} {CX : CXT} {k : Nat} {f C : Addr} {fd : FuncData} {ps : List Str} {sp : Sp} {E : XK}
/-- a == b of two instances, by their class's own __eq__ -/
def rEqO (C : Addr) (sp : Sp) (E : XK) : R2 := fun x y H Q => ∃ a b dx dy fs gs, x = .ref a ∧ y = .ref b ∧ H a = some (.ins C dx fs) ∧ H b = some (.ins C dy gs) ∧ sp [.ref a, .ref b] H (fun v H' => ∃ t, v = .bl t ∧ Q v H') E
theorem op_eqO (hs : PySem.W.findIn X.K (.ref C) "__eq__" = some (some (.ref f))) (hf : PySem.W.isFn X.K (.ref f) = true) (F : FnOk X.prog X.w X.K X.mg X.base CX k f fd ps sp) (hr : Room k X.A) (hb : Binds X.K fd ps []) (hx : Passes CX X E) :
    OpR X (compareOp .Eq) (rEqO C sp E) := by
  intro pins s σ H x y v u Q I rx ry h
  obtain ⟨a, b, dx, dy, fs, gs, rfl, rfl, ha, hb', q⟩ := h
  obtain rfl : v = Value.ref a := rx
  obtain rfl : u = Value.ref b := ry
  obtain ⟨_, O, _⟩ := ins_get I.hok ha
  obtain ⟨_, J, _⟩ := O.look
  obtain ⟨_, O', _⟩ := ins_get I.hok hb'
  obtain ⟨_, J', _⟩ := O'.look
  obtain ⟨m, fr⟩ := I.fr
  show wpAny (model X.prog X.w) X.A (richCompare .Eq (.ref a) (.ref b)) _ _ _
  refine PySem.W.cmp_K (op := .Eq) (tb := .ref C) hr.units0 fr I.ok.mod.kin J J'.type (by simp [PySem.W.notFirst]) hs hf (thn (run_fnA (A := X.A) (vs := [.ref a, .ref b]) rfl F hr hb hx I (.cons rfl (.cons rfl .nil)) q) fun w s1 hw => ?_)
  obtain ⟨z, H1, I1, rz, t, rfl, q1⟩ := hw
  obtain rfl : w = Value.bool t := rz
  exact ⟨.bl t, H1, I1, rfl, q1⟩
end
end Y

set_option Elab.async false
set_option linter.all false
set_option maxRecDepth 100000
namespace Y
open PySem L2
/-! ### what the laws of right scripts want beside -/
/-- nothing but the object at a is otherwise -/
def But (a : Addr) (H H' : Hp) : Prop := ∀ b o, H b = some o → b ≠ a → H' b = some o
theorem But.refl (a : Addr) (H : Hp) : But a H H := fun _ _ e _ => e
theorem But.trans {a : Addr} {H H1 H2 : Hp} (h : But a H H1) (k : But a H1 H2) : But a H H2 := fun b o e n => k b o (h b o e n) n
theorem But.of {a : Addr} {H H' : Hp} (h : Same H H') : But a H H' := fun b o e _ => h b o e
theorem But.at_ {a b : Addr} {H H' : Hp} {o : HO} (h : But a H H') (e : H b = some o) (n : b ≠ a) : H' b = some o := h b o e n
theorem But.free {a b : Addr} {H H' : Hp} (h : But a H H') (n : H' b = none) (na : b ≠ a) : H b = none := by
  cases e : H b with
  | none => rfl
  | some o =>
    rw [h b o e na] at n
    cases n
theorem Same.none_of {H H' : Hp} (e : Same H H') {p : Addr} (h : H' p = none) : H p = none := by
  cases q : H p with
  | none => rfl
  | some o =>
    rw [e _ _ q] at h
    cases h
theorem Same.new {H : Hp} {p : Addr} {o : HO} (n : H p = none) : Same H (upd H p o) := fun _ _ e => lk_new e n
/-- a new object, changed -/
theorem Same.upd_new {H H' : Hp} {p : Addr} {o : HO} (s : Same H H') (n : H p = none) : Same H (upd H' p o) := fun b u e => lk_ne (s b u e) (ne_of_none e n)
theorem But.upd_new {a : Addr} {H H' : Hp} {p : Addr} {o : HO} (s : But a H H') (n : H p = none) : But a H (upd H' p o) := fun b u e na => lk_ne (s b u e na) (ne_of_none e n)
theorem dp_kt {K : PySem.W.Frag} {H : Hp} {a : Addr} {xs : List V} {its : List Value} {ds : List PyData} {d : Option Addr} {n : Nat} {sl : Array (Option Value)} (h : K.lookup a = some ⟨.type "tuple", d, .seq its.toArray n, sl⟩) (hl : its.length ≤ 1000)
    (hv : Vals xs its) (hd : DpAll K H xs ds) : Dp K H (.ref a) (.tuple ds) :=
  .tup (.inr ⟨_, _, n, h, rfl, rfl, by rw [List.size_toArray]; exact Nat.le_trans hl (by decide), by simpa using hv⟩) hd
theorem Dp.tupS {K : PySem.W.Frag} {H : Hp} {v : V} {ds : List PyData} (h : Dp K H v (.tuple ds)) : ∃ a xs, v = .ref a ∧ SqT K H a xs ∧ DpAll K H xs ds := by
  cases h with
  | tup h1 h2 => exact ⟨_, _, rfl, h1, h2⟩
theorem DpAll.length {K : PySem.W.Frag} {H : Hp} : ∀ {xs : List V} {ds : List PyData}, DpAll K H xs ds → xs.length = ds.length
  | _, _, .nil => rfl
  | _, _, .cons _ t => congrArg Nat.succ (DpAll.length t)
section
variable {X : Cx} (K : PySem.W.Frag)
theorem cr_maxk (hc : X.calm = true) (h : X.K = K := by rfl) : CallR X (.builtin "max") (rMax K) := by subst h; exact cr_max hc
theorem cr_mink (hc : X.calm = true) (h : X.K = K := by rfl) : CallR X (.builtin "min") (rMin K) := by subst h; exact cr_min hc
/-- l.count(y), data -/
def rCntD (K : PySem.W.Frag) : V → List V → Hp → VK → Prop := fun x vs H Q => ∃ p ds d y, x = .ref p ∧ vs = [y] ∧ Dp K H (.ref p) (.list ds) ∧ Dp K H y d ∧ SeqAt.shaped (.list ds) = true ∧ SeqAt.shaped d = true ∧ Q (.int ((ds.countP fun z => PyData.eqv z d : Nat) : Int)) H
theorem mt_cntDk (hu : X.A.units + 65 < cLine) (h : X.K = K := by rfl) : MtR X "list.count" (rCntD K) := by
  subst h
  intro pins s σ H x xs v us Q I rx rxs h
  obtain ⟨p, ds, d, y, rfl, rfl, h1, h2, s1, s2, q⟩ := h
  cases rx
  obtain ⟨u, rfl, ru⟩ := rxs.one
  cases h1 with
  | lst hs ha =>
    obtain ⟨its, rv, ⟨o, n, ho, hc, hdn, hd⟩, hlen⟩ := I.list hs
    obtain ⟨as, r1⟩ := Dp.readsAll I ds _ its ha rv
    obtain ⟨bs, r2⟩ := Dp.reads I d y u h2 ru
    have c1 := SeqAt.canLay_of_shaped s1
    have c2 := SeqAt.canLay_of_shaped s2
    have c1' : PyData.canLayAll0 ds = true := by simpa [PyData.canLay0] using c1
    have dd := SeqAt.depth_of_shaped s2
    refine SeqAt.count_list_data (xs := ds) (d := d) (vs := its.toArray) ⟨o, ho, hc, n, hd⟩ (by simpa using r1) r2 (PyData.plainAll_of_canLay0 _ c1') (PyData.plain_of_canLay0 _ c2) ?_ ⟨.int _, H, I.tok _, ⟨_, rfl⟩, q⟩
    have := Nat.min_le_right (PyData.depthAll ds) d.depth
    omega
end
def rInsert : V → List V → Hp → VK → Prop := fun x vs H Q => ∃ (l : Addr) (xs : List V) (i : Int) (y : V), x = .ref l ∧ vs = [.int i, y] ∧ H l = some (.lst xs) ∧ xs.length < sizeLine ∧ 0 ≤ i ∧ i < 2 ^ 63 ∧ Q .non (upd H l (.lst (xs.take i.toNat ++ [y] ++ xs.drop i.toNat)))
theorem mt_insertk {X : Cx} : MtR X "list.insert" rInsert := mt_insert
section
variable {K : PySem.W.Frag} {σ : St} {H : Hp} {Q : VK} {a b p : Addr} {xs ys : List V} {x y v : V} {i : Int} {lo hi : Option Int} {Qs : St → Hp → Prop} {t : TG} {tg : TGs} {n : Nat} {nx : St → Hp → Prop}
theorem k_insert (h : H a = some (.lst xs)) (hl : xs.length < 100000) (h0 : 0 ≤ i) (h1 : i < 2 ^ 62) (q : Q .non (upd H a (.lst (xs.take i.toNat ++ [y] ++ xs.drop i.toNat)))) : fBM2 rInsert (.ref a) Q [.int i, y] H :=
  ⟨a, xs, i, y, rfl, rfl, h, Nat.lt_of_lt_of_le hl (by decide), h0, by omega, q⟩
theorem k_count {ds : List PyData} {d : PyData} (h1 : Dp K H (.ref a) (.list ds)) (h2 : Dp K H y d) (s1 : SeqAt.shaped (.list ds) = true) (s2 : SeqAt.shaped d = true) (q : Q (.int ((ds.countP fun z => PyData.eqv z d : Nat) : Int)) H) : fBM2 (rCntD K) (.ref a) Q [y] H :=
  ⟨a, ds, d, y, rfl, rfl, h1, h2, s1, s2, q⟩
theorem k_max1 {ns : List Int} (h : SqL K H a (ns.map V.int)) (hl : 0 < ns.length) (q : ∀ m, m ∈ ns → (∀ y, y ∈ ns → y ≤ m) → Q (.int m) H) : fCB (rMax K) Q [.ref a] H := ⟨a, ns, rfl, h, hl, q⟩
theorem k_min1 {ns : List Int} (h : SqL K H a (ns.map V.int)) (hl : 0 < ns.length) (q : ∀ m, m ∈ ns → (∀ y, y ∈ ns → m ≤ y) → Q (.int m) H) : fCB (rMin K) Q [.ref a] H := ⟨a, ns, rfl, h, hl, q⟩
theorem k_slL (h : SqL K H a xs) (q : ∀ p, H p = none → Q (.ref p) (upd H p (.lst (cutV xs lo hi)))) : rSlU K (.ref a) lo hi H Q := .inr ⟨a, xs, rfl, h, q⟩
theorem cutV_all (h : HT.sIx xs.length 0 lo = 0 ∧ HT.sIx xs.length xs.length hi = xs.length) : cutV xs lo hi = xs := by
  unfold cutV
  rw [h.1, h.2]
  simp
theorem k_slT (h : SqT K H a xs) (q : ∀ (p : Addr) (H' : Hp), Same H H' → SqT K H' p (cutV xs lo hi) → Q (.ref p) H') : rSlU K (.ref a) lo hi H Q :=
  .inl ⟨a, xs, rfl, h, fun e => q a H (Same.refl H) (by rw [cutV_all e]; exact h), fun _ p n => q p _ (fun c o e => lk_new e n) (SqT.of upd_same)⟩
theorem k_catL (h1 : H a = some (.lst xs)) (h2 : H b = some (.lst ys)) (hl : xs.length + ys.length ≤ 100000) (q : ∀ p, H p = none → Q (.ref p) (upd H p (.lst (xs ++ ys)))) : fOp2 (rAddU K) (.ref a) Q (.ref b) H :=
  .inr ⟨a, b, xs, ys, rfl, rfl, h1, h2, Nat.le_trans hl (by decide), q⟩
theorem k_unp (h : SqT K H p xs) (hn : xs.length = n) (q : tg xs σ H Qs) : gTup K n tg (.ref p) σ H Qs := ⟨p, xs, rfl, h, hn, q⟩
theorem e_gcons : gCons t tg (x :: xs) σ H Qs = t x σ H (fun σ1 H1 => tg xs σ1 H1 Qs) := propext ⟨fun ⟨v, r, e, q⟩ => by cases e; exact q, fun q => ⟨x, xs, rfl, q⟩⟩
theorem e_gnil : gNil [] σ H Qs = Qs σ H := propext ⟨fun q => q.2, fun q => ⟨rfl, q⟩⟩
theorem e_asgT : fAsg (gTup K n tg) σ nx v H = gTup K n tg v σ H nx := rfl
theorem e_callD {sp : Sp} {d : V} {ds : List V} {E : XK} {vs : List V} : fCall sp (d :: ds) E Q vs H = sp (vs ++ (d :: ds)) H Q E := rfl
end
/-- a cut of any list -/
def cutG {α : Type} (xs : List α) (lo hi : Option Int) : List α := (xs.drop (HT.sIx xs.length 0 lo)).take (HT.sIx xs.length xs.length hi - HT.sIx xs.length 0 lo)
theorem cutV_eq (xs : List V) (lo hi : Option Int) : cutV xs lo hi = cutG xs lo hi := rfl
theorem cutG_to {α : Type} (xs : List α) (k : Nat) : cutG xs none (some (k : Int)) = xs.take k := by
  unfold cutG
  rw [HT.sIx_none, HT.sIx_nat, List.drop_zero, Nat.sub_zero]
  by_cases h : k ≤ xs.length
  · rw [Nat.min_eq_left h]
  · rw [Nat.min_eq_right (by omega), List.take_of_length_le (Nat.le_refl _), List.take_of_length_le (by omega)]
theorem cutG_from {α : Type} (xs : List α) (k : Nat) : cutG xs (some (k : Int)) none = xs.drop k := by
  unfold cutG
  rw [HT.sIx_none, HT.sIx_nat]
  by_cases h : k ≤ xs.length
  · rw [Nat.min_eq_left h, List.take_of_length_le (by rw [List.length_drop]; omega)]
  · rw [Nat.min_eq_right (by omega), Nat.sub_self, List.take_zero, List.drop_of_length_le (by omega)]
theorem cutG_mem {α : Type} {xs : List α} {lo hi : Option Int} {x : α} (h : x ∈ cutG xs lo hi) : x ∈ xs := List.mem_of_mem_drop (List.mem_of_mem_take h)
theorem Paired.take {α β : Type} {F : α → β → Prop} : ∀ {xs : List α} {ys : List β} (n : Nat), Paired F xs ys → Paired F (xs.take n) (ys.take n)
  | _, _, 0, _ => by simpa using Paired.nil
  | _, _, n + 1, .nil => by simpa using Paired.nil
  | _, _, n + 1, .cons h t => by simpa using Paired.cons h (Paired.take n t)
theorem Paired.drop {α β : Type} {F : α → β → Prop} : ∀ {xs : List α} {ys : List β} (n : Nat), Paired F xs ys → Paired F (xs.drop n) (ys.drop n)
  | _, _, 0, h => by simpa using h
  | _, _, n + 1, .nil => by simpa using Paired.nil
  | _, _, n + 1, .cons h t => by simpa using Paired.drop n t
theorem Paired.cut {α β : Type} {F : α → β → Prop} {xs : List α} {ys : List β} {lo hi : Option Int} (h : Paired F xs ys) : Paired F (cutG xs lo hi) (cutG ys lo hi) := by
  have e := Paired.length h
  unfold cutG
  rw [e]
  exact Paired.take _ (Paired.drop _ h)
/-! ### errors -/
def fMkErr (fl : Str) (C : Addr) (Q : XK) : VL := fun vs H1 => ∃ v, vs = [v] ∧ ∀ d, H1 d = none → Q (.ref C) (some d) (upd H1 d (.xd [(fl, v)]))
theorem e_raise {fl : Str} {C : Addr} {W : WX} {ta : TA} {D : Ends} {σ : St} {H : Hp} : tRaiseErr fl C W ta D σ H = ta σ H (fMkErr fl C fun c d H' => W c d σ H') := rfl
theorem e_mkErr {fl : Str} {C : Addr} {Q : XK} {v : V} {H : Hp} : fMkErr fl C Q [v] H = ∀ d, H d = none → Q (.ref C) (some d) (upd H d (.xd [(fl, v)])) :=
  propext ⟨fun ⟨w, e, q⟩ => by cases e; exact q, fun q => ⟨v, rfl, q⟩⟩
theorem k_isErr {K : PySem.W.Frag} {D a dd : Addr} {fs : List (Str × V)} {c : V} {cv : Value} {b : Bool} {H : Hp} {Q : VK} (h : H dd = some (.xd fs)) (hcv : ∀ u, RelV c u → u = cv) (hk : PySem.W.kitOne K (.ref D) cv = some b) (q : Q (.bl b) H) : fCB (rIsErr K D a (.ref D) (some dd)) Q [.ref a, c] H :=
  ⟨c, cv, b, dd, fs, rfl, h, rfl, rfl, hcv, hk, q⟩
theorem b_ValueError : bootBuiltins "ValueError" = some (.type "ValueError") := by decide +kernel
theorem e_asg1 {g : TG} {σ : St} {nx : St → Hp → Prop} {v : V} {H : Hp} : fAsg g σ nx v H = g v σ H nx := rfl
theorem e_opS {r : St → R2} {ta tb : TE} {σ : St} {H : Hp} {Q : VK} : tOpS r ta tb σ H Q = tOp (r σ) ta tb σ H Q := rfl
def fFldErr (fl : Str) (C a : Addr) (cls : Value) (d : Option Addr) (Q : VK) : VK := fun x H1 => x = .ref a ∧ cls = .ref C ∧ ∃ (dd : Addr) (v : V), d = some dd ∧ H1 dd = some (.xd [(fl, v)]) ∧ Q v H1
theorem e_fldErr {fl : Str} {C a : Addr} {cls : Value} {d : Option Addr} {te : TE} {σ : St} {H : Hp} {Q : VK} : tFldErr fl C a cls d te σ H Q = te σ H (fFldErr fl C a cls d Q) := rfl
theorem k_fldErr {fl : Str} {C a dd : Addr} {v : V} {H : Hp} {Q : VK} (h : H dd = some (.xd [(fl, v)])) (q : Q v H) : fFldErr fl C a (.ref C) (some dd) Q (.ref a) H := ⟨rfl, rfl, dd, v, rfl, h, q⟩
theorem k_we {K : PySem.W.Frag} {c cls : Value} {i : Nat} {ts : Addr → Value → Option Addr → TS} {Wout : WX} {D : Ends} {σ : St} {d : Option Addr} {H : Hp} (h : PySem.W.exmOne K cls c = some true)
    (q : ∀ a, H a = none → ts a cls d { nx := fun σ' H' => D.nx (σ'.set i none) H', rt := D.rt, bk := fun σ' H' => D.bk (σ'.set i none) H', ct := fun σ' H' => D.ct (σ'.set i none) H' } (σ.set i (some (.ref a))) H) : WE (wAs K c i ts Wout D) σ cls d H :=
  ⟨true, h, fun _ => q, fun z => nomatch z⟩
theorem k_catT {K : PySem.W.Frag} {H : Hp} {a b : Addr} {xs ys : List V} {Q : VK} (h1 : SqT K H a xs) (h2 : SqT K H b ys) (hl : xs.length + ys.length ≤ 100000) (q : ∀ (r : Addr) (H' : Hp), Same H H' → SqT K H' r (xs ++ ys) → Q (.ref r) H') : fOp2 (rAddU K) (.ref a) Q (.ref b) H := by
  refine .inl ⟨a, b, xs, ys, rfl, rfl, h1, h2, Nat.le_trans hl (by decide), fun e => ?_, fun _ e => ?_, fun _ _ p n => ?_⟩
  · subst e
    exact q b H (Same.refl H) h2
  · subst e
    rw [List.append_nil] at q
    exact q a H (Same.refl H) h1
  · exact q p _ (fun c o e => lk_new e n) (SqT.of upd_same)
/-- a def with defaults, from which nothing is raised -/
theorem FunD_ok {P : Program} {w : World} {K : PySem.W.Frag} {mg : Str → Option Value} {base : Heap} {x qual : Str} {params : Arguments} {body : List Stmt} {scope : Scope} {dvs : List V} {kws : List (Str × V)} {f : Addr} {fd : FuncData} {N ps : List Str} {k : Nat} {sp : Sp}
    (F : FunD K x qual params body scope dvs kws f fd) (S : FnScope N ps scope) (len : ∀ vs H Q E, sp vs H Q E → vs.length = ps.length)
    (hbody : ∀ (cdv : Value) (A : Around) (outer : List Env) (s : Shared) (H : Hp) (vs : List V) (Q : VK) (E : XK), Room k (A.deeper (PyProof.Rows.envOfC qual scope s.heap.objs.size f cdv)) → sp vs H Q E →
      ∃ t, PSs (cxOf CX0 P w K mg base N qual scope f cdv A outer s H E).nox body t ∧ t { nx := fun _ H' => Q .non H', rt := Q } (start N vs) H) : FnOk P w K mg base CX0 (k + 1) f fd ps sp :=
  F.ok S len fun cdv A outer s H vs Q E hr h => by
    obtain ⟨t, h1, q⟩ := hbody cdv A outer s H vs Q E hr h
    exact ⟨t, h1.nox, q⟩
/-! ### facts carried from an older heap -/
section
variable {K : PySem.W.Frag} {H H' : Hp} {p a b : Addr} {o u : HO} {xs : List V}
theorem Same.get (s : Same H H') (h : H p = some o) : H' p = some o := s _ _ h
theorem But.get (s : But a H H') (h : H p = some o) (n : p ≠ a) : H' p = some o := s _ _ h n
theorem lk_new2 (n : H p = none) (h : H a = some o) : upd H p u a = some o := lk_new h n
theorem lk_ne2 (n : a ≠ p) (h : H a = some o) : upd H p u a = some o := lk_ne h n
theorem But.get2 (s : But a H H') (n : p ≠ a) (h : H p = some o) : H' p = some o := s _ _ h n
theorem sqL_new2 (n : H p = none) (h : SqL K H a xs) : SqL K (upd H p o) a xs := sqL_new h n
theorem sqT_new2 (n : H p = none) (h : SqT K H a xs) : SqT K (upd H p o) a xs := sqT_new h n
theorem ne_new (n : H p = none) (h : H b = some o) : b ≠ p := ne_of_none h n
theorem ne_new' (n : H p = none) (h : H b = some o) : p ≠ b := (ne_of_none h n).symm
theorem Same.link {H1 : Hp} (k : Same H1 H') (s : Same H H1) : Same H H' := s.trans k
theorem Same.linkN {H1 : Hp} (n : H1 p = none) (s : Same H H1) : Same H (upd H1 p o) := s.trans (Same.new n)
theorem But.link {H1 : Hp} (k : But a H1 H') (s : But a H H1) : But a H H' := But.trans s k
theorem But.linkS {H1 : Hp} (k : Same H1 H') (s : But a H H1) : But a H H' := But.trans s (But.of k)
theorem But.linkN {H1 : Hp} (n : H1 p = none) (s : But a H H1) : But a H (upd H1 p o) := But.trans s (But.of (Same.new n))
theorem But.linkA {H1 : Hp} (s : But a H H1) : But a H (upd H1 a o) := fun b u e n => lk_ne (s b u e n) n
/-- the object at p, which was not there at first, is changed -/
theorem Same.linkU {H1 : Hp} (n : H p = none) (s : Same H H1) : Same H (upd H1 p o) := Same.upd_new s n
theorem But.linkU {H1 : Hp} (n : H p = none) (s : But a H H1) : But a H (upd H1 p o) := But.upd_new s n
theorem sqL_link {H1 : Hp} (k : Same H1 H') (s : SqL K H1 a xs) : SqL K H' a xs := sqL_same k s
theorem sqT_link {H1 : Hp} (k : Same H1 H') (s : SqT K H1 a xs) : SqT K H' a xs := by
  rcases s with (h | ⟨o, h⟩) | h
  · exact .inl (.inl (k _ _ h))
  · exact .inl (.inr ⟨o, k _ _ h⟩)
  · exact .inr h
end
/-! ### [k for k in .. if ..] -/
theorem filter_range_succ (p : Nat → Bool) (n : Nat) : (List.range (n + 1)).filter p = (List.range n).filter p ++ (if p n then [n] else []) := by
  rw [List.range_succ, List.filter_append]
  congr 1
  simp [List.filter]
  split <;> simp_all
theorem k_lcFil {J : It} {n j : Nat} {G : Hp → Prop} {Yd : Nat → Hp → V → Hp → Prop} {tt : TT} {σ : St} {H : Hp} {Q : VK} (w : Walk J n G Yd) (f : Nat → V) (p : Nat → Bool) (hn : n ≤ 10000) (hj : j < σ.length) (hG : ∀ H', Same H H' → G H')
    (hY : ∀ i H1 x H2, i < n → G H1 → Yd i H1 x H2 → H2 = H1 ∧ x = f i) (ht : ∀ i H1 (Qb : Bool → Hp → Prop), i < n → Same H H1 → (∀ H2, Same H1 H2 → Qb (p i) H2) → tt (σ.set j (some (f i))) H1 Qb)
    (q : ∀ l H', H l = none → Same H H' → H' l = some (.lst (((List.range n).filter p).map f)) → Q (.ref l) H') : fLc (gName j) tt (tVar j) [j] σ Q J H := by
  refine k_lc w fun l nl => ⟨fun i H' => Same H H' ∧ H' l = some (.lst (((List.range i).filter p).map f)), ⟨Same.new nl, upd_same⟩, fun i H' _ h => hG H' h.1, ?_, fun H' h => q l H' nl h.1 h.2⟩
  rintro i x H1 H2 hi ⟨s1, h1⟩ y
  obtain ⟨rfl, rfl⟩ := hY i H1 x H2 hi (hG _ s1) y
  have ew : ∀ v : Option V, ((wipe σ [j]).set j v) = σ.set j v := fun v => by
    show (σ.set j none).set j v = _
    rw [List.set_set]
  show (fun σ2 H2 => wipe σ2 [j] = wipe σ [j] ∧ tt σ2 H2 _) ((wipe σ [j]).set j (some (f i))) H2
  rw [ew]
  refine ⟨?_, ht i H2 _ hi s1 fun H3 s3 => ?_⟩
  · show (σ.set j (some (f i))).set j none = σ.set j none
    rw [List.set_set]
  · have h3 := s3 _ _ h1
    have hlen : (((List.range i).filter p).map f).length ≤ i := by
      rw [List.length_map]
      have := List.length_filter_le p (List.range i)
      rwa [List.length_range] at this
    show if p i = true then _ else _
    split
    · rename_i hp
      show tVar j (σ.set j (some (f i))) H3 _
      refine ⟨f i, by rw [List.getElem?_set_self hj], ?_⟩
      refine k_acc h3 (by omega) ⟨Same.upd_new (s1.trans s3) nl, ?_⟩
      rw [upd_same, filter_range_succ, if_pos hp, List.map_append]
      rfl
    · rename_i hp
      refine ⟨s1.trans s3, ?_⟩
      rw [filter_range_succ, if_neg hp, List.append_nil]
      exact h3
/-! ### not in -/
def rNotInT (K : PySem.W.Frag) : R2 := fun x y H Q => ∃ d ds, Dp K H x d ∧ Dp K H y (.tuple ds) ∧ SeqAt.shaped d = true ∧ SeqAt.shaped (.tuple ds) = true ∧ Q (.bl (!ds.any fun z => PyData.eqv z d)) H
theorem op_notInT {X : Cx} (hu : X.A.units + 65 < cLine) : OpR X (compareOp .NotIn) (rNotInT X.K) := by
  intro pins s σ H x y v u Q I rx ry h
  obtain ⟨d, ds, hd, he, sd, se, q⟩ := h
  obtain ⟨as, r1⟩ := Dp.reads I d x v hd rx
  obtain ⟨bs, r2⟩ := Dp.reads I (.tuple ds) y u he ry
  exact SeqAt.notIn_tuple_reads r2 r1 (SeqAt.canLay_of_shaped se) (SeqAt.canLay_of_shaped sd) (PyProof.Rows.room_in_shaped sd hu) ⟨.bl _, H, I, rfl, q⟩
def rNotInU (K : PySem.W.Frag) : R2 := fun x y H Q => rNotInT K x y H Q ∨ rNotInD K x y H Q
theorem op_notInU {X : Cx} (hu : X.A.units + 65 < cLine) : OpR X (compareOp .NotIn) (rNotInU X.K) := by
  intro pins s σ H x y v u Q I rx ry h
  rcases h with h | h
  · exact op_notInT hu pins s σ H _ _ v u Q I rx ry h
  · exact op_notInD hu pins s σ H _ _ v u Q I rx ry h
theorem op_notInUk {X : Cx} (K : PySem.W.Frag) (hu : X.A.units + 65 < cLine) (h : X.K = K := by rfl) : OpR X (compareOp .NotIn) (rNotInU K) := by subst h; exact op_notInU hu
theorem k_ninT {K : PySem.W.Frag} {H : Hp} {Q : VK} {x y : V} {d : PyData} {ds : List PyData} (h1 : Dp K H x d) (h2 : Dp K H y (.tuple ds)) (s1 : SeqAt.shaped d = true) (s2 : SeqAt.shaped (.tuple ds) = true) (q : Q (.bl (!ds.any fun z => PyData.eqv z d)) H) : fOp2 (rNotInU K) x Q y H :=
  .inl ⟨d, ds, h1, h2, s1, s2, q⟩
theorem k_ninL {K : PySem.W.Frag} {H : Hp} {Q : VK} {x y : V} {d : PyData} {ds : List PyData} (h1 : Dp K H x d) (h2 : Dp K H y (.list ds)) (s1 : SeqAt.shaped d = true) (s2 : SeqAt.shaped (.list ds) = true) (q : Q (.bl (!ds.any fun z => PyData.eqv z d)) H) : fOp2 (rNotInU K) x Q y H :=
  .inr ⟨d, ds, h1, h2, s1, s2, q⟩
/-! ### s.join(x) -/
def fM1 (r : V → List V → Hp → VK → Prop) (te : TE) (σ : St) (Q : VK) : VK := fun x H1 => (∃ a, x = .str a) ∧ te σ H1 fun y H2 => r x [y] H2 Q
def fM1b (r : V → List V → Hp → VK → Prop) (x : V) (Q : VK) : VK := fun y H2 => r x [y] H2 Q
theorem e_m1 {r : V → List V → Hp → VK → Prop} {to te : TE} {σ : St} {H : Hp} {Q : VK} : tM1 r to te σ H Q = to σ H (fM1 r te σ Q) := rfl
theorem e_m1a {r : V → List V → Hp → VK → Prop} {te : TE} {σ : St} {H : Hp} {Q : VK} {a : Str} : fM1 r te σ Q (.str a) H = te σ H (fM1b r (.str a) Q) := propext ⟨fun h => h.2, fun h => ⟨⟨a, rfl⟩, h⟩⟩
theorem e_m1b {r : V → List V → Hp → VK → Prop} {H : Hp} {Q : VK} {x y : V} : fM1b r x Q y H = r x [y] H Q := rfl
def rJoin (K : PySem.W.Frag) : V → List V → Hp → VK → Prop := fun x xs H Q => ∃ a p, ∃ ys : List Str, x = .str a ∧ xs = [.ref p] ∧ (SqL K H p (ys.map V.str) ∨ SqT K H p (ys.map V.str)) ∧ (ys.map (·.length)).sum + ys.length * a.length ≤ 16777216 ∧ Q (.str (Txt.join a ys)) H
theorem pe_joink {X : Cx} (K : PySem.W.Frag) {o e : Expr} {to te : TE} {apos pos : Pos} (ho : PE X o to) (he : PE X e te) (h : X.K = K := by rfl) (hbase : attributeBase o "join" X.env (eval o X.env) = eval o X.env := by rfl) (hline : (apos.endLine == pos.line) = true := by rfl)
    (hs : starEach [e] X.env = [(false, eval e X.env)] := by rfl) : PE X (.Call (.Attribute o "join" apos) [e] [] pos) (tM1 (rJoin K) to te) := by
  subst h
  exact pe_join ho he hs hbase hline
theorem k_join {K : PySem.W.Frag} {H : Hp} {Q : VK} {a : Str} {p : Addr} {ys : List Str} (h : SqL K H p (ys.map V.str) ∨ SqT K H p (ys.map V.str)) (hl : (ys.map (·.length)).sum + ys.length * a.length ≤ 16777216) (q : Q (.str (Txt.join a ys)) H) : rJoin K (.str a) [.ref p] H Q :=
  ⟨a, p, ys, rfl, rfl, h, hl, q⟩
end Y

set_option Elab.async false
set_option linter.all false
set_option maxRecDepth 100000
namespace Y
open PySem L2 PySem.Spec PyProof.Rows
/-! ### tuples whose object is known: their methods -/
def tTupZ (t : TA) : TE := fun σ H Q => t σ H fun xs H1 => xs.length ≤ sizeLine ∧ ∀ p o, H1 p = none → o.cls = .type "tuple" → o.dict = none → Q (.ref p) (upd H1 p (.frz o (.tup xs)))
theorem pe_tupZ {X : Cx} {es : List Expr} {t : TA} {x1 : Nat} {pos : Pos} (h : PA X es t) : PE X (.Tuple es x1 pos) (tTupZ t) := by
  refine ⟨fun pins s σ H Q I hq => ?_⟩
  refine wpAny_Tuple_spliced (thn (h.run pos pins s σ H _ I hq) fun us s1 ⟨xs, H1, I1, r, z, q⟩ => ⟨by rw [← r.length]; exact z, ?_⟩)
  have hf : H1 s1.heap.objs.size = none := I1.hok.fresh (Nat.le_refl _)
  refine ⟨.ref s1.heap.objs.size, upd H1 s1.heap.objs.size (.frz { cls := .type "tuple", data := .seq us.toArray } (.tup xs)), I1.laid (t' := s1.toks) (fun b u e => Heap.get?_push_of_some _ e) (Nat.le_refl _) ?_, rfl, q _ _ hf rfl rfl⟩
  exact ⟨Heap.get?_push_size _ rfl, z, us, r, ⟨_, Heap.get?_push_size _ rfl, rfl, _, rfl⟩⟩
def fTupZ (Q : VK) : List V → Hp → Prop := fun xs H1 => xs.length ≤ sizeLine ∧ ∀ p o, H1 p = none → o.cls = .type "tuple" → o.dict = none → Q (.ref p) (upd H1 p (.frz o (.tup xs)))
theorem e_tupZ {tl : TA} {σ : L2.St} {H : Hp} {Q : VK} : tTupZ tl σ H Q = tl σ H (fTupZ Q) := rfl
theorem k_tupZ {H : Hp} {Q : VK} {xs : List V} (hl : xs.length ≤ 100000) (q : ∀ p o, H p = none → o.cls = .type "tuple" → o.dict = none → Q (.ref p) (upd H p (.frz o (.tup xs)))) : fTupZ Q xs H := ⟨Nat.le_trans hl (by decide), q⟩
theorem SqT.ofZ {K : PySem.W.Frag} {H : Hp} {a : Addr} {xs : List V} {o : Obj} (h : H a = some (.frz o (.tup xs))) : SqT K H a xs := .inl (.inr ⟨o, h⟩)
def TupZ (K : PySem.W.Frag) (H : Hp) (a : Addr) (xs : List V) : Prop := (∃ o, H a = some (.frz o (.tup xs)) ∧ o.cls = .type "tuple" ∧ o.dict = none) ∨
  ∃ (o : Obj) (its : Array Value) (n : Nat), K.lookup a = some o ∧ o.cls = .type "tuple" ∧ o.dict = none ∧ o.data = .seq its n ∧ its.size ≤ sizeLine ∧ Vals xs its.toList
theorem TupZ.sq {K : PySem.W.Frag} {H : Hp} {a : Addr} {xs : List V} : TupZ K H a xs → SqT K H a xs
  | .inl ⟨o, h, _⟩ => .inl (.inr ⟨o, h⟩)
  | .inr ⟨o, its, n, h1, h2, _, h3, h4, h5⟩ => .inr ⟨o, its, n, h1, h2, h3, h4, h5⟩
theorem TupZ.mono {K : PySem.W.Frag} {H H' : Hp} {a : Addr} {xs : List V} (e : Same H H') : TupZ K H a xs → TupZ K H' a xs
  | .inl ⟨o, h, r⟩ => .inl ⟨o, e _ _ h, r⟩
  | .inr h => .inr h
theorem tupZ_K {K : PySem.W.Frag} {H : Hp} {a : Addr} {xs : List V} {its : List Value} {n : Nat} {sl : Array (Option Value)} (h : K.lookup a = some ⟨.type "tuple", none, .seq its.toArray n, sl⟩) (hl : its.length ≤ 1000) (hv : Vals xs its) : TupZ K H a xs :=
  .inr ⟨_, _, n, h, rfl, rfl, rfl, by rw [List.size_toArray]; exact Nat.le_trans hl (by decide), by simpa using hv⟩
/-- t.count(y), data -/
def rCntT (K : PySem.W.Frag) : V → List V → Hp → VK → Prop := fun x vs H Q => ∃ p ds d y, x = .ref p ∧ vs = [y] ∧ Dp K H (.ref p) (.tuple ds) ∧ Dp K H y d ∧ SeqAt.shaped (.tuple ds) = true ∧ SeqAt.shaped d = true ∧ Q (.int ((ds.countP fun z => PyData.eqv z d : Nat) : Int)) H
theorem mt_cntTk {X : Cx} (K : PySem.W.Frag) (hu : X.A.units + 65 < cLine) (h : X.K = K := by rfl) : MtR X "tuple.count" (rCntT K) := by
  subst h
  intro pins s σ H x xs v us Q I rx rxs h
  obtain ⟨p, ds, d, y, rfl, rfl, h1, h2, s1, s2, q⟩ := h
  cases rx
  obtain ⟨u, rfl, ru⟩ := rxs.one
  cases h1 with
  | tup hs ha =>
    obtain ⟨its, rv, ⟨o, ho, hc, n, hd⟩, hlen⟩ := I.tuple hs
    obtain ⟨as, r1⟩ := Dp.readsAll I ds _ its ha rv
    obtain ⟨bs, r2⟩ := Dp.reads I d y u h2 ru
    have c1 := SeqAt.canLay_of_shaped s1
    have c2 := SeqAt.canLay_of_shaped s2
    have c1' : PyData.canLayAll0 ds = true := by simpa [PyData.canLay0] using c1
    have dd := SeqAt.depth_of_shaped s2
    refine SeqAt.count_tuple_data (xs := ds) (d := d) (vs := its.toArray) ⟨o, ho, hc, n, hd⟩ (by simpa using r1) r2 (PyData.plainAll_of_canLay0 _ c1') (PyData.plain_of_canLay0 _ c2) ?_ ⟨.int _, H, I.tok _, ⟨_, rfl⟩, q⟩
    have := Nat.min_le_right (PyData.depthAll ds) d.depth
    omega
def tTC (K : PySem.W.Frag) (to : TE) (t : TA) : TE := fun σ H Q => to σ H fun x H1 => (∃ a xs, x = .ref a ∧ TupZ K H1 a xs) ∧ t σ H1 fun vs H2 => rCntT K x vs H2 Q
theorem pe_tcount {X : Cx} (K : PySem.W.Frag) {o e : Expr} {to : TE} {t : TA} {apos cpos : Pos} (hu : X.A.units + 65 < cLine) (ho : PE X o to) (ha : PA X [e] t) (hK : X.K = K := by rfl)
    (hbase : attributeBase o "count" X.env (eval o X.env) = eval o X.env := by rfl)
    (hfew : ((backTo cpos (starEach [e] X.env)).all (fun x => !x.1) && (backToKw cpos (keywordEach [] X.env)).all (fun x => x.1.isSome)
      && decide ([e].length + ([] : List Keyword).length + (if ([] : List Keyword).isEmpty then 0 else 1) < 30)) = true := by rfl)
    (hline : (apos.endLine == cpos.line) = true := by rfl) (hs : starEach [e] X.env = (false, eval e X.env) :: starEach [] X.env := by rfl) (hplain : (backTo cpos (starEach [] X.env)).any (·.1) = false := by rfl) :
    PE X (.Call (.Attribute o "count" apos) [e] [] cpos) (tTC K to t) := by
  subst hK
  refine ⟨fun pins s σ H Q I h => ?_⟩
  refine wpAny_Call_method_late hbase hfew hline rfl (thn (ho.run pins s σ H _ I h) fun v s1 ⟨x, H1, I1, r1, ⟨a, xs, ex, hz⟩, q1⟩ => ?_)
  subst ex
  obtain rfl : v = Value.ref a := r1
  have tz : ∃ ob, s1.heap.get? a = some ob ∧ ob.cls = .type "tuple" ∧ ob.dict = none := by
    rcases hz with ⟨o, h, hc, hd⟩ | ⟨o, its, n, h, hc, hd, _⟩
    · obtain ⟨e, _⟩ := I1.hok a _ h
      exact ⟨o, e, hc, hd⟩
    · exact ⟨o, I1.kIn a o h, hc, hd⟩
  obtain ⟨ob, eo, ec, ed⟩ := tz
  refine ⟨"tuple", "tuple.count", PySem.F.plainAttrs_tuple, PySem.F.slot_tuple_count, PySem.F.type_tuple_count, ⟨ob, eo, ec⟩, fun c e => by cases e; exact ⟨ob, eo, ed⟩, ?_⟩
  have hA := ha.run cpos pins s1 σ H1 _ I1 q1
  rw [hs] at hA ⊢
  refine Calls.callWith_builtin (by show (false || (backTo cpos (starEach [] X.env)).any (·.1)) = false; rw [hplain] <;> rfl) (Calls.evalArgs_plain ?_)
  exact thn hA fun us s2 ⟨vs, H2, I2, r2, q2⟩ => mt_cntTk X.K hu rfl pins s2 σ H2 (.ref a) vs (.ref a) us Q I2 rfl r2 q2
def fTC (K : PySem.W.Frag) (t : TA) (σ : L2.St) (Q : VK) : VK := fun x H1 => (∃ a xs, x = .ref a ∧ TupZ K H1 a xs) ∧ t σ H1 fun vs H2 => rCntT K x vs H2 Q
def fTC2 (K : PySem.W.Frag) (x : V) (Q : VK) : List V → Hp → Prop := fun vs H2 => rCntT K x vs H2 Q
theorem e_tC {K : PySem.W.Frag} {to : TE} {t : TA} {σ : L2.St} {H : Hp} {Q : VK} : tTC K to t σ H Q = to σ H (fTC K t σ Q) := rfl
theorem k_tC {K : PySem.W.Frag} {t : TA} {σ : L2.St} {H : Hp} {Q : VK} {a : Addr} {xs : List V} (h : TupZ K H a xs) (q : t σ H (fTC2 K (.ref a) Q)) : fTC K t σ Q (.ref a) H := ⟨⟨a, xs, rfl, h⟩, q⟩
theorem k_countT {K : PySem.W.Frag} {H : Hp} {Q : VK} {a : Addr} {y : V} {ds : List PyData} {d : PyData} (h1 : Dp K H (.ref a) (.tuple ds)) (h2 : Dp K H y d) (s1 : SeqAt.shaped (.tuple ds) = true) (s2 : SeqAt.shaped d = true) (q : Q (.int ((ds.countP fun z => PyData.eqv z d : Nat) : Int)) H) : fTC2 K (.ref a) Q [y] H :=
  ⟨a, ds, d, y, rfl, rfl, h1, h2, s1, s2, q⟩
/-- a new object is changed: it was new at some heap behind the first one -/
theorem Same.linkV {H H1 H2 : Hp} {p : Addr} {o : HO} (n : H2 p = none) (s2 : Same H H2) (s : Same H H1) : Same H (upd H1 p o) := Same.upd_new s (Same.none_of s2 n)
theorem But.linkV {a : Addr} {H H1 H2 : Hp} {p : Addr} {o : HO} (n : H2 p = none) (s2 : Same H H2) (s : But a H H1) : But a H (upd H1 p o) := But.upd_new s (Same.none_of s2 n)
theorem sqT_other {K : PySem.W.Frag} {H : Hp} {p a : Addr} {xs : List V} {o u : HO} (h : H p = some u) (n1 : ∀ ys, u ≠ .tup ys) (n2 : ∀ o ys, u ≠ .frz o (.tup ys)) (s : SqT K H a xs) : SqT K (upd H p o) a xs := by
  have ne : ∀ v, H a = some v → (∃ ys, v = .tup ys) ∨ (∃ o ys, v = .frz o (.tup ys)) → a ≠ p := fun v e k z => by
    subst z
    rw [h] at e
    cases e
    rcases k with ⟨ys, e⟩ | ⟨o, ys, e⟩
    · exact n1 ys e
    · exact n2 o ys e
  rcases s with (h | ⟨o, h⟩) | h
  · exact .inl (.inl (lk_ne h (ne _ h (.inl ⟨_, rfl⟩))))
  · exact .inl (.inr ⟨o, lk_ne h (ne _ h (.inr ⟨_, _, rfl⟩))⟩)
  · exact .inr h
theorem sqT_lst {K : PySem.W.Frag} {H : Hp} {p a : Addr} {xs ys : List V} {o : HO} (h : H p = some (.lst ys)) (s : SqT K H a xs) : SqT K (upd H p o) a xs := sqT_other h (fun _ e => nomatch e) (fun _ _ e => nomatch e) s
theorem sqT_ins {K : PySem.W.Frag} {H : Hp} {p a C dx : Addr} {xs : List V} {fs : List (Str × V)} {o : HO} (h : H p = some (.ins C dx fs)) (s : SqT K H a xs) : SqT K (upd H p o) a xs := sqT_other h (fun _ e => nomatch e) (fun _ _ e => nomatch e) s
/-! ### what follows, kept apart -/
theorem k_opq1 {s1 s2 : TS} {D : Ends} {σ : L2.St} {H : Hp} (h : ∀ R : TS, R = s2 → tSeq s1 R D σ H) : tSeq s1 s2 D σ H := h s2 rfl
theorem k_opq2 {s1 s2 s3 : TS} {D : Ends} {σ : L2.St} {H : Hp} (h : ∀ R : TS, R = s3 → tSeq s1 (tSeq s2 R) D σ H) : tSeq s1 (tSeq s2 s3) D σ H := h s3 rfl
theorem k_opq3 {s1 s2 s3 s4 : TS} {D : Ends} {σ : L2.St} {H : Hp} (h : ∀ R : TS, R = s4 → tSeq s1 (tSeq s2 (tSeq s3 R)) D σ H) : tSeq s1 (tSeq s2 (tSeq s3 s4)) D σ H := h s4 rfl
theorem k_opq4 {s1 s2 s3 s4 s5 : TS} {D : Ends} {σ : L2.St} {H : Hp} (h : ∀ R : TS, R = s5 → tSeq s1 (tSeq s2 (tSeq s3 (tSeq s4 R))) D σ H) : tSeq s1 (tSeq s2 (tSeq s3 (tSeq s4 s5))) D σ H := h s5 rfl
theorem k_opq5 {s1 s2 s3 s4 s5 s6 : TS} {D : Ends} {σ : L2.St} {H : Hp} (h : ∀ R : TS, R = s6 → tSeq s1 (tSeq s2 (tSeq s3 (tSeq s4 (tSeq s5 R)))) D σ H) : tSeq s1 (tSeq s2 (tSeq s3 (tSeq s4 (tSeq s5 s6)))) D σ H := h s6 rfl
end Y

set_option Elab.async false
set_option linter.all false
set_option maxRecDepth 100000
namespace Y
open PySem L2
/-- tuples are as they were -/
def SameT (H H' : Hp) : Prop := ∀ b xs, (H b = some (.tup xs) → H' b = some (.tup xs)) ∧ ∀ o, H b = some (.frz o (.tup xs)) → H' b = some (.frz o (.tup xs))
theorem SameT.refl (H : Hp) : SameT H H := fun _ _ => ⟨id, fun _ => id⟩
theorem SameT.trans {H H1 H2 : Hp} (a : SameT H H1) (b : SameT H1 H2) : SameT H H2 := fun c xs => ⟨fun h => (b c xs).1 ((a c xs).1 h), fun o h => (b c xs).2 o ((a c xs).2 o h)⟩
theorem SameT.new {H : Hp} {p : Addr} {o : HO} (h : H p = none) : SameT H (upd H p o) := fun c xs => ⟨fun e => by rw [upd_ne (ne_of_none e h)]; exact e, fun _ e => by rw [upd_ne (ne_of_none e h)]; exact e⟩
theorem SameT.lst {H : Hp} {p : Addr} {o : HO} {xs : List V} (h : H p = some (.lst xs)) : SameT H (upd H p o) := fun c ys =>
  ⟨fun e => by rw [upd_ne (fun z => by subst z; rw [h] at e; cases e)]; exact e, fun _ e => by rw [upd_ne (fun z => by subst z; rw [h] at e; cases e)]; exact e⟩
theorem SameT.ins {H : Hp} {p C dx : Addr} {o : HO} {fs : List (Str × V)} (h : H p = some (.ins C dx fs)) : SameT H (upd H p o) := fun c ys =>
  ⟨fun e => by rw [upd_ne (fun z => by subst z; rw [h] at e; cases e)]; exact e, fun _ e => by rw [upd_ne (fun z => by subst z; rw [h] at e; cases e)]; exact e⟩
theorem SameT.of {H H' : Hp} (e : Same H H') : SameT H H' := fun b xs => ⟨fun h => e b _ h, fun o h => e b _ h⟩
theorem SameT.but {H H' : Hp} {a : Addr} {xs : List V} (h : H a = some (.lst xs)) (k : ∀ b o, H b = some o → b ≠ a → H' b = some o) : SameT H H' := fun b ys =>
  ⟨fun e => k b _ e fun z => (by rw [z, h] at e; cases e), fun _ e => k b _ e fun z => (by rw [z, h] at e; cases e)⟩
theorem sqT_mono {K : PySem.W.Frag} {H H' : Hp} {a : Addr} {xs : List V} (e : SameT H H') (h : SqT K H a xs) : SqT K H' a xs := by
  rcases h with (h | ⟨o, h⟩) | h
  · exact .inl (.inl ((e _ _).1 h))
  · exact .inl (.inr ⟨o, (e _ _).2 _ h⟩)
  · exact .inr h
/-- steps: tuples of texts; a row: a tuple of steps -/
def Steps (K : PySem.W.Frag) (H : Hp) (xs : List V) (ws : List (List Str)) : Prop := Paired (fun (x : V) (w : List Str) => ∃ a, x = .ref a ∧ SqT K H a (w.map V.str)) xs ws
def Row (K : PySem.W.Frag) (H : Hp) (r : Addr) (ws : List (List Str)) : Prop := ∃ xs, SqT K H r xs ∧ Steps K H xs ws
theorem Steps.mono {K : PySem.W.Frag} {H H' : Hp} {xs : List V} {ws : List (List Str)} (e : SameT H H') (h : Steps K H xs ws) : Steps K H' xs ws := Paired.mapP h fun _ _ ⟨a, h1, h2⟩ => ⟨a, h1, sqT_mono e h2⟩
theorem Row.mono {K : PySem.W.Frag} {H H' : Hp} {r : Addr} {ws : List (List Str)} (e : SameT H H') : Row K H r ws → Row K H' r ws := fun ⟨xs, h1, h2⟩ => ⟨xs, sqT_mono e h1, h2.mono e⟩
theorem Steps.append {K : PySem.W.Frag} {H : Hp} : ∀ {xs ys : List V} {ws vs : List (List Str)}, Steps K H xs ws → Steps K H ys vs → Steps K H (xs ++ ys) (ws ++ vs)
  | _, _, _, _, .nil, h => h
  | _, _, _, _, .cons a t, h => .cons a (Steps.append t h)
def menu12 : List (List Str) := [["make", "all"], ["make", "standing"], ["drop"], ["start", "new"], ["start", "all"], ["start", "free"], ["label", "new"], ["label", "all"], ["label", "free"], ["tie", "new"], ["tie", "all"], ["tie", "free"]]
def steps12 : List (List Str) := [["make", "all"], ["make", "standing"], ["start", "new"], ["start", "all"], ["start", "free"], ["label", "new"], ["label", "all"], ["label", "free"], ["tie", "new"], ["tie", "all"], ["tie", "free"], ["drop"]]
theorem sqT_K2 {K : PySem.W.Frag} {H : Hp} {a : Addr} {x y : Str} {t u : Tok} {d : Option Addr} {n : Nat} {sl : Array (Option Value)} (h : K.lookup a = some ⟨.type "tuple", d, .seq #[.str x t, .str y u] n, sl⟩) : SqT K H a (([x, y] : List Str).map V.str) :=
  .inr ⟨_, _, n, h, rfl, rfl, (by decide : 2 ≤ sizeLine), .cons ⟨t, rfl⟩ (.cons ⟨u, rfl⟩ .nil)⟩
theorem sqT_K1 {K : PySem.W.Frag} {H : Hp} {a : Addr} {x : Str} {t : Tok} {d : Option Addr} {n : Nat} {sl : Array (Option Value)} (h : K.lookup a = some ⟨.type "tuple", d, .seq #[.str x t] n, sl⟩) : SqT K H a (([x] : List Str).map V.str) :=
  .inr ⟨_, _, n, h, rfl, rfl, (by decide : 1 ≤ sizeLine), .cons ⟨t, rfl⟩ .nil⟩
theorem steps_row {K : PySem.W.Frag} {H : Hp} {a : Addr} {xs : List Addr} {ws : List (List Str)} (h : ∃ (o : Obj), K.lookup a = some o ∧ o.cls = .type "tuple" ∧ ∃ n, o.data = .seq (xs.map Value.ref).toArray n) (hl : xs.length ≤ 1000)
    (hs : Steps K H (xs.map V.ref) ws) : Row K H a ws := by
  obtain ⟨o, h1, h2, n, h3⟩ := h
  refine ⟨_, .inr ⟨o, _, n, h1, h2, h3, ?_, ?_⟩, hs⟩
  · simp only [List.size_toArray, List.length_map]
    exact Nat.le_trans hl (by decide)
  · have : ∀ l : List Addr, Vals (l.map V.ref) (l.map Value.ref) := fun l => by
      induction l with
      | nil => exact .nil
      | cons a l ih => exact .cons rfl ih
    simpa using this xs
theorem Steps.at_ {K : PySem.W.Frag} {H : Hp} : ∀ {xs : List V} {ws : List (List Str)} {j : Nat}, Steps K H xs ws → j < ws.length → ∃ a w, xs[j]? = some (.ref a) ∧ ws[j]? = some w ∧ SqT K H a (w.map V.str)
  | _, _, _, .nil, h => absurd h (Nat.not_lt_zero _)
  | _, _, 0, .cons ⟨a, e, s⟩ _, _ => ⟨a, _, by rw [e]; rfl, rfl, s⟩
  | _, _, j + 1, .cons _ t, h => by
    obtain ⟨a, w, h1, h2, h3⟩ := Steps.at_ (j := j) t (Nat.lt_of_succ_lt_succ h)
    exact ⟨a, w, by simpa using h1, by simpa using h2, h3⟩
def stepD (w : List Str) : PyData := .tuple (w.map PyData.str)
theorem dpa_strs {K : PySem.W.Frag} {H : Hp} : ∀ {w : List Str}, DpAll K H (w.map V.str) (w.map PyData.str)
  | [] => .nil
  | _ :: _ => .cons (.str _) dpa_strs
theorem dp_step {K : PySem.W.Frag} {H : Hp} {a : Addr} {w : List Str} (h : SqT K H a (w.map V.str)) : Dp K H (.ref a) (stepD w) := .tup h dpa_strs
theorem Steps.dpa {K : PySem.W.Frag} {H : Hp} : ∀ {xs : List V} {ws : List (List Str)}, Steps K H xs ws → DpAll K H xs (ws.map stepD)
  | _, _, .nil => .nil
  | _, _, .cons ⟨a, e, s⟩ t => by
    subst e
    exact .cons (dp_step s) (Steps.dpa t)
theorem Row.dp {K : PySem.W.Frag} {H : Hp} {r : Addr} {ws : List (List Str)} : Row K H r ws → Dp K H (.ref r) (.tuple (ws.map stepD)) := fun ⟨_, h1, h2⟩ => .tup h1 h2.dpa
theorem step_shaped : ∀ w ∈ menu12, SeqAt.shaped (stepD w) = true ∧ (steps12.map stepD).any (fun z => PyData.eqv z (stepD w)) = true := by decide +kernel
theorem steps12_shaped : SeqAt.shaped (.tuple (steps12.map stepD)) = true := by decide +kernel

theorem Row.of_dp {K : PySem.W.Frag} {H : Hp} {r : Addr} {ws : List (List Str)} (h : Dp K H (.ref r) (.tuple (ws.map stepD))) : Row K H r ws := by
  obtain ⟨a, xs, e, h1, h2⟩ := Dp.tupS h
  cases e
  refine ⟨xs, h1, ?_⟩
  clear h h1
  induction ws generalizing xs with
  | nil =>
    cases h2
    exact .nil
  | cons w ws ih =>
    cases h2 with
    | cons hd tl =>
      refine .cons ?_ (ih _ tl)
      obtain ⟨b, ys, rfl, g1, g2⟩ := Dp.tupS hd
      refine ⟨b, rfl, ?_⟩
      have e : ys = w.map V.str := by
        clear g1 hd
        induction w generalizing ys with
        | nil =>
          cases g2
          rfl
        | cons z w ih2 =>
          cases g2 with
          | cons gh gt =>
            cases gh
            rw [ih2 _ gt]
            rfl
      rw [← e]
      exact g1
theorem Steps.cut {K : PySem.W.Frag} {H : Hp} {xs : List V} {ws : List (List Str)} {lo hi : Option Int} (h : Steps K H xs ws) : Steps K H (cutG xs lo hi) (cutG ws lo hi) := Paired.cut h
theorem Steps.take {K : PySem.W.Frag} {H : Hp} {xs : List V} {ws : List (List Str)} (n : Nat) (h : Steps K H xs ws) : Steps K H (xs.take n) (ws.take n) := Paired.take n h
theorem Steps.drop {K : PySem.W.Frag} {H : Hp} {xs : List V} {ws : List (List Str)} (n : Nat) (h : Steps K H xs ws) : Steps K H (xs.drop n) (ws.drop n) := Paired.drop n h
theorem Steps.len {K : PySem.W.Frag} {H : Hp} {xs : List V} {ws : List (List Str)} (h : Steps K H xs ws) : xs.length = ws.length := Paired.length h
theorem Steps.one {K : PySem.W.Frag} {H : Hp} {a : Addr} {w : List Str} (h : SqT K H a (w.map V.str)) : Steps K H [.ref a] [w] := .cons ⟨a, rfl, h⟩ .nil

def topS (i : Nat) : Stmt := PySem.Challenge.pw_yearturned_k48_what_is_still_wanted.main.body.getD i (.Pass ⟨0, 0, 0, 0⟩)
abbrev s_is_integer : Stmt := (topS 5)
abbrev N_is_integer : List Str := ["value", "low", "high"]
theorem sc_is_integer : FnScope N_is_integer ["value", "low", "high"] (defScope s_is_integer) := ⟨rfl, rfl, rfl, by decide +kernel, rfl, by decide +kernel, by decide +kernel⟩
abbrev s_is_step : Stmt := (topS 15)
abbrev N_is_step : List Str := ["value", "word"]
theorem sc_is_step : FnScope N_is_step ["value"] (defScope s_is_step) := ⟨rfl, rfl, rfl, by decide +kernel, rfl, by decide +kernel, by decide +kernel⟩
abbrev s_Script___init__ : Stmt := (inClass (topS 16) 0)
abbrev N_Script___init__ : List Str := ["self", "steps", "index", "step"]
theorem sc_Script___init__ : FnScope N_Script___init__ ["self", "steps"] (defScope s_Script___init__) := ⟨rfl, rfl, rfl, by decide +kernel, rfl, by decide +kernel, by decide +kernel⟩
abbrev s_Script___len__ : Stmt := (inClass (topS 16) 1)
abbrev N_Script___len__ : List Str := ["self"]
theorem sc_Script___len__ : FnScope N_Script___len__ ["self"] (defScope s_Script___len__) := ⟨rfl, rfl, rfl, by decide +kernel, rfl, by decide +kernel, by decide +kernel⟩
abbrev s_Script___add__ : Stmt := (inClass (topS 16) 6)
abbrev N_Script___add__ : List Str := ["self", "other"]
theorem sc_Script___add__ : FnScope N_Script___add__ ["self", "other"] (defScope s_Script___add__) := ⟨rfl, rfl, rfl, by decide +kernel, rfl, by decide +kernel, by decide +kernel⟩
abbrev s_Script_steps : Stmt := (inClass (topS 16) 7)
abbrev N_Script_steps : List Str := ["self"]
theorem sc_Script_steps : FnScope N_Script_steps ["self"] (defScope s_Script_steps) := ⟨rfl, rfl, rfl, by decide +kernel, rfl, by decide +kernel, by decide +kernel⟩
abbrev s_Script_without : Stmt := (inClass (topS 16) 8)
abbrev N_Script_without : List Str := ["self", "index", "steps"]
theorem sc_Script_without : FnScope N_Script_without ["self", "index"] (defScope s_Script_without) := ⟨rfl, rfl, rfl, by decide +kernel, rfl, by decide +kernel, by decide +kernel⟩
abbrev s_Script_with_step : Stmt := (inClass (topS 16) 9)
abbrev N_Script_with_step : List Str := ["self", "index", "step", "steps"]
theorem sc_Script_with_step : FnScope N_Script_with_step ["self", "index", "step"] (defScope s_Script_with_step) := ⟨rfl, rfl, rfl, by decide +kernel, rfl, by decide +kernel, by decide +kernel⟩
abbrev s_Script__has : Stmt := (inClass (topS 16) 10)
abbrev N_Script__has : List Str := ["self", "index"]
theorem sc_Script__has : FnScope N_Script__has ["self", "index"] (defScope s_Script__has) := ⟨rfl, rfl, rfl, by decide +kernel, rfl, by decide +kernel, by decide +kernel⟩
abbrev s_marks_behind : Stmt := (topS 10)
abbrev N_marks_behind : List Str := ["marks", "step", "made", "started", "labelled", "tied", "dropped"]
theorem sc_marks_behind : FnScope N_marks_behind ["marks", "step"] (defScope s_marks_behind) := ⟨rfl, rfl, rfl, by decide +kernel, rfl, by decide +kernel, by decide +kernel⟩
abbrev s_marks_of : Stmt := (topS 11)
abbrev N_marks_of : List Str := ["steps", "ahead", "marks", "step"]
theorem sc_marks_of : FnScope N_marks_of ["steps", "ahead"] (defScope s_marks_of) := ⟨rfl, rfl, rfl, by decide +kernel, rfl, by decide +kernel, by decide +kernel⟩
abbrev s_is_right : Stmt := (topS 20)
abbrev N_is_right : List Str := ["script"]
theorem sc_is_right : FnScope N_is_right ["script"] (defScope s_is_right) := ⟨rfl, rfl, rfl, by decide +kernel, rfl, by decide +kernel, by decide +kernel⟩
abbrev s__law_pot : Stmt := (topS 22)
abbrev N__law_pot : List Str := ["script", "k", "cell"]
theorem sc__law_pot : FnScope N__law_pot ["script", "k"] (defScope s__law_pot) := ⟨rfl, rfl, rfl, by decide +kernel, rfl, by decide +kernel, by decide +kernel⟩
abbrev s__law_dip : Stmt := (topS 23)
abbrev N__law_dip : List Str := ["pot", "many", "found", "mixed"]
theorem sc__law_dip : FnScope N__law_dip ["pot", "many"] (defScope s__law_dip) := ⟨rfl, rfl, rfl, by decide +kernel, rfl, by decide +kernel, by decide +kernel⟩
abbrev s__law_kinds : Stmt := (topS 24)
abbrev N__law_kinds : List Str := ["scopes", "found", "word", "scope"]
theorem sc__law_kinds : FnScope N__law_kinds [] (defScope s__law_kinds) := ⟨rfl, rfl, rfl, by decide +kernel, rfl, by decide +kernel, by decide +kernel⟩
abbrev s__law_any : Stmt := (topS 25)
abbrev N__law_any : List Str := ["pot", "many", "kinds", "k"]
theorem sc__law_any : FnScope N__law_any ["pot", "many"] (defScope s__law_any) := ⟨rfl, rfl, rfl, by decide +kernel, rfl, by decide +kernel, by decide +kernel⟩
abbrev s__law_sound : Stmt := (topS 26)
abbrev N__law_sound : List Str := ["pot", "make", "found"]
theorem sc__law_sound : FnScope N__law_sound ["pot"] (defScope s__law_sound) := ⟨rfl, rfl, rfl, by decide +kernel, rfl, by decide +kernel, by decide +kernel⟩
abbrev s__law_steps : Stmt := (topS 27)
abbrev N__law_steps : List Str := ["pot", "found", "turn", "spot", "way"]
theorem sc__law_steps : FnScope N__law_steps ["pot"] (defScope s__law_steps) := ⟨rfl, rfl, rfl, by decide +kernel, rfl, by decide +kernel, by decide +kernel⟩
abbrev s__law_script : Stmt := (topS 28)
abbrev N__law_script : List Str := ["steps", "size", "way", "spot"]
theorem sc__law_script : FnScope N__law_script ["steps"] (defScope s__law_script) := ⟨rfl, rfl, rfl, by decide +kernel, rfl, by decide +kernel, by decide +kernel⟩
abbrev s__law_due : Stmt := (topS 29)
abbrev N__law_due : List Str := ["steps", "makes", "k", "drops"]
theorem sc__law_due : FnScope N__law_due ["steps"] (defScope s__law_due) := ⟨rfl, rfl, rfl, by decide +kernel, rfl, by decide +kernel, by decide +kernel⟩
abbrev s_can_begin : Stmt := (topS 18)
abbrev N_can_begin : List Str := ["script", "marks"]
theorem sc_can_begin : FnScope N_can_begin ["script"] (defScope s_can_begin) := ⟨rfl, rfl, rfl, by decide +kernel, rfl, by decide +kernel, by decide +kernel⟩
abbrev s__law_mark : Stmt := (topS 30)
abbrev N__law_mark : List Str := ["marks", "step", "found"]
theorem sc__law_mark : FnScope N__law_mark ["marks", "step"] (defScope s__law_mark) := ⟨rfl, rfl, rfl, by decide +kernel, rfl, by decide +kernel, by decide +kernel⟩
abbrev s__law_wanted : Stmt := (topS 31)
abbrev N__law_wanted : List Str := ["steps", "marks", "step", "some", "k"]
theorem sc__law_wanted : FnScope N__law_wanted ["steps"] (defScope s__law_wanted) := ⟨rfl, rfl, rfl, by decide +kernel, rfl, by decide +kernel, by decide +kernel⟩
abbrev s__law_right : Stmt := (topS 32)
abbrev N__law_right : List Str := ["pot", "steps", "told", "due", "grown", "turn"]
theorem sc__law_right : FnScope N__law_right ["pot"] (defScope s__law_right) := ⟨rfl, rfl, rfl, by decide +kernel, rfl, by decide +kernel, by decide +kernel⟩
abbrev s_law : Stmt := (topS 33)
abbrev N_law : List Str := ["script", "k", "pot", "turn"]
theorem sc_law : FnScope N_law ["script"] (defScope s_law) := ⟨rfl, rfl, rfl, by decide +kernel, rfl, by decide +kernel, by decide +kernel⟩
/-- what the top has written -/
structure Txt (P : Program) (K : PySem.W.Frag) (mg : Str → Option Value) where
  a_ALL_MARKS : Addr
  dp_ALL_MARKS : ∀ H, Dp K H (.ref a_ALL_MARKS) (.tuple [(.bool true), (.bool true), (.bool true), (.bool true), (.bool true)])
  a_NO_MARKS : Addr
  dp_NO_MARKS : ∀ H, Dp K H (.ref a_NO_MARKS) (.tuple [(.bool false), (.bool false), (.bool false), (.bool false), (.bool false)])
  a_SPOILING : Addr
  dp_SPOILING : ∀ H, Dp K H (.ref a_SPOILING) (.tuple [(.tuple [(.str "label"), (.str "all")]), (.tuple [(.str "tie"), (.str "all")])])
  a_STEPS : Addr
  dp_STEPS : ∀ H, Dp K H (.ref a_STEPS) (.tuple [(.tuple [(.str "make"), (.str "all")]), (.tuple [(.str "make"), (.str "standing")]), (.tuple [(.str "start"), (.str "new")]), (.tuple [(.str "start"), (.str "all")]), (.tuple [(.str "start"), (.str "free")]), (.tuple [(.str "label"), (.str "new")]), (.tuple [(.str "label"), (.str "all")]), (.tuple [(.str "label"), (.str "free")]), (.tuple [(.str "tie"), (.str "new")]), (.tuple [(.str "tie"), (.str "all")]), (.tuple [(.str "tie"), (.str "free")]), (.tuple [(.str "drop")])])
  a_Script : Addr
  m_Script : mg "Script" = some (.ref a_Script)
  cl_Script : Cls K a_Script
  na_Script__steps : NoAttr K a_Script "_steps"
  f_is_integer : Addr
  d_is_integer : FuncData
  F_is_integer : Fun K "is_integer" "is_integer" s_is_integer f_is_integer d_is_integer
  b_is_integer : Binds K d_is_integer ["value", "low", "high"] []
  m_is_integer : mg "is_integer" = some (.ref f_is_integer)
  f_is_step : Addr
  d_is_step : FuncData
  F_is_step : Fun K "is_step" "is_step" s_is_step f_is_step d_is_step
  b_is_step : Binds K d_is_step ["value"] []
  m_is_step : mg "is_step" = some (.ref f_is_step)
  f_Script___init__ : Addr
  d_Script___init__ : FuncData
  F_Script___init__ : Fun K "__init__" "Script.__init__" s_Script___init__ f_Script___init__ d_Script___init__
  b_Script___init__ : Binds K d_Script___init__ ["self", "steps"] []
  M_Script : Mk K a_Script f_Script___init__
  f_Script___len__ : Addr
  d_Script___len__ : FuncData
  F_Script___len__ : Fun K "__len__" "Script.__len__" s_Script___len__ f_Script___len__ d_Script___len__
  b_Script___len__ : Binds K d_Script___len__ ["self"] []
  me_Script___len__ : Meth K a_Script "__len__" f_Script___len__
  f_Script___add__ : Addr
  d_Script___add__ : FuncData
  F_Script___add__ : Fun K "__add__" "Script.__add__" s_Script___add__ f_Script___add__ d_Script___add__
  b_Script___add__ : Binds K d_Script___add__ ["self", "other"] []
  me_Script___add__ : Meth K a_Script "__add__" f_Script___add__
  sf_Script : PySem.W.selfFirst K a_Script = true
  f_Script_steps : Addr
  d_Script_steps : FuncData
  F_Script_steps : Fun K "steps" "Script.steps" s_Script_steps f_Script_steps d_Script_steps
  b_Script_steps : Binds K d_Script_steps ["self"] []
  me_Script_steps : Meth K a_Script "steps" f_Script_steps
  f_Script_without : Addr
  d_Script_without : FuncData
  F_Script_without : Fun K "without" "Script.without" s_Script_without f_Script_without d_Script_without
  b_Script_without : Binds K d_Script_without ["self", "index"] []
  me_Script_without : Meth K a_Script "without" f_Script_without
  f_Script_with_step : Addr
  d_Script_with_step : FuncData
  F_Script_with_step : Fun K "with_step" "Script.with_step" s_Script_with_step f_Script_with_step d_Script_with_step
  b_Script_with_step : Binds K d_Script_with_step ["self", "index", "step"] []
  me_Script_with_step : Meth K a_Script "with_step" f_Script_with_step
  f_Script__has : Addr
  d_Script__has : FuncData
  F_Script__has : Fun K "_has" "Script._has" s_Script__has f_Script__has d_Script__has
  b_Script__has : Binds K d_Script__has ["self", "index"] []
  me_Script__has : Meth K a_Script "_has" f_Script__has
  f_marks_behind : Addr
  d_marks_behind : FuncData
  F_marks_behind : Fun K "marks_behind" "marks_behind" s_marks_behind f_marks_behind d_marks_behind
  b_marks_behind : Binds K d_marks_behind ["marks", "step"] []
  m_marks_behind : mg "marks_behind" = some (.ref f_marks_behind)
  f_marks_of : Addr
  d_marks_of : FuncData
  F_marks_of : FunD K "marks_of" "marks_of" (defArgs s_marks_of) (defBody s_marks_of) (defScope s_marks_of) [.ref a_NO_MARKS] [] f_marks_of d_marks_of
  bd_marks_of : ∃ ds, Vals [.ref a_NO_MARKS] ds ∧ Binds K d_marks_of ["steps", "ahead"] ds
  b_marks_of : Binds K d_marks_of ["steps", "ahead"] []
  m_marks_of : mg "marks_of" = some (.ref f_marks_of)
  f_is_right : Addr
  d_is_right : FuncData
  F_is_right : Fun K "is_right" "is_right" s_is_right f_is_right d_is_right
  b_is_right : Binds K d_is_right ["script"] []
  m_is_right : mg "is_right" = some (.ref f_is_right)
  f__law_pot : Addr
  d__law_pot : FuncData
  F__law_pot : Fun K "_law_pot" "_law_pot" s__law_pot f__law_pot d__law_pot
  b__law_pot : Binds K d__law_pot ["script", "k"] []
  m__law_pot : mg "_law_pot" = some (.ref f__law_pot)
  f__law_dip : Addr
  d__law_dip : FuncData
  F__law_dip : Fun K "_law_dip" "_law_dip" s__law_dip f__law_dip d__law_dip
  b__law_dip : Binds K d__law_dip ["pot", "many"] []
  m__law_dip : mg "_law_dip" = some (.ref f__law_dip)
  f__law_kinds : Addr
  d__law_kinds : FuncData
  F__law_kinds : Fun K "_law_kinds" "_law_kinds" s__law_kinds f__law_kinds d__law_kinds
  b__law_kinds : Binds K d__law_kinds [] []
  m__law_kinds : mg "_law_kinds" = some (.ref f__law_kinds)
  f__law_any : Addr
  d__law_any : FuncData
  F__law_any : Fun K "_law_any" "_law_any" s__law_any f__law_any d__law_any
  b__law_any : Binds K d__law_any ["pot", "many"] []
  m__law_any : mg "_law_any" = some (.ref f__law_any)
  f__law_sound : Addr
  d__law_sound : FuncData
  F__law_sound : Fun K "_law_sound" "_law_sound" s__law_sound f__law_sound d__law_sound
  b__law_sound : Binds K d__law_sound ["pot"] []
  m__law_sound : mg "_law_sound" = some (.ref f__law_sound)
  f__law_steps : Addr
  d__law_steps : FuncData
  F__law_steps : Fun K "_law_steps" "_law_steps" s__law_steps f__law_steps d__law_steps
  b__law_steps : Binds K d__law_steps ["pot"] []
  m__law_steps : mg "_law_steps" = some (.ref f__law_steps)
  f__law_script : Addr
  d__law_script : FuncData
  F__law_script : Fun K "_law_script" "_law_script" s__law_script f__law_script d__law_script
  b__law_script : Binds K d__law_script ["steps"] []
  m__law_script : mg "_law_script" = some (.ref f__law_script)
  f__law_due : Addr
  d__law_due : FuncData
  F__law_due : Fun K "_law_due" "_law_due" s__law_due f__law_due d__law_due
  b__law_due : Binds K d__law_due ["steps"] []
  m__law_due : mg "_law_due" = some (.ref f__law_due)
  f_can_begin : Addr
  d_can_begin : FuncData
  F_can_begin : Fun K "can_begin" "can_begin" s_can_begin f_can_begin d_can_begin
  b_can_begin : Binds K d_can_begin ["script"] []
  m_can_begin : mg "can_begin" = some (.ref f_can_begin)
  f__law_mark : Addr
  d__law_mark : FuncData
  F__law_mark : Fun K "_law_mark" "_law_mark" s__law_mark f__law_mark d__law_mark
  b__law_mark : Binds K d__law_mark ["marks", "step"] []
  m__law_mark : mg "_law_mark" = some (.ref f__law_mark)
  f__law_wanted : Addr
  d__law_wanted : FuncData
  F__law_wanted : Fun K "_law_wanted" "_law_wanted" s__law_wanted f__law_wanted d__law_wanted
  b__law_wanted : Binds K d__law_wanted ["steps"] []
  m__law_wanted : mg "_law_wanted" = some (.ref f__law_wanted)
  f__law_right : Addr
  d__law_right : FuncData
  F__law_right : Fun K "_law_right" "_law_right" s__law_right f__law_right d__law_right
  b__law_right : Binds K d__law_right ["pot"] []
  m__law_right : mg "_law_right" = some (.ref f__law_right)
  f_law : Addr
  d_law : FuncData
  F_law : Fun K "law" "law" s_law f_law d_law
  b_law : Binds K d_law ["script"] []
  m_law : mg "law" = some (.ref f_law)
  a_NoStep : Addr
  f_NoStep : Addr
  ec_NoStep : ExcC K a_NoStep
  er_NoStep : PySem.ErrX.ErrTxt P K mg "NoStep" "index" "there is no step at this index" a_NoStep f_NoStep
  a_NoIndex : Addr
  f_NoIndex : Addr
  ec_NoIndex : ExcC K a_NoIndex
  er_NoIndex : PySem.ErrX.ErrTxt P K mg "NoIndex" "index" "no step can be put in at this index" a_NoIndex f_NoIndex
  m_ALL_MARKS : mg "ALL_MARKS" = some (.ref a_ALL_MARKS)
  m_MOST_STEPS : ∃ t, mg "MOST_STEPS" = some (.int 12 t)
  m_SPOILING : mg "SPOILING" = some (.ref a_SPOILING)
  m_STEPS : mg "STEPS" = some (.ref a_STEPS)
  m_abs : mg "abs" = none
  m_all : mg "all" = none
  m_bool : mg "bool" = none
  m_enumerate : mg "enumerate" = none
  m_int : mg "int" = none
  m_isinstance : mg "isinstance" = none
  m_len : mg "len" = none
  m_list : mg "list" = none
  m_max : mg "max" = none
  m_min : mg "min" = none
  m_range : mg "range" = none
  m_str : mg "str" = none
  m_tuple : mg "tuple" = none
  ty_Script : ∀ (H : Hp) (a dx : Addr) (fs : List (Str × V)), H a = some (.ins a_Script dx fs) → TyX K H (.ref a) (.ref a_Script)
  tz_NO_MARKS : ∀ H, TupZ K H a_NO_MARKS [.bl false, .bl false, .bl false, .bl false, .bl false]
end Y


set_option Elab.async false
set_option linter.all false
set_option maxRecDepth 100000
namespace Y
open PySem L2
local macro_rules | `(tactic| walk_at "hp") => `(tactic| first
  | with_reducible assumption
  | with_reducible exact upd_same
  | ((with_reducible apply lk_new); (focus walk_at "hp"); (focus with_reducible assumption))
  | ((with_reducible apply lk_ne); (focus walk_at "hp"); (focus first | with_reducible assumption | (apply Ne.symm; with_reducible assumption))))
local macro_rules | `(tactic| walk_at "rs") => `(tactic| simp only [e_C, e_var0, e_varS, e_op, e_op1, e_un, e_fld, e_tup, e_lst, e_cons, e_cons1, e_cons2, e_nil, e_call, e_call1, e_CB, e_meth, e_make, e_B, e_test, e_B1, e_if, e_if1, e_ifS, e_ifS1, e_and, e_andc, e_or, e_orc, e_not, e_not1, e_andV, e_andVc, e_orV, e_orVc, e_notV, e_notV1, e_seq, e_next, e_break, e_cont, e_drop, e_drop1, e_ret, e_retN, e_asg, e_name, e_part, e_part1, e_noPart, e_sl, e_sl1, e_sl2, e_sl3, o_add_int, o_I0, o_un, c_int, c_intB, c_abs, c_max, c_min, k_isN, k_notN, k_isB, k_notB, e_sub, e_sub1, cx_K, cx_noxK, e_for, e_rng1, e_rng2, e_seqI, e_enumT, e_enum, e_gname, e_lc, e_lcT, e_yes, e_bm, e_par, e_par1, e_par3, e_par31, e_chain, e_chain1, e_chain2, e_chain3, e_sfld, e_sfld1, List.set, ite_true, ite_false, eq_self, Bool.false_eq_true, decide_eq_true_eq, L2.start, List.map, List.length_cons, List.length_nil, List.replicate, Nat.add_one_sub_one, Nat.sub_self, List.nil_append, List.cons_append, Int.reduceToNat, Int.reducePow, Int.reduceMul, Int.reduceAdd, Int.reduceSub, Int.reduceNeg, Int.reduceLT, Int.reduceLE, Int.reduceEq, Bool.not_false, Bool.not_true, L2.wipe, e_never, e_asgT, e_gcons, e_gnil, e_callD, e_opS, e_raise, e_mkErr, e_fldErr, decide_true, decide_false, not_true_eq_false, not_false_eq_true])
local macro_rules | `(tactic| walk_at "sd") => `(tactic| first
  | assumption
  | decide
  | omega
  | (dsimp only; omega)
  | exact wide_div (b := 450) (by omega) (by omega) (by decide) (by decide)
  | exact mulX (a := 450) (b := 450) (by omega) (by omega) (by decide) (by decide) (by decide)
  | exact powW (b := 450) (by omega) (by omega) (by decide) (by decide))
local macro_rules | `(tactic| walk_at "sl") => `(tactic| first | omega | (simp only [List.length_cons, List.length_nil, List.length_append]; omega))
local macro_rules | `(tactic| walk_at "sqL") => `(tactic| first
  | with_reducible assumption
  | ((with_reducible apply SqL.of); focus walk_at "hp")
  | ((with_reducible apply sqL_new); (focus walk_at "sqL"); (focus with_reducible assumption)))
local macro_rules | `(tactic| walk_at "sqT") => `(tactic| first
  | with_reducible assumption
  | ((with_reducible apply SqT.of); focus walk_at "hp")
  | ((with_reducible apply sqT_new); (focus walk_at "sqT"); (focus with_reducible assumption)))
local macro_rules | `(tactic| walk_at "kt") => `(tactic| first
  | with_reducible exact kt_self
  | with_reducible exact kt_int_bool
  | with_reducible exact kt_int_str
  | with_reducible exact kt_int_list
  | with_reducible exact kt_int_tuple
  | with_reducible exact kt_bool_int
  | with_reducible exact kt_bool_str
  | with_reducible exact kt_bool_list
  | with_reducible exact kt_bool_tuple
  | with_reducible exact kt_str_int
  | with_reducible exact kt_str_bool
  | with_reducible exact kt_str_list
  | with_reducible exact kt_str_tuple
  | with_reducible exact kt_non_int
  | with_reducible exact kt_non_bool
  | with_reducible exact kt_non_str
  | with_reducible exact kt_non_list
  | with_reducible exact kt_non_tuple
  | with_reducible exact kt_tuple_int
  | with_reducible exact kt_tuple_bool
  | with_reducible exact kt_tuple_str
  | with_reducible exact kt_tuple_list
  | with_reducible exact kt_list_int
  | with_reducible exact kt_list_bool
  | with_reducible exact kt_list_str
  | with_reducible exact kt_list_tuple
  | with_reducible exact kt_dict_int
  | with_reducible exact kt_dict_bool
  | with_reducible exact kt_dict_str
  | with_reducible exact kt_dict_list
  | with_reducible exact kt_dict_tuple)
local macro_rules | `(tactic| walk_at "tyx") => `(tactic| first
  | with_reducible exact .base (.int _)
  | with_reducible exact .base (.str _)
  | with_reducible exact .base (.bl _)
  | with_reducible exact .base .non
  | ((with_reducible apply tyx_tup); focus walk_at "sqT")
  | ((with_reducible apply tyx_lst); focus walk_at "sqL")
  | ((with_reducible apply TyX.base); (focus ((with_reducible apply TyOf.dK); focus walk_at "hp"))))
local macro_rules | `(tactic| walk_at "isi") => `(tactic| first
  | ((with_reducible apply k_isi); (focus (with_reducible exact (ClsV.ty _))); (focus (walk_at "tyx")); (focus (walk_at "kt")))
  | ((with_reducible apply k_isiT); (focus (walk_at "hp")); (focus (with_reducible exact (.cons (.ty _) (.cons (.ty _) .nil)))); (focus (walk_at "tyx")); (focus (first | with_reducible exact ka_tuple | with_reducible exact ka_list | ((with_reducible apply ka_no); (focus walk_at "kt"); (focus walk_at "kt"))))))
local macro_rules | `(tactic| walk_at "lk") => `(tactic| rfl)
local macro_rules | `(tactic| walk_at "rd1") => `(tactic| first
  | walk_at "rs"
  | ((with_reducible apply k_ixL); (focus (walk_at "sqL")); (focus rfl))
  | ((with_reducible apply k_ixT); (focus (walk_at "sqT")); (focus rfl))
  | ((with_reducible apply k_fld); (focus (walk_at "hp")); (focus (assumption)); (focus (assumption)); (focus (walk_at "lk")))
  | ((with_reducible apply k_sfld); (focus (walk_at "hp")); (focus (assumption)); (focus (assumption)); (focus (walk_at "sl")))
  | ((with_reducible apply k_meth); (focus (walk_at "hp")); (focus (walk_at "lk")))
  | ((with_reducible apply k_I); (focus (walk_at "sd")))
  | ((with_reducible apply k_unp); (focus (walk_at "sqT")); (focus rfl))
  | ((with_reducible apply k_mul); (focus (walk_at "sd")))
  | ((with_reducible apply k_setL); (focus (walk_at "hp")); (focus rfl))
  | ((with_reducible apply k_bmL); (focus (walk_at "hp")))
  | ((with_reducible apply k_append); (focus (walk_at "hp")); (focus (walk_at "sd")))
  | ((with_reducible apply k_extend); (focus (walk_at "hp")); (focus (walk_at "hp")); (focus (walk_at "sl")))
  | ((with_reducible apply k_tup); (focus (walk_at "sl")); intro _ _)
  | ((with_reducible apply k_lst); (focus (walk_at "sl")); intro _ _)
  | ((with_reducible apply k_lenS); (focus ((with_reducible apply Or.inl); walk_at "sqL")))
  | ((with_reducible apply k_lenS); (focus ((with_reducible apply Or.inr); walk_at "sqT")))
  | ((with_reducible apply k_seqL); (focus (walk_at "sqL")))
  | ((with_reducible apply k_seqT); (focus (walk_at "sqT")))
  | ((with_reducible apply k_enumT); (focus (walk_at "sqT")))
  | walk_at "isi"
  | ((with_reducible apply k_tupOfL); (focus (walk_at "sqL")); intro _ _)
  | ((with_reducible apply k_tupOfT); (focus (walk_at "sqT")))
  | ((with_reducible apply k_listOf); (focus ((with_reducible apply Or.inl); walk_at "sqL")); intro _ _)
  | ((with_reducible apply k_listOf); (focus ((with_reducible apply Or.inr); walk_at "sqT")); intro _ _)
  | (with_reducible apply k_eq_int)
  | (with_reducible apply k_ne_int)
  | (with_reducible apply k_eq_str)
  | (with_reducible apply k_ne_str)
  | (with_reducible apply k_eq_bl)
  | (with_reducible apply k_ne_bl))
local macro_rules | `(tactic| walk_at "rd") => `(tactic| repeat walk_at "rd1")

/-- a pot at a: what is left of the cell, the stirring, the turns (at most n) -/
def PotAt (H : Hp) (a : Addr) (n : Nat) : Prop := ∃ x y z : Int, H a = some (.lst [.int x, .int y, .int z]) ∧ 0 ≤ x ∧ 0 ≤ y ∧ y < 2 ^ 200 ∧ 0 ≤ z ∧ z ≤ n
theorem PotAt.but {H H' : Hp} {a : Addr} {n : Nat} (h : PotAt H a n) (k : But a H H') : SameT H H' := by
  obtain ⟨x, y, z, e, _⟩ := h
  exact SameT.but e k
theorem PotAt.same {H H' : Hp} {a : Addr} {n : Nat} (h : PotAt H a n) (k : Same H H') : PotAt H' a n := by
  obtain ⟨x, y, z, e, r⟩ := h
  exact ⟨x, y, z, k _ _ e, r⟩
theorem PotAt.ne {H : Hp} {a p : Addr} {n : Nat} (h : PotAt H a n) (k : H p = none) : p ≠ a := by
  obtain ⟨x, y, z, e, r⟩ := h
  exact (ne_of_none e k).symm
theorem PotAt.upd {H : Hp} {a p : Addr} {n : Nat} {o : HO} (h : PotAt H a n) (k : a ≠ p) : PotAt (upd H p o) a n := by
  obtain ⟨x, y, z, e, r⟩ := h
  exact ⟨x, y, z, lk_ne e k, r⟩
theorem PotAt.le {H : Hp} {a : Addr} {n m : Nat} (h : PotAt H a n) (k : n ≤ m) : PotAt H a m := by
  obtain ⟨x, y, z, e, r1, r2, r3, r4, r5⟩ := h
  exact ⟨x, y, z, e, r1, r2, r3, r4, by omega⟩
def spDip : Sp := fun vs H Q _ => ∃ (a : Addr) (many : Int) (n : Nat), vs = [.ref a, .int many] ∧ PotAt H a n ∧ n ≤ 1000000 ∧ 0 < many ∧ many < 2 ^ 250 ∧
  ∀ (k : Int) (H' : Hp), 0 ≤ k → k < many → PotAt H' a (n + 1) → But a H H' → Q (.int k) H'
def spPot (K : PySem.W.Frag) : Sp := fun vs H Q _ => ∃ (a : Addr) (ns : List Int) (k : Nat), vs = [.ref a, .int k] ∧ SqL K H a (ns.map V.int) ∧ ns.length ≤ 63 ∧ k < 1000 ∧ ∀ (p : Addr) (H' : Hp), H p = none → Same H H' → PotAt H' p 0 → Q (.ref p) H'
set_option maxHeartbeats 4000000
section
variable {P : Program} {w : World} {K : PySem.W.Frag} {mg : Str → Option Value} {base : Heap}
theorem ok__law_dip (T : Txt P K mg) : FnOk P w K mg base CX0 1 T.f__law_dip T.d__law_dip ["pot", "many"] spDip := by
  refine T.F__law_dip.ok sc__law_dip (fun vs H Q E h => ?_) (fun cdv A outer s H vs Q E hr h => ?_)
  · obtain ⟨a, m, n, rfl, _⟩ := h
    rfl
  · obtain ⟨a, many, n, rfl, ⟨x, y, z, ha, hx0, hy0, hy1, hz0, hz1⟩, hn, hm0, hm1, k⟩ := h
    refine ⟨_, (pss_cons (ps_if (pt_cmpR op_gt (pe_ix (ix_seqk K) (pv 0) pe_int (fun _ _ => rfl)) pe_int (nomark _)) (pss_cons (ps_set (i := 2) sc__law_dip.nd rfl (Or.inl rfl) (pe_op op_mod (pe_callTy call_int1 (by rfl) T.m_int b_int (pa_cons (pe_ix (ix_seqk K) (pv 0) pe_int (fun _ _ => rfl)) pa_nil)) (pv 1)))
  (pss_cons (ps_asg (pe_op op_fdivW (pe_ix (ix_seqk K) (pv 0) pe_int (fun _ _ => rfl)) (pv 1)) (pg_sub (pv 0) pe_int set_list))
  (pss_one (ps_ret (pv 2))))) pss_nil)
  (pss_cons (ps_asg (pe_op (op_addUk K) (pe_ix (ix_seqk K) (pv 0) pe_int (fun _ _ => rfl)) pe_int) (pg_sub (pv 0) pe_int set_list))
  (pss_cons (ps_set (i := 3) sc__law_dip.nd rfl (Or.inl rfl) (pe_op op_mod (pe_callTy call_int1 (by rfl) T.m_int b_int (pa_cons (pe_op op_powW (pe_op (op_addUk K) (pe_ix (ix_seqk K) (pv 0) pe_int (fun _ _ => rfl)) (pe_op op_mulU pe_int (pe_ix (ix_seqk K) (pv 0) pe_int (fun _ _ => rfl)))) pe_int) pa_nil)) (pe_op (op_addUk K) (pe_op op_powW pe_int pe_int) pe_int)))
  (pss_cons (ps_set (i := 3) sc__law_dip.nd rfl (Or.inl rfl) (pe_op op_mod (pe_callTy call_int1 (by rfl) T.m_int b_int (pa_cons (pe_op op_powW (pe_op (op_addUk K) (pv 3) (pe_op op_mulU pe_int (pe_ix (ix_seqk K) (pv 0) pe_int (fun _ _ => rfl)))) pe_int) pa_nil)) (pe_op (op_addUk K) (pe_op op_powW pe_int pe_int) pe_int)))
  (pss_one (ps_ret (pe_op op_mod (pe_callTy call_int1 (by rfl) T.m_int b_int (pa_cons (pe_op op_fdivW (pv 3) (pe_op op_powW pe_int pe_int)) pa_nil)) (pv 1)))))))), ?_⟩
    walk_at "rd"
    refine ite2 (fun hx => ?_) (fun hx => ?_)
    · walk_at "rd"
      exact k _ _ (Int.emod_nonneg _ (by omega)) (Int.emod_lt_of_pos _ hm0) ⟨_, _, _, upd_same, Int.ediv_nonneg hx0 (by omega), hy0, hy1, hz0, by omega⟩ fun b o e hb => by rw [upd_ne hb]; exact e
    · walk_at "rd"
      refine k _ _ (Int.emod_nonneg _ (by omega)) (Int.emod_lt_of_pos _ hm0) ⟨_, _, _, upd_same, hx0, hy0, hy1, by omega, by omega⟩ fun b o e hb => by rw [upd_ne hb]; exact e
theorem ok__law_pot (T : Txt P K mg) : FnOk P w K mg base CX0 1 T.f__law_pot T.d__law_pot ["script", "k"] (spPot K) := by
  refine T.F__law_pot.ok sc__law_pot (fun vs H Q E h => ?_) (fun cdv A outer s H vs Q E hr h => ?_)
  · obtain ⟨a, ns, k, rfl, _⟩ := h
    rfl
  · obtain ⟨a, ns, k, rfl, ha, hl, hk, q⟩ := h
    refine ⟨_, (pss_cons (ps_set (i := 2) sc__law_pot.nd rfl (Or.inl rfl) pe_int)
  (pss_cons (ps_if (pt_cmpR op_lt (pv 1) (pe_callB (call_lenUk K) (by rfl) T.m_len b_len (pa_cons (pv 0) pa_nil)) (nomark _)) (pss_one (ps_set (i := 2) sc__law_pot.nd rfl (Or.inl rfl) (pe_callB call_abs (by rfl) T.m_abs b_abs (pa_cons (pe_callTy call_int1 (by rfl) T.m_int b_int (pa_cons (pe_ix (ix_seqk K) (pv 0) (pv 1) (fun _ _ => rfl)) pa_nil)) pa_nil)))) pss_nil)
  (pss_one (ps_ret (pe_lst (pa_cons (pe_callB (call_max2 rfl) (by rfl) T.m_max b_max (pa_cons pe_int (pa_cons (pe_op op_sub (pv 2) (pe_op op_powW pe_int pe_int)) pa_nil))) (pa_cons (pe_op (op_addUk K) (pe_op op_mod (pe_callTy call_int1 (by rfl) T.m_int b_int (pa_cons (pv 2) pa_nil)) (pe_op (op_addUk K) (pe_op op_powW pe_int pe_int) pe_int)) (pe_op op_mulU pe_int (pv 1))) (pa_cons pe_int pa_nil)))))))), ?_⟩
    walk_at "rd"
    refine ite2 (fun hlt => ?_) (fun hge => ?_)
    · rw [List.length_map] at hlt
      have hk' : k < ns.length := by omega
      obtain ⟨z, hz⟩ : ∃ z, ns[k]? = some z := ⟨ns[k], List.getElem?_eq_getElem hk'⟩
      refine k_ixL ha (at_of (j := k) rfl (by rw [List.getElem?_map, hz]; rfl)) ?_
      walk_at "rd"
      rename_i p np
      refine q p _ np (fun b o e => lk_new e np) ⟨_, _, _, upd_same, ?_, by omega, by omega, by decide, by decide⟩
      split <;> omega
    · walk_at "rd"
      rename_i p np
      refine q p _ np (fun b o e => lk_new e np) ⟨_, _, _, upd_same, ?_, by omega, by omega, by decide, by decide⟩
      decide
end
end Y


set_option Elab.async false
set_option linter.all false
set_option maxRecDepth 100000
namespace Y
open PySem L2
local macro_rules | `(tactic| walk_at "hp") => `(tactic| first
  | with_reducible assumption
  | with_reducible exact upd_same
  | ((with_reducible apply lk_new); (focus walk_at "hp"); (focus with_reducible assumption))
  | ((with_reducible apply lk_ne); (focus walk_at "hp"); (focus first | with_reducible assumption | (apply Ne.symm; with_reducible assumption))))
local macro_rules | `(tactic| walk_at "rs") => `(tactic| simp only [e_C, e_var0, e_varS, e_op, e_op1, e_un, e_fld, e_tup, e_lst, e_cons, e_cons1, e_cons2, e_nil, e_call, e_call1, e_CB, e_meth, e_make, e_B, e_test, e_B1, e_if, e_if1, e_ifS, e_ifS1, e_and, e_andc, e_or, e_orc, e_not, e_not1, e_andV, e_andVc, e_orV, e_orVc, e_notV, e_notV1, e_seq, e_next, e_break, e_cont, e_drop, e_drop1, e_ret, e_retN, e_asg, e_name, e_part, e_part1, e_noPart, e_sl, e_sl1, e_sl2, e_sl3, o_add_int, o_I0, o_un, c_int, c_intB, c_abs, c_max, c_min, k_isN, k_notN, k_isB, k_notB, e_sub, e_sub1, cx_K, cx_noxK, e_for, e_rng1, e_rng2, e_seqI, e_enumT, e_enum, e_gname, e_lc, e_lcT, e_yes, e_bm, e_par, e_par1, e_par3, e_par31, e_chain, e_chain1, e_chain2, e_chain3, e_sfld, e_sfld1, List.set, ite_true, ite_false, eq_self, Bool.false_eq_true, decide_eq_true_eq, L2.start, List.map, List.length_cons, List.length_nil, List.replicate, Nat.add_one_sub_one, Nat.sub_self, List.nil_append, List.cons_append, Int.reduceToNat, Int.reducePow, Int.reduceMul, Int.reduceAdd, Int.reduceSub, Int.reduceNeg, Int.reduceLT, Int.reduceLE, Int.reduceEq, Bool.not_false, Bool.not_true, L2.wipe, e_never, e_asgT, e_gcons, e_gnil, e_callD, e_opS, e_raise, e_mkErr, e_fldErr, decide_true, decide_false, not_true_eq_false, not_false_eq_true])
local macro_rules | `(tactic| walk_at "sd") => `(tactic| first
  | assumption
  | decide
  | omega
  | (dsimp only; omega)
  | exact wide_div (b := 450) (by omega) (by omega) (by decide) (by decide)
  | exact mulX (a := 450) (b := 450) (by omega) (by omega) (by decide) (by decide) (by decide)
  | exact powW (b := 450) (by omega) (by omega) (by decide) (by decide))
local macro_rules | `(tactic| walk_at "sl") => `(tactic| first | omega | (simp only [List.length_cons, List.length_nil, List.length_append]; omega))
local macro_rules | `(tactic| walk_at "sqL") => `(tactic| first
  | with_reducible assumption
  | ((with_reducible apply SqL.of); focus walk_at "hp")
  | ((with_reducible apply sqL_new); (focus walk_at "sqL"); (focus with_reducible assumption)))
local macro_rules | `(tactic| walk_at "sqT") => `(tactic| first
  | with_reducible assumption
  | ((with_reducible apply SqT.of); focus walk_at "hp")
  | ((with_reducible apply sqT_new); (focus walk_at "sqT"); (focus with_reducible assumption)))
local macro_rules | `(tactic| walk_at "kt") => `(tactic| first
  | with_reducible exact kt_self
  | with_reducible exact kt_int_bool
  | with_reducible exact kt_int_str
  | with_reducible exact kt_int_list
  | with_reducible exact kt_int_tuple
  | with_reducible exact kt_bool_int
  | with_reducible exact kt_bool_str
  | with_reducible exact kt_bool_list
  | with_reducible exact kt_bool_tuple
  | with_reducible exact kt_str_int
  | with_reducible exact kt_str_bool
  | with_reducible exact kt_str_list
  | with_reducible exact kt_str_tuple
  | with_reducible exact kt_non_int
  | with_reducible exact kt_non_bool
  | with_reducible exact kt_non_str
  | with_reducible exact kt_non_list
  | with_reducible exact kt_non_tuple
  | with_reducible exact kt_tuple_int
  | with_reducible exact kt_tuple_bool
  | with_reducible exact kt_tuple_str
  | with_reducible exact kt_tuple_list
  | with_reducible exact kt_list_int
  | with_reducible exact kt_list_bool
  | with_reducible exact kt_list_str
  | with_reducible exact kt_list_tuple
  | with_reducible exact kt_dict_int
  | with_reducible exact kt_dict_bool
  | with_reducible exact kt_dict_str
  | with_reducible exact kt_dict_list
  | with_reducible exact kt_dict_tuple)
local macro_rules | `(tactic| walk_at "tyx") => `(tactic| first
  | with_reducible exact .base (.int _)
  | with_reducible exact .base (.str _)
  | with_reducible exact .base (.bl _)
  | with_reducible exact .base .non
  | ((with_reducible apply tyx_tup); focus walk_at "sqT")
  | ((with_reducible apply tyx_lst); focus walk_at "sqL")
  | ((with_reducible apply TyX.base); (focus ((with_reducible apply TyOf.dK); focus walk_at "hp"))))
local macro_rules | `(tactic| walk_at "isi") => `(tactic| first
  | ((with_reducible apply k_isi); (focus (with_reducible exact (ClsV.ty _))); (focus (walk_at "tyx")); (focus (walk_at "kt")))
  | ((with_reducible apply k_isiT); (focus (walk_at "hp")); (focus (with_reducible exact (.cons (.ty _) (.cons (.ty _) .nil)))); (focus (walk_at "tyx")); (focus (first | with_reducible exact ka_tuple | with_reducible exact ka_list | ((with_reducible apply ka_no); (focus walk_at "kt"); (focus walk_at "kt"))))))
local macro_rules | `(tactic| walk_at "lk") => `(tactic| rfl)
local macro_rules | `(tactic| walk_at "rd1") => `(tactic| first
  | walk_at "rs"
  | ((with_reducible apply k_ixL); (focus (walk_at "sqL")); (focus rfl))
  | ((with_reducible apply k_ixT); (focus (walk_at "sqT")); (focus rfl))
  | ((with_reducible apply k_fld); (focus (walk_at "hp")); (focus (assumption)); (focus (assumption)); (focus (walk_at "lk")))
  | ((with_reducible apply k_sfld); (focus (walk_at "hp")); (focus (assumption)); (focus (assumption)); (focus (walk_at "sl")))
  | ((with_reducible apply k_meth); (focus (walk_at "hp")); (focus (walk_at "lk")))
  | ((with_reducible apply k_I); (focus (walk_at "sd")))
  | ((with_reducible apply k_unp); (focus (walk_at "sqT")); (focus rfl))
  | ((with_reducible apply k_mul); (focus (walk_at "sd")))
  | ((with_reducible apply k_setL); (focus (walk_at "hp")); (focus rfl))
  | ((with_reducible apply k_bmL); (focus (walk_at "hp")))
  | ((with_reducible apply k_append); (focus (walk_at "hp")); (focus (walk_at "sd")))
  | ((with_reducible apply k_extend); (focus (walk_at "hp")); (focus (walk_at "hp")); (focus (walk_at "sl")))
  | ((with_reducible apply k_tup); (focus (walk_at "sl")); intro _ _)
  | ((with_reducible apply k_lst); (focus (walk_at "sl")); intro _ _)
  | ((with_reducible apply k_lenS); (focus ((with_reducible apply Or.inl); walk_at "sqL")))
  | ((with_reducible apply k_lenS); (focus ((with_reducible apply Or.inr); walk_at "sqT")))
  | ((with_reducible apply k_seqL); (focus (walk_at "sqL")))
  | ((with_reducible apply k_seqT); (focus (walk_at "sqT")))
  | ((with_reducible apply k_enumT); (focus (walk_at "sqT")))
  | walk_at "isi"
  | ((with_reducible apply k_tupOfL); (focus (walk_at "sqL")); intro _ _)
  | ((with_reducible apply k_tupOfT); (focus (walk_at "sqT")))
  | ((with_reducible apply k_listOf); (focus ((with_reducible apply Or.inl); walk_at "sqL")); intro _ _)
  | ((with_reducible apply k_listOf); (focus ((with_reducible apply Or.inr); walk_at "sqT")); intro _ _)
  | (with_reducible apply k_eq_int)
  | (with_reducible apply k_ne_int)
  | (with_reducible apply k_eq_str)
  | (with_reducible apply k_ne_str)
  | (with_reducible apply k_eq_bl)
  | (with_reducible apply k_ne_bl))
local macro_rules | `(tactic| walk_at "rd") => `(tactic| repeat walk_at "rd1")

theorem menu_len : ∀ w ∈ menu12, w.length ≤ 2 := by decide
def InMenu (ws : List (List Str)) : Prop := ∀ x ∈ ws, x ∈ menu12
theorem steps12_menu : InMenu steps12 := by unfold InMenu; decide
theorem InMenu.app {ws us : List (List Str)} (h : InMenu ws) (k : InMenu us) : InMenu (ws ++ us) := fun x hx => (List.mem_append.mp hx).elim (h x) (k x)
theorem InMenu.cut {ws : List (List Str)} {lo hi : Option Int} (h : InMenu ws) : InMenu (cutG ws lo hi) := fun x hx => h x (cutG_mem hx)
theorem InMenu.take {ws : List (List Str)} (n : Nat) (h : InMenu ws) : InMenu (ws.take n) := fun x hx => h x (List.mem_of_mem_take hx)
theorem InMenu.drop {ws : List (List Str)} (n : Nat) (h : InMenu ws) : InMenu (ws.drop n) := fun x hx => h x (List.mem_of_mem_drop hx)
/-- a list of steps at p -/
def LstAt (K : PySem.W.Frag) (H : Hp) (p : Addr) (ws : List (List Str)) : Prop := ∃ xs, H p = some (.lst xs) ∧ Steps K H xs ws
theorem LstAt.but {K : PySem.W.Frag} {H H' : Hp} {a p : Addr} {ws : List (List Str)} (h : LstAt K H p ws) (k : But a H H') (n : p ≠ a) (s : SameT H H') : LstAt K H' p ws := by
  obtain ⟨xs, h1, h2⟩ := h
  exact ⟨xs, k _ _ h1 n, h2.mono s⟩
theorem LstAt.same {K : PySem.W.Frag} {H H' : Hp} {p : Addr} {ws : List (List Str)} (h : LstAt K H p ws) (k : Same H H') : LstAt K H' p ws := by
  obtain ⟨xs, h1, h2⟩ := h
  exact ⟨xs, k _ _ h1, h2.mono (SameT.of k)⟩
def spKinds (K : PySem.W.Frag) : Sp := fun vs H Q _ => vs = [] ∧ ∀ (p : Addr) (H' : Hp), H p = none → Same H H' → LstAt K H' p steps12 → Q (.ref p) H'
def spAny (K : PySem.W.Frag) : Sp := fun vs H Q _ => ∃ (a : Addr) (m n : Nat), vs = [.ref a, .int m] ∧ PotAt H a n ∧ m ≤ 100 ∧ n ≤ 900000 ∧
  ∀ (p : Addr) (ws : List (List Str)) (H' : Hp), H p = none → p ≠ a → But a H H' → PotAt H' a (n + m) → LstAt K H' p ws → ws.length = m → InMenu ws → Q (.ref p) H'
def spSound (K : PySem.W.Frag) : Sp := fun vs H Q _ => ∃ (a : Addr) (n : Nat), vs = [.ref a] ∧ PotAt H a n ∧ n ≤ 900000 ∧
  ∀ (p : Addr) (ws : List (List Str)) (H' : Hp), H p = none → p ≠ a → But a H H' → PotAt H' a (n + 5) → LstAt K H' p ws → ws.length = 5 → InMenu ws → Q (.ref p) H'
def spStepsD (K : PySem.W.Frag) : Sp := fun vs H Q _ => ∃ (a : Addr) (n : Nat), vs = [.ref a] ∧ PotAt H a n ∧ n ≤ 800000 ∧
  ∀ (p : Addr) (ws : List (List Str)) (H' : Hp), But a H H' → PotAt H' a (n + 30) → Row K H' p ws → ws.length ≤ 12 → InMenu ws → Q (.ref p) H'
set_option maxHeartbeats 4000000
section
variable {P : Program} {w : World} {K : PySem.W.Frag} {mg : Str → Option Value} {base : Heap}
theorem ok__law_kinds (T : Txt P K mg) : FnOk P w K mg base CX0 1 T.f__law_kinds T.d__law_kinds [] (spKinds K) := by
  refine T.F__law_kinds.ok sc__law_kinds (fun vs H Q E h => ?_) (fun cdv A outer s H vs Q E hr h => ?_)
  · obtain ⟨rfl, _⟩ := h
    rfl
  · obtain ⟨rfl, k⟩ := h
    refine ⟨_, (pss_cons (ps_set (i := 0) sc__law_kinds.nd rfl (Or.inl rfl) (pe_tup (pa_cons pe_str (pa_cons pe_str (pa_cons pe_str pa_nil)))))
  (pss_cons (ps_set (i := 1) sc__law_kinds.nd rfl (Or.inl rfl) (pe_lst (pa_cons (pe_tup (pa_cons pe_str (pa_cons pe_str pa_nil))) (pa_cons (pe_tup (pa_cons pe_str (pa_cons pe_str pa_nil))) pa_nil))))
  (pss_cons (ps_for PassesOwn.never rfl (pi_seqk K (pe_tup (pa_cons pe_str (pa_cons pe_str (pa_cons pe_str pa_nil))))) (pg_name (i := 2) sc__law_kinds.nd rfl (Or.inr rfl))
  (pss_one (ps_expr (pe_bm PySem.F.plainAttrs_list PySem.F.slot_list_extend PySem.F.type_list_extend mt_extend (pv 1) (pa_cons (pe_lc (own := [("scope", 3)]) (g := (gName 3)) (tt := tYes) rfl sc__law_kinds.nd (pi_seqk K (pv 0)) (blkOk_by (own := [("scope", 3)]) (N := N__law_kinds) (sc := defScope s__law_kinds) (by decide +kernel)) (fun _ _ _ _ _ => (pg_name (i := 3) sc__law_kinds.nd rfl (Or.inl rfl))) (fun _ _ _ _ _ => pts_nil) (fun _ _ _ _ _ => (pe_tup (pa_cons (pv 2) (pa_cons (pv 3) pa_nil))))) pa_nil)))))
  (pss_one (ps_ret (pe_op (op_addUk K) (pv 1) (pe_lst (pa_cons (pe_tup (pa_cons pe_str pa_nil)) pa_nil)))))))), ?_⟩
    walk_at "rd"
    rename_i p0 n0 p1 n1 p2 n2 l nl q nq
    have s0 : Same H (upd (upd (upd H p0 (.tup [.str "new", .str "all", .str "free"])) p1 (.tup [.str "make", .str "all"])) p2 (.tup [.str "make", .str "standing"])) := fun b o e => lk_new (lk_new (lk_new e n0) n1) n2
    have hl : H l = none := Same.none_of s0 nl
    have hp : ∀ b o, (upd (upd (upd H p0 (.tup [.str "new", .str "all", .str "free"])) p1 (.tup [.str "make", .str "all"])) p2 (.tup [.str "make", .str "standing"])) b = some o → b ≠ l ∧ b ≠ q := fun b o e => ⟨ne_of_none e nl, ne_of_none (lk_new e nl) nq⟩
    have hp0 : (upd (upd (upd H p0 (.tup [.str "new", .str "all", .str "free"])) p1 (.tup [.str "make", .str "all"])) p2 (.tup [.str "make", .str "standing"])) p0 = some (.tup [.str "new", .str "all", .str "free"]) := by walk_at "hp"
    have hS0 : Steps K (upd (upd (upd H p0 (.tup [.str "new", .str "all", .str "free"])) p1 (.tup [.str "make", .str "all"])) p2 (.tup [.str "make", .str "standing"])) [.ref p1, .ref p2] (steps12.take 2) :=
      .cons ⟨_, rfl, SqT.of (show _ = some (HO.tup [.str "make", .str "all"]) by walk_at "hp")⟩ (.cons ⟨_, rfl, SqT.of (show _ = some (HO.tup [.str "make", .str "standing"]) by walk_at "hp")⟩ .nil)
    revert s0 nl nq hp hp0 hS0
    generalize (upd (upd (upd H p0 (.tup [.str "new", .str "all", .str "free"])) p1 (.tup [.str "make", .str "all"])) p2 (.tup [.str "make", .str "standing"])) = H0
    intro nl nq s0 hp hp0 hS0
    refine k_for walk_tup (fun i σ H' => ∃ (xs : List V) (v2 v3 : Option V), σ = [some (.ref p0), some (.ref l), v2, v3] ∧ Same H0 H' ∧ H' q = some (.tup [.str "start", .str "label", .str "tie"]) ∧ H' l = some (.lst xs) ∧ Steps K H' xs (steps12.take (2 + 3 * i)))
      ⟨_, none, none, rfl, (Same.new nl).trans (Same.new nq), upd_same, lk_new upd_same nq, (hS0.mono (SameT.new nl)).mono (SameT.new nq)⟩ (fun i σ H' _ ⟨_, _, _, _, _, h, _⟩ => SqT.of h) ?_ ?_
    · rintro i x σ H1 H2 hi ⟨xs, v2, v3, rfl, s1, hq, hL, hS⟩ ⟨rfl, hx⟩
      have hlen : xs.length ≤ 12 := by
        have e := Paired.length hS
        rw [e, List.length_take]
        exact Nat.le_trans (Nat.min_le_right _ _) (by decide)
      obtain ⟨wd, rfl, hw⟩ : ∃ wd : Str, x = .str wd ∧ steps12.take (2 + 3 * (i + 1)) = steps12.take (2 + 3 * i) ++ [[wd, "new"], [wd, "all"], [wd, "free"]] := by
        match i, hi, hx with
        | 0, _, hx => exact ⟨"start", (Option.some.inj hx).symm, rfl⟩
        | 1, _, hx => exact ⟨"label", (Option.some.inj hx).symm, rfl⟩
        | 2, _, hx => exact ⟨"tie", (Option.some.inj hx).symm, rfl⟩
      have h0 := s1 _ _ hp0
      walk_at "rd"
      refine k_lc walk_tup fun D nD => ⟨fun j H' => Same H2 H' ∧ ∃ ys, H' D = some (.lst ys) ∧ Steps K H' ys ([[wd, "new"], [wd, "all"], [wd, "free"]].take j), ⟨Same.new nD, [], upd_same, .nil⟩, fun j H' _ h => SqT.of (h.1 _ _ h0), ?_, ?_⟩
      · rintro j y H3 H4 hj ⟨s3, ys, hD, hY⟩ ⟨rfl, hy⟩
        obtain ⟨sc, rfl, hsc⟩ : ∃ sc : Str, y = .str sc ∧ [[wd, "new"], [wd, "all"], [wd, "free"]].take (j + 1) = [[wd, "new"], [wd, "all"], [wd, "free"]].take j ++ [[wd, sc]] := by
          match j, hj, hy with
          | 0, _, hy => exact ⟨"new", (Option.some.inj hy).symm, rfl⟩
          | 1, _, hy => exact ⟨"all", (Option.some.inj hy).symm, rfl⟩
          | 2, _, hy => exact ⟨"free", (Option.some.inj hy).symm, rfl⟩
        have hly : ys.length ≤ 3 := by
          have e := Paired.length hY
          rw [e, List.length_take]
          exact Nat.le_trans (Nat.min_le_right _ _) (Nat.le_refl _)
        walk_at "rs"
        refine ⟨trivial, ?_⟩
        walk_at "rd"
        rename_i t nt
        have hDt := lk_new hD nt (u := .tup [.str wd, .str sc])
        refine k_acc hDt (by omega) ⟨?_, _, upd_same, ?_⟩
        · exact Same.upd_new (s3.trans (Same.new nt)) nD
        · rw [hsc]
          exact Steps.append ((hY.mono (SameT.new nt)).mono (SameT.lst hDt)) (Steps.one (w := [wd, sc]) (sqT_mono (SameT.lst hDt) (SqT.of upd_same)))
      · rintro H3 ⟨s3, ys, hD, hY⟩
        have hL3 := s3 _ _ hL
        have hly : ys.length ≤ 3 := by
          have e := Paired.length hY
          rw [e, List.length_take]
          exact Nat.le_trans (Nat.min_le_right _ _) (Nat.le_refl _)
        have hql : q ≠ l := by
          rintro rfl
          rw [hq] at hL
          cases hL
        walk_at "rd"
        refine ⟨_, _, _, rfl, fun b o e => ?_, lk_ne (s3 _ _ hq) hql, upd_same, ?_⟩
        · exact lk_ne (s3 _ _ (s1 _ _ e)) (hp b o e).1
        · rw [hw]
          exact Steps.append ((hS.mono (SameT.of s3)).mono (SameT.lst hL3)) ((by simpa using hY : Steps K H3 ys [[wd, "new"], [wd, "all"], [wd, "free"]]).mono (SameT.lst hL3))
    · rintro σ H1 ⟨xs, v2, v3, rfl, s1, hq, hL, hS⟩
      have hlen : xs.length ≤ 12 := by
        have e := Paired.length hS
        rw [e, List.length_take]
        exact Nat.le_trans (Nat.min_le_right _ _) (by decide)
      walk_at "rd"
      rename_i t nt d nd
      refine k_catL (lk_new (lk_new hL nt) nd) upd_same (by simp only [List.length_cons, List.length_nil]; omega) fun p np => ?_
      have sd : Same H1 (upd (upd (upd H1 t (.tup [.str "drop"])) d (.lst [.ref t])) p (.lst (xs ++ [.ref t]))) := (Same.new nt).trans ((Same.new nd).trans (Same.new np))
      have s01 : Same H H1 := s0.trans s1
      refine k p _ (Same.none_of (s01.trans ((Same.new nt).trans (Same.new nd))) np) (s01.trans sd) ⟨_, upd_same, ?_⟩
      exact Steps.append (hS.mono (SameT.of sd)) (Steps.one (w := ["drop"]) (SqT.of (lk_new (lk_new upd_same nd) np)))
theorem ok__law_any (T : Txt P K mg) : FnOk P w K mg base CX0 2 T.f__law_any T.d__law_any ["pot", "many"] (spAny K) := by
  refine T.F__law_any.ok sc__law_any (fun vs H Q E h => ?_) (fun cdv A outer s H vs Q E hr h => ?_)
  · obtain ⟨a, m, n, rfl, _⟩ := h
    rfl
  · obtain ⟨a, m, n, rfl, hP, hm, hn, k⟩ := h
    refine ⟨_, (pss_cons (ps_set (i := 2) sc__law_any.nd rfl (Or.inr rfl) (pe_call0 (ok__law_kinds T) (hr.mono (by decide)) (by rfl) T.m__law_kinds T.F__law_kinds.kp T.b__law_kinds .nil pass0))
  (pss_one (ps_ret (pe_lc (own := [("k", 3)]) (g := (gName 3)) (tt := tYes) rfl sc__law_any.nd (pi_range1 (by rfl) T.m_range (pa_cons (pv 1) pa_nil)) (blkOk_by (own := [("k", 3)]) (N := N__law_any) (sc := defScope s__law_any) (by decide +kernel)) (fun _ _ _ _ _ => (pg_name (i := 3) sc__law_any.nd rfl (Or.inl rfl))) (fun _ _ _ _ _ => pts_nil) (fun _ _ _ _ _ => (pe_ix (ix_seqk K) (pv 2) (pe_call (ok__law_dip T) (hr.mono (by decide)) (by rfl) T.m__law_dip T.F__law_dip.kp T.b__law_dip .nil pass0 (pa_cons (pv 0) (pa_cons pe_int pa_nil))) (fun _ _ => rfl))))))), ?_⟩
    walk_at "rd"
    refine ⟨rfl, fun mp H1 nm s1 ⟨xs, hx, hS⟩ => ?_⟩
    have hma : mp ≠ a := hP.ne nm
    have hP1 := hP.same s1
    walk_at "rd"
    refine k_rng1 (by omega) (by omega) ?_
    refine k_lc walk_range fun D nD => ⟨fun i H' => But a H1 H' ∧ PotAt H' a (n + i) ∧ ∃ ws, LstAt K H' D ws ∧ ws.length = i ∧ InMenu ws, ⟨But.of (Same.new nD), hP1.same (Same.new nD), [], ⟨[], upd_same, .nil⟩, rfl, fun x hx => absurd hx List.not_mem_nil⟩, fun _ _ _ _ => True.intro, ?_, ?_⟩
    · rintro i x H2 H3 hi ⟨b2, hP2, ws, L2, hl2, hw2⟩ ⟨rfl, rfl⟩
      have hDa : D ≠ a := hP1.ne nD
      walk_at "rs"
      refine ⟨trivial, ?_⟩
      walk_at "rd"
      refine ⟨a, 12, n + i, rfl, hP2, by omega, by omega, by omega, fun e H4 e0 e1 hP4 b4 => ?_⟩
      have s24 := hP2.but b4
      have hx4 := b4 _ _ (b2 _ _ hx hma) hma
      have hS4 : Steps K H4 xs steps12 := (hS.mono (hP1.but b2)).mono s24
      have hj : e.toNat < 12 := by omega
      obtain ⟨b, wd, hb1, hb2, hb3⟩ := Steps.at_ (j := e.toNat) hS4 hj
      refine k_ixL (SqL.of hx4) (at_of (j := e.toNat) (by omega) hb1) ?_
      obtain ⟨ys, hy, hY⟩ := L2.but b4 hDa s24
      have hly : ys.length = i := hY.len.trans hl2
      refine k_acc hy (by omega) ⟨?_, hP4.upd hDa.symm, ws ++ [wd], ⟨_, upd_same, ?_⟩, by rw [List.length_append, hl2]; rfl, ?_⟩
      · exact But.upd_new (b2.trans b4) nD
      · exact Steps.append (hY.mono (SameT.lst hy)) (Steps.one (sqT_mono (SameT.lst hy) hb3))
      · refine hw2.app fun z hz => ?_
        rw [List.mem_singleton.mp hz]
        exact steps12_menu _ (List.mem_of_getElem? hb2)
    · rintro H2 ⟨b2, hP2, ws, L2, hl2, hw2⟩
      refine k D ws H2 (Same.none_of s1 nD) (hP1.ne nD) ((But.of s1).trans b2) ?_ L2 ?_ hw2
      · simpa using hP2
      · simpa using hl2
end
end Y


set_option Elab.async false
set_option linter.all false
set_option maxRecDepth 100000
namespace Y
open PySem L2
local macro_rules | `(tactic| walk_at "hp") => `(tactic| first
  | with_reducible assumption
  | with_reducible exact upd_same
  | ((with_reducible apply lk_new); (focus walk_at "hp"); (focus with_reducible assumption))
  | ((with_reducible apply lk_ne); (focus walk_at "hp"); (focus first | with_reducible assumption | (apply Ne.symm; with_reducible assumption))))
local macro_rules | `(tactic| walk_at "rs") => `(tactic| simp only [e_C, e_var0, e_varS, e_op, e_op1, e_un, e_fld, e_tup, e_lst, e_cons, e_cons1, e_cons2, e_nil, e_call, e_call1, e_CB, e_meth, e_make, e_B, e_test, e_B1, e_if, e_if1, e_ifS, e_ifS1, e_and, e_andc, e_or, e_orc, e_not, e_not1, e_andV, e_andVc, e_orV, e_orVc, e_notV, e_notV1, e_seq, e_next, e_break, e_cont, e_drop, e_drop1, e_ret, e_retN, e_asg, e_name, e_part, e_part1, e_noPart, e_sl, e_sl1, e_sl2, e_sl3, o_add_int, o_I0, o_un, c_int, c_intB, c_abs, c_max, c_min, k_isN, k_notN, k_isB, k_notB, e_sub, e_sub1, cx_K, cx_noxK, e_for, e_rng1, e_rng2, e_seqI, e_enumT, e_enum, e_gname, e_lc, e_lcT, e_yes, e_bm, e_par, e_par1, e_par3, e_par31, e_chain, e_chain1, e_chain2, e_chain3, e_sfld, e_sfld1, List.set, ite_true, ite_false, eq_self, Bool.false_eq_true, decide_eq_true_eq, L2.start, List.map, List.length_cons, List.length_nil, List.replicate, Nat.add_one_sub_one, Nat.sub_self, List.nil_append, List.cons_append, Int.reduceToNat, Int.reducePow, Int.reduceMul, Int.reduceAdd, Int.reduceSub, Int.reduceNeg, Int.reduceLT, Int.reduceLE, Int.reduceEq, Bool.not_false, Bool.not_true, L2.wipe, e_never, e_asgT, e_gcons, e_gnil, e_callD, e_opS, e_raise, e_mkErr, e_fldErr, decide_true, decide_false, not_true_eq_false, not_false_eq_true])
local macro_rules | `(tactic| walk_at "sd") => `(tactic| first
  | assumption
  | decide
  | omega
  | (dsimp only; omega)
  | exact wide_div (b := 450) (by omega) (by omega) (by decide) (by decide)
  | exact mulX (a := 450) (b := 450) (by omega) (by omega) (by decide) (by decide) (by decide)
  | exact powW (b := 450) (by omega) (by omega) (by decide) (by decide))
local macro_rules | `(tactic| walk_at "sl") => `(tactic| first | omega | (simp only [List.length_cons, List.length_nil, List.length_append]; omega))
local macro_rules | `(tactic| walk_at "sqL") => `(tactic| first
  | with_reducible assumption
  | ((with_reducible apply SqL.of); focus walk_at "hp")
  | ((with_reducible apply sqL_new); (focus walk_at "sqL"); (focus with_reducible assumption)))
local macro_rules | `(tactic| walk_at "sqT") => `(tactic| first
  | with_reducible assumption
  | ((with_reducible apply SqT.of); focus walk_at "hp")
  | ((with_reducible apply sqT_new); (focus walk_at "sqT"); (focus with_reducible assumption)))
local macro_rules | `(tactic| walk_at "kt") => `(tactic| first
  | with_reducible exact kt_self
  | with_reducible exact kt_int_bool
  | with_reducible exact kt_int_str
  | with_reducible exact kt_int_list
  | with_reducible exact kt_int_tuple
  | with_reducible exact kt_bool_int
  | with_reducible exact kt_bool_str
  | with_reducible exact kt_bool_list
  | with_reducible exact kt_bool_tuple
  | with_reducible exact kt_str_int
  | with_reducible exact kt_str_bool
  | with_reducible exact kt_str_list
  | with_reducible exact kt_str_tuple
  | with_reducible exact kt_non_int
  | with_reducible exact kt_non_bool
  | with_reducible exact kt_non_str
  | with_reducible exact kt_non_list
  | with_reducible exact kt_non_tuple
  | with_reducible exact kt_tuple_int
  | with_reducible exact kt_tuple_bool
  | with_reducible exact kt_tuple_str
  | with_reducible exact kt_tuple_list
  | with_reducible exact kt_list_int
  | with_reducible exact kt_list_bool
  | with_reducible exact kt_list_str
  | with_reducible exact kt_list_tuple
  | with_reducible exact kt_dict_int
  | with_reducible exact kt_dict_bool
  | with_reducible exact kt_dict_str
  | with_reducible exact kt_dict_list
  | with_reducible exact kt_dict_tuple)
local macro_rules | `(tactic| walk_at "tyx") => `(tactic| first
  | with_reducible exact .base (.int _)
  | with_reducible exact .base (.str _)
  | with_reducible exact .base (.bl _)
  | with_reducible exact .base .non
  | ((with_reducible apply tyx_tup); focus walk_at "sqT")
  | ((with_reducible apply tyx_lst); focus walk_at "sqL")
  | ((with_reducible apply TyX.base); (focus ((with_reducible apply TyOf.dK); focus walk_at "hp"))))
local macro_rules | `(tactic| walk_at "isi") => `(tactic| first
  | ((with_reducible apply k_isi); (focus (with_reducible exact (ClsV.ty _))); (focus (walk_at "tyx")); (focus (walk_at "kt")))
  | ((with_reducible apply k_isiT); (focus (walk_at "hp")); (focus (with_reducible exact (.cons (.ty _) (.cons (.ty _) .nil)))); (focus (walk_at "tyx")); (focus (first | with_reducible exact ka_tuple | with_reducible exact ka_list | ((with_reducible apply ka_no); (focus walk_at "kt"); (focus walk_at "kt"))))))
local macro_rules | `(tactic| walk_at "lk") => `(tactic| rfl)
local macro_rules | `(tactic| walk_at "rd1") => `(tactic| first
  | walk_at "rs"
  | ((with_reducible apply k_ixL); (focus (walk_at "sqL")); (focus rfl))
  | ((with_reducible apply k_ixT); (focus (walk_at "sqT")); (focus rfl))
  | ((with_reducible apply k_fld); (focus (walk_at "hp")); (focus (assumption)); (focus (assumption)); (focus (walk_at "lk")))
  | ((with_reducible apply k_sfld); (focus (walk_at "hp")); (focus (assumption)); (focus (assumption)); (focus (walk_at "sl")))
  | ((with_reducible apply k_meth); (focus (walk_at "hp")); (focus (walk_at "lk")))
  | ((with_reducible apply k_I); (focus (walk_at "sd")))
  | ((with_reducible apply k_unp); (focus (walk_at "sqT")); (focus rfl))
  | ((with_reducible apply k_mul); (focus (walk_at "sd")))
  | ((with_reducible apply k_setL); (focus (walk_at "hp")); (focus rfl))
  | ((with_reducible apply k_bmL); (focus (walk_at "hp")))
  | ((with_reducible apply k_append); (focus (walk_at "hp")); (focus (walk_at "sd")))
  | ((with_reducible apply k_extend); (focus (walk_at "hp")); (focus (walk_at "hp")); (focus (walk_at "sl")))
  | ((with_reducible apply k_tup); (focus (walk_at "sl")); intro _ _)
  | ((with_reducible apply k_lst); (focus (walk_at "sl")); intro _ _)
  | ((with_reducible apply k_lenS); (focus ((with_reducible apply Or.inl); walk_at "sqL")))
  | ((with_reducible apply k_lenS); (focus ((with_reducible apply Or.inr); walk_at "sqT")))
  | ((with_reducible apply k_seqL); (focus (walk_at "sqL")))
  | ((with_reducible apply k_seqT); (focus (walk_at "sqT")))
  | ((with_reducible apply k_enumT); (focus (walk_at "sqT")))
  | walk_at "isi"
  | ((with_reducible apply k_tupOfL); (focus (walk_at "sqL")); intro _ _)
  | ((with_reducible apply k_tupOfT); (focus (walk_at "sqT")))
  | ((with_reducible apply k_listOf); (focus ((with_reducible apply Or.inl); walk_at "sqL")); intro _ _)
  | ((with_reducible apply k_listOf); (focus ((with_reducible apply Or.inr); walk_at "sqT")); intro _ _)
  | (with_reducible apply k_eq_int)
  | (with_reducible apply k_ne_int)
  | (with_reducible apply k_eq_str)
  | (with_reducible apply k_ne_str)
  | (with_reducible apply k_eq_bl)
  | (with_reducible apply k_ne_bl))
local macro_rules | `(tactic| walk_at "rd") => `(tactic| repeat walk_at "rd1")

/-- value is an integer from low to high -/
def spInt : Sp := fun vs H Q _ => ∃ i lo hi : Int, vs = [.int i, .int lo, .int hi] ∧ Q (.bl (decide (lo ≤ i) && decide (i ≤ hi))) H
def spStepT (K : PySem.W.Frag) : Sp := fun vs H Q _ => ∃ (a : Addr) (x : List Str), vs = [.ref a] ∧ SqT K H a (x.map V.str) ∧ x ∈ menu12 ∧ ∀ H', Same H H' → Q (.bl true) H'
def sf (l : Addr) : List (Str × V) := [("_steps", .ref l)]
theorem sf_at (l : Addr) : (sf l).lookup ("_steps" : Str) = some (.ref l) := by
  unfold sf
  simp [List.lookup]
theorem sf_no (l : Addr) {m : Str} (h : ¬ m = "_steps") : (sf l).lookup m = none := by
  have q : (m == ("_steps" : Str)) = false := by simpa using h
  unfold sf
  simp [List.lookup, q]
local macro_rules | `(tactic| walk_at "lk") => `(tactic| first
  | exact sf_at _
  | exact sf_no _ (by decide +kernel))
/-- a Script of the steps ws stands at p -/
structure ScrAt (K : PySem.W.Frag) (C : Addr) (H : Hp) (p : Addr) (ws : List (List Str)) : Prop where
  ex : ∃ (dx l : Addr) (xs : List V), H p = some (.ins C dx (sf l)) ∧ H l = some (.lst xs) ∧ Steps K H xs ws
  len : ws.length ≤ 12
  menu : ∀ x ∈ ws, x ∈ menu12
theorem ScrAt.same {K : PySem.W.Frag} {C p : Addr} {H H' : Hp} {ws : List (List Str)} (h : ScrAt K C H p ws) (e : Same H H') : ScrAt K C H' p ws := by
  obtain ⟨⟨dx, l, xs, h1, h2, h3⟩, h4, h5⟩ := h
  exact ⟨⟨dx, l, xs, e _ _ h1, e _ _ h2, h3.mono (SameT.of e)⟩, h4, h5⟩
/-- the same, its list named -/
def ScrL (K : PySem.W.Frag) (C : Addr) (H : Hp) (p l : Addr) (ws : List (List Str)) : Prop := ∃ (dx : Addr) (xs : List V), H p = some (.ins C dx (sf l)) ∧ H l = some (.lst xs) ∧ Steps K H xs ws ∧ ws.length ≤ 12 ∧ ∀ x ∈ ws, x ∈ menu12
theorem ScrL.at_ {K : PySem.W.Frag} {C p l : Addr} {H : Hp} {ws : List (List Str)} : ScrL K C H p l ws → ScrAt K C H p ws := fun ⟨dx, xs, h1, h2, h3, h4, h5⟩ => ⟨⟨dx, l, xs, h1, h2, h3⟩, h4, h5⟩
theorem ScrL.same {K : PySem.W.Frag} {C p l : Addr} {H H' : Hp} {ws : List (List Str)} (e : Same H H') : ScrL K C H p l ws → ScrL K C H' p l ws := fun ⟨dx, xs, h1, h2, h3, h4, h5⟩ => ⟨dx, xs, e _ _ h1, e _ _ h2, h3.mono (SameT.of e), h4, h5⟩
def spInit (K : PySem.W.Frag) (C CE : Addr) : Sp := fun vs H Q E => ∃ (p r dx : Addr) (ws : List (List Str)), vs = [.ref p, .ref r] ∧ H p = some (.ins C dx []) ∧ Row K H r ws ∧ ws.length ≤ 1000 ∧ (∀ x ∈ ws, x ∈ menu12) ∧
  (ws.length ≤ 12 → ∀ (H' : Hp) (l : Addr), H l = none → ScrL K C H' p l ws → (∀ b o, H b = some o → b ≠ p → H' b = some o) → Q .non H') ∧
  (12 < ws.length → ∀ (H' : Hp) (d : Addr), Same H H' → H' d = none → E (.ref CE) (some d) (upd H' d (.xd [("index", .int 12)])))
def spAdd (K : PySem.W.Frag) (C CE : Addr) : Sp := fun vs H Q E => ∃ (p q : Addr) (ws us : List (List Str)), vs = [.ref p, .ref q] ∧ ScrAt K C H p ws ∧ ScrAt K C H q us ∧
  (ws.length + us.length ≤ 12 → ∀ (x l : Addr) (H' : Hp), H x = none → H l = none → Same H H' → ScrL K C H' x l (ws ++ us) → Q (.ref x) H') ∧
  (12 < ws.length + us.length → ∀ (H' : Hp) (d : Addr), Same H H' → H' d = none → E (.ref CE) (some d) (upd H' d (.xd [("index", .int 12)])))
def spSLen (K : PySem.W.Frag) (C : Addr) : Sp := fun vs H Q _ => ∃ (p : Addr) (ws : List (List Str)), vs = [.ref p] ∧ ScrAt K C H p ws ∧ Q (.int (ws.length : Nat)) H
def spSteps (K : PySem.W.Frag) (C : Addr) : Sp := fun vs H Q _ => ∃ (p : Addr) (ws : List (List Str)), vs = [.ref p] ∧ ScrAt K C H p ws ∧ ∀ (r : Addr) (H' : Hp), H r = none → Same H H' → Row K H' r ws → Q (.ref r) H'
def spHas (K : PySem.W.Frag) (C : Addr) : Sp := fun vs H Q _ => ∃ (p : Addr) (i : Int) (ws : List (List Str)), vs = [.ref p, .int i] ∧ ScrAt K C H p ws ∧ Q (.bl (decide (0 ≤ i) && decide (i ≤ (ws.length : Int) - 1))) H
def spWithout (K : PySem.W.Frag) (C : Addr) : Sp := fun vs H Q _ => ∃ (p : Addr) (i : Nat) (ws : List (List Str)), vs = [.ref p, .int i] ∧ ScrAt K C H p ws ∧ i < ws.length ∧
  ∀ (x l : Addr) (H' : Hp), H x = none → H l = none → Same H H' → ScrL K C H' x l (ws.take i ++ ws.drop (i + 1)) → Q (.ref x) H'
def spWith (K : PySem.W.Frag) (C : Addr) : Sp := fun vs H Q _ => ∃ (p s : Addr) (i : Nat) (y : List Str) (ws : List (List Str)), vs = [.ref p, .int i, .ref s] ∧ ScrAt K C H p ws ∧ SqT K H s (y.map V.str) ∧ y ∈ menu12 ∧ i ≤ ws.length ∧ ws.length < 12 ∧
  ∀ (x l : Addr) (H' : Hp), H x = none → H l = none → Same H H' → ScrL K C H' x l (ws.take i ++ [y] ++ ws.drop i) → Q (.ref x) H'
set_option maxHeartbeats 2000000
section
variable {P : Program} {w : World} {K : PySem.W.Frag} {mg : Str → Option Value} {base : Heap}
theorem ok_is_integer (T : Txt P K mg) : FnOk P w K mg base CX0 1 T.f_is_integer T.d_is_integer ["value", "low", "high"] spInt := by
  refine T.F_is_integer.ok sc_is_integer (fun vs H Q E h => ?_) (fun cdv A outer s H vs Q E hr h => ?_)
  · obtain ⟨i, lo, hi, rfl, _⟩ := h
    rfl
  · obtain ⟨i, lo, hi, rfl, k⟩ := h
    refine ⟨_, (pss_one (ps_ret (pe_and (pe_callB (call_isiUk K) (by rfl) T.m_isinstance b_isinstance (pa_cons (pv 0) (pa_cons (pe_bty (by rfl) T.m_int b_int) pa_nil))) (pe_and (pe_not (pe_callB (call_isiUk K) (by rfl) T.m_isinstance b_isinstance (pa_cons (pv 0) (pa_cons (pe_bty (by rfl) T.m_bool b_bool) pa_nil)))) (pe_one (pe_chain op_le op_le (pv 1) (pv 0) (pv 2))))))), ?_⟩
    walk_at "rd"
    refine ite2 (fun h => ?_) (fun h => ?_)
    · rw [decide_eq_true h, Bool.true_and] at k
      exact k
    · rw [decide_eq_false h, Bool.false_and] at k
      exact k
theorem ok_is_step (T : Txt P K mg) : FnOk P w K mg base CX0 1 T.f_is_step T.d_is_step ["value"] (spStepT K) := by
  refine T.F_is_step.ok sc_is_step (fun vs H Q E h => ?_) (fun cdv A outer s H vs Q E hr h => ?_)
  · obtain ⟨a, x, rfl, _⟩ := h
    rfl
  · obtain ⟨a, x, rfl, ha, hx, k⟩ := h
    refine ⟨_, (pss_one (ps_ret (pe_and (pe_callB (call_isiUk K) (by rfl) T.m_isinstance b_isinstance (pa_cons (pv 0) (pa_cons (pe_bty (by rfl) T.m_tuple b_tuple) pa_nil))) (pe_and (pe_callB (cr_allk K rfl) (by rfl) T.m_all b_all (pa_cons (pe_lc (own := [("word", 1)]) (g := (gName 1)) (tt := tYes) rfl sc_is_step.nd (pi_seqk K (pv 0)) (blkOk_by (own := [("word", 1)]) (N := N_is_step) (sc := defScope s_is_step) (by decide +kernel)) (fun _ _ _ _ _ => (pg_name (i := 1) sc_is_step.nd rfl (Or.inl rfl))) (fun _ _ _ _ _ => pts_nil) (fun _ _ _ _ _ => (pe_callB (call_isiUk K) (by rfl) T.m_isinstance b_isinstance (pa_cons (pv 1) (pa_cons (pe_bty (by rfl) T.m_str b_str) pa_nil))))) pa_nil)) (pe_one (pe_cmpR (op_inUk K (hu65 hr)) (pv 0) (pe_glob (by rfl) T.m_STEPS (show RelV (.ref _) (.ref _) from rfl)) (by rfl))))))), ?_⟩
    walk_at "rd"
    refine k_lc (walk_tup (xs := x.map V.str)) fun l nl => ⟨fun i H' => Same H H' ∧ H' l = some (.lst ((List.replicate i true).map V.bl)), ⟨fun b o e => lk_new e nl, upd_same⟩, fun i H' _ h => sqT_mono (SameT.of h.1) ha, ?_, ?_⟩
    · rintro i y H1 H2 hi ⟨s1, h1⟩ ⟨rfl, hy⟩
      obtain ⟨z, rfl⟩ : ∃ z, y = V.str z := by
        rw [List.getElem?_map] at hy
        cases e : x[i]? with
        | none =>
          rw [e] at hy
          cases hy
        | some z =>
          rw [e] at hy
          exact ⟨z, (Option.some.inj hy).symm⟩
      have hxl : x.length ≤ 2 := menu_len x hx
      have hi2 : i < 2 := by
        rw [List.length_map] at hi
        omega
      walk_at "rs"
      refine ⟨trivial, ?_⟩
      walk_at "rd"
      refine k_acc h1 (by rw [List.length_map, List.length_replicate]; omega) ⟨fun b o e => lk_ne (s1 b o e) (ne_of_none e nl), ?_⟩
      rw [upd_same, List.map_replicate, ← List.replicate_succ, List.replicate_succ']
    · rintro H1 ⟨s1, h1⟩
      walk_at "rd"
      refine k_all (SqL.of h1) ?_
      have e : (List.replicate (x.map V.str).length true).all id = true := by simp
      rw [e]
      walk_at "rd"
      obtain ⟨h3, h4⟩ := step_shaped x hx
      refine k_inT (dp_step (sqT_mono (SameT.of s1) ha)) (show Dp K H1 (.ref T.a_STEPS) (.tuple (steps12.map stepD)) from T.dp_STEPS H1) h3 steps12_shaped ?_
      rw [h4]
      exact k H1 s1
theorem menu_lay : ∀ x ∈ menu12, (stepD x).canLay0 = true ∧ (stepD x).depth ≤ 2 := by decide +kernel
theorem lay_all : ∀ {ws : List (List Str)}, (∀ x ∈ ws, x ∈ menu12) → PyData.canLayAll0 (ws.map stepD) = true ∧ PyData.depthAll (ws.map stepD) ≤ 2
  | [], _ => ⟨by simp [PyData.canLayAll0], by simp [PyData.depthAll]⟩
  | x :: ws, h => by
    obtain ⟨h1, h2⟩ := lay_all (ws := ws) fun y hy => h y (List.mem_cons_of_mem _ hy)
    obtain ⟨h3, h4⟩ := menu_lay x (h x List.mem_cons_self)
    refine ⟨by simp [PyData.canLayAll0, h1, h3], ?_⟩
    simp only [List.map_cons, PyData.depthAll]
    omega
theorem steps_shaped {ws : List (List Str)} (h : ∀ x ∈ ws, x ∈ menu12) : SeqAt.shaped (.list (ws.map stepD)) = true ∧ SeqAt.shaped (.tuple (ws.map stepD)) = true := by
  obtain ⟨h1, h2⟩ := lay_all h
  have d1 : PyData.depth (.list (ws.map stepD)) ≤ 64 := by
    simp only [PyData.depth]
    omega
  have d2 : PyData.depth (.tuple (ws.map stepD)) ≤ 64 := by
    simp only [PyData.depth]
    omega
  exact ⟨by unfold SeqAt.shaped; rw [Bool.and_eq_true]; exact ⟨by simp only [PyData.canLay0]; exact h1, decide_eq_true d1⟩, by unfold SeqAt.shaped; rw [Bool.and_eq_true]; exact ⟨by simp only [PyData.canLay0]; exact h1, decide_eq_true d2⟩⟩
theorem ok_Script___init__ (T : Txt P K mg) : FnOk P w K mg base (L2.CX P w) 2 T.f_Script___init__ T.d_Script___init__ ["self", "steps"] (spInit K T.a_Script T.a_NoStep) := by
  refine T.F_Script___init__.okX sc_Script___init__ (fun vs H Q E h => ?_) (fun cdv A outer s H vs Q E hr h => ?_)
  · obtain ⟨p, r, dx, ws, rfl, _⟩ := h
    rfl
  · obtain ⟨p, r, dx, ws, rfl, hp, ⟨xs, hr1, hr2⟩, hl, hm, k, kE⟩ := h
    refine ⟨_, (pss_cons (ps_if (pt_not (pt_val (pe_callB (call_isiUk K) (by rfl) T.m_isinstance b_isinstance (pa_cons (pv 1) (pa_cons (pe_bty (by rfl) T.m_tuple b_tuple) pa_nil))))) (pss_one (ps_raiseErr rfl T.er_NoStep (by simp) hr (takes_of rfl rfl rfl rfl) (pa_cons pe_int pa_nil) (by rfl) (by decide))) pss_nil)
  (pss_cons (ps_for (passes_of rfl) rfl (pi_enumT (by rfl) T.m_enumerate (pa_cons (pv 1) pa_nil)) (pg_tup (n := 2) rfl (pgs_cons (pg_name (i := 2) sc_Script___init__.nd rfl (Or.inl rfl)) (pgs_cons (pg_name (i := 3) sc_Script___init__.nd rfl (Or.inl rfl)) pgs_nil)))
  (pss_one (ps_if (PW.pt (pw_or (pt_cmpR op_ge (pv 2) (pe_gint (by rfl) T.m_MOST_STEPS) (nomark _)) (pw_or1 (pt_not (pt_val (pe_call (ok_is_step T) (hr.mono (by decide)) (by rfl) T.m_is_step T.F_is_step.kp T.b_is_step .nil pass0 (pa_cons (pv 3) pa_nil))))))) (pss_one (ps_raiseErr rfl T.er_NoStep (by simp) hr (takes_of rfl rfl rfl rfl) (pa_cons (pv 2) pa_nil) (by rfl) (by decide))) pss_nil)))
  (pss_one (ps_fld (pv 0) (pe_callTy (call_list_ofk K) (by rfl) T.m_list b_list (pa_cons (pv 1) pa_nil)) rfl)))), ?_⟩
    have c1 := T.cl_Script
    have c2 := T.na_Script__steps
    walk_at "rd"
    have hlen : xs.length = ws.length := Paired.length hr2
    refine k_for walk_enumT (fun i σ H' => i ≤ 12 ∧ ∃ v1 v2 : Option V, σ = [some (.ref p), some (.ref r), v1, v2] ∧ Same H H') ⟨by omega, none, none, rfl, Same.refl H⟩ (fun i σ H' _ ⟨_, _, _, _, e⟩ => sqT_mono (SameT.of e) hr1) ?_ ?_
    · rintro i x σ H1 H2 hi ⟨h12, v1, v2, rfl, s1⟩ ⟨q, x0, x1, rfl, nq, rfl, e0, e1⟩
      cases e0
      obtain ⟨b, wd, hb1, hb2, hb3⟩ := Steps.at_ (j := i) hr2 (by omega)
      have e1' : xs[i]? = some x1 := e1
      rw [hb1] at e1'
      cases e1'
      refine k_pair upd_same ?_
      have s2 : Same H (upd H1 q (.tup [.int (i : Nat), .ref b])) := fun c o e => lk_new (s1 c o e) nq
      by_cases h13 : i = 12
      · subst h13
        walk_at "rd"
        exact fun d hd => kE (by omega) _ d s2 hd
      · have hi12 : ¬ (12 : Int) ≤ (i : Int) := by omega
        walk_at "rd"
        simp only [if_neg hi12]
        walk_at "rd"
        refine ⟨b, wd, rfl, sqT_mono (SameT.of s2) hb3, hm _ (List.mem_of_getElem? hb2), fun H3 s3 => ?_⟩
        walk_at "rd"
        exact ⟨by omega, _, _, rfl, fun c o e => s3 c o (s2 c o e)⟩
    · rintro σ H1 ⟨h12, v1, v2, rfl, s1⟩
      have hr3 := sqT_mono (SameT.of s1) hr1
      have hp1 := s1 _ _ hp
      walk_at "rd"
      rename_i l nl
      have npl : p ≠ l := ne_of_none hp1 nl
      have nlH : H l = none := by
        cases e : H l with
        | none => rfl
        | some o =>
          rw [s1 _ _ e] at nl
          cases nl
      refine k (by omega) _ l nlH ⟨dx, xs, upd_same, lk_ne upd_same npl.symm, ?_, by omega, hm⟩ fun b o e hb => lk_ne (lk_new (s1 b o e) nl) hb
      exact ((hr2.mono (SameT.of s1)).mono (SameT.new nl)).mono (SameT.ins (lk_new hp1 nl))
theorem ok_Script___len__ (T : Txt P K mg) : FnOk P w K mg base CX0 1 T.f_Script___len__ T.d_Script___len__ ["self"] (spSLen K T.a_Script) := by
  refine T.F_Script___len__.ok sc_Script___len__ (fun vs H Q E h => ?_) (fun cdv A outer s H vs Q E hr h => ?_)
  · obtain ⟨p, ws, rfl, _⟩ := h
    rfl
  · obtain ⟨p, ws, rfl, ⟨⟨dx, l, xs, h1, h2, h3⟩, h4, h5⟩, k⟩ := h
    refine ⟨_, (pss_one (ps_ret (pe_callB (call_lenUk K) (by rfl) T.m_len b_len (pa_cons (pe_fldk K (pv 0) rfl) pa_nil)))), ?_⟩
    have c1 := T.cl_Script
    have c2 := T.na_Script__steps
    walk_at "rd"
    rw [← Paired.length h3] at k
    exact k
theorem ok_Script_steps (T : Txt P K mg) : FnOk P w K mg base CX0 1 T.f_Script_steps T.d_Script_steps ["self"] (spSteps K T.a_Script) := by
  refine T.F_Script_steps.ok sc_Script_steps (fun vs H Q E h => ?_) (fun cdv A outer s H vs Q E hr h => ?_)
  · obtain ⟨p, ws, rfl, _⟩ := h
    rfl
  · obtain ⟨p, ws, rfl, ⟨⟨dx, l, xs, h1, h2, h3⟩, h4, h5⟩, k⟩ := h
    refine ⟨_, (pss_one (ps_ret (pe_callTy (call_tuple_ofk K) (by rfl) T.m_tuple b_tuple (pa_cons (pe_fldk K (pv 0) rfl) pa_nil)))), ?_⟩
    have c1 := T.cl_Script
    have c2 := T.na_Script__steps
    walk_at "rd"
    rename_i r nr
    exact k r _ nr (fun b o e => lk_new e nr) ⟨xs, SqT.of upd_same, h3.mono (SameT.new nr)⟩
theorem ok_Script__has (T : Txt P K mg) : FnOk P w K mg base CX0 2 T.f_Script__has T.d_Script__has ["self", "index"] (spHas K T.a_Script) := by
  refine T.F_Script__has.ok sc_Script__has (fun vs H Q E h => ?_) (fun cdv A outer s H vs Q E hr h => ?_)
  · obtain ⟨p, i, ws, rfl, _⟩ := h
    rfl
  · obtain ⟨p, i, ws, rfl, ⟨⟨dx, l, xs, h1, h2, h3⟩, h4, h5⟩, k⟩ := h
    refine ⟨_, (pss_one (ps_ret (pe_call (ok_is_integer T) (hr.mono (by decide)) (by rfl) T.m_is_integer T.F_is_integer.kp T.b_is_integer .nil pass0 (pa_cons (pv 1) (pa_cons pe_int (pa_cons (pe_op op_sub (pe_callB (call_lenUk K) (by rfl) T.m_len b_len (pa_cons (pe_fldk K (pv 0) rfl) pa_nil)) pe_int) pa_nil)))))), ?_⟩
    have c1 := T.cl_Script
    have c2 := T.na_Script__steps
    walk_at "rd"
    rw [← Paired.length h3] at k
    exact ⟨i, 0, _, rfl, k⟩
theorem ok_Script___add__ (T : Txt P K mg) : FnOk P w K mg base (L2.CX P w) 4 T.f_Script___add__ T.d_Script___add__ ["self", "other"] (spAdd K T.a_Script T.a_NoStep) := by
  refine T.F_Script___add__.okX sc_Script___add__ (fun vs H Q E h => ?_) (fun cdv A outer s H vs Q E hr h => ?_)
  · obtain ⟨p, q, ws, us, rfl, _⟩ := h
    rfl
  · obtain ⟨p, q, ws, us, rfl, S1, S2, k, kE⟩ := h
    refine ⟨_, (pss_cons (ps_if (pt_not (pt_val (pe_callB (call_isiUk K) (by rfl) T.m_isinstance b_isinstance (pa_cons (pv 1) (pa_cons (pe_glob (by rfl) T.m_Script (show RelV (.ref _) (.ref _) from rfl)) pa_nil))))) (pss_one ps_never) pss_nil)
  (pss_one (ps_ret (pe_make T.M_Script (ok_Script___init__ T) (hr.mono (by decide)) (by rfl) T.m_Script T.b_Script___init__ .nil (passes_call (takes_of rfl rfl rfl rfl) (fun _ _ _ _ z => z)) (pa_cons (pe_op (op_addUk K) (pe_meth0 (pv 0) T.cl_Script T.me_Script_steps (ok_Script_steps T) (hr.mono (by decide)) T.b_Script_steps .nil pass0) (pe_meth0 (pv 1) T.cl_Script T.me_Script_steps (ok_Script_steps T) (hr.mono (by decide)) T.b_Script_steps .nil pass0)) pa_nil))))), ?_⟩
    have c1 := T.cl_Script
    have c2 := T.na_Script__steps
    walk_at "rd"
    obtain ⟨⟨dx, l, xs, h1, h2, h3⟩, h4, h5⟩ := id S1
    obtain ⟨⟨dy, m, ys, g1, g2, g3⟩, g4, g5⟩ := id S2
    refine k_isi (ClsV.own _) (T.ty_Script _ _ _ _ g1) kt_self ?_
    walk_at "rd"
    refine ⟨p, ws, rfl, S1, fun a H1 na s1 R1 => ?_⟩
    have g1' := s1 _ _ g1
    walk_at "rd"
    refine ⟨q, us, rfl, S2.same s1, fun b H2 nb s2 R2 => ?_⟩
    have R1' := R1.mono (SameT.of s2)
    obtain ⟨zs, z1, z2⟩ := id R1'
    obtain ⟨vs, v1, v2⟩ := id R2
    have e1 : zs.length = ws.length := Paired.length z2
    have e2 : vs.length = us.length := Paired.length v2
    have s12 : Same H H2 := fun c o e => s2 c o (s1 c o e)
    refine k_catT z1 v1 (by omega) fun r H3 s3 R3 => ?_
    have s13 : Same H H3 := fun c o e => s3 c o (s12 c o e)
    have RR : Row K H3 r (ws ++ us) := ⟨_, R3, (z2.mono (SameT.of s3)).append (v2.mono (SameT.of s3))⟩
    walk_at "rd"
    intro y dz ny nd nyd
    have sm : Same H3 (upd (upd H3 dz (.own y)) y (.ins T.a_Script dz [])) := fun b o e => lk_ne (lk_new e nd) (ne_of_none e ny)
    have nyH : H y = none := Same.none_of s13 ny
    refine ⟨y, r, dz, ws ++ us, rfl, upd_same, RR.mono (SameT.of sm), by rw [List.length_append]; omega, fun x hx => ?_, fun hl H4 lz nl L4 f4 => ⟨rfl, ?_⟩, fun hl H4 d s4 nd4 => ?_⟩
    · rcases List.mem_append.mp hx with h | h
      · exact h5 x h
      · exact g5 x h
    · rw [List.length_append] at hl
      exact k hl y lz H4 nyH (Same.none_of s13 (Same.none_of sm nl)) (fun b o e => f4 b o (sm b o (s13 b o e)) (ne_of_none (s13 b o e) ny)) L4
    · rw [List.length_append] at hl
      exact kE hl H4 d (fun b o e => s4 b o (sm b o (s13 b o e))) nd4
theorem ok_Script_without (T : Txt P K mg) : FnOk P w K mg base (L2.CX P w) 4 T.f_Script_without T.d_Script_without ["self", "index"] (spWithout K T.a_Script) := by
  refine T.F_Script_without.okX sc_Script_without (fun vs H Q E h => ?_) (fun cdv A outer s H vs Q E hr h => ?_)
  · obtain ⟨p, i, ws, rfl, _⟩ := h
    rfl
  · obtain ⟨p, i, ws, rfl, S, hi, k⟩ := h
    refine ⟨_, (pss_cons (ps_if (pt_not (pt_val (pe_meth (pv 0) T.cl_Script T.me_Script__has (ok_Script__has T) (hr.mono (by decide)) T.b_Script__has .nil pass0 (pa_cons (pv 1) pa_nil)))) (pss_one (ps_raiseErr rfl T.er_NoStep (by simp) hr (takes_of rfl rfl rfl rfl) (pa_cons (pv 1) pa_nil) (by rfl) (by decide))) pss_nil)
  (pss_cons (ps_set (i := 2) sc_Script_without.nd rfl (Or.inl rfl) (pe_meth0 (pv 0) T.cl_Script T.me_Script_steps (ok_Script_steps T) (hr.mono (by decide)) T.b_Script_steps .nil pass0))
  (pss_one (ps_ret (pe_make T.M_Script (ok_Script___init__ T) (hr.mono (by decide)) (by rfl) T.m_Script T.b_Script___init__ .nil (passes_call (takes_of rfl rfl rfl rfl) (fun _ _ _ _ z => z)) (pa_cons (pe_op (op_addUk K) (pe_slice (sl_Uk K) (pv 2) po_none (po_some (pv 1))) (pe_slice (sl_Uk K) (pv 2) (po_some (pe_op (op_addUk K) (pv 1) pe_int)) po_none)) pa_nil)))))), ?_⟩
    have c1 := T.cl_Script
    have c2 := T.na_Script__steps
    obtain ⟨⟨dx, l, xs, h1, h2, h3⟩, h4, h5⟩ := id S
    walk_at "rd"
    refine ⟨p, i, ws, rfl, S, ?_⟩
    have e : (decide ((0 : Int) ≤ i) && decide ((i : Int) ≤ (ws.length : Int) - 1)) = true := by
      rw [decide_eq_true (by omega), decide_eq_true (by omega)]
      rfl
    rw [e]
    walk_at "rd"
    refine ⟨p, ws, rfl, S, fun a H1 na s1 R1 => ?_⟩
    obtain ⟨ys, y1, y2⟩ := id R1
    have e1 : ys.length = ws.length := y2.len
    walk_at "rd"
    refine k_slT y1 fun b H2 s2 b1 => ?_
    rw [cutV_eq, cutG_to] at b1
    have y3 := sqT_mono (SameT.of s2) y1
    walk_at "rd"
    refine k_slT y3 fun c H3 s3 b2 => ?_
    have ei : (i : Int) + 1 = ((i + 1 : Nat) : Int) := by omega
    rw [ei, cutV_eq, cutG_from] at b2
    refine k_catT (sqT_mono (SameT.of s3) b1) b2 (by rw [List.length_take, List.length_drop]; omega) fun r H4 s4 r1 => ?_
    have s14 : Same H1 H4 := fun b o e => s4 b o (s3 b o (s2 b o e))
    have s04 : Same H H4 := fun b o e => s14 b o (s1 b o e)
    have RR : Row K H4 r (ws.take i ++ ws.drop (i + 1)) := ⟨_, r1, ((y2.take i).append (y2.drop (i + 1))).mono (SameT.of s14)⟩
    walk_at "rd"
    intro y dz ny nd nyd
    have sm : Same H4 (upd (upd H4 dz (.own y)) y (.ins T.a_Script dz [])) := fun b o e => lk_ne (lk_new e nd) (ne_of_none e ny)
    have hl' : (ws.take i ++ ws.drop (i + 1)).length ≤ 12 := by
      rw [List.length_append, List.length_take, List.length_drop]
      omega
    refine ⟨y, r, dz, _, rfl, upd_same, RR.mono (SameT.of sm), by omega, fun x hx => ?_, fun hl H5 lz nl L4 f4 => ⟨rfl, ?_⟩, fun hl => absurd hl (by omega)⟩
    · rcases List.mem_append.mp hx with h | h
      · exact h5 x (List.mem_of_mem_take h)
      · exact h5 x (List.mem_of_mem_drop h)
    · exact k y lz H5 (Same.none_of s04 ny) (Same.none_of s04 (Same.none_of sm nl)) (fun b o e => f4 b o (sm b o (s04 b o e)) (ne_of_none (s04 b o e) ny)) L4
theorem ok_Script_with_step (T : Txt P K mg) : FnOk P w K mg base (L2.CX P w) 4 T.f_Script_with_step T.d_Script_with_step ["self", "index", "step"] (spWith K T.a_Script) := by
  refine T.F_Script_with_step.okX sc_Script_with_step (fun vs H Q E h => ?_) (fun cdv A outer s H vs Q E hr h => ?_)
  · obtain ⟨p, q, i, y, ws, rfl, _⟩ := h
    rfl
  · obtain ⟨p, q, i, w, ws, rfl, S, hq, hw, hi, hlw, k⟩ := h
    refine ⟨_, (pss_cons (ps_if (pt_not (pt_val (pe_call (ok_is_integer T) (hr.mono (by decide)) (by rfl) T.m_is_integer T.F_is_integer.kp T.b_is_integer .nil pass0 (pa_cons (pv 1) (pa_cons pe_int (pa_cons (pe_callB (call_lenUk K) (by rfl) T.m_len b_len (pa_cons (pe_fldk K (pv 0) rfl) pa_nil)) pa_nil)))))) (pss_one (ps_raiseErr rfl T.er_NoIndex (by simp) hr (takes_of rfl rfl rfl rfl) (pa_cons (pv 1) pa_nil) (by rfl) (by decide))) pss_nil)
  (pss_cons (ps_set (i := 3) sc_Script_with_step.nd rfl (Or.inl rfl) (pe_meth0 (pv 0) T.cl_Script T.me_Script_steps (ok_Script_steps T) (hr.mono (by decide)) T.b_Script_steps .nil pass0))
  (pss_one (ps_ret (pe_make T.M_Script (ok_Script___init__ T) (hr.mono (by decide)) (by rfl) T.m_Script T.b_Script___init__ .nil (passes_call (takes_of rfl rfl rfl rfl) (fun _ _ _ _ z => z)) (pa_cons (pe_op (op_addUk K) (pe_op (op_addUk K) (pe_slice (sl_Uk K) (pv 3) po_none (po_some (pv 1))) (pe_tup (pa_cons (pv 2) pa_nil))) (pe_slice (sl_Uk K) (pv 3) (po_some (pv 1)) po_none)) pa_nil)))))), ?_⟩
    have c1 := T.cl_Script
    have c2 := T.na_Script__steps
    obtain ⟨⟨dx, l, xs, h1, h2, h3⟩, h4, h5⟩ := id S
    have e0 : xs.length = ws.length := h3.len
    walk_at "rd"
    refine ⟨i, 0, xs.length, rfl, ?_⟩
    have e : (decide ((0 : Int) ≤ i) && decide ((i : Int) ≤ (xs.length : Int))) = true := by
      rw [decide_eq_true (by omega), decide_eq_true (by omega)]
      rfl
    rw [e]
    walk_at "rd"
    refine ⟨p, ws, rfl, S, fun a H1 na s1 R1 => ?_⟩
    obtain ⟨ys, y1, y2⟩ := id R1
    have e1 : ys.length = ws.length := y2.len
    walk_at "rd"
    refine k_slT y1 fun b H2 s2 b1 => ?_
    rw [cutV_eq, cutG_to] at b1
    walk_at "rd"
    rename_i t nt
    have st : Same H2 (upd H2 t (.tup [.ref q])) := Same.new nt
    refine k_catT (sqT_mono (SameT.of st) b1) (SqT.of upd_same) (by rw [List.length_take]; simp only [List.length_cons, List.length_nil]; omega) fun g H3 s3 g1 => ?_
    have y3 := sqT_mono (SameT.of (s2.trans (st.trans s3))) y1
    walk_at "rd"
    refine k_slT y3 fun c H4 s4 b2 => ?_
    rw [cutV_eq, cutG_from] at b2
    refine k_catT (sqT_mono (SameT.of s4) g1) b2 (by rw [List.length_append, List.length_take, List.length_drop]; simp only [List.length_cons, List.length_nil]; omega) fun r H5 s5 r1 => ?_
    have s15 : Same H1 H5 := s2.trans (st.trans (s3.trans (s4.trans s5)))
    have s05 : Same H H5 := s1.trans s15
    have RR : Row K H5 r (ws.take i ++ [w] ++ ws.drop i) := ⟨_, r1, (((y2.take i).mono (SameT.of s15)).append (Steps.one (sqT_mono (SameT.of s05) hq))).append ((y2.drop i).mono (SameT.of s15))⟩
    walk_at "rd"
    intro y dz ny nd nyd
    have sm : Same H5 (upd (upd H5 dz (.own y)) y (.ins T.a_Script dz [])) := fun b o e => lk_ne (lk_new e nd) (ne_of_none e ny)
    have hl' : (ws.take i ++ [w] ++ ws.drop i).length ≤ 12 := by
      rw [List.length_append, List.length_append, List.length_take, List.length_drop]
      simp only [List.length_cons, List.length_nil]
      omega
    refine ⟨y, r, dz, _, rfl, upd_same, RR.mono (SameT.of sm), by omega, fun x hx => ?_, fun hl H6 lz nl L4 f4 => ⟨rfl, ?_⟩, fun hl => absurd hl (by omega)⟩
    · rcases List.mem_append.mp hx with h | h
      · rcases List.mem_append.mp h with h | h
        · exact h5 x (List.mem_of_mem_take h)
        · rw [List.mem_singleton.mp h]
          exact hw
      · exact h5 x (List.mem_of_mem_drop h)
    · exact k y lz H6 (Same.none_of s05 ny) (Same.none_of s05 (Same.none_of sm nl)) (fun b o e => f4 b o (sm b o (s05 b o e)) (ne_of_none (s05 b o e) ny)) L4
end
end Y


set_option Elab.async false
set_option linter.all false
set_option maxRecDepth 100000
namespace Y
open PySem L2
local macro_rules | `(tactic| walk_at "hp") => `(tactic| first
  | with_reducible assumption
  | with_reducible exact upd_same
  | ((with_reducible apply lk_new); (focus walk_at "hp"); (focus with_reducible assumption))
  | ((with_reducible apply lk_ne); (focus walk_at "hp"); (focus first | with_reducible assumption | (apply Ne.symm; with_reducible assumption))))
local macro_rules | `(tactic| walk_at "rs") => `(tactic| simp only [e_C, e_var0, e_varS, e_op, e_op1, e_un, e_fld, e_tup, e_lst, e_cons, e_cons1, e_cons2, e_nil, e_call, e_call1, e_CB, e_meth, e_make, e_B, e_test, e_B1, e_if, e_if1, e_ifS, e_ifS1, e_and, e_andc, e_or, e_orc, e_not, e_not1, e_andV, e_andVc, e_orV, e_orVc, e_notV, e_notV1, e_seq, e_next, e_break, e_cont, e_drop, e_drop1, e_ret, e_retN, e_asg, e_name, e_part, e_part1, e_noPart, e_sl, e_sl1, e_sl2, e_sl3, o_add_int, o_I0, o_un, c_int, c_intB, c_abs, c_max, c_min, k_isN, k_notN, k_isB, k_notB, e_sub, e_sub1, cx_K, cx_noxK, e_for, e_rng1, e_rng2, e_seqI, e_enumT, e_enum, e_gname, e_lc, e_lcT, e_yes, e_bm, e_par, e_par1, e_par3, e_par31, e_chain, e_chain1, e_chain2, e_chain3, e_sfld, e_sfld1, List.set, ite_true, ite_false, eq_self, Bool.false_eq_true, decide_eq_true_eq, L2.start, List.map, List.length_cons, List.length_nil, List.replicate, Nat.add_one_sub_one, Nat.sub_self, List.nil_append, List.cons_append, Int.reduceToNat, Int.reducePow, Int.reduceMul, Int.reduceAdd, Int.reduceSub, Int.reduceNeg, Int.reduceLT, Int.reduceLE, Int.reduceEq, Bool.not_false, Bool.not_true, L2.wipe, e_never, e_asgT, e_gcons, e_gnil, e_callD, e_opS, e_raise, e_mkErr, e_fldErr, decide_true, decide_false, not_true_eq_false, not_false_eq_true])
local macro_rules | `(tactic| walk_at "sd") => `(tactic| first
  | assumption
  | decide
  | omega
  | (dsimp only; omega)
  | exact wide_div (b := 450) (by omega) (by omega) (by decide) (by decide)
  | exact mulX (a := 450) (b := 450) (by omega) (by omega) (by decide) (by decide) (by decide)
  | exact powW (b := 450) (by omega) (by omega) (by decide) (by decide))
local macro_rules | `(tactic| walk_at "sl") => `(tactic| first | omega | (simp only [List.length_cons, List.length_nil, List.length_append]; omega))
local macro_rules | `(tactic| walk_at "sqL") => `(tactic| first
  | with_reducible assumption
  | ((with_reducible apply SqL.of); focus walk_at "hp")
  | ((with_reducible apply sqL_new); (focus walk_at "sqL"); (focus with_reducible assumption)))
local macro_rules | `(tactic| walk_at "sqT") => `(tactic| first
  | with_reducible assumption
  | ((with_reducible apply SqT.of); focus walk_at "hp")
  | ((with_reducible apply sqT_new); (focus walk_at "sqT"); (focus with_reducible assumption)))
local macro_rules | `(tactic| walk_at "kt") => `(tactic| first
  | with_reducible exact kt_self
  | with_reducible exact kt_int_bool
  | with_reducible exact kt_int_str
  | with_reducible exact kt_int_list
  | with_reducible exact kt_int_tuple
  | with_reducible exact kt_bool_int
  | with_reducible exact kt_bool_str
  | with_reducible exact kt_bool_list
  | with_reducible exact kt_bool_tuple
  | with_reducible exact kt_str_int
  | with_reducible exact kt_str_bool
  | with_reducible exact kt_str_list
  | with_reducible exact kt_str_tuple
  | with_reducible exact kt_non_int
  | with_reducible exact kt_non_bool
  | with_reducible exact kt_non_str
  | with_reducible exact kt_non_list
  | with_reducible exact kt_non_tuple
  | with_reducible exact kt_tuple_int
  | with_reducible exact kt_tuple_bool
  | with_reducible exact kt_tuple_str
  | with_reducible exact kt_tuple_list
  | with_reducible exact kt_list_int
  | with_reducible exact kt_list_bool
  | with_reducible exact kt_list_str
  | with_reducible exact kt_list_tuple
  | with_reducible exact kt_dict_int
  | with_reducible exact kt_dict_bool
  | with_reducible exact kt_dict_str
  | with_reducible exact kt_dict_list
  | with_reducible exact kt_dict_tuple)
local macro_rules | `(tactic| walk_at "tyx") => `(tactic| first
  | with_reducible exact .base (.int _)
  | with_reducible exact .base (.str _)
  | with_reducible exact .base (.bl _)
  | with_reducible exact .base .non
  | ((with_reducible apply tyx_tup); focus walk_at "sqT")
  | ((with_reducible apply tyx_lst); focus walk_at "sqL")
  | ((with_reducible apply TyX.base); (focus ((with_reducible apply TyOf.dK); focus walk_at "hp"))))
local macro_rules | `(tactic| walk_at "isi") => `(tactic| first
  | ((with_reducible apply k_isi); (focus (with_reducible exact (ClsV.ty _))); (focus (walk_at "tyx")); (focus (walk_at "kt")))
  | ((with_reducible apply k_isiT); (focus (walk_at "hp")); (focus (with_reducible exact (.cons (.ty _) (.cons (.ty _) .nil)))); (focus (walk_at "tyx")); (focus (first | with_reducible exact ka_tuple | with_reducible exact ka_list | ((with_reducible apply ka_no); (focus walk_at "kt"); (focus walk_at "kt"))))))
local macro_rules | `(tactic| walk_at "lk") => `(tactic| rfl)
local macro_rules | `(tactic| walk_at "rd1") => `(tactic| first
  | walk_at "rs"
  | ((with_reducible apply k_ixL); (focus (walk_at "sqL")); (focus rfl))
  | ((with_reducible apply k_ixT); (focus (walk_at "sqT")); (focus rfl))
  | ((with_reducible apply k_fld); (focus (walk_at "hp")); (focus (assumption)); (focus (assumption)); (focus (walk_at "lk")))
  | ((with_reducible apply k_sfld); (focus (walk_at "hp")); (focus (assumption)); (focus (assumption)); (focus (walk_at "sl")))
  | ((with_reducible apply k_meth); (focus (walk_at "hp")); (focus (walk_at "lk")))
  | ((with_reducible apply k_I); (focus (walk_at "sd")))
  | ((with_reducible apply k_unp); (focus (walk_at "sqT")); (focus rfl))
  | ((with_reducible apply k_mul); (focus (walk_at "sd")))
  | ((with_reducible apply k_setL); (focus (walk_at "hp")); (focus rfl))
  | ((with_reducible apply k_bmL); (focus (walk_at "hp")))
  | ((with_reducible apply k_append); (focus (walk_at "hp")); (focus (walk_at "sd")))
  | ((with_reducible apply k_extend); (focus (walk_at "hp")); (focus (walk_at "hp")); (focus (walk_at "sl")))
  | ((with_reducible apply k_tup); (focus (walk_at "sl")); intro _ _)
  | ((with_reducible apply k_lst); (focus (walk_at "sl")); intro _ _)
  | ((with_reducible apply k_lenS); (focus ((with_reducible apply Or.inl); walk_at "sqL")))
  | ((with_reducible apply k_lenS); (focus ((with_reducible apply Or.inr); walk_at "sqT")))
  | ((with_reducible apply k_seqL); (focus (walk_at "sqL")))
  | ((with_reducible apply k_seqT); (focus (walk_at "sqT")))
  | ((with_reducible apply k_enumT); (focus (walk_at "sqT")))
  | walk_at "isi"
  | ((with_reducible apply k_tupOfL); (focus (walk_at "sqL")); intro _ _)
  | ((with_reducible apply k_tupOfT); (focus (walk_at "sqT")))
  | ((with_reducible apply k_listOf); (focus ((with_reducible apply Or.inl); walk_at "sqL")); intro _ _)
  | ((with_reducible apply k_listOf); (focus ((with_reducible apply Or.inr); walk_at "sqT")); intro _ _)
  | (with_reducible apply k_eq_int)
  | (with_reducible apply k_ne_int)
  | (with_reducible apply k_eq_str)
  | (with_reducible apply k_ne_str)
  | (with_reducible apply k_eq_bl)
  | (with_reducible apply k_ne_bl))
local macro_rules | `(tactic| walk_at "rd") => `(tactic| repeat walk_at "rd1")

local macro_rules | `(tactic| walk_at "lk") => `(tactic| first
  | exact sf_at _
  | exact sf_no _ (by decide +kernel))
def spScript (K : PySem.W.Frag) (C : Addr) : Sp := fun vs H Q _ => ∃ (r : Addr) (ws : List (List Str)), vs = [.ref r] ∧ Row K H r ws ∧ ws.length ≤ 12 ∧ InMenu ws ∧
  ∀ (p l : Addr) (H' : Hp), H p = none → H l = none → Same H H' → ScrL K C H' p l ws → Q (.ref p) H'
theorem k_newScr {K : PySem.W.Frag} {C CE r : Addr} {ws : List (List Str)} {E : XK} {H : Hp} {Q : VK} (R : Row K H r ws) (hl : ws.length ≤ 12) (hm : InMenu ws)
    (k : ∀ (x l : Addr) (H' : Hp), H x = none → H l = none → Same H H' → ScrL K C H' x l ws → Q (.ref x) H') : fMake C (spInit K C CE) [] E Q [.ref r] H := by
  intro y dz ny nd nyd
  have sm : Same H (upd (upd H dz (.own y)) y (.ins C dz [])) := fun b o e => lk_ne (lk_new e nd) (ne_of_none e ny)
  refine ⟨y, r, dz, ws, rfl, upd_same, R.mono (SameT.of sm), by omega, hm, fun _ H5 lz nl L4 f4 => ⟨rfl, ?_⟩, fun h => absurd h (by omega)⟩
  exact k y lz H5 ny (Same.none_of sm nl) (fun b o e => f4 b o (sm b o e) (ne_of_none e ny)) L4
theorem k_sumL {K : PySem.W.Frag} {C CE p q l m : Addr} {ws us : List (List Str)} {E : XK} {H : Hp} {Q : VK} (S1 : ScrL K C H p l ws) (S2 : ScrL K C H q m us) (hl : ws.length + us.length ≤ 12)
    (k : ∀ (x n : Addr) (H' : Hp), H x = none → H n = none → Same H H' → ScrL K C H' x n (ws ++ us) → Q (.ref x) H') : fOp2 (rAddO C (spAdd K C CE) E) (.ref p) Q (.ref q) H := by
  obtain ⟨dx, a, h1, _⟩ := id S1
  obtain ⟨dy, b, g1, _⟩ := id S2
  exact ⟨p, q, dx, dy, _, _, rfl, rfl, h1, g1, p, q, ws, us, rfl, S1.at_, S2.at_, fun _ x n H' nx nl s L => k x n H' nx nl s L, fun h => absurd h (by omega)⟩
set_option maxHeartbeats 4000000
section
variable {P : Program} {w : World} {K : PySem.W.Frag} {mg : Str → Option Value} {base : Heap}
theorem ok__law_script (T : Txt P K mg) : FnOk P w K mg base CX0 6 T.f__law_script T.d__law_script ["steps"] (spScript K T.a_Script) := by
  refine T.F__law_script.ok sc__law_script (fun vs H Q E h => ?_) (fun cdv A outer s H vs Q E hr h => ?_)
  · obtain ⟨r, ws, rfl, _⟩ := h
    rfl
  · obtain ⟨r, ws, rfl, R, hl, hm, k⟩ := h
    refine ⟨_, (pss_cons (ps_set (i := 1) sc__law_script.nd rfl (Or.inl rfl) (pe_callB (call_lenUk K) (by rfl) T.m_len b_len (pa_cons (pv 0) pa_nil)))
  (pss_cons (ps_par (i := 2) (j := 3) rfl sc__law_script.nd rfl rfl (by decide) rfl rfl (pa_cons (pe_op op_mod (pe_callTy call_int1 (by rfl) T.m_int b_int (pa_cons (pe_op (op_addUk K) (pv 1) (pe_bm PySem.F.plainAttrs_list PySem.F.slot_list_count PySem.F.type_list_count (mt_cntDk K (hu65 hr)) (pe_callTy (call_list_ofk K) (by rfl) T.m_list b_list (pa_cons (pv 0) pa_nil)) (pa_cons (pe_tup (pa_cons pe_str pa_nil)) pa_nil))) pa_nil)) pe_int) (pa_cons (pe_op op_fdivW (pv 1) pe_int) pa_nil)) (by rfl))
  (pss_cons (ps_if (pt_cmpR (op_eqUk K (hu65 hr)) (pv 2) pe_int (nomark _)) (pss_one (ps_ret (pe_op (op_addO T.me_Script___add__.at_ T.me_Script___add__.fn T.sf_Script (ok_Script___add__ T) (hr.mono (by decide)) T.b_Script___add__ passX0) (pe_make T.M_Script (ok_Script___init__ T) (hr.mono (by decide)) (by rfl) T.m_Script T.b_Script___init__ .nil passX0 (pa_cons (pe_slice (sl_Uk K) (pv 0) po_none (po_some (pv 3))) pa_nil)) (pe_make T.M_Script (ok_Script___init__ T) (hr.mono (by decide)) (by rfl) T.m_Script T.b_Script___init__ .nil passX0 (pa_cons (pe_slice (sl_Uk K) (pv 0) (po_some (pv 3)) po_none) pa_nil))))) pss_nil)
  (pss_cons (ps_if (PW.pt (pw_and (pt_cmpR (op_eqUk K (hu65 hr)) (pv 2) pe_int (nomark _)) (pw_and1 (pt_cmpR op_gt (pv 1) pe_int (nomark _))))) (pss_one (ps_ret (pe_meth (pe_make T.M_Script (ok_Script___init__ T) (hr.mono (by decide)) (by rfl) T.m_Script T.b_Script___init__ .nil passX0 (pa_cons (pe_op (op_addUk K) (pe_slice (sl_Uk K) (pv 0) po_none (po_some (pv 3))) (pe_slice (sl_Uk K) (pv 0) (po_some (pe_op (op_addUk K) (pv 3) pe_int)) po_none)) pa_nil)) T.cl_Script T.me_Script_with_step (ok_Script_with_step T) (hr.mono (by decide)) T.b_Script_with_step .nil passX0 (pa_cons (pv 3) (pa_cons (pe_ix (ix_seqk K) (pv 0) (pv 3) (fun _ _ => rfl)) pa_nil))))) pss_nil)
  (pss_cons (ps_if (PW.pt (pw_and (pt_cmpR (op_eqUk K (hu65 hr)) (pv 2) pe_int (nomark _)) (pw_and1 (pt_cmpR op_lt (pv 1) pe_int (nomark _))))) (pss_one (ps_ret (pe_meth (pe_make T.M_Script (ok_Script___init__ T) (hr.mono (by decide)) (by rfl) T.m_Script T.b_Script___init__ .nil passX0 (pa_cons (pe_op (op_addUk K) (pe_op (op_addUk K) (pe_slice (sl_Uk K) (pv 0) po_none (po_some pe_int)) (pe_tup (pa_cons (pe_tup (pa_cons pe_str (pa_cons pe_str pa_nil))) pa_nil))) (pe_slice (sl_Uk K) (pv 0) (po_some pe_int) po_none)) pa_nil)) T.cl_Script T.me_Script_without (ok_Script_without T) (hr.mono (by decide)) T.b_Script_without .nil passX0 (pa_cons (pe_callB (call_min2 rfl) (by rfl) T.m_min b_min (pa_cons pe_int (pa_cons (pv 1) pa_nil))) pa_nil)))) pss_nil)
  (pss_one (ps_ret (pe_make T.M_Script (ok_Script___init__ T) (hr.mono (by decide)) (by rfl) T.m_Script T.b_Script___init__ .nil passX0 (pa_cons (pv 0) pa_nil))))))))), ?_⟩
    obtain ⟨xs, x1, x2⟩ := id R
    have ex : xs.length = ws.length := x2.len
    have c1 := T.cl_Script
    walk_at "rd"
    rename_i l nl t nt
    have s2 : Same H (upd (upd H l (.lst xs)) t (.tup [.str "drop"])) := (Same.new nl).trans (Same.new nt)
    refine k_count (.lst (SqL.of (lk_new upd_same nt)) (x2.mono (SameT.of s2)).dpa) (dp_step (w := ["drop"]) (SqT.of upd_same)) (steps_shaped hm).1 (by decide +kernel) ?_
    walk_at "rd"
    have es : (xs.length : Int) / 2 = ((xs.length / 2 : Nat) : Int) := by omega
    simp only [es]
    generalize (((xs.length : Nat) : Int) + ((List.countP (fun z => z.eqv (stepD ["drop"])) (List.map stepD ws) : Nat) : Int)) % 4 = W
    have hsp : xs.length / 2 ≤ xs.length := by omega
    have hsp2 : xs.length ≠ 0 → xs.length / 2 < xs.length := by omega
    generalize xs.length / 2 = sp at hsp hsp2 ⊢
    have X2 := sqT_mono (SameT.of s2) x1
    have ex2 := x2.mono (SameT.of s2)
    generalize upd (upd H l (.lst xs)) t (.tup [.str "drop"]) = H2 at s2 X2 ex2 ⊢
    refine ite2 (fun hW => ?_) (fun hW => ?_)
    · refine k_slT X2 fun b H3 s3 b1 => ?_
      rw [cutV_eq, cutG_to] at b1
      have R1 : Row K H3 b (ws.take sp) := ⟨_, b1, (ex2.take sp).mono (SameT.of s3)⟩
      walk_at "rd"
      refine k_newScr R1 (by rw [List.length_take]; omega) (hm.take sp) fun p1 l1 H4 np1 nl1 s4 L1 => ?_
      have X4 := sqT_mono (SameT.of (s3.trans s4)) X2
      walk_at "rd"
      refine k_slT X4 fun c H5 s5 c1' => ?_
      rw [cutV_eq, cutG_from] at c1'
      have s25 : Same H2 H5 := s3.trans (s4.trans s5)
      have R2 : Row K H5 c (ws.drop sp) := ⟨_, c1', (ex2.drop sp).mono (SameT.of s25)⟩
      walk_at "rd"
      refine k_newScr R2 (by rw [List.length_drop]; omega) (hm.drop sp) fun p2 l2 H6 np2 nl2 s6 L2 => ?_
      refine k_sumL (L1.same (s5.trans s6)) L2 (by rw [List.length_take, List.length_drop]; omega) fun x n H7 nx nn s7 LX => ?_
      rw [List.take_append_drop] at LX
      have s07 : Same H H6 := s2.trans (s25.trans s6)
      exact k x n H7 (Same.none_of s07 nx) (Same.none_of s07 nn) (s07.trans s7) LX
    · walk_at "rd"
      have last : fMake T.a_Script (spInit K T.a_Script T.a_NoStep) [] (fun _ _ _ => False) Q [.ref r] H2 :=
        k_newScr (R.mono (SameT.of s2)) hl hm fun x n H7 nx nn s7 LX => k x n H7 (Same.none_of s2 nx) (Same.none_of s2 nn) (s2.trans s7) LX
      refine ite2 (fun h2 => ?_) (fun h2 => ?_)
      · walk_at "rd"
        refine ite2 (fun h0 => ?_) (fun h0 => ?_)
        · walk_at "rd"
          have hne : sp < xs.length := hsp2 (by omega)
          refine k_slT X2 fun b H3 s3 b1 => ?_
          rw [cutV_eq, cutG_to] at b1
          have X3 := sqT_mono (SameT.of s3) X2
          walk_at "rd"
          refine k_slT X3 fun c H4 s4 c1' => ?_
          have ei : (sp : Int) + 1 = ((sp + 1 : Nat) : Int) := by omega
          rw [ei, cutV_eq, cutG_from] at c1'
          refine k_catT (sqT_mono (SameT.of s4) b1) c1' (by rw [List.length_take, List.length_drop]; omega) fun g H5 s5 g1 => ?_
          have s25 : Same H2 H5 := s3.trans (s4.trans s5)
          have RR : Row K H5 g (ws.take sp ++ ws.drop (sp + 1)) := ⟨_, g1, ((ex2.take sp).mono (SameT.of s25)).append ((ex2.drop (sp + 1)).mono (SameT.of s25))⟩
          have hl' : (ws.take sp ++ ws.drop (sp + 1)).length = ws.length - 1 := by
            rw [List.length_append, List.length_take, List.length_drop]
            omega
          walk_at "rd"
          refine k_newScr RR (by omega) ((hm.take sp).app (hm.drop (sp + 1))) fun p1 l1 H6 np1 nl1 s6 L1 => ?_
          obtain ⟨dx, a0, h1, _⟩ := id L1
          have X6 := sqT_mono (SameT.of (s25.trans s6)) X2
          obtain ⟨a, x, ha, hx, hs⟩ := Steps.at_ (j := sp) (ex2.mono (SameT.of (s25.trans s6))) (by omega)
          walk_at "rd"
          refine k_ixT X6 (at_of (j := sp) rfl ha) ?_
          walk_at "rd"
          refine ⟨p1, a, sp, x, _, rfl, L1.at_, hs, hm x (List.mem_of_getElem? hx), by omega, by omega, fun y n H8 nx nn s8 LX => ?_⟩
          have s07 : Same H H6 := s2.trans (s25.trans s6)
          refine k y n H8 (Same.none_of s07 nx) (Same.none_of s07 nn) (s07.trans s8) ?_
          have e : (ws.take sp ++ ws.drop (sp + 1)).take sp ++ [x] ++ (ws.take sp ++ ws.drop (sp + 1)).drop sp = ws := by
            have hlt : sp < ws.length := by omega
            have l1 : (ws.take sp).length = sp := by rw [List.length_take]; omega
            rw [List.take_append_of_le_length (by omega), List.take_of_length_le (by omega), List.drop_append_of_le_length (by omega), List.drop_of_length_le (by omega)]
            have q : ws.drop sp = x :: ws.drop (sp + 1) := by
              rw [List.drop_eq_getElem_cons hlt]
              have := (List.getElem?_eq_some_iff.mp hx).2
              rw [this]
            rw [List.nil_append, List.append_assoc, List.singleton_append, ← q, List.take_append_drop]
          rw [e] at LX
          exact LX
        · walk_at "rd"
          refine ite2 (fun h3 => ?_) (fun h3 => ?_)
          · omega
          · walk_at "rd"
            exact last
      · walk_at "rd"
        refine ite2 (fun h3 => ?_) (fun h3 => ?_)
        · walk_at "rd"
          refine ite2 (fun h12 => ?_) (fun h12 => ?_)
          · walk_at "rd"
            refine k_slT X2 fun b H3 s3 b1 => ?_
            have e1 : ((1 : Int)) = ((1 : Nat) : Int) := rfl
            rw [e1, cutV_eq, cutG_to] at b1
            walk_at "rd"
            rename_i u nu v nv
            have suv : Same H3 (upd (upd H3 u (.tup [.str "label", .str "all"])) v (.tup [.ref u])) := (Same.new nu).trans (Same.new nv)
            refine k_catT (sqT_mono (SameT.of suv) b1) (SqT.of upd_same) (by rw [List.length_take]; simp only [List.length_cons, List.length_nil]; omega) fun g H4 s4 g1 => ?_
            have X4 := sqT_mono (SameT.of (s3.trans (suv.trans s4))) X2
            walk_at "rd"
            refine k_slT X4 fun c H5 s5 c1' => ?_
            rw [e1, cutV_eq, cutG_from] at c1'
            refine k_catT (sqT_mono (SameT.of s5) g1) c1' (by rw [List.length_append, List.length_take, List.length_drop]; simp only [List.length_cons, List.length_nil]; omega) fun d H6 s6 d1 => ?_
            have s26 : Same H2 H6 := s3.trans (suv.trans (s4.trans (s5.trans s6)))
            have hu : SqT K H6 u ((["label", "all"] : List Str).map V.str) := sqT_mono (SameT.of (s4.trans (s5.trans s6))) (SqT.of (lk_new upd_same nv))
            have RR : Row K H6 d (ws.take 1 ++ [(["label", "all"] : List Str)] ++ ws.drop 1) := ⟨_, d1, (((ex2.take 1).mono (SameT.of s26)).append (Steps.one hu)).append ((ex2.drop 1).mono (SameT.of s26))⟩
            have hl' : (ws.take 1 ++ [(["label", "all"] : List Str)] ++ ws.drop 1).length = ws.length + 1 := by
              rw [List.length_append, List.length_append, List.length_take, List.length_drop]
              simp only [List.length_cons, List.length_nil]
              omega
            have hm' : InMenu (ws.take 1 ++ [(["label", "all"] : List Str)] ++ ws.drop 1) := ((hm.take 1).app (fun x hx => by rw [List.mem_singleton.mp hx]; decide)).app (hm.drop 1)
            walk_at "rd"
            refine k_newScr RR (by omega) hm' fun p1 l1 H7 np1 nl1 s7 L1 => ?_
            obtain ⟨dx, a0, h1, _⟩ := id L1
            walk_at "rd"
            have ei : (if (xs.length : Int) < 1 then (xs.length : Int) else 1) = ((min 1 ws.length : Nat) : Int) := by
              rw [ex]
              split <;> omega
            rw [ei]
            refine ⟨p1, _, _, rfl, L1.at_, by rw [hl']; omega, fun x n H8 nx nn s8 LX => ?_⟩
            have s07 : Same H H7 := s2.trans (s26.trans s7)
            refine k x n H8 (Same.none_of s07 nx) (Same.none_of s07 nn) (s07.trans s8) ?_
            have e : (ws.take 1 ++ [(["label", "all"] : List Str)] ++ ws.drop 1).take (min 1 ws.length) ++ (ws.take 1 ++ [(["label", "all"] : List Str)] ++ ws.drop 1).drop (min 1 ws.length + 1) = ws := by
              cases ws with
              | nil => rfl
              | cons y ys => simp [List.take]
            rw [e] at LX
            exact LX
          · walk_at "rd"
            exact last
        · walk_at "rd"
          exact last
end
end Y


set_option Elab.async false
set_option linter.all false
set_option maxRecDepth 100000
namespace Y
open PySem L2
local macro_rules | `(tactic| walk_at "ne") => `(tactic| first
  | with_reducible assumption
  | ((with_reducible apply Ne.symm); (focus with_reducible assumption))
  | ((with_reducible apply ne_new); (focus with_reducible assumption); (focus walk_at "hp"))
  | ((with_reducible apply ne_new'); (focus with_reducible assumption); (focus walk_at "hp")))
local macro_rules | `(tactic| walk_at "hp1") => `(tactic| first
  | ((with_reducible apply lk_new2); (focus with_reducible assumption))
  | ((with_reducible apply lk_ne2); (focus walk_at "ne"))
  | ((with_reducible apply Same.get); (focus with_reducible assumption))
  | ((with_reducible apply But.get2); (focus with_reducible assumption); (focus walk_at "ne")))
local macro_rules | `(tactic| walk_at "hp") => `(tactic| first
  | with_reducible assumption
  | with_reducible exact upd_same
  | ((walk_at "hp1"); (walk_at "hp")))
local macro_rules | `(tactic| walk_at "sm1") => `(tactic| first
  | ((with_reducible apply Same.linkN); (focus with_reducible assumption))
  | ((with_reducible apply Same.linkU); (focus with_reducible assumption))
  | ((with_reducible apply Same.link); (focus with_reducible assumption)))
local macro_rules | `(tactic| walk_at "sm") => `(tactic| first
  | with_reducible assumption
  | with_reducible exact Same.refl _
  | ((walk_at "sm1"); (walk_at "sm")))
local macro_rules | `(tactic| walk_at "bt1") => `(tactic| first
  | ((with_reducible apply But.linkN); (focus with_reducible assumption))
  | ((with_reducible apply But.linkU); (focus with_reducible assumption))
  | (with_reducible apply But.linkA)
  | ((with_reducible apply But.link); (focus with_reducible assumption))
  | ((with_reducible apply But.linkS); (focus with_reducible assumption)))
local macro_rules | `(tactic| walk_at "bt") => `(tactic| first
  | with_reducible assumption
  | with_reducible exact But.refl _ _
  | ((walk_at "bt1"); (walk_at "bt")))
local macro_rules | `(tactic| walk_at "rs") => `(tactic| simp only [e_C, e_var0, e_varS, e_op, e_op1, e_un, e_fld, e_tup, e_lst, e_cons, e_cons1, e_cons2, e_nil, e_call, e_call1, e_CB, e_meth, e_make, e_B, e_test, e_B1, e_if, e_if1, e_ifS, e_ifS1, e_and, e_andc, e_or, e_orc, e_not, e_not1, e_andV, e_andVc, e_orV, e_orVc, e_notV, e_notV1, e_seq, e_next, e_break, e_cont, e_drop, e_drop1, e_ret, e_retN, e_asg, e_name, e_part, e_part1, e_noPart, e_sl, e_sl1, e_sl2, e_sl3, o_add_int, o_I0, o_un, c_int, c_intB, c_abs, c_max, c_min, k_isN, k_notN, k_isB, k_notB, e_sub, e_sub1, cx_K, cx_noxK, e_for, e_rng1, e_rng2, e_seqI, e_enumT, e_enum, e_gname, e_lc, e_lcT, e_yes, e_bm, e_par, e_par1, e_par3, e_par31, e_chain, e_chain1, e_chain2, e_chain3, e_sfld, e_sfld1, List.set, ite_true, ite_false, eq_self, Bool.false_eq_true, decide_eq_true_eq, L2.start, List.map, List.length_cons, List.length_nil, List.replicate, Nat.add_one_sub_one, Nat.sub_self, List.nil_append, List.cons_append, Int.reduceToNat, Int.reducePow, Int.reduceMul, Int.reduceAdd, Int.reduceSub, Int.reduceNeg, Int.reduceLT, Int.reduceLE, Int.reduceEq, Bool.not_false, Bool.not_true, L2.wipe, e_never, e_tupZ, e_tC, e_m1, e_m1a, e_m1b, e_asgT, e_gcons, e_gnil, e_callD, e_opS, e_raise, e_mkErr, e_fldErr, decide_true, decide_false, not_true_eq_false, not_false_eq_true, reduceCtorEq])
local macro_rules | `(tactic| walk_at "sd") => `(tactic| first
  | assumption
  | decide
  | omega
  | (dsimp only; omega)
  | exact wide_div (b := 450) (by omega) (by omega) (by decide) (by decide)
  | exact mulX (a := 450) (b := 450) (by omega) (by omega) (by decide) (by decide) (by decide)
  | exact powW (b := 450) (by omega) (by omega) (by decide) (by decide))
local macro_rules | `(tactic| walk_at "sl") => `(tactic| first | omega | (simp only [List.length_cons, List.length_nil, List.length_append]; omega))
local macro_rules | `(tactic| walk_at "sqL1") => `(tactic| first
  | ((with_reducible apply sqL_new2); (focus with_reducible assumption))
  | ((with_reducible apply sqL_link); (focus with_reducible assumption)))
local macro_rules | `(tactic| walk_at "sqL") => `(tactic| first
  | with_reducible assumption
  | ((with_reducible apply SqL.of); focus walk_at "hp")
  | ((walk_at "sqL1"); (walk_at "sqL")))
local macro_rules | `(tactic| walk_at "sqT1") => `(tactic| first
  | ((with_reducible apply sqT_new2); (focus with_reducible assumption))
  | ((with_reducible apply sqT_link); (focus with_reducible assumption)))
local macro_rules | `(tactic| walk_at "sqT") => `(tactic| first
  | with_reducible assumption
  | ((with_reducible apply SqT.of); focus walk_at "hp")
  | ((with_reducible apply SqT.ofZ); focus walk_at "hp")
  | ((walk_at "sqT1"); (walk_at "sqT")))
local macro_rules | `(tactic| walk_at "kt") => `(tactic| first
  | with_reducible exact kt_self
  | with_reducible exact kt_int_bool
  | with_reducible exact kt_int_str
  | with_reducible exact kt_int_list
  | with_reducible exact kt_int_tuple
  | with_reducible exact kt_bool_int
  | with_reducible exact kt_bool_str
  | with_reducible exact kt_bool_list
  | with_reducible exact kt_bool_tuple
  | with_reducible exact kt_str_int
  | with_reducible exact kt_str_bool
  | with_reducible exact kt_str_list
  | with_reducible exact kt_str_tuple
  | with_reducible exact kt_non_int
  | with_reducible exact kt_non_bool
  | with_reducible exact kt_non_str
  | with_reducible exact kt_non_list
  | with_reducible exact kt_non_tuple
  | with_reducible exact kt_tuple_int
  | with_reducible exact kt_tuple_bool
  | with_reducible exact kt_tuple_str
  | with_reducible exact kt_tuple_list
  | with_reducible exact kt_list_int
  | with_reducible exact kt_list_bool
  | with_reducible exact kt_list_str
  | with_reducible exact kt_list_tuple
  | with_reducible exact kt_dict_int
  | with_reducible exact kt_dict_bool
  | with_reducible exact kt_dict_str
  | with_reducible exact kt_dict_list
  | with_reducible exact kt_dict_tuple)
local macro_rules | `(tactic| walk_at "tyx") => `(tactic| first
  | with_reducible exact .base (.int _)
  | with_reducible exact .base (.str _)
  | with_reducible exact .base (.bl _)
  | with_reducible exact .base .non
  | ((with_reducible apply tyx_tup); focus walk_at "sqT")
  | ((with_reducible apply tyx_lst); focus walk_at "sqL")
  | ((with_reducible apply TyX.base); (focus ((with_reducible apply TyOf.dK); focus walk_at "hp"))))
local macro_rules | `(tactic| walk_at "isi") => `(tactic| first
  | ((with_reducible apply k_isi); (focus (with_reducible exact (ClsV.ty _))); (focus (walk_at "tyx")); (focus (walk_at "kt")))
  | ((with_reducible apply k_isiT); (focus (walk_at "hp")); (focus (with_reducible exact (.cons (.ty _) (.cons (.ty _) .nil)))); (focus (walk_at "tyx")); (focus (first | with_reducible exact ka_tuple | with_reducible exact ka_list | ((with_reducible apply ka_no); (focus walk_at "kt"); (focus walk_at "kt"))))))
local macro_rules | `(tactic| walk_at "lk") => `(tactic| rfl)
local macro_rules | `(tactic| walk_at "rd1") => `(tactic| first
  | walk_at "rs"
  | ((with_reducible apply k_ixL); (focus (walk_at "sqL")); (focus rfl))
  | ((with_reducible apply k_ixT); (focus (walk_at "sqT")); (focus rfl))
  | ((with_reducible apply k_fld); (focus (walk_at "hp")); (focus (assumption)); (focus (assumption)); (focus (walk_at "lk")))
  | ((with_reducible apply k_sfld); (focus (walk_at "hp")); (focus (assumption)); (focus (assumption)); (focus (walk_at "sl")))
  | ((with_reducible apply k_meth); (focus (walk_at "hp")); (focus (walk_at "lk")))
  | ((with_reducible apply k_I); (focus (walk_at "sd")))
  | ((with_reducible apply k_unp); (focus (walk_at "sqT")); (focus rfl))
  | ((with_reducible apply k_mul); (focus (walk_at "sd")))
  | ((with_reducible apply k_setL); (focus (walk_at "hp")); (focus rfl))
  | ((with_reducible apply k_bmL); (focus (walk_at "hp")))
  | ((with_reducible apply k_append); (focus (walk_at "hp")); (focus (walk_at "sd")))
  | ((with_reducible apply k_extend); (focus (walk_at "hp")); (focus (walk_at "hp")); (focus (walk_at "sl")))
  | ((with_reducible apply k_tup); (focus (walk_at "sl")); intro _ _)
  | ((with_reducible apply k_tupZ); (focus (walk_at "sl")); intro _ _ _ _ _)
  | ((with_reducible apply k_lst); (focus (walk_at "sl")); intro _ _)
  | ((with_reducible apply k_lenS); (focus ((with_reducible apply Or.inl); walk_at "sqL")))
  | ((with_reducible apply k_lenS); (focus ((with_reducible apply Or.inr); walk_at "sqT")))
  | ((with_reducible apply k_seqL); (focus (walk_at "sqL")))
  | ((with_reducible apply k_seqT); (focus (walk_at "sqT")))
  | ((with_reducible apply k_enumT); (focus (walk_at "sqT")))
  | walk_at "isi"
  | ((with_reducible apply k_tupOfL); (focus (walk_at "sqL")); intro _ _)
  | ((with_reducible apply k_tupOfT); (focus (walk_at "sqT")))
  | ((with_reducible apply k_listOf); (focus ((with_reducible apply Or.inl); walk_at "sqL")); intro _ _)
  | ((with_reducible apply k_listOf); (focus ((with_reducible apply Or.inr); walk_at "sqT")); intro _ _)
  | (with_reducible apply k_eq_int)
  | (with_reducible apply k_ne_int)
  | (with_reducible apply k_eq_str)
  | (with_reducible apply k_ne_str)
  | (with_reducible apply k_eq_bl)
  | (with_reducible apply k_ne_bl))
local macro_rules | `(tactic| walk_at "rd") => `(tactic| repeat walk_at "rd1")

set_option maxHeartbeats 4000000
section
variable {P : Program} {w : World} {K : PySem.W.Frag} {mg : Str → Option Value} {base : Heap}
theorem ok__law_sound (T : Txt P K mg) : FnOk P w K mg base CX0 2 T.f__law_sound T.d__law_sound ["pot"] (spSound K) := by
  refine T.F__law_sound.ok sc__law_sound (fun vs H Q E h => ?_) (fun cdv A outer s H vs Q E hr h => ?_)
  · obtain ⟨a, n, rfl, _⟩ := h
    rfl
  · obtain ⟨a, n, rfl, hP, hn, k⟩ := h
    refine ⟨_, (pss_cons (ps_set (i := 1) sc__law_sound.nd rfl (Or.inl rfl) (pe_tup (pa_cons pe_str (pa_cons (pe_ix (ix_seqk K) (pe_lst (pa_cons pe_str (pa_cons pe_str pa_nil))) (pe_call (ok__law_dip T) (hr.mono (by decide)) (by rfl) T.m__law_dip T.F__law_dip.kp T.b__law_dip .nil pass0 (pa_cons (pv 0) (pa_cons pe_int pa_nil))) (fun _ _ => rfl)) pa_nil))))
  (pss_cons (ps_set (i := 2) sc__law_sound.nd rfl (Or.inl rfl) (pe_lst (pa_cons (pv 1) (pa_cons (pe_tup (pa_cons pe_str (pa_cons pe_str pa_nil))) pa_nil))))
  (pss_cons (ps_if (pt_cmpR (op_eqUk K (hu65 hr)) (pe_ix (ix_seqk K) (pv 1) pe_int (fun _ _ => rfl)) pe_str (nomark _)) (pss_one (ps_expr (pe_bm PySem.F.plainAttrs_list PySem.F.slot_list_insert PySem.F.type_list_insert mt_insertk (pv 2) (pa_cons (pe_op (op_addUk K) pe_int (pe_call (ok__law_dip T) (hr.mono (by decide)) (by rfl) T.m__law_dip T.F__law_dip.kp T.b__law_dip .nil pass0 (pa_cons (pv 0) (pa_cons pe_int pa_nil)))) (pa_cons (pe_tup (pa_cons pe_str pa_nil)) pa_nil))))) (pss_one (ps_expr (pe_bm PySem.F.plainAttrs_list PySem.F.slot_list_insert PySem.F.type_list_insert mt_insertk (pv 2) (pa_cons (pe_call (ok__law_dip T) (hr.mono (by decide)) (by rfl) T.m__law_dip T.F__law_dip.kp T.b__law_dip .nil pass0 (pa_cons (pv 0) (pa_cons pe_int pa_nil))) (pa_cons (pe_tup (pa_cons pe_str pa_nil)) pa_nil))))))
  (pss_cons (ps_expr (pe_bm PySem.F.plainAttrs_list PySem.F.slot_list_insert PySem.F.type_list_insert mt_insertk (pv 2) (pa_cons (pe_call (ok__law_dip T) (hr.mono (by decide)) (by rfl) T.m__law_dip T.F__law_dip.kp T.b__law_dip .nil pass0 (pa_cons (pv 0) (pa_cons pe_int pa_nil))) (pa_cons (pe_tup (pa_cons pe_str (pa_cons (pe_ix (ix_seqk K) (pe_lst (pa_cons pe_str (pa_cons pe_str pa_nil))) (pe_call (ok__law_dip T) (hr.mono (by decide)) (by rfl) T.m__law_dip T.F__law_dip.kp T.b__law_dip .nil pass0 (pa_cons (pv 0) (pa_cons pe_int pa_nil))) (fun _ _ => rfl)) pa_nil))) pa_nil))))
  (pss_cons (ps_expr (pe_bm PySem.F.plainAttrs_list PySem.F.slot_list_insert PySem.F.type_list_insert mt_insertk (pv 2) (pa_cons (pe_call (ok__law_dip T) (hr.mono (by decide)) (by rfl) T.m__law_dip T.F__law_dip.kp T.b__law_dip .nil pass0 (pa_cons (pv 0) (pa_cons pe_int pa_nil))) (pa_cons (pe_tup (pa_cons pe_str (pa_cons pe_str pa_nil))) pa_nil))))
  (pss_one (ps_ret (pv 2)))))))), ?_⟩
    walk_at "rd"
    rename_i q0 nq0
    have two : ∀ e : Int, 0 ≤ e → e < 2 → e = 0 ∨ e = 1 := fun e _ _ => by omega
    refine ⟨a, 2, n, rfl, hP.same (Same.new nq0), by omega, by omega, by omega, fun e1 H1 e10 e11 hP1 b1 => ?_⟩
    have hq1 := b1 _ _ upd_same (hP.ne nq0)
    obtain ⟨sc, hsc, hm0⟩ : ∃ sc : Str, atI [V.str "standing", V.str "all"] e1 = some (.str sc) ∧ ([("make" : Str), sc] : List Str) ∈ menu12 := by
      rcases two e1 e10 e11 with rfl | rfl
      · exact ⟨"standing", rfl, by decide⟩
      · exact ⟨"all", rfl, by decide⟩
    refine k_ixL (SqL.of hq1) hsc ?_
    walk_at "rd"
    rename_i p1 n1 p2 n2 l nl
    have B0 : But a H (upd (upd (upd H1 p1 (.tup [.str "make", .str sc])) p2 (.tup [.str "tie", .str "free"])) l (.lst [.ref p1, .ref p2])) := ((But.of (Same.new nq0)).trans b1).trans (But.of ((Same.new n1).trans ((Same.new n2).trans (Same.new nl))))
    have P0 : PotAt (upd (upd (upd H1 p1 (.tup [.str "make", .str sc])) p2 (.tup [.str "tie", .str "free"])) l (.lst [.ref p1, .ref p2])) a (n + 1) := hP1.same ((Same.new n1).trans ((Same.new n2).trans (Same.new nl)))
    have L0 : LstAt K (upd (upd (upd H1 p1 (.tup [.str "make", .str sc])) p2 (.tup [.str "tie", .str "free"])) l (.lst [.ref p1, .ref p2])) l [[("make" : Str), sc], ["tie", "free"]] :=
      ⟨_, upd_same, .cons ⟨_, rfl, SqT.of (show _ = some (HO.tup [.str "make", .str sc]) from lk_new (lk_new upd_same n2) nl)⟩ (.cons ⟨_, rfl, SqT.of (show _ = some (HO.tup [.str "tie", .str "free"]) from lk_new upd_same nl)⟩ .nil)⟩
    have hla : l ≠ a := (hP1.same ((Same.new n1).trans (Same.new n2))).ne nl
    have hlH : H l = none := (((But.of (Same.new nq0)).trans b1).trans (But.of ((Same.new n1).trans (Same.new n2)))).free nl hla
    revert B0 P0 L0
    generalize upd (upd (upd H1 p1 (.tup [.str "make", .str sc])) p2 (.tup [.str "tie", .str "free"])) l (.lst [.ref p1, .ref p2]) = H2
    intro B0 P0 L0
    -- an insertion of a new tuple
    have ins : ∀ {H3 : Hp} {ws : List (List Str)} {x : List Str} {t : Addr} (i : Nat), But a H H3 → LstAt K H3 l ws → SqT K H3 t (x.map V.str) → ∀ xs, H3 l = some (.lst xs) → But a H (upd H3 l (.lst (xs.take i ++ [.ref t] ++ xs.drop i))) ∧ LstAt K (upd H3 l (.lst (xs.take i ++ [.ref t] ++ xs.drop i))) l (ws.take i ++ [x] ++ ws.drop i) := by
      intro H3 ws x t i B3 L3 ht xs hx
      obtain ⟨ys, hy, hS⟩ := L3
      rw [hx] at hy
      cases hy
      refine ⟨But.upd_new B3 hlH, _, upd_same, ?_⟩
      exact (((hS.take i).append (Steps.one ht)).append (hS.drop i)).mono (SameT.lst hx)
    have inl : ∀ (ws : List (List Str)) (x : List Str) (i : Nat), i ≤ ws.length → (ws.take i ++ [x] ++ ws.drop i).length = ws.length + 1 := by
      intro ws x i hi
      rw [List.length_append, List.length_append, List.length_take, List.length_drop]
      simp only [List.length_cons, List.length_nil]
      omega
    have inm : ∀ {ws : List (List Str)} {x : List Str} (i : Nat), InMenu ws → x ∈ menu12 → InMenu (ws.take i ++ [x] ++ ws.drop i) := fun {ws x} i h hx => ((h.take i).app (fun y hy => by rw [List.mem_singleton.mp hy]; exact hx)).app (h.drop i)
    have M0 : InMenu [[("make" : Str), sc], ["tie", "free"]] := fun x hx => by
      rcases List.mem_cons.mp hx with h | h
      · rw [h]
        exact hm0
      · rw [List.mem_singleton.mp h]
        decide
    refine ite2 (fun hsc => ?_) (fun hsc => ?_)
    · walk_at "rd"
      obtain ⟨xs, hx, hS⟩ := id L0
      refine k_bmL hx ?_
      walk_at "rd"
      refine ⟨a, 2, n + 1, rfl, P0, by omega, by omega, by omega, fun e2 H3 e20 e21 P3 b3 => ?_⟩
      have hx3 := b3 _ _ hx hla
      have L3 := LstAt.but L0 b3 hla (P0.but b3)
      walk_at "rd"
      rename_i t nt
      obtain ⟨B4, L4⟩ := ins (1 + e2).toNat (((B0.trans b3)).trans (But.of (Same.new nt))) (L3.same (Same.new nt)) (show SqT K (upd H3 t (.tup [.str "drop"])) t ((["drop"] : List Str).map V.str) from SqT.of upd_same) xs (lk_new hx3 nt)
      have hlx : xs.length = 2 := hS.len
      refine k_insert (lk_new hx3 nt) (by omega) (by omega) (by omega) ?_
      have P4 := (P3.same (Same.new (o := .tup [.str "drop"]) nt)).upd (o := .lst (xs.take (1 + e2).toNat ++ [.ref t] ++ xs.drop (1 + e2).toNat)) hla.symm
      have hl4 := inl [[("make" : Str), sc], ["tie", "free"]] ["drop"] (1 + e2).toNat (by simp only [List.length_cons, List.length_nil]; omega)
      have M4 := inm (x := ["drop"]) (1 + e2).toNat M0 (by decide)
      revert B4 P4 L4 hl4 M4
      generalize upd (upd H3 t (.tup [.str "drop"])) l (.lst (xs.take (1 + e2).toNat ++ [.ref t] ++ xs.drop (1 + e2).toNat)) = H4
      generalize List.take (1 + e2).toNat [[("make" : Str), sc], ["tie", "free"]] ++ [[("drop" : Str)]] ++ List.drop (1 + e2).toNat [[("make" : Str), sc], ["tie", "free"]] = ws
      intro B4 L4 P4 hl4 M4
      clear hx3 L3 hx
      walk_at "rd"
      obtain ⟨xs, hx, hS⟩ := id L4
      refine k_bmL hx ?_
      walk_at "rd"
      refine ⟨a, 4, n + 2, rfl, P4, by omega, by omega, by omega, fun e3 H5 e30 e31 P5 b5 => ?_⟩
      have hx5 := b5 _ _ hx hla
      have L5 := LstAt.but L4 b5 hla (P4.but b5)
      walk_at "rd"
      rename_i q5 nq5
      refine ⟨a, 2, n + 3, rfl, P5.same (Same.new nq5), by omega, by omega, by omega, fun e4 H6 e40 e41 P6 b6 => ?_⟩
      have s56 := (P5.same (Same.new nq5)).but b6
      have hq6 := b6 _ _ upd_same (P5.ne nq5)
      have hx6 := b6 _ _ (lk_new hx5 nq5) hla
      have L6 := LstAt.but (L5.same (Same.new nq5)) b6 hla s56
      obtain ⟨sc2, hsc2, hm2⟩ : ∃ sc : Str, atI [V.str "all", V.str "free"] e4 = some (.str sc) ∧ ([("start" : Str), sc] : List Str) ∈ menu12 := by
        rcases two e4 e40 e41 with rfl | rfl
        · exact ⟨"all", rfl, by decide⟩
        · exact ⟨"free", rfl, by decide⟩
      refine k_ixL (SqL.of hq6) hsc2 ?_
      walk_at "rd"
      rename_i t7 nt7
      have hlx5 : xs.length = 3 := hS.len.trans hl4
      have hl4' : ws.length = 3 := hl4
      obtain ⟨B8, L8⟩ := ins e3.toNat (((B4.trans b5).trans (But.of (Same.new nq5))).trans (b6.trans (But.of (Same.new nt7)))) (L6.same (Same.new nt7)) (show SqT K (upd H6 t7 (.tup [.str "start", .str sc2])) t7 (([("start" : Str), sc2] : List Str).map V.str) from SqT.of upd_same) xs (lk_new hx6 nt7)
      refine k_insert (lk_new hx6 nt7) (by omega) (by omega) (by omega) ?_
      have P8 := (P6.same (Same.new (o := .tup [.str "start", .str sc2]) nt7)).upd (o := .lst (xs.take e3.toNat ++ [.ref t7] ++ xs.drop e3.toNat)) hla.symm
      have hl8 := inl ws [("start" : Str), sc2] e3.toNat (by omega)
      have M8 := inm (x := [("start" : Str), sc2]) e3.toNat M4 hm2
      revert B8 P8 L8 hl8 M8
      generalize upd (upd H6 t7 (.tup [.str "start", .str sc2])) l (.lst (xs.take e3.toNat ++ [.ref t7] ++ xs.drop e3.toNat)) = H8
      generalize List.take e3.toNat ws ++ [[("start" : Str), sc2]] ++ List.drop e3.toNat ws = ws8
      intro B8 L8 P8 hl8 M8
      clear hx6 hx5 hx L6 L5
      walk_at "rd"
      obtain ⟨xs8, hx, hS⟩ := id L8
      have hlx8 : xs8.length = 4 := by rw [hS.len]; omega
      refine k_bmL hx ?_
      walk_at "rd"
      refine ⟨a, 5, n + 4, rfl, P8, by omega, by omega, by omega, fun e5 H9 e50 e51 P9 b9 => ?_⟩
      have hx9 := b9 _ _ hx hla
      have L9 := LstAt.but L8 b9 hla (P8.but b9)
      walk_at "rd"
      rename_i t9 nt9
      obtain ⟨B10, L10⟩ := ins e5.toNat ((B8.trans b9).trans (But.of (Same.new nt9))) (L9.same (Same.new nt9)) (show SqT K (upd H9 t9 (.tup [.str "label", .str "free"])) t9 ((["label", "free"] : List Str).map V.str) from SqT.of upd_same) xs8 (lk_new hx9 nt9)
      refine k_insert (lk_new hx9 nt9) (by omega) (by omega) (by omega) ?_
      have P10 := (P9.same (Same.new (o := .tup [.str "label", .str "free"]) nt9)).upd (o := .lst (xs8.take e5.toNat ++ [.ref t9] ++ xs8.drop e5.toNat)) hla.symm
      have hl10 := inl ws8 ["label", "free"] e5.toNat (by omega)
      have M10 := inm (x := ["label", "free"]) e5.toNat M8 (by decide)
      walk_at "rd"
      exact k l _ _ hlH hla B10 P10 L10 (by omega) M10
    · walk_at "rd"
      obtain ⟨xs, hx, hS⟩ := id L0
      refine k_bmL hx ?_
      walk_at "rd"
      refine ⟨a, 3, n + 1, rfl, P0, by omega, by omega, by omega, fun e2 H3 e20 e21 P3 b3 => ?_⟩
      have hx3 := b3 _ _ hx hla
      have L3 := LstAt.but L0 b3 hla (P0.but b3)
      walk_at "rd"
      rename_i t nt
      obtain ⟨B4, L4⟩ := ins e2.toNat (((B0.trans b3)).trans (But.of (Same.new nt))) (L3.same (Same.new nt)) (show SqT K (upd H3 t (.tup [.str "drop"])) t ((["drop"] : List Str).map V.str) from SqT.of upd_same) xs (lk_new hx3 nt)
      have hlx : xs.length = 2 := hS.len
      refine k_insert (lk_new hx3 nt) (by omega) (by omega) (by omega) ?_
      have P4 := (P3.same (Same.new (o := .tup [.str "drop"]) nt)).upd (o := .lst (xs.take e2.toNat ++ [.ref t] ++ xs.drop e2.toNat)) hla.symm
      have hl4 := inl [[("make" : Str), sc], ["tie", "free"]] ["drop"] e2.toNat (by simp only [List.length_cons, List.length_nil]; omega)
      have M4 := inm (x := ["drop"]) e2.toNat M0 (by decide)
      revert B4 P4 L4 hl4 M4
      generalize upd (upd H3 t (.tup [.str "drop"])) l (.lst (xs.take e2.toNat ++ [.ref t] ++ xs.drop e2.toNat)) = H4
      generalize List.take e2.toNat [[("make" : Str), sc], ["tie", "free"]] ++ [[("drop" : Str)]] ++ List.drop e2.toNat [[("make" : Str), sc], ["tie", "free"]] = ws
      intro B4 L4 P4 hl4 M4
      clear hx3 L3 hx
      walk_at "rd"
      obtain ⟨xs, hx, hS⟩ := id L4
      refine k_bmL hx ?_
      walk_at "rd"
      refine ⟨a, 4, n + 2, rfl, P4, by omega, by omega, by omega, fun e3 H5 e30 e31 P5 b5 => ?_⟩
      have hx5 := b5 _ _ hx hla
      have L5 := LstAt.but L4 b5 hla (P4.but b5)
      walk_at "rd"
      rename_i q5 nq5
      refine ⟨a, 2, n + 3, rfl, P5.same (Same.new nq5), by omega, by omega, by omega, fun e4 H6 e40 e41 P6 b6 => ?_⟩
      have s56 := (P5.same (Same.new nq5)).but b6
      have hq6 := b6 _ _ upd_same (P5.ne nq5)
      have hx6 := b6 _ _ (lk_new hx5 nq5) hla
      have L6 := LstAt.but (L5.same (Same.new nq5)) b6 hla s56
      obtain ⟨sc2, hsc2, hm2⟩ : ∃ sc : Str, atI [V.str "all", V.str "free"] e4 = some (.str sc) ∧ ([("start" : Str), sc] : List Str) ∈ menu12 := by
        rcases two e4 e40 e41 with rfl | rfl
        · exact ⟨"all", rfl, by decide⟩
        · exact ⟨"free", rfl, by decide⟩
      refine k_ixL (SqL.of hq6) hsc2 ?_
      walk_at "rd"
      rename_i t7 nt7
      have hlx5 : xs.length = 3 := hS.len.trans hl4
      have hl4' : ws.length = 3 := hl4
      obtain ⟨B8, L8⟩ := ins e3.toNat (((B4.trans b5).trans (But.of (Same.new nq5))).trans (b6.trans (But.of (Same.new nt7)))) (L6.same (Same.new nt7)) (show SqT K (upd H6 t7 (.tup [.str "start", .str sc2])) t7 (([("start" : Str), sc2] : List Str).map V.str) from SqT.of upd_same) xs (lk_new hx6 nt7)
      refine k_insert (lk_new hx6 nt7) (by omega) (by omega) (by omega) ?_
      have P8 := (P6.same (Same.new (o := .tup [.str "start", .str sc2]) nt7)).upd (o := .lst (xs.take e3.toNat ++ [.ref t7] ++ xs.drop e3.toNat)) hla.symm
      have hl8 := inl ws [("start" : Str), sc2] e3.toNat (by omega)
      have M8 := inm (x := [("start" : Str), sc2]) e3.toNat M4 hm2
      revert B8 P8 L8 hl8 M8
      generalize upd (upd H6 t7 (.tup [.str "start", .str sc2])) l (.lst (xs.take e3.toNat ++ [.ref t7] ++ xs.drop e3.toNat)) = H8
      generalize List.take e3.toNat ws ++ [[("start" : Str), sc2]] ++ List.drop e3.toNat ws = ws8
      intro B8 L8 P8 hl8 M8
      clear hx6 hx5 hx L6 L5
      walk_at "rd"
      obtain ⟨xs8, hx, hS⟩ := id L8
      have hlx8 : xs8.length = 4 := by rw [hS.len]; omega
      refine k_bmL hx ?_
      walk_at "rd"
      refine ⟨a, 5, n + 4, rfl, P8, by omega, by omega, by omega, fun e5 H9 e50 e51 P9 b9 => ?_⟩
      have hx9 := b9 _ _ hx hla
      have L9 := LstAt.but L8 b9 hla (P8.but b9)
      walk_at "rd"
      rename_i t9 nt9
      obtain ⟨B10, L10⟩ := ins e5.toNat ((B8.trans b9).trans (But.of (Same.new nt9))) (L9.same (Same.new nt9)) (show SqT K (upd H9 t9 (.tup [.str "label", .str "free"])) t9 ((["label", "free"] : List Str).map V.str) from SqT.of upd_same) xs8 (lk_new hx9 nt9)
      refine k_insert (lk_new hx9 nt9) (by omega) (by omega) (by omega) ?_
      have P10 := (P9.same (Same.new (o := .tup [.str "label", .str "free"]) nt9)).upd (o := .lst (xs8.take e5.toNat ++ [.ref t9] ++ xs8.drop e5.toNat)) hla.symm
      have hl10 := inl ws8 ["label", "free"] e5.toNat (by omega)
      have M10 := inm (x := ["label", "free"]) e5.toNat M8 (by decide)
      walk_at "rd"
      exact k l _ _ hlH hla B10 P10 L10 (by omega) M10
theorem ok__law_steps (T : Txt P K mg) : FnOk P w K mg base CX0 3 T.f__law_steps T.d__law_steps ["pot"] (spStepsD K) := by
  refine T.F__law_steps.ok sc__law_steps (fun vs H Q E h => ?_) (fun cdv A outer s H vs Q E hr h => ?_)
  · obtain ⟨a, n, rfl, _⟩ := h
    rfl
  · obtain ⟨a, n, rfl, hP, hn, k⟩ := h
    refine ⟨_, (pss_cons (ps_if (pt_cmpR (op_eqUk K (hu65 hr)) (pe_call (ok__law_dip T) (hr.mono (by decide)) (by rfl) T.m__law_dip T.F__law_dip.kp T.b__law_dip .nil pass0 (pa_cons (pv 0) (pa_cons pe_int pa_nil))) pe_int (nomark _)) (pss_one (ps_ret (pe_callTy (call_tuple_ofk K) (by rfl) T.m_tuple b_tuple (pa_cons (pe_call (ok__law_any T) (hr.mono (by decide)) (by rfl) T.m__law_any T.F__law_any.kp T.b__law_any .nil pass0 (pa_cons (pv 0) (pa_cons (pe_call (ok__law_dip T) (hr.mono (by decide)) (by rfl) T.m__law_dip T.F__law_dip.kp T.b__law_dip .nil pass0 (pa_cons (pv 0) (pa_cons pe_int pa_nil))) pa_nil))) pa_nil)))) pss_nil)
  (pss_cons (ps_set (i := 1) sc__law_steps.nd rfl (Or.inl rfl) (pe_call (ok__law_sound T) (hr.mono (by decide)) (by rfl) T.m__law_sound T.F__law_sound.kp T.b__law_sound .nil pass0 (pa_cons (pv 0) pa_nil)))
  (pss_cons (ps_for PassesOwn.never rfl (pi_range1 (by rfl) T.m_range (pa_cons (pe_call (ok__law_dip T) (hr.mono (by decide)) (by rfl) T.m__law_dip T.F__law_dip.kp T.b__law_dip .nil pass0 (pa_cons (pv 0) (pa_cons pe_int pa_nil))) pa_nil)) (pg_name (i := 2) sc__law_steps.nd rfl (Or.inl rfl))
  (pss_cons (ps_par (i := 3) (j := 4) rfl sc__law_steps.nd rfl rfl (by decide) rfl rfl (pa_cons (pe_call (ok__law_dip T) (hr.mono (by decide)) (by rfl) T.m__law_dip T.F__law_dip.kp T.b__law_dip .nil pass0 (pa_cons (pv 0) (pa_cons (pe_op (op_addUk K) (pe_callB (call_lenUk K) (by rfl) T.m_len b_len (pa_cons (pv 1) pa_nil)) pe_int) pa_nil))) (pa_cons (pe_call (ok__law_dip T) (hr.mono (by decide)) (by rfl) T.m__law_dip T.F__law_dip.kp T.b__law_dip .nil pass0 (pa_cons (pv 0) (pa_cons pe_int pa_nil))) pa_nil)) (by rfl))
  (pss_one (ps_if (pt_cmpR (op_eqUk K (hu65 hr)) (pv 4) pe_int (nomark _)) (pss_one (ps_set (i := 1) sc__law_steps.nd rfl (Or.inl rfl) (pe_op (op_addUk K) (pe_slice (sl_Uk K) (pv 1) po_none (po_some (pv 3))) (pe_slice (sl_Uk K) (pv 1) (po_some (pe_op (op_addUk K) (pv 3) pe_int)) po_none)))) (pss_one (ps_set (i := 1) sc__law_steps.nd rfl (Or.inl rfl) (pe_op (op_addUk K) (pe_op (op_addUk K) (pe_slice (sl_Uk K) (pv 1) po_none (po_some (pv 3))) (pe_call (ok__law_any T) (hr.mono (by decide)) (by rfl) T.m__law_any T.F__law_any.kp T.b__law_any .nil pass0 (pa_cons (pv 0) (pa_cons pe_int pa_nil)))) (pe_slice (sl_Uk K) (pv 1) (po_some (pe_op op_sub (pe_op (op_addUk K) (pv 3) (pv 4)) pe_int)) po_none))))))))
  (pss_one (ps_ret (pe_callTy (call_tuple_ofk K) (by rfl) T.m_tuple b_tuple (pa_cons (pe_slice (sl_Uk K) (pv 1) po_none (po_some pe_int)) pa_nil))))))), ?_⟩
    walk_at "rd"
    refine ⟨a, 4, n, rfl, hP, by omega, by omega, by omega, fun e1 H1 e10 e11 hP1 b1 => ?_⟩
    walk_at "rd"
    refine ite2 (fun hz => ?_) (fun hz => ?_)
    · walk_at "rd"
      refine ⟨a, 13, n + 1, rfl, hP1, by omega, by omega, by omega, fun e2 H2 e20 e21 hP2 b2 => ?_⟩
      walk_at "rd"
      refine ⟨a, e2.toNat, n + 2, by rw [Int.toNat_of_nonneg e20], hP2, by omega, by omega, fun p ws H3 np pa b3 hP3 L3 hl3 hm3 => ?_⟩
      obtain ⟨xs, hx, hS⟩ := L3
      walk_at "rd"
      rename_i t nt
      exact k t ws _ (((b1.trans b2).trans b3).trans (But.of (Same.new nt))) ((hP3.same (Same.new nt)).le (by omega)) ⟨_, SqT.of upd_same, hS.mono (SameT.new nt)⟩ (by omega) hm3
    · walk_at "rd"
      refine ⟨a, n + 1, rfl, hP1, by omega, fun p ws H2 np pa b2 hP2 L2 hl2 hm2 => ?_⟩
      walk_at "rd"
      refine ⟨a, 4, n + 6, rfl, hP2, by omega, by omega, by omega, fun e3 H3 e30 e31 hP3 b3 => ?_⟩
      walk_at "rd"
      refine k_rng1 (by omega) (by omega) ?_
      refine k_for walk_range (fun i σ H' => ∃ (p : Addr) (ws : List (List Str)) (v2 v3 v4 : Option V), σ = [some (.ref a), some (.ref p), v2, v3, v4] ∧ p ≠ a ∧ But a H H' ∧ PotAt H' a (n + 7 + 3 * i) ∧ LstAt K H' p ws ∧ ws.length ≤ 5 + i ∧ InMenu ws)
        ⟨p, ws, none, none, none, rfl, pa, (b1.trans b2).trans b3, by simpa using hP3, LstAt.but L2 b3 pa (hP2.but b3), by omega, hm2⟩ (fun _ _ _ _ _ => True.intro) ?_ ?_
      · rintro i x σ H4 H5 hi ⟨p, ws, v2, v3, v4, rfl, pa, b4, hP4, L4, hl4, hm4⟩ ⟨rfl, rfl⟩
        obtain ⟨xs, hx, hS⟩ := L4
        have ex := hS.len
        walk_at "rd"
        refine ⟨a, _, n + 7 + 3 * i, rfl, hP4, by omega, by omega, by omega, fun e5 H6 e50 e51 P6 b6 => ?_⟩
        walk_at "rd"
        refine ⟨a, 3, n + 7 + 3 * i + 1, rfl, P6, by omega, by omega, by omega, fun e6 H7 e60 e61 P7 b7 => ?_⟩
        have hx7 := b7 _ _ (b6 _ _ hx pa) pa
        have hS7 : Steps K H7 xs ws := (hS.mono (hP4.but b6)).mono (P6.but b7)
        have B7 : But a H H7 := b4.trans (b6.trans b7)
        walk_at "rd"
        obtain ⟨i5, rfl⟩ : ∃ i5 : Nat, e5 = i5 := ⟨e5.toNat, by omega⟩
        refine ite2 (fun h0 => ?_) (fun h0 => ?_)
        · walk_at "rd"
          refine k_slL (SqL.of hx7) fun c nc => ?_
          have hcx := lk_new hx7 nc (u := .lst (cutV xs none (some (i5 : Int))))
          walk_at "rd"
          refine k_slL (SqL.of hcx) fun d nd => ?_
          refine k_catL (lk_new upd_same nd) upd_same ?_ fun q nq => ?_
          · have h1 := cutV_length xs none (some (i5 : Int))
            have h2 := cutV_length xs (some ((i5 : Int) + 1)) none
            omega
          have sq : Same H7 (upd (upd (upd H7 c (.lst (cutV xs none (some (i5 : Int))))) d (.lst (cutV xs (some ((i5 : Int) + 1)) none))) q (.lst (cutV xs none (some (i5 : Int)) ++ cutV xs (some ((i5 : Int) + 1)) none))) := by walk_at "sm"
          have hqa : q ≠ a := ((P7.same (Same.new nc)).same (Same.new nd)).ne nq
          rw [show ((i5 : Int) + 1) = ((i5 + 1 : Nat) : Int) by omega] at *
          simp only [cutV_eq, cutG_to, cutG_from] at *
          walk_at "rd"
          refine ⟨q, ws.take i5 ++ ws.drop (i5 + 1), _, _, _, rfl, hqa, B7.trans (But.of sq), (P7.same sq).le (by omega), ⟨_, upd_same, (((hS7.take i5).append (hS7.drop (i5 + 1))).mono (SameT.of sq))⟩, ?_, (hm4.take _).app (hm4.drop _)⟩
          rw [List.length_append, List.length_take, List.length_drop]
          omega
        · obtain ⟨w, rfl⟩ : ∃ w : Nat, e6 = ((w + 1 : Nat) : Int) := ⟨e6.toNat - 1, by omega⟩
          walk_at "rd"
          refine k_slL (SqL.of hx7) fun c nc => ?_
          have hcx := lk_new hx7 nc (u := .lst (cutV xs none (some (i5 : Int))))
          have hSc : Steps K (upd H7 c (.lst (cutV xs none (some (i5 : Int))))) xs ws := hS7.mono (SameT.new nc)
          walk_at "rd"
          refine ⟨a, 1, n + 7 + 3 * i + 2, rfl, P7.same (Same.new nc), by omega, by omega, fun q us H8 nq qa b8 P8 L8 hl8 hm8 => ?_⟩
          obtain ⟨ys, hy, hY⟩ := L8
          have eY := hY.len
          have hca : c ≠ a := P7.ne nc
          have hc8 := b8 _ _ upd_same hca
          have hx8 := b8 _ _ hcx pa
          have T8 := (P7.same (Same.new nc)).but b8
          refine k_catL hc8 hy ?_ fun r nr => ?_
          · have h1 := cutV_length xs none (some (i5 : Int))
            omega
          walk_at "rd"
          refine k_slL (SqL.of (lk_new hx8 nr)) fun d nd => ?_
          refine k_catL (lk_new upd_same nd) upd_same ?_ fun z nz => ?_
          · have h1 := cutV_length xs none (some (i5 : Int))
            have h2 := cutV_length xs (some ((i5 : Int) + ((w + 1 : Nat) : Int) - 1)) none
            rw [List.length_append]
            omega
          have sz : Same H8 (upd (upd (upd H8 r (.lst (cutV xs none (some (i5 : Int)) ++ ys))) d (.lst (cutV xs (some ((i5 : Int) + ((w + 1 : Nat) : Int) - 1)) none))) z (.lst (cutV xs none (some (i5 : Int)) ++ ys ++ cutV xs (some ((i5 : Int) + ((w + 1 : Nat) : Int) - 1)) none))) := by walk_at "sm"
          have hza : z ≠ a := ((P8.same (Same.new nr)).same (Same.new nd)).ne nz
          rw [show ((i5 : Int) + ((w + 1 : Nat) : Int) - 1) = ((i5 + w : Nat) : Int) by omega] at *
          simp only [cutV_eq, cutG_to, cutG_from] at *
          walk_at "rd"
          refine ⟨z, ws.take i5 ++ us ++ ws.drop (i5 + w), _, _, _, rfl, hza, (B7.trans ((But.of (Same.new nc)).trans b8)).trans (But.of sz), (P8.same sz).le (by omega), ⟨_, upd_same, ((((hSc.mono T8).take i5).append hY).append ((hSc.mono T8).drop (i5 + w))).mono (SameT.of sz)⟩, ?_, ((hm4.take _).app hm8).app (hm4.drop _)⟩
          rw [List.length_append, List.length_append, List.length_take, List.length_drop]
          omega
      · rintro σ H4 ⟨p, ws, v2, v3, v4, rfl, pa, b4, hP4, ⟨xs, hx, hS⟩, hl4, hm4⟩
        walk_at "rd"
        refine k_slL (SqL.of hx) fun c nc => ?_
        have e12 : ((12 : Int)) = ((12 : Nat) : Int) := rfl
        rw [e12] at *
        simp only [cutV_eq, cutG_to] at *
        walk_at "rd"
        rename_i t nt
        have st : Same H4 (upd (upd H4 c (.lst (xs.take 12))) t (.tup (xs.take 12))) := by walk_at "sm"
        refine k t (ws.take 12) _ (b4.trans (But.of st)) ((hP4.same st).le (by omega)) ⟨_, SqT.of upd_same, (hS.take 12).mono (SameT.of st)⟩ ?_ (hm4.take _)
        rw [List.length_take]
        omega
end
end Y


set_option Elab.async false
set_option linter.all false
set_option maxRecDepth 100000
namespace Y
open PySem L2
local macro_rules | `(tactic| walk_at "ne") => `(tactic| first
  | with_reducible assumption
  | ((with_reducible apply Ne.symm); (focus with_reducible assumption))
  | ((with_reducible apply ne_new); (focus with_reducible assumption); (focus walk_at "hp"))
  | ((with_reducible apply ne_new'); (focus with_reducible assumption); (focus walk_at "hp")))
local macro_rules | `(tactic| walk_at "hp1") => `(tactic| first
  | ((with_reducible apply lk_new2); (focus with_reducible assumption))
  | ((with_reducible apply lk_ne2); (focus walk_at "ne"))
  | ((with_reducible apply Same.get); (focus with_reducible assumption))
  | ((with_reducible apply But.get2); (focus with_reducible assumption); (focus walk_at "ne")))
local macro_rules | `(tactic| walk_at "hp") => `(tactic| first
  | with_reducible assumption
  | with_reducible exact upd_same
  | ((walk_at "hp1"); (walk_at "hp")))
local macro_rules | `(tactic| walk_at "sm1") => `(tactic| first
  | ((with_reducible apply Same.linkN); (focus with_reducible assumption))
  | ((with_reducible apply Same.linkU); (focus with_reducible assumption))
  | ((with_reducible apply Same.link); (focus with_reducible assumption)))
local macro_rules | `(tactic| walk_at "sm") => `(tactic| first
  | with_reducible assumption
  | with_reducible exact Same.refl _
  | ((walk_at "sm1"); (walk_at "sm")))
local macro_rules | `(tactic| walk_at "bt1") => `(tactic| first
  | ((with_reducible apply But.linkN); (focus with_reducible assumption))
  | ((with_reducible apply But.linkU); (focus with_reducible assumption))
  | (with_reducible apply But.linkA)
  | ((with_reducible apply But.link); (focus with_reducible assumption))
  | ((with_reducible apply But.linkS); (focus with_reducible assumption)))
local macro_rules | `(tactic| walk_at "bt") => `(tactic| first
  | with_reducible assumption
  | with_reducible exact But.refl _ _
  | ((walk_at "bt1"); (walk_at "bt")))
local macro_rules | `(tactic| walk_at "rs") => `(tactic| simp only [e_C, e_var0, e_varS, e_op, e_op1, e_un, e_fld, e_tup, e_lst, e_cons, e_cons1, e_cons2, e_nil, e_call, e_call1, e_CB, e_meth, e_make, e_B, e_test, e_B1, e_if, e_if1, e_ifS, e_ifS1, e_and, e_andc, e_or, e_orc, e_not, e_not1, e_andV, e_andVc, e_orV, e_orVc, e_notV, e_notV1, e_seq, e_next, e_break, e_cont, e_drop, e_drop1, e_ret, e_retN, e_asg, e_name, e_part, e_part1, e_noPart, e_sl, e_sl1, e_sl2, e_sl3, o_add_int, o_I0, o_un, c_int, c_intB, c_abs, c_max, c_min, k_isN, k_notN, k_isB, k_notB, e_sub, e_sub1, cx_K, cx_noxK, e_for, e_rng1, e_rng2, e_seqI, e_enumT, e_enum, e_gname, e_lc, e_lcT, e_yes, e_bm, e_par, e_par1, e_par3, e_par31, e_chain, e_chain1, e_chain2, e_chain3, e_sfld, e_sfld1, List.set, ite_true, ite_false, eq_self, Bool.false_eq_true, decide_eq_true_eq, L2.start, List.map, List.length_cons, List.length_nil, List.replicate, Nat.add_one_sub_one, Nat.sub_self, List.nil_append, List.cons_append, Int.reduceToNat, Int.reducePow, Int.reduceMul, Int.reduceAdd, Int.reduceSub, Int.reduceNeg, Int.reduceLT, Int.reduceLE, Int.reduceEq, Bool.not_false, Bool.not_true, L2.wipe, e_never, e_tupZ, e_tC, e_m1, e_m1a, e_m1b, e_asgT, e_gcons, e_gnil, e_callD, e_opS, e_raise, e_mkErr, e_fldErr, decide_true, decide_false, not_true_eq_false, not_false_eq_true, reduceCtorEq])
local macro_rules | `(tactic| walk_at "sd") => `(tactic| first
  | assumption
  | decide
  | omega
  | (dsimp only; omega)
  | exact wide_div (b := 450) (by omega) (by omega) (by decide) (by decide)
  | exact mulX (a := 450) (b := 450) (by omega) (by omega) (by decide) (by decide) (by decide)
  | exact powW (b := 450) (by omega) (by omega) (by decide) (by decide))
local macro_rules | `(tactic| walk_at "sl") => `(tactic| first | omega | (simp only [List.length_cons, List.length_nil, List.length_append]; omega))
local macro_rules | `(tactic| walk_at "sqL1") => `(tactic| first
  | ((with_reducible apply sqL_new2); (focus with_reducible assumption))
  | ((with_reducible apply sqL_link); (focus with_reducible assumption)))
local macro_rules | `(tactic| walk_at "sqL") => `(tactic| first
  | with_reducible assumption
  | ((with_reducible apply SqL.of); focus walk_at "hp")
  | ((walk_at "sqL1"); (walk_at "sqL")))
local macro_rules | `(tactic| walk_at "sqT1") => `(tactic| first
  | ((with_reducible apply sqT_new2); (focus with_reducible assumption))
  | ((with_reducible apply sqT_link); (focus with_reducible assumption)))
local macro_rules | `(tactic| walk_at "sqT") => `(tactic| first
  | with_reducible assumption
  | ((with_reducible apply SqT.of); focus walk_at "hp")
  | ((with_reducible apply SqT.ofZ); focus walk_at "hp")
  | ((walk_at "sqT1"); (walk_at "sqT")))
local macro_rules | `(tactic| walk_at "kt") => `(tactic| first
  | with_reducible exact kt_self
  | with_reducible exact kt_int_bool
  | with_reducible exact kt_int_str
  | with_reducible exact kt_int_list
  | with_reducible exact kt_int_tuple
  | with_reducible exact kt_bool_int
  | with_reducible exact kt_bool_str
  | with_reducible exact kt_bool_list
  | with_reducible exact kt_bool_tuple
  | with_reducible exact kt_str_int
  | with_reducible exact kt_str_bool
  | with_reducible exact kt_str_list
  | with_reducible exact kt_str_tuple
  | with_reducible exact kt_non_int
  | with_reducible exact kt_non_bool
  | with_reducible exact kt_non_str
  | with_reducible exact kt_non_list
  | with_reducible exact kt_non_tuple
  | with_reducible exact kt_tuple_int
  | with_reducible exact kt_tuple_bool
  | with_reducible exact kt_tuple_str
  | with_reducible exact kt_tuple_list
  | with_reducible exact kt_list_int
  | with_reducible exact kt_list_bool
  | with_reducible exact kt_list_str
  | with_reducible exact kt_list_tuple
  | with_reducible exact kt_dict_int
  | with_reducible exact kt_dict_bool
  | with_reducible exact kt_dict_str
  | with_reducible exact kt_dict_list
  | with_reducible exact kt_dict_tuple)
local macro_rules | `(tactic| walk_at "tyx") => `(tactic| first
  | with_reducible exact .base (.int _)
  | with_reducible exact .base (.str _)
  | with_reducible exact .base (.bl _)
  | with_reducible exact .base .non
  | ((with_reducible apply tyx_tup); focus walk_at "sqT")
  | ((with_reducible apply tyx_lst); focus walk_at "sqL")
  | ((with_reducible apply TyX.base); (focus ((with_reducible apply TyOf.dK); focus walk_at "hp"))))
local macro_rules | `(tactic| walk_at "isi") => `(tactic| first
  | ((with_reducible apply k_isi); (focus (with_reducible exact (ClsV.ty _))); (focus (walk_at "tyx")); (focus (walk_at "kt")))
  | ((with_reducible apply k_isiT); (focus (walk_at "hp")); (focus (with_reducible exact (.cons (.ty _) (.cons (.ty _) .nil)))); (focus (walk_at "tyx")); (focus (first | with_reducible exact ka_tuple | with_reducible exact ka_list | ((with_reducible apply ka_no); (focus walk_at "kt"); (focus walk_at "kt"))))))
local macro_rules | `(tactic| walk_at "lk") => `(tactic| rfl)
local macro_rules | `(tactic| walk_at "rd1") => `(tactic| first
  | walk_at "rs"
  | ((with_reducible apply k_ixL); (focus (walk_at "sqL")); (focus rfl))
  | ((with_reducible apply k_ixT); (focus (walk_at "sqT")); (focus rfl))
  | ((with_reducible apply k_fld); (focus (walk_at "hp")); (focus (assumption)); (focus (assumption)); (focus (walk_at "lk")))
  | ((with_reducible apply k_sfld); (focus (walk_at "hp")); (focus (assumption)); (focus (assumption)); (focus (walk_at "sl")))
  | ((with_reducible apply k_meth); (focus (walk_at "hp")); (focus (walk_at "lk")))
  | ((with_reducible apply k_I); (focus (walk_at "sd")))
  | ((with_reducible apply k_unp); (focus (walk_at "sqT")); (focus rfl))
  | ((with_reducible apply k_mul); (focus (walk_at "sd")))
  | ((with_reducible apply k_setL); (focus (walk_at "hp")); (focus rfl))
  | ((with_reducible apply k_bmL); (focus (walk_at "hp")))
  | ((with_reducible apply k_append); (focus (walk_at "hp")); (focus (walk_at "sd")))
  | ((with_reducible apply k_extend); (focus (walk_at "hp")); (focus (walk_at "hp")); (focus (walk_at "sl")))
  | ((with_reducible apply k_tup); (focus (walk_at "sl")); intro _ _)
  | ((with_reducible apply k_tupZ); (focus (walk_at "sl")); intro _ _ _ _ _)
  | ((with_reducible apply k_lst); (focus (walk_at "sl")); intro _ _)
  | ((with_reducible apply k_lenS); (focus ((with_reducible apply Or.inl); walk_at "sqL")))
  | ((with_reducible apply k_lenS); (focus ((with_reducible apply Or.inr); walk_at "sqT")))
  | ((with_reducible apply k_seqL); (focus (walk_at "sqL")))
  | ((with_reducible apply k_seqT); (focus (walk_at "sqT")))
  | ((with_reducible apply k_enumT); (focus (walk_at "sqT")))
  | walk_at "isi"
  | ((with_reducible apply k_tupOfL); (focus (walk_at "sqL")); intro _ _)
  | ((with_reducible apply k_tupOfT); (focus (walk_at "sqT")))
  | ((with_reducible apply k_listOf); (focus ((with_reducible apply Or.inl); walk_at "sqL")); intro _ _)
  | ((with_reducible apply k_listOf); (focus ((with_reducible apply Or.inr); walk_at "sqT")); intro _ _)
  | (with_reducible apply k_eq_int)
  | (with_reducible apply k_ne_int)
  | (with_reducible apply k_eq_str)
  | (with_reducible apply k_ne_str)
  | (with_reducible apply k_eq_bl)
  | (with_reducible apply k_ne_bl))
local macro_rules | `(tactic| walk_at "rd") => `(tactic| repeat walk_at "rd1")

theorem eqvAll_strs : ∀ w v : List Str, PyData.eqvAll (w.map PyData.str) (v.map PyData.str) = decide (w = v)
  | [], [] => rfl
  | [], _ :: _ => by simp [PyData.eqvAll]
  | _ :: _, [] => by simp [PyData.eqvAll]
  | x :: w, y :: v => by
    have h := eqvAll_strs w v
    simp only [List.map_cons, PyData.eqvAll, PyData.eqv, h, List.cons.injEq, Bool.decide_and]
    rfl
theorem eqv_step (w v : List Str) : PyData.eqv (stepD w) (stepD v) = decide (w = v) := by
  unfold stepD
  simp only [PyData.eqv]
  exact eqvAll_strs w v
theorem eqvAll_rows : ∀ ws us : List (List Str), PyData.eqvAll (ws.map stepD) (us.map stepD) = decide (ws = us)
  | [], [] => rfl
  | [], _ :: _ => by simp [PyData.eqvAll]
  | _ :: _, [] => by simp [PyData.eqvAll]
  | x :: w, y :: v => by
    have h := eqvAll_rows w v
    simp only [List.map_cons, PyData.eqvAll, h, eqv_step, List.cons.injEq, Bool.decide_and]

/-! ### marks -/
abbrev MK := Bool × Bool × Bool × Bool × Bool
def allMK : MK := (true, true, true, true, true)
def noMK : MK := (false, false, false, false, false)
def mkL : MK → List V := fun (a, b, c, d, e) => [.bl a, .bl b, .bl c, .bl d, .bl e]
def mkD : Option MK → PyData
  | none => .none
  | some (a, b, c, d, e) => .tuple [.bool a, .bool b, .bool c, .bool d, .bool e]
def MkAt (K : PySem.W.Frag) (H : Hp) (v : V) : Option MK → Prop
  | none => v = .non
  | some m => ∃ a, v = .ref a ∧ TupZ K H a (mkL m)
theorem MkAt.same {K : PySem.W.Frag} {H H' : Hp} {v : V} {m : Option MK} (h : MkAt K H v m) (s : Same H H') : MkAt K H' v m := by
  cases m with
  | none => exact h
  | some m =>
    obtain ⟨a, e, h⟩ := h
    exact ⟨a, e, TupZ.mono s h⟩
theorem MkAt.dp {K : PySem.W.Frag} {H : Hp} {v : V} {m : Option MK} (h : MkAt K H v m) : Dp K H v (mkD m) := by
  cases m with
  | none =>
    cases h
    exact .non
  | some m =>
    obtain ⟨a, rfl, h⟩ := h
    obtain ⟨x1, x2, x3, x4, x5⟩ := m
    exact .tup (TupZ.sq h) (.cons (.bl _) (.cons (.bl _) (.cons (.bl _) (.cons (.bl _) (.cons (.bl _) .nil)))))
theorem mk_shaped (m : Option MK) : SeqAt.shaped (mkD m) = true := by
  cases m with
  | none => decide
  | some m =>
    obtain ⟨x1, x2, x3, x4, x5⟩ := m
    cases x1 <;> cases x2 <;> cases x3 <;> cases x4 <;> cases x5 <;> decide
theorem mk_eqv (m : Option MK) : PyData.eqv (mkD m) (mkD (some allMK)) = decide (m = some allMK) := by
  cases m with
  | none => rfl
  | some m =>
    obtain ⟨x1, x2, x3, x4, x5⟩ := m
    cases x1 <;> cases x2 <;> cases x3 <;> cases x4 <;> cases x5 <;> decide
def sMA : List Str := ["make", "all"]
def sMS : List Str := ["make", "standing"]
def sDR : List Str := ["drop"]
def sSA : List Str := ["start", "all"]
def sSF : List Str := ["start", "free"]
def sLA : List Str := ["label", "all"]
def sLF : List Str := ["label", "free"]
def sTA : List Str := ["tie", "all"]
def sTF : List Str := ["tie", "free"]
def markStep (m : Option MK) (w : List Str) : Option MK := match m with
  | none => none
  | some (made, started, labelled, tied, dropped) =>
    if w ∈ [sLA, sTA] then none
    else if w = sMA then some (true, started, labelled, tied, false)
    else if w = sMS then some (true, started, labelled, tied, dropped)
    else if w ∈ [sSA, sSF] then some (made, true, labelled, tied, dropped)
    else if w = sLF then some (made, started, true, tied, dropped)
    else if w = sTF then some (made, started, labelled, tied || made, dropped)
    else if w = sDR then some (made, started, labelled, tied, true)
    else some (made, started, labelled, tied, dropped)
def marks (m : Option MK) (ws : List (List Str)) : Option MK := ws.foldl markStep m
theorem menu_shaped : ∀ w ∈ menu12, SeqAt.shaped (stepD w) = true := fun w h => (step_shaped w h).1
theorem any_step (us : List (List Str)) (w : List Str) : ((us.map stepD).any fun z => PyData.eqv z (stepD w)) = decide (w ∈ us) := by
  rw [Bool.eq_iff_iff, List.any_eq_true, decide_eq_true_iff]
  constructor
  · rintro ⟨z, hz, e⟩
    obtain ⟨u, hu, rfl⟩ := List.mem_map.mp hz
    rw [eqv_step, decide_eq_true_iff] at e
    rw [← e]
    exact hu
  · intro h
    exact ⟨stepD w, List.mem_map.mpr ⟨w, h, rfl⟩, by rw [eqv_step]; exact decide_eq_true rfl⟩
theorem k_eq_st {K : PySem.W.Frag} {H : Hp} {a b : Addr} {w : List Str} {Q : VK} (u : List Str) (h1 : SqT K H a (w.map V.str)) (h2 : SqT K H b (u.map V.str)) (m1 : w ∈ menu12) (m2 : u ∈ menu12) (q : Q (.bl (decide (w = u))) H) : fOp2 (rEqU K) (.ref a) Q (.ref b) H :=
  k_eq_D (dp_step h1) (dp_step h2) (menu_shaped w m1) (menu_shaped u m2) (by rw [eqv_step]; exact q)
theorem k_in_st {K : PySem.W.Frag} {H : Hp} {a b : Addr} {w : List Str} {Q : VK} (us : List (List Str)) (h1 : SqT K H a (w.map V.str)) (h2 : Row K H b us) (m1 : w ∈ menu12) (m2 : InMenu us) (q : Q (.bl (decide (w ∈ us))) H) : fOp2 (rInU K) (.ref a) Q (.ref b) H :=
  k_inT (dp_step h1) (Row.dp h2) (menu_shaped w m1) (steps_shaped m2).2 (by rw [any_step]; exact q)
theorem k_nin_st {K : PySem.W.Frag} {H : Hp} {a b : Addr} {w : List Str} {Q : VK} (us : List (List Str)) (h1 : SqT K H a (w.map V.str)) (h2 : Row K H b us) (m1 : w ∈ menu12) (m2 : InMenu us) (q : Q (.bl (!decide (w ∈ us))) H) : fOp2 (rNotInU K) (.ref a) Q (.ref b) H :=
  k_ninT (dp_step h1) (Row.dp h2) (menu_shaped w m1) (steps_shaped m2).2 (by rw [any_step]; exact q)
def spBehind (K : PySem.W.Frag) : Sp := fun vs H Q _ => ∃ (v : V) (s : Addr) (m : Option MK) (x : List Str), vs = [v, .ref s] ∧ MkAt K H v m ∧ SqT K H s (x.map V.str) ∧ x ∈ menu12 ∧ ∀ (v' : V) (H' : Hp), Same H H' → MkAt K H' v' (markStep m x) → Q v' H'
def spMarks (K : PySem.W.Frag) : Sp := fun vs H Q _ => ∃ (r : Addr) (v : V) (ws : List (List Str)) (m : Option MK), vs = [.ref r, v] ∧ Row K H r ws ∧ InMenu ws ∧ MkAt K H v m ∧ ∀ (v' : V) (H' : Hp), Same H H' → MkAt K H' v' (marks m ws) → Q v' H'
def spRight (K : PySem.W.Frag) (C : Addr) : Sp := fun vs H Q _ => ∃ (p : Addr) (ws : List (List Str)), vs = [.ref p] ∧ ScrAt K C H p ws ∧ ∀ H', Same H H' → Q (.bl (decide (marks (some noMK) ws = some allMK))) H'
set_option maxHeartbeats 4000000
section
variable {P : Program} {w : World} {K : PySem.W.Frag} {mg : Str → Option Value} {base : Heap}
theorem ok_marks_behind (T : Txt P K mg) : FnOk P w K mg base CX0 1 T.f_marks_behind T.d_marks_behind ["marks", "step"] (spBehind K) := by
  refine T.F_marks_behind.ok sc_marks_behind (fun vs H Q E h => ?_) (fun cdv A outer s H vs Q E hr h => ?_)
  · obtain ⟨v, s, m, x, rfl, _⟩ := h
    rfl
  · obtain ⟨v, st, m, x, rfl, hM, hs, hx, k⟩ := h
    refine ⟨_, (pss_cons (ps_if (PW.pt (pw_or (pt_cmpR op_isU (pv 0) pe_non (nomark _)) (pw_or1 (pt_cmpR (op_inUk K (hu65 hr)) (pv 1) (pe_glob (by rfl) T.m_SPOILING (show RelV (.ref _) (.ref _) from rfl)) (by rfl))))) (pss_one (ps_ret pe_non)) pss_nil)
  (pss_cons (ps_asg (pv 0) (pg_tup (n := 5) rfl (pgs_cons (pg_name (i := 2) sc_marks_behind.nd rfl (Or.inl rfl)) (pgs_cons (pg_name (i := 3) sc_marks_behind.nd rfl (Or.inl rfl)) (pgs_cons (pg_name (i := 4) sc_marks_behind.nd rfl (Or.inl rfl)) (pgs_cons (pg_name (i := 5) sc_marks_behind.nd rfl (Or.inl rfl)) (pgs_cons (pg_name (i := 6) sc_marks_behind.nd rfl (Or.inl rfl)) pgs_nil)))))))
  (pss_cons (ps_if (pt_cmpR (op_eqUk K (hu65 hr)) (pv 1) (pe_tupZ (pa_cons pe_str (pa_cons pe_str pa_nil))) (nomark _)) (pss_one (ps_ret (pe_tupZ (pa_cons pe_bl (pa_cons (pv 3) (pa_cons (pv 4) (pa_cons (pv 5) (pa_cons pe_bl pa_nil)))))))) pss_nil)
  (pss_cons (ps_if (pt_cmpR (op_eqUk K (hu65 hr)) (pv 1) (pe_tupZ (pa_cons pe_str (pa_cons pe_str pa_nil))) (nomark _)) (pss_one (ps_ret (pe_tupZ (pa_cons pe_bl (pa_cons (pv 3) (pa_cons (pv 4) (pa_cons (pv 5) (pa_cons (pv 6) pa_nil)))))))) pss_nil)
  (pss_cons (ps_if (pt_cmpR (op_inUk K (hu65 hr)) (pv 1) (pe_tupZ (pa_cons (pe_tupZ (pa_cons pe_str (pa_cons pe_str pa_nil))) (pa_cons (pe_tupZ (pa_cons pe_str (pa_cons pe_str pa_nil))) pa_nil))) (by rfl)) (pss_one (ps_ret (pe_tupZ (pa_cons (pv 2) (pa_cons pe_bl (pa_cons (pv 4) (pa_cons (pv 5) (pa_cons (pv 6) pa_nil)))))))) pss_nil)
  (pss_cons (ps_if (pt_cmpR (op_eqUk K (hu65 hr)) (pv 1) (pe_tupZ (pa_cons pe_str (pa_cons pe_str pa_nil))) (nomark _)) (pss_one (ps_ret (pe_tupZ (pa_cons (pv 2) (pa_cons (pv 3) (pa_cons pe_bl (pa_cons (pv 5) (pa_cons (pv 6) pa_nil)))))))) pss_nil)
  (pss_cons (ps_if (pt_cmpR (op_eqUk K (hu65 hr)) (pv 1) (pe_tupZ (pa_cons pe_str (pa_cons pe_str pa_nil))) (nomark _)) (pss_one (ps_ret (pe_tupZ (pa_cons (pv 2) (pa_cons (pv 3) (pa_cons (pv 4) (pa_cons (pe_or (pv 5) (pe_one (pv 2))) (pa_cons (pv 6) pa_nil)))))))) pss_nil)
  (pss_cons (ps_if (pt_cmpR (op_eqUk K (hu65 hr)) (pv 1) (pe_tupZ (pa_cons pe_str pa_nil)) (nomark _)) (pss_one (ps_ret (pe_tupZ (pa_cons (pv 2) (pa_cons (pv 3) (pa_cons (pv 4) (pa_cons (pv 5) (pa_cons pe_bl pa_nil)))))))) pss_nil)
  (pss_one (ps_ret (pv 0))))))))))), ?_⟩
    cases m with
    | none =>
      cases hM
      walk_at "rd"
      exact k _ H (Same.refl H) rfl
    | some m =>
      obtain ⟨x1, x2, x3, x4, x5⟩ := m
      obtain ⟨a, rfl, ha⟩ := hM
      have ha' : SqT K H a [.bl x1, .bl x2, .bl x3, .bl x4, .bl x5] := TupZ.sq ha
      walk_at "rd"
      have ms : markStep (some (x1, x2, x3, x4, x5)) x = if x ∈ [sLA, sTA] then none else if x = sMA then some (true, x2, x3, x4, false) else if x = sMS then some (true, x2, x3, x4, x5) else if x ∈ [sSA, sSF] then some (x1, true, x3, x4, x5)
        else if x = sLF then some (x1, x2, true, x4, x5) else if x = sTF then some (x1, x2, x3, x4 || x1, x5) else if x = sDR then some (x1, x2, x3, x4, true) else some (x1, x2, x3, x4, x5) := rfl
      rw [ms] at k
      have fin : ∀ (m : MK) (H1 : Hp) (t : Addr) (o : Obj), Same H H1 → H1 t = none → o.cls = .type "tuple" → o.dict = none → (∀ (v' : V) (H' : Hp), Same H H' → MkAt K H' v' (some m) → Q v' H') → Q (.ref t) (upd H1 t (.frz o (.tup (mkL m)))) := fun m H1 t o s n c d k => k _ _ (s.trans (Same.new n)) ⟨t, rfl, .inl ⟨o, upd_same, c, d⟩⟩
      refine k_in_st [sLA, sTA] hs (Row.of_dp (T.dp_SPOILING H)) hx (by unfold InMenu; decide) ?_
      walk_at "rd"
      refine ite2 (fun h1 => ?_) (fun h1 => ?_)
      · walk_at "rd"
        rw [if_pos h1] at k
        exact k _ H (Same.refl H) rfl
      · walk_at "rd"
        rw [if_neg h1] at k
        refine k_eq_st sMA (by walk_at "sqT") (SqT.ofZ upd_same) hx (by decide) ?_
        walk_at "rd"
        refine ite2 (fun h2 => ?_) (fun h2 => ?_)
        · walk_at "rd"
          rw [if_pos h2] at k
          exact fin (true, x2, x3, x4, false) _ _ _ (by walk_at "sm") (by assumption) (by assumption) (by assumption) k
        · walk_at "rd"
          rw [if_neg h2] at k
          refine k_eq_st sMS (by walk_at "sqT") (SqT.ofZ upd_same) hx (by decide) ?_
          walk_at "rd"
          refine ite2 (fun h3 => ?_) (fun h3 => ?_)
          · walk_at "rd"
            rw [if_pos h3] at k
            exact fin (true, x2, x3, x4, x5) _ _ _ (by walk_at "sm") (by assumption) (by assumption) (by assumption) k
          · walk_at "rd"
            rw [if_neg h3] at k
            refine k_in_st [sSA, sSF] (by walk_at "sqT") ⟨_, SqT.ofZ upd_same, .cons ⟨_, rfl, (show SqT K _ _ [V.str "start", V.str "all"] by walk_at "sqT")⟩ (.cons ⟨_, rfl, (show SqT K _ _ [V.str "start", V.str "free"] by walk_at "sqT")⟩ .nil)⟩ hx (by unfold InMenu; decide) ?_
            walk_at "rd"
            refine ite2 (fun h4 => ?_) (fun h4 => ?_)
            · walk_at "rd"
              rw [if_pos h4] at k
              exact fin (x1, true, x3, x4, x5) _ _ _ (by walk_at "sm") (by assumption) (by assumption) (by assumption) k
            · walk_at "rd"
              rw [if_neg h4] at k
              refine k_eq_st sLF (by walk_at "sqT") (SqT.ofZ upd_same) hx (by decide) ?_
              walk_at "rd"
              refine ite2 (fun h5 => ?_) (fun h5 => ?_)
              · walk_at "rd"
                rw [if_pos h5] at k
                exact fin (x1, x2, true, x4, x5) _ _ _ (by walk_at "sm") (by assumption) (by assumption) (by assumption) k
              · walk_at "rd"
                rw [if_neg h5] at k
                refine k_eq_st sTF (by walk_at "sqT") (SqT.ofZ upd_same) hx (by decide) ?_
                walk_at "rd"
                refine ite2 (fun h6 => ?_) (fun h6 => ?_)
                · rw [if_pos h6] at k
                  walk_at "rd"
                  cases x4
                  · walk_at "rd"
                    exact fin (x1, x2, x3, x1, x5) _ _ _ (by walk_at "sm") (by assumption) (by assumption) (by assumption) k
                  · walk_at "rd"
                    exact fin (x1, x2, x3, true, x5) _ _ _ (by walk_at "sm") (by assumption) (by assumption) (by assumption) k
                · walk_at "rd"
                  rw [if_neg h6] at k
                  refine k_eq_st sDR (by walk_at "sqT") (SqT.ofZ upd_same) hx (by decide) ?_
                  walk_at "rd"
                  refine ite2 (fun h7 => ?_) (fun h7 => ?_)
                  · walk_at "rd"
                    rw [if_pos h7] at k
                    exact fin (x1, x2, x3, x4, true) _ _ _ (by walk_at "sm") (by assumption) (by assumption) (by assumption) k
                  · walk_at "rd"
                    rw [if_neg h7] at k
                    exact k _ _ (by walk_at "sm") ⟨a, rfl, TupZ.mono (by walk_at "sm") ha⟩
theorem ok_marks_of (T : Txt P K mg) : FnOk P w K mg base CX0 2 T.f_marks_of T.d_marks_of ["steps", "ahead"] (spMarks K) := by
  refine FunD_ok T.F_marks_of sc_marks_of (fun vs H Q E h => ?_) (fun cdv A outer s H vs Q E hr h => ?_)
  · obtain ⟨r, v, ws, m, rfl, _⟩ := h
    rfl
  · obtain ⟨r, v, ws, m, rfl, R, hm, hM, k⟩ := h
    refine ⟨_, (pss_cons (ps_set (i := 2) sc_marks_of.nd rfl (Or.inl rfl) (pv 1))
  (pss_cons (ps_for PassesOwn.never rfl (pi_seqk K (pv 0)) (pg_name (i := 3) sc_marks_of.nd rfl (Or.inl rfl))
  (pss_one (ps_set (i := 2) sc_marks_of.nd rfl (Or.inl rfl) (pe_call (ok_marks_behind T) (hr.mono (by decide)) (by rfl) T.m_marks_behind T.F_marks_behind.kp T.b_marks_behind .nil pass0 (pa_cons (pv 2) (pa_cons (pv 3) pa_nil))))))
  (pss_one (ps_ret (pv 2))))), ?_⟩
    obtain ⟨xs, x1, x2⟩ := id R
    have ex := x2.len
    walk_at "rd"
    refine k_for walk_tup (fun i σ H' => ∃ (v' : V) (u : Option V), σ = [some (.ref r), some v, some v', u] ∧ Same H H' ∧ MkAt K H' v' (marks m (ws.take i)))
      ⟨v, none, rfl, Same.refl H, by simpa [marks] using hM⟩ (fun i σ H' _ ⟨_, _, _, e, _⟩ => sqT_mono (SameT.of e) x1) ?_ ?_
    · rintro i x σ H1 H2 hi ⟨v', u, rfl, s1, M1⟩ ⟨rfl, hx⟩
      obtain ⟨b, wd, hb1, hb2, hb3⟩ := Steps.at_ (j := i) x2 (by omega)
      rw [hb1] at hx
      cases hx
      walk_at "rd"
      refine ⟨v', b, _, wd, rfl, M1, sqT_mono (SameT.of s1) hb3, hm wd (List.mem_of_getElem? hb2), fun v2 H3 s3 M3 => ?_⟩
      walk_at "rd"
      refine ⟨v2, _, rfl, s1.trans s3, ?_⟩
      have e : ws.take (i + 1) = ws.take i ++ [wd] := by
        rw [List.take_add_one, hb2]
        rfl
      rw [e]
      unfold marks
      rw [List.foldl_append]
      exact M3
    · rintro σ H1 ⟨v', u, rfl, s1, M1⟩
      rw [ex, List.take_length] at M1
      walk_at "rd"
      exact k v' H1 s1 M1
theorem ok_is_right (T : Txt P K mg) : FnOk P w K mg base CX0 3 T.f_is_right T.d_is_right ["script"] (spRight K T.a_Script) := by
  refine T.F_is_right.ok sc_is_right (fun vs H Q E h => ?_) (fun cdv A outer s H vs Q E hr h => ?_)
  · obtain ⟨p, ws, rfl, _⟩ := h
    rfl
  · obtain ⟨p, ws, rfl, S, k⟩ := h
    obtain ⟨ds, hv_marks_of, hb_marks_of⟩ := T.bd_marks_of
    refine ⟨_, (pss_one (ps_ret (pe_cmpR (op_eqUk K (hu65 hr)) (pe_call (ok_marks_of T) (hr.mono (by decide)) (by rfl) T.m_marks_of T.F_marks_of.kp hb_marks_of hv_marks_of pass0 (pa_cons (pe_meth0 (pv 0) T.cl_Script T.me_Script_steps (ok_Script_steps T) (hr.mono (by decide)) T.b_Script_steps .nil pass0) pa_nil)) (pe_glob (by rfl) T.m_ALL_MARKS (show RelV (.ref _) (.ref _) from rfl)) (nomark _)))), ?_⟩
    obtain ⟨⟨dx, l, xs, h1, h2, h3⟩, h4, h5⟩ := id S
    walk_at "rd"
    refine ⟨p, ws, rfl, S, fun r H1 nr s1 R1 => ?_⟩
    walk_at "rd"
    have hN : MkAt K H1 (.ref T.a_NO_MARKS) (some noMK) := ⟨_, rfl, T.tz_NO_MARKS H1⟩
    refine ⟨r, _, ws, _, rfl, R1, h5, hN, fun v2 H2 s2 M2 => ?_⟩
    walk_at "rd"
    refine k_eq_D M2.dp (show Dp K H2 (.ref T.a_ALL_MARKS) (mkD (some allMK)) from T.dp_ALL_MARKS H2) (mk_shaped _) (mk_shaped _) ?_
    rw [mk_eqv]
    walk_at "rd"
    exact k H2 (s1.trans s2)
end
end Y


set_option Elab.async false
set_option linter.all false
set_option maxRecDepth 100000
namespace Y
open PySem L2
local macro_rules | `(tactic| walk_at "ne") => `(tactic| first
  | with_reducible assumption
  | ((with_reducible apply Ne.symm); (focus with_reducible assumption))
  | ((with_reducible apply ne_new); (focus with_reducible assumption); (focus walk_at "hp"))
  | ((with_reducible apply ne_new'); (focus with_reducible assumption); (focus walk_at "hp")))
local macro_rules | `(tactic| walk_at "hp1") => `(tactic| first
  | ((with_reducible apply lk_new2); (focus with_reducible assumption))
  | ((with_reducible apply lk_ne2); (focus walk_at "ne"))
  | ((with_reducible apply Same.get); (focus with_reducible assumption))
  | ((with_reducible apply But.get2); (focus with_reducible assumption); (focus walk_at "ne")))
local macro_rules | `(tactic| walk_at "hp") => `(tactic| first
  | with_reducible assumption
  | with_reducible exact upd_same
  | ((walk_at "hp1"); (walk_at "hp")))
local macro_rules | `(tactic| walk_at "sm1") => `(tactic| first
  | ((with_reducible apply Same.linkN); (focus with_reducible assumption))
  | ((with_reducible apply Same.linkU); (focus with_reducible assumption))
  | ((with_reducible apply Same.link); (focus with_reducible assumption)))
local macro_rules | `(tactic| walk_at "sm") => `(tactic| first
  | with_reducible assumption
  | with_reducible exact Same.refl _
  | ((walk_at "sm1"); (walk_at "sm")))
local macro_rules | `(tactic| walk_at "bt1") => `(tactic| first
  | ((with_reducible apply But.linkN); (focus with_reducible assumption))
  | ((with_reducible apply But.linkU); (focus with_reducible assumption))
  | (with_reducible apply But.linkA)
  | ((with_reducible apply But.link); (focus with_reducible assumption))
  | ((with_reducible apply But.linkS); (focus with_reducible assumption)))
local macro_rules | `(tactic| walk_at "bt") => `(tactic| first
  | with_reducible assumption
  | with_reducible exact But.refl _ _
  | ((walk_at "bt1"); (walk_at "bt")))
local macro_rules | `(tactic| walk_at "rs") => `(tactic| simp only [e_C, e_var0, e_varS, e_op, e_op1, e_un, e_fld, e_tup, e_lst, e_cons, e_cons1, e_cons2, e_nil, e_call, e_call1, e_CB, e_meth, e_make, e_B, e_test, e_B1, e_if, e_if1, e_ifS, e_ifS1, e_and, e_andc, e_or, e_orc, e_not, e_not1, e_andV, e_andVc, e_orV, e_orVc, e_notV, e_notV1, e_seq, e_next, e_break, e_cont, e_drop, e_drop1, e_ret, e_retN, e_asg, e_name, e_part, e_part1, e_noPart, e_sl, e_sl1, e_sl2, e_sl3, o_add_int, o_I0, o_un, c_int, c_intB, c_abs, c_max, c_min, k_isN, k_notN, k_isB, k_notB, e_sub, e_sub1, cx_K, cx_noxK, e_for, e_rng1, e_rng2, e_seqI, e_enumT, e_enum, e_gname, e_lc, e_lcT, e_yes, e_bm, e_par, e_par1, e_par3, e_par31, e_chain, e_chain1, e_chain2, e_chain3, e_sfld, e_sfld1, List.set, ite_true, ite_false, eq_self, Bool.false_eq_true, decide_eq_true_eq, L2.start, List.map, List.length_cons, List.length_nil, List.replicate, Nat.add_one_sub_one, Nat.sub_self, List.nil_append, List.cons_append, Int.reduceToNat, Int.reducePow, Int.reduceMul, Int.reduceAdd, Int.reduceSub, Int.reduceNeg, Int.reduceLT, Int.reduceLE, Int.reduceEq, Bool.not_false, Bool.not_true, L2.wipe, e_never, e_tupZ, e_tC, e_m1, e_m1a, e_m1b, e_asgT, e_gcons, e_gnil, e_callD, e_opS, e_raise, e_mkErr, e_fldErr, decide_true, decide_false, not_true_eq_false, not_false_eq_true, reduceCtorEq])
local macro_rules | `(tactic| walk_at "sd") => `(tactic| first
  | assumption
  | decide
  | omega
  | (dsimp only; omega)
  | exact wide_div (b := 450) (by omega) (by omega) (by decide) (by decide)
  | exact mulX (a := 450) (b := 450) (by omega) (by omega) (by decide) (by decide) (by decide)
  | exact powW (b := 450) (by omega) (by omega) (by decide) (by decide))
local macro_rules | `(tactic| walk_at "sl") => `(tactic| first | omega | (simp only [List.length_cons, List.length_nil, List.length_append]; omega))
local macro_rules | `(tactic| walk_at "sqL1") => `(tactic| first
  | ((with_reducible apply sqL_new2); (focus with_reducible assumption))
  | ((with_reducible apply sqL_link); (focus with_reducible assumption)))
local macro_rules | `(tactic| walk_at "sqL") => `(tactic| first
  | with_reducible assumption
  | ((with_reducible apply SqL.of); focus walk_at "hp")
  | ((walk_at "sqL1"); (walk_at "sqL")))
local macro_rules | `(tactic| walk_at "sqT1") => `(tactic| first
  | ((with_reducible apply sqT_new2); (focus with_reducible assumption))
  | ((with_reducible apply sqT_link); (focus with_reducible assumption)))
local macro_rules | `(tactic| walk_at "sqT") => `(tactic| first
  | with_reducible assumption
  | ((with_reducible apply SqT.of); focus walk_at "hp")
  | ((with_reducible apply SqT.ofZ); focus walk_at "hp")
  | ((walk_at "sqT1"); (walk_at "sqT")))
local macro_rules | `(tactic| walk_at "kt") => `(tactic| first
  | with_reducible exact kt_self
  | with_reducible exact kt_int_bool
  | with_reducible exact kt_int_str
  | with_reducible exact kt_int_list
  | with_reducible exact kt_int_tuple
  | with_reducible exact kt_bool_int
  | with_reducible exact kt_bool_str
  | with_reducible exact kt_bool_list
  | with_reducible exact kt_bool_tuple
  | with_reducible exact kt_str_int
  | with_reducible exact kt_str_bool
  | with_reducible exact kt_str_list
  | with_reducible exact kt_str_tuple
  | with_reducible exact kt_non_int
  | with_reducible exact kt_non_bool
  | with_reducible exact kt_non_str
  | with_reducible exact kt_non_list
  | with_reducible exact kt_non_tuple
  | with_reducible exact kt_tuple_int
  | with_reducible exact kt_tuple_bool
  | with_reducible exact kt_tuple_str
  | with_reducible exact kt_tuple_list
  | with_reducible exact kt_list_int
  | with_reducible exact kt_list_bool
  | with_reducible exact kt_list_str
  | with_reducible exact kt_list_tuple
  | with_reducible exact kt_dict_int
  | with_reducible exact kt_dict_bool
  | with_reducible exact kt_dict_str
  | with_reducible exact kt_dict_list
  | with_reducible exact kt_dict_tuple)
local macro_rules | `(tactic| walk_at "tyx") => `(tactic| first
  | with_reducible exact .base (.int _)
  | with_reducible exact .base (.str _)
  | with_reducible exact .base (.bl _)
  | with_reducible exact .base .non
  | ((with_reducible apply tyx_tup); focus walk_at "sqT")
  | ((with_reducible apply tyx_lst); focus walk_at "sqL")
  | ((with_reducible apply TyX.base); (focus ((with_reducible apply TyOf.dK); focus walk_at "hp"))))
local macro_rules | `(tactic| walk_at "isi") => `(tactic| first
  | ((with_reducible apply k_isi); (focus (with_reducible exact (ClsV.ty _))); (focus (walk_at "tyx")); (focus (walk_at "kt")))
  | ((with_reducible apply k_isiT); (focus (walk_at "hp")); (focus (with_reducible exact (.cons (.ty _) (.cons (.ty _) .nil)))); (focus (walk_at "tyx")); (focus (first | with_reducible exact ka_tuple | with_reducible exact ka_list | ((with_reducible apply ka_no); (focus walk_at "kt"); (focus walk_at "kt"))))))
local macro_rules | `(tactic| walk_at "lk") => `(tactic| rfl)
local macro_rules | `(tactic| walk_at "rd1") => `(tactic| first
  | walk_at "rs"
  | ((with_reducible apply k_ixL); (focus (walk_at "sqL")); (focus rfl))
  | ((with_reducible apply k_ixT); (focus (walk_at "sqT")); (focus rfl))
  | ((with_reducible apply k_fld); (focus (walk_at "hp")); (focus (assumption)); (focus (assumption)); (focus (walk_at "lk")))
  | ((with_reducible apply k_sfld); (focus (walk_at "hp")); (focus (assumption)); (focus (assumption)); (focus (walk_at "sl")))
  | ((with_reducible apply k_meth); (focus (walk_at "hp")); (focus (walk_at "lk")))
  | ((with_reducible apply k_I); (focus (walk_at "sd")))
  | ((with_reducible apply k_unp); (focus (walk_at "sqT")); (focus rfl))
  | ((with_reducible apply k_mul); (focus (walk_at "sd")))
  | ((with_reducible apply k_setL); (focus (walk_at "hp")); (focus rfl))
  | ((with_reducible apply k_bmL); (focus (walk_at "hp")))
  | ((with_reducible apply k_append); (focus (walk_at "hp")); (focus (walk_at "sd")))
  | ((with_reducible apply k_extend); (focus (walk_at "hp")); (focus (walk_at "hp")); (focus (walk_at "sl")))
  | ((with_reducible apply k_tup); (focus (walk_at "sl")); intro _ _)
  | ((with_reducible apply k_tupZ); (focus (walk_at "sl")); intro _ _ _ _ _)
  | ((with_reducible apply k_lst); (focus (walk_at "sl")); intro _ _)
  | ((with_reducible apply k_lenS); (focus ((with_reducible apply Or.inl); walk_at "sqL")))
  | ((with_reducible apply k_lenS); (focus ((with_reducible apply Or.inr); walk_at "sqT")))
  | ((with_reducible apply k_seqL); (focus (walk_at "sqL")))
  | ((with_reducible apply k_seqT); (focus (walk_at "sqT")))
  | ((with_reducible apply k_enumT); (focus (walk_at "sqT")))
  | walk_at "isi"
  | ((with_reducible apply k_tupOfL); (focus (walk_at "sqL")); intro _ _)
  | ((with_reducible apply k_tupOfT); (focus (walk_at "sqT")))
  | ((with_reducible apply k_listOf); (focus ((with_reducible apply Or.inl); walk_at "sqL")); intro _ _)
  | ((with_reducible apply k_listOf); (focus ((with_reducible apply Or.inr); walk_at "sqT")); intro _ _)
  | (with_reducible apply k_eq_int)
  | (with_reducible apply k_ne_int)
  | (with_reducible apply k_eq_str)
  | (with_reducible apply k_ne_str)
  | (with_reducible apply k_eq_bl)
  | (with_reducible apply k_ne_bl))
local macro_rules | `(tactic| walk_at "rd") => `(tactic| repeat walk_at "rd1")

/-! ### right, by reasons -/
def isMk (w : List Str) : Bool := w.head? = some "make"
def Tied (ws : List (List Str)) : Prop := ∃ j k : Nat, j < k ∧ (∃ y, ws[j]? = some y ∧ isMk y = true) ∧ ws[k]? = some sTF
def Dropped (ws : List (List Str)) : Prop := (∃ k : Nat, ws[k]? = some sDR) ∧ ∀ k : Nat, ws[k]? = some sMA → ∃ j : Nat, k < j ∧ ws[j]? = some sDR
open Classical in
noncomputable def due (ws : List (List Str)) : Bool :=
  decide (∃ y ∈ ws, isMk y = true) && decide (sSA ∈ ws ∨ sSF ∈ ws) && decide (sLF ∈ ws) && decide (Tied ws) && decide (Dropped ws) && decide (¬ (sLA ∈ ws ∨ sTA ∈ ws))
theorem at_snoc {α : Type} {ws : List α} {x y : α} {k : Nat} : (ws ++ [x])[k]? = some y ↔ ws[k]? = some y ∨ (k = ws.length ∧ y = x) := by
  rw [List.getElem?_append]
  split
  · rename_i h
    constructor
    · exact .inl
    · rintro (h1 | ⟨h1, _⟩)
      · exact h1
      · omega
  · rename_i h
    constructor
    · intro e
      have : k - ws.length = 0 := by
        have := (List.getElem?_eq_some_iff.mp e).1
        simp at this
        omega
      rw [this] at e
      refine .inr ⟨by omega, ?_⟩
      simpa using e.symm
    · rintro (h1 | ⟨h1, h2⟩)
      · have := (List.getElem?_eq_some_iff.mp h1).1
        omega
      · subst h1 h2
        simp
theorem tied_snoc {ws : List (List Str)} {x : List Str} : Tied (ws ++ [x]) ↔ Tied ws ∨ (x = sTF ∧ ∃ y ∈ ws, isMk y = true) := by
  constructor
  · rintro ⟨j, k, hjk, ⟨y, hy, my⟩, hk⟩
    rcases at_snoc.mp hk with hk | ⟨rfl, e⟩
    · rcases at_snoc.mp hy with hy | ⟨rfl, _⟩
      · exact .inl ⟨j, k, hjk, ⟨y, hy, my⟩, hk⟩
      · have := (List.getElem?_eq_some_iff.mp hk).1
        omega
    · rcases at_snoc.mp hy with hy | ⟨rfl, _⟩
      · exact .inr ⟨e.symm, y, List.mem_of_getElem? hy, my⟩
      · omega
  · rintro (⟨j, k, hjk, ⟨y, hy, my⟩, hk⟩ | ⟨rfl, y, hy, my⟩)
    · exact ⟨j, k, hjk, ⟨y, at_snoc.mpr (.inl hy), my⟩, at_snoc.mpr (.inl hk)⟩
    · obtain ⟨j, hj⟩ := List.mem_iff_getElem?.mp hy
      exact ⟨j, ws.length, (List.getElem?_eq_some_iff.mp hj).1, ⟨y, at_snoc.mpr (.inl hj), my⟩, at_snoc.mpr (.inr ⟨rfl, rfl⟩)⟩
theorem dropped_snoc {ws : List (List Str)} {x : List Str} : Dropped (ws ++ [x]) ↔ x = sDR ∨ (x ≠ sMA ∧ Dropped ws) := by
  have hne : sDR ≠ sMA := by decide
  constructor
  · rintro ⟨⟨k, hk⟩, h⟩
    by_cases e : x = sDR
    · exact .inl e
    refine .inr ⟨fun e2 => ?_, ⟨?_, fun m hm => ?_⟩⟩
    · obtain ⟨j, hj, hd⟩ := h ws.length (at_snoc.mpr (.inr ⟨rfl, e2.symm⟩))
      rcases at_snoc.mp hd with hd | ⟨h1, _⟩
      · have := (List.getElem?_eq_some_iff.mp hd).1
        omega
      · omega
    · rcases at_snoc.mp hk with hk | ⟨_, h2⟩
      · exact ⟨k, hk⟩
      · exact absurd h2.symm e
    · obtain ⟨j, hj, hd⟩ := h m (at_snoc.mpr (.inl hm))
      rcases at_snoc.mp hd with hd | ⟨_, h2⟩
      · exact ⟨j, hj, hd⟩
      · exact absurd h2.symm e
  · rintro (rfl | ⟨e, ⟨k, hk⟩, h⟩)
    · refine ⟨⟨ws.length, at_snoc.mpr (.inr ⟨rfl, rfl⟩)⟩, fun m hm => ?_⟩
      rcases at_snoc.mp hm with hm | ⟨_, h2⟩
      · exact ⟨ws.length, (List.getElem?_eq_some_iff.mp hm).1, at_snoc.mpr (.inr ⟨rfl, rfl⟩)⟩
      · exact absurd h2.symm hne
    · refine ⟨⟨k, at_snoc.mpr (.inl hk)⟩, fun m hm => ?_⟩
      rcases at_snoc.mp hm with hm | ⟨_, h2⟩
      · obtain ⟨j, hj, hd⟩ := h m hm
        exact ⟨j, hj, at_snoc.mpr (.inl hd)⟩
      · exact absurd h2.symm e
theorem mem_snoc {ws : List (List Str)} {x y : List Str} : y ∈ ws ++ [x] ↔ y ∈ ws ∨ y = x := by rw [List.mem_append, List.mem_singleton]
theorem list_snoc {α : Type} {P : List α → Prop} (h0 : P []) (h1 : ∀ l x, P l → P (l ++ [x])) (l : List α) : P l := by
  have : ∀ m : List α, P m.reverse := fun m => by
    induction m with
    | nil => exact h0
    | cons x m ih =>
      rw [List.reverse_cons]
      exact h1 _ _ ih
  simpa using this l.reverse
theorem markStep_words : ∀ x ∈ menu12, ∀ a b c d e : Bool, markStep (some (a, b, c, d, e)) x = if x = sLA ∨ x = sTA then none else
    some (a || isMk x, b || (decide (x = sSA) || decide (x = sSF)), c || decide (x = sLF), d || (decide (x = sTF) && a), decide (x = sDR) || (!decide (x = sMA) && e)) := by decide +kernel
open Classical in
/-- the marks behind steps, in words -/
theorem marks_words (ws : List (List Str)) (hm : InMenu ws) : marks (some noMK) ws = if sLA ∈ ws ∨ sTA ∈ ws then none else
    some (decide (∃ y ∈ ws, isMk y = true), decide (sSA ∈ ws ∨ sSF ∈ ws), decide (sLF ∈ ws), decide (Tied ws), decide (Dropped ws)) := by
  revert hm
  induction ws using list_snoc
  case h0 =>
    intro _
    have t : ¬ Tied [] := fun ⟨j, k, _, _, h⟩ => by simp at h
    have d : ¬ Dropped [] := fun ⟨⟨k, h⟩, _⟩ => by simp at h
    simp [marks, noMK, t, d]
  case h1 ws x ih =>
    intro hm
    have hx : x ∈ menu12 := hm x (mem_snoc.mpr (.inr rfl))
    have ih := ih fun y hy => hm y (mem_snoc.mpr (.inl hy))
    unfold marks at ih ⊢
    rw [List.foldl_append, ih]
    simp only [List.foldl_cons, List.foldl_nil]
    have em : (∃ y ∈ ws ++ [x], isMk y = true) ↔ (∃ y ∈ ws, isMk y = true) ∨ isMk x = true := by
      constructor
      · rintro ⟨y, hy, my⟩
        rcases mem_snoc.mp hy with h | rfl
        · exact .inl ⟨y, h, my⟩
        · exact .inr my
      · rintro (⟨y, hy, my⟩ | my)
        · exact ⟨y, mem_snoc.mpr (.inl hy), my⟩
        · exact ⟨x, mem_snoc.mpr (.inr rfl), my⟩
    simp only [em, tied_snoc, dropped_snoc]
    simp only [mem_snoc]
    by_cases hs : sLA ∈ ws ∨ sTA ∈ ws
    · rw [if_pos hs, if_pos (by rcases hs with h | h <;> simp [h])]
      rfl
    · rw [if_neg hs]
      obtain ⟨n1, n2⟩ := not_or.mp hs
      simp only [n1, n2, false_or]
      rw [markStep_words x hx]
      by_cases hb : x = sLA ∨ x = sTA
      · rw [if_pos hb, if_pos (hb.imp Eq.symm Eq.symm)]
      · rw [if_neg hb, if_neg (fun h => hb (h.imp Eq.symm Eq.symm))]
        have q : ∀ (p : Prop) [Decidable p] (i : Decidable p), @decide p i = decide p := fun p _ i => by congr
        have z1 : decide (sSA = x) = decide (x = sSA) := by simp only [eq_comm]
        have z2 : decide (sSF = x) = decide (x = sSF) := by simp only [eq_comm]
        have z3 : decide (sLF = x) = decide (x = sLF) := by simp only [eq_comm]
        simp only [Bool.decide_or, Bool.decide_and, Bool.decide_eq_true, decide_not, ne_eq, z1, z2, z3, Option.some.injEq, Prod.mk.injEq]
        refine ⟨trivial, ?_, trivial⟩
        generalize decide (sSA ∈ ws) = p1
        generalize decide (sSF ∈ ws) = p2
        generalize decide (x = sSA) = p3
        generalize decide (x = sSF) = p4
        cases p1 <;> cases p2 <;> cases p3 <;> cases p4 <;> rfl
theorem right_due (ws : List (List Str)) (hm : InMenu ws) : decide (marks (some noMK) ws = some allMK) = due ws := by
  rw [marks_words ws hm]
  unfold due
  by_cases hs : sLA ∈ ws ∨ sTA ∈ ws
  · rw [if_pos hs]
    simp [hs]
  · rw [if_neg hs]
    have e : ∀ a b c d e : Bool, decide (some (a, b, c, d, e) = some allMK) = (a && b && c && d && e) := by decide
    rw [e]
    simp [hs]
end Y


set_option Elab.async false
set_option linter.all false
set_option maxRecDepth 100000
namespace Y
open PySem L2
local macro_rules | `(tactic| walk_at "ne") => `(tactic| first
  | with_reducible assumption
  | ((with_reducible apply Ne.symm); (focus with_reducible assumption))
  | ((with_reducible apply ne_new); (focus with_reducible assumption); (focus walk_at "hp"))
  | ((with_reducible apply ne_new'); (focus with_reducible assumption); (focus walk_at "hp")))
local macro_rules | `(tactic| walk_at "hp1") => `(tactic| first
  | ((with_reducible apply lk_new2); (focus with_reducible assumption))
  | ((with_reducible apply lk_ne2); (focus walk_at "ne"))
  | ((with_reducible apply Same.get); (focus with_reducible assumption))
  | ((with_reducible apply But.get2); (focus with_reducible assumption); (focus walk_at "ne")))
local macro_rules | `(tactic| walk_at "hp") => `(tactic| first
  | with_reducible assumption
  | with_reducible exact upd_same
  | ((walk_at "hp1"); (walk_at "hp")))
local macro_rules | `(tactic| walk_at "sm1") => `(tactic| first
  | ((with_reducible apply Same.linkN); (focus with_reducible assumption))
  | ((with_reducible apply Same.linkU); (focus with_reducible assumption))
  | ((with_reducible apply Same.link); (focus with_reducible assumption)))
local macro_rules | `(tactic| walk_at "sm") => `(tactic| first
  | with_reducible assumption
  | with_reducible exact Same.refl _
  | ((walk_at "sm1"); (walk_at "sm")))
local macro_rules | `(tactic| walk_at "bt1") => `(tactic| first
  | ((with_reducible apply But.linkN); (focus with_reducible assumption))
  | ((with_reducible apply But.linkU); (focus with_reducible assumption))
  | (with_reducible apply But.linkA)
  | ((with_reducible apply But.link); (focus with_reducible assumption))
  | ((with_reducible apply But.linkS); (focus with_reducible assumption)))
local macro_rules | `(tactic| walk_at "bt") => `(tactic| first
  | with_reducible assumption
  | with_reducible exact But.refl _ _
  | ((walk_at "bt1"); (walk_at "bt")))
local macro_rules | `(tactic| walk_at "rs") => `(tactic| simp only [e_C, e_var0, e_varS, e_op, e_op1, e_un, e_fld, e_tup, e_lst, e_cons, e_cons1, e_cons2, e_nil, e_call, e_call1, e_CB, e_meth, e_make, e_B, e_test, e_B1, e_if, e_if1, e_ifS, e_ifS1, e_and, e_andc, e_or, e_orc, e_not, e_not1, e_andV, e_andVc, e_orV, e_orVc, e_notV, e_notV1, e_seq, e_next, e_break, e_cont, e_drop, e_drop1, e_ret, e_retN, e_asg, e_name, e_part, e_part1, e_noPart, e_sl, e_sl1, e_sl2, e_sl3, o_add_int, o_I0, o_un, c_int, c_intB, c_abs, c_max, c_min, k_isN, k_notN, k_isB, k_notB, e_sub, e_sub1, cx_K, cx_noxK, e_for, e_rng1, e_rng2, e_seqI, e_enumT, e_enum, e_gname, e_lc, e_lcT, e_yes, e_bm, e_par, e_par1, e_par3, e_par31, e_chain, e_chain1, e_chain2, e_chain3, e_sfld, e_sfld1, List.set, ite_true, ite_false, eq_self, Bool.false_eq_true, decide_eq_true_eq, L2.start, List.map, List.length_cons, List.length_nil, List.replicate, Nat.add_one_sub_one, Nat.sub_self, List.nil_append, List.cons_append, Int.reduceToNat, Int.reducePow, Int.reduceMul, Int.reduceAdd, Int.reduceSub, Int.reduceNeg, Int.reduceLT, Int.reduceLE, Int.reduceEq, Bool.not_false, Bool.not_true, L2.wipe, e_never, e_tupZ, e_tC, e_m1, e_m1a, e_m1b, e_asgT, e_gcons, e_gnil, e_callD, e_opS, e_raise, e_mkErr, e_fldErr, decide_true, decide_false, not_true_eq_false, not_false_eq_true, reduceCtorEq])
local macro_rules | `(tactic| walk_at "sd") => `(tactic| first
  | assumption
  | decide
  | omega
  | (dsimp only; omega)
  | exact wide_div (b := 450) (by omega) (by omega) (by decide) (by decide)
  | exact mulX (a := 450) (b := 450) (by omega) (by omega) (by decide) (by decide) (by decide)
  | exact powW (b := 450) (by omega) (by omega) (by decide) (by decide))
local macro_rules | `(tactic| walk_at "sl") => `(tactic| first | omega | (simp only [List.length_cons, List.length_nil, List.length_append]; omega))
local macro_rules | `(tactic| walk_at "sqL1") => `(tactic| first
  | ((with_reducible apply sqL_new2); (focus with_reducible assumption))
  | ((with_reducible apply sqL_link); (focus with_reducible assumption)))
local macro_rules | `(tactic| walk_at "sqL") => `(tactic| first
  | with_reducible assumption
  | ((with_reducible apply SqL.of); focus walk_at "hp")
  | ((walk_at "sqL1"); (walk_at "sqL")))
local macro_rules | `(tactic| walk_at "sqT1") => `(tactic| first
  | ((with_reducible apply sqT_new2); (focus with_reducible assumption))
  | ((with_reducible apply sqT_link); (focus with_reducible assumption)))
local macro_rules | `(tactic| walk_at "sqT") => `(tactic| first
  | with_reducible assumption
  | ((with_reducible apply SqT.of); focus walk_at "hp")
  | ((with_reducible apply SqT.ofZ); focus walk_at "hp")
  | ((walk_at "sqT1"); (walk_at "sqT")))
local macro_rules | `(tactic| walk_at "kt") => `(tactic| first
  | with_reducible exact kt_self
  | with_reducible exact kt_int_bool
  | with_reducible exact kt_int_str
  | with_reducible exact kt_int_list
  | with_reducible exact kt_int_tuple
  | with_reducible exact kt_bool_int
  | with_reducible exact kt_bool_str
  | with_reducible exact kt_bool_list
  | with_reducible exact kt_bool_tuple
  | with_reducible exact kt_str_int
  | with_reducible exact kt_str_bool
  | with_reducible exact kt_str_list
  | with_reducible exact kt_str_tuple
  | with_reducible exact kt_non_int
  | with_reducible exact kt_non_bool
  | with_reducible exact kt_non_str
  | with_reducible exact kt_non_list
  | with_reducible exact kt_non_tuple
  | with_reducible exact kt_tuple_int
  | with_reducible exact kt_tuple_bool
  | with_reducible exact kt_tuple_str
  | with_reducible exact kt_tuple_list
  | with_reducible exact kt_list_int
  | with_reducible exact kt_list_bool
  | with_reducible exact kt_list_str
  | with_reducible exact kt_list_tuple
  | with_reducible exact kt_dict_int
  | with_reducible exact kt_dict_bool
  | with_reducible exact kt_dict_str
  | with_reducible exact kt_dict_list
  | with_reducible exact kt_dict_tuple)
local macro_rules | `(tactic| walk_at "tyx") => `(tactic| first
  | with_reducible exact .base (.int _)
  | with_reducible exact .base (.str _)
  | with_reducible exact .base (.bl _)
  | with_reducible exact .base .non
  | ((with_reducible apply tyx_tup); focus walk_at "sqT")
  | ((with_reducible apply tyx_lst); focus walk_at "sqL")
  | ((with_reducible apply TyX.base); (focus ((with_reducible apply TyOf.dK); focus walk_at "hp"))))
local macro_rules | `(tactic| walk_at "isi") => `(tactic| first
  | ((with_reducible apply k_isi); (focus (with_reducible exact (ClsV.ty _))); (focus (walk_at "tyx")); (focus (walk_at "kt")))
  | ((with_reducible apply k_isiT); (focus (walk_at "hp")); (focus (with_reducible exact (.cons (.ty _) (.cons (.ty _) .nil)))); (focus (walk_at "tyx")); (focus (first | with_reducible exact ka_tuple | with_reducible exact ka_list | ((with_reducible apply ka_no); (focus walk_at "kt"); (focus walk_at "kt"))))))
local macro_rules | `(tactic| walk_at "lk") => `(tactic| rfl)
local macro_rules | `(tactic| walk_at "rd1") => `(tactic| first
  | walk_at "rs"
  | ((with_reducible apply k_ixL); (focus (walk_at "sqL")); (focus rfl))
  | ((with_reducible apply k_ixT); (focus (walk_at "sqT")); (focus rfl))
  | ((with_reducible apply k_fld); (focus (walk_at "hp")); (focus (assumption)); (focus (assumption)); (focus (walk_at "lk")))
  | ((with_reducible apply k_sfld); (focus (walk_at "hp")); (focus (assumption)); (focus (assumption)); (focus (walk_at "sl")))
  | ((with_reducible apply k_meth); (focus (walk_at "hp")); (focus (walk_at "lk")))
  | ((with_reducible apply k_I); (focus (walk_at "sd")))
  | ((with_reducible apply k_unp); (focus (walk_at "sqT")); (focus rfl))
  | ((with_reducible apply k_mul); (focus (walk_at "sd")))
  | ((with_reducible apply k_setL); (focus (walk_at "hp")); (focus rfl))
  | ((with_reducible apply k_bmL); (focus (walk_at "hp")))
  | ((with_reducible apply k_append); (focus (walk_at "hp")); (focus (walk_at "sd")))
  | ((with_reducible apply k_extend); (focus (walk_at "hp")); (focus (walk_at "hp")); (focus (walk_at "sl")))
  | ((with_reducible apply k_tup); (focus (walk_at "sl")); intro _ _)
  | ((with_reducible apply k_tupZ); (focus (walk_at "sl")); intro _ _ _ _ _)
  | ((with_reducible apply k_lst); (focus (walk_at "sl")); intro _ _)
  | ((with_reducible apply k_lenS); (focus ((with_reducible apply Or.inl); walk_at "sqL")))
  | ((with_reducible apply k_lenS); (focus ((with_reducible apply Or.inr); walk_at "sqT")))
  | ((with_reducible apply k_seqL); (focus (walk_at "sqL")))
  | ((with_reducible apply k_seqT); (focus (walk_at "sqT")))
  | ((with_reducible apply k_enumT); (focus (walk_at "sqT")))
  | walk_at "isi"
  | ((with_reducible apply k_tupOfL); (focus (walk_at "sqL")); intro _ _)
  | ((with_reducible apply k_tupOfT); (focus (walk_at "sqT")))
  | ((with_reducible apply k_listOf); (focus ((with_reducible apply Or.inl); walk_at "sqL")); intro _ _)
  | ((with_reducible apply k_listOf); (focus ((with_reducible apply Or.inr); walk_at "sqT")); intro _ _)
  | (with_reducible apply k_eq_int)
  | (with_reducible apply k_ne_int)
  | (with_reducible apply k_eq_str)
  | (with_reducible apply k_ne_str)
  | (with_reducible apply k_eq_bl)
  | (with_reducible apply k_ne_bl))
local macro_rules | `(tactic| walk_at "rd") => `(tactic| repeat walk_at "rd1")

theorem dpa_ints {K : PySem.W.Frag} {H : Hp} : ∀ {ns : List Int}, DpAll K H (ns.map V.int) (ns.map PyData.int)
  | [] => .nil
  | _ :: _ => .cons (.int _) dpa_ints
theorem ints_lay : ∀ ns : List Int, PyData.canLayAll0 (ns.map PyData.int) = true ∧ PyData.depthAll (ns.map PyData.int) ≤ 1
  | [] => by decide
  | n :: ns => by
    obtain ⟨h1, h2⟩ := ints_lay ns
    refine ⟨by simp [PyData.canLayAll0, PyData.canLay0, h1], ?_⟩
    simp only [List.map_cons, PyData.depthAll, PyData.depth]
    omega
theorem ints_shaped (ns : List Int) : SeqAt.shaped (.list (ns.map PyData.int)) = true := by
  obtain ⟨h1, h2⟩ := ints_lay ns
  unfold SeqAt.shaped
  rw [Bool.and_eq_true]
  refine ⟨by simp only [PyData.canLay0]; exact h1, decide_eq_true ?_⟩
  simp only [PyData.depth]
  omega
theorem eqv_nil (ns : List Int) : PyData.eqv (.list (ns.map PyData.int)) (.list []) = ns.isEmpty := by
  cases ns with
  | nil => rfl
  | cons n ns => simp [PyData.eqv, PyData.eqvAll]
theorem k_eqNil {K : PySem.W.Frag} {H : Hp} {a b : Addr} {ns : List Int} {Q : VK} (h1 : SqL K H a (ns.map V.int)) (h2 : SqL K H b []) (q : Q (.bl ns.isEmpty) H) : fOp2 (rEqU K) (.ref a) Q (.ref b) H :=
  k_eq_D (.lst h1 dpa_ints) (.lst h2 .nil) (ints_shaped ns) (by decide) (by rw [eqv_nil]; exact q)
theorem k_neNil {K : PySem.W.Frag} {H : Hp} {a b : Addr} {ns : List Int} {Q : VK} (h1 : SqL K H a (ns.map V.int)) (h2 : SqL K H b []) (q : Q (.bl (!ns.isEmpty)) H) : fOp2 (rNeU K) (.ref a) Q (.ref b) H :=
  k_ne_D (.lst h1 dpa_ints) (.lst h2 .nil) (ints_shaped ns) (by decide) (by rw [eqv_nil]; exact q)
theorem menu_two : ∀ w ∈ menu12, (∃ z, w[0]? = some z) ∧ (isMk w = true → ∃ z, w[1]? = some z ∧ (z = ("all" : Str) ↔ w = sMA)) ∧ isMk w = decide (w[0]? = some ("make" : Str)) := by
  intro w hw
  simp only [menu12, List.mem_cons, List.not_mem_nil, or_false] at hw
  rcases hw with rfl | rfl | rfl | rfl | rfl | rfl | rfl | rfl | rfl | rfl | rfl | rfl
  all_goals
    refine ⟨⟨_, rfl⟩, ?_, rfl⟩
    first
    | (intro h; exact absurd h (by decide))
    | (intro _; exact ⟨_, rfl, by decide⟩)
theorem due_tied {ws : List (List Str)} (h1 : ∃ y ∈ ws, isMk y = true) (h2 : sSA ∈ ws ∨ sSF ∈ ws) (h3 : sLF ∈ ws) (h4 : Dropped ws) (h5 : ¬ (sLA ∈ ws ∨ sTA ∈ ws)) : due ws = true ↔ Tied ws := by
  unfold due
  simp [h1, h2, h3, h4, h5]
def spDueS (K : PySem.W.Frag) : Sp := fun vs H Q _ => ∃ (r : Addr) (ws : List (List Str)), vs = [.ref r] ∧ Row K H r ws ∧ InMenu ws ∧ ws.length ≤ 1000 ∧ ∀ H', Same H H' → Q (.bl (due ws)) H'
def intsF (p : Nat → Bool) (n : Nat) : List Int := ((List.range n).filter p).map fun (k : Nat) => (0 + (k : Int))
theorem intsF_map (p : Nat → Bool) (n : Nat) : ((List.range n).filter p).map (fun (k : Nat) => V.int (0 + (k : Int))) = (intsF p n).map V.int := by
  unfold intsF
  rw [List.map_map]
  rfl
theorem intsF_empty (p : Nat → Bool) (n : Nat) : (intsF p n).isEmpty = true ↔ ∀ k, k < n → p k = false := by
  unfold intsF
  rw [List.isEmpty_iff, List.map_eq_nil_iff, List.filter_eq_nil_iff]
  simp
theorem intsF_mem {p : Nat → Bool} {n : Nat} {m : Int} : m ∈ intsF p n ↔ ∃ k : Nat, m = k ∧ k < n ∧ p k = true := by
  unfold intsF
  rw [List.mem_map]
  constructor
  · rintro ⟨k, hk, rfl⟩
    rw [List.mem_filter, List.mem_range] at hk
    exact ⟨k, by omega, hk⟩
  · rintro ⟨k, rfl, h⟩
    exact ⟨k, by rw [List.mem_filter, List.mem_range]; exact h, by omega⟩
theorem max_of : ∀ (l : List Int), l ≠ [] → ∃ m ∈ l, ∀ y ∈ l, y ≤ m
  | [x], _ => ⟨x, List.mem_singleton.mpr rfl, fun y hy => by rw [List.mem_singleton.mp hy]; exact Int.le_refl _⟩
  | x :: y :: l, _ => by
    obtain ⟨m, h1, h2⟩ := max_of (y :: l) (by simp)
    by_cases h : x ≤ m
    · exact ⟨m, List.mem_cons_of_mem _ h1, fun z hz => (List.mem_cons.mp hz).elim (fun e => by rw [e]; exact h) (h2 z)⟩
    · exact ⟨x, List.mem_cons_self, fun z hz => (List.mem_cons.mp hz).elim (fun e => by rw [e]; exact Int.le_refl _) (fun e => by have := h2 z e; omega)⟩
theorem min_of : ∀ (l : List Int), l ≠ [] → ∃ m ∈ l, ∀ y ∈ l, m ≤ y
  | [x], _ => ⟨x, List.mem_singleton.mpr rfl, fun y hy => by rw [List.mem_singleton.mp hy]; exact Int.le_refl _⟩
  | x :: y :: l, _ => by
    obtain ⟨m, h1, h2⟩ := min_of (y :: l) (by simp)
    by_cases h : m ≤ x
    · exact ⟨m, List.mem_cons_of_mem _ h1, fun z hz => (List.mem_cons.mp hz).elim (fun e => by rw [e]; exact h) (h2 z)⟩
    · exact ⟨x, List.mem_cons_self, fun z hz => (List.mem_cons.mp hz).elim (fun e => by rw [e]; exact Int.le_refl _) (fun e => by have := h2 z e; omega)⟩
theorem getD_of {ws : List (List Str)} {k : Nat} {w : List Str} (h : ws[k]? = some w) : ws.getD k [] = w := by
  rw [List.getD_eq_getElem?_getD, h]
  rfl
theorem of_getD {ws : List (List Str)} {k : Nat} (h : k < ws.length) : ws[k]? = some (ws.getD k []) := by
  rw [List.getD_eq_getElem?_getD, List.getElem?_eq_getElem h]
  rfl
set_option maxHeartbeats 4000000
section
variable {P : Program} {w : World} {K : PySem.W.Frag} {mg : Str → Option Value} {base : Heap}
theorem ok__law_due (T : Txt P K mg) : FnOk P w K mg base CX0 1 T.f__law_due T.d__law_due ["steps"] (spDueS K) := by
  refine T.F__law_due.ok sc__law_due (fun vs H Q E h => ?_) (fun cdv A outer s H vs Q E hr h => ?_)
  · obtain ⟨r, ws, rfl, _⟩ := h
    rfl
  · obtain ⟨r, ws, rfl, R, hm, hl, k⟩ := h
    refine ⟨_, (pss_cons (ps_set (i := 1) sc__law_due.nd rfl (Or.inr rfl) (pe_lc (own := [("k", 2)]) (g := (gName 2)) rfl sc__law_due.nd (pi_range1 (by rfl) T.m_range (pa_cons (pe_callB (call_lenUk K) (by rfl) T.m_len b_len (pa_cons (pv 0) pa_nil)) pa_nil)) (blkOk_by (own := [("k", 2)]) (N := N__law_due) (sc := defScope s__law_due) (by decide +kernel)) (fun _ _ _ _ _ => (pg_name (i := 2) sc__law_due.nd rfl (Or.inl rfl))) (fun _ _ _ _ _ => (pts_one (pt_cmpR (op_eqUk K (hu65 hr)) (pe_ix (ix_seqk K) (pe_ix (ix_seqk K) (pv 0) (pv 2) (fun _ _ => rfl)) pe_int (fun _ _ => rfl)) pe_str (nomark _)))) (fun _ _ _ _ _ => (pv 2))))
  (pss_cons (ps_set (i := 3) sc__law_due.nd rfl (Or.inr rfl) (pe_lc (own := [("k", 2)]) (g := (gName 2)) rfl sc__law_due.nd (pi_range1 (by rfl) T.m_range (pa_cons (pe_callB (call_lenUk K) (by rfl) T.m_len b_len (pa_cons (pv 0) pa_nil)) pa_nil)) (blkOk_by (own := [("k", 2)]) (N := N__law_due) (sc := defScope s__law_due) (by decide +kernel)) (fun _ _ _ _ _ => (pg_name (i := 2) sc__law_due.nd rfl (Or.inl rfl))) (fun _ _ _ _ _ => (pts_one (pt_cmpR (op_eqUk K (hu65 hr)) (pe_ix (ix_seqk K) (pv 0) (pv 2) (fun _ _ => rfl)) (pe_tup (pa_cons pe_str pa_nil)) (nomark _)))) (fun _ _ _ _ _ => (pv 2))))
  (pss_cons (ps_if (PW.pt (pw_or (pt_cmpR (op_eqUk K (hu65 hr)) (pv 1) (pe_lst pa_nil) (nomark _)) (pw_or (pt_cmpR (op_eqUk K (hu65 hr)) (pv 3) (pe_lst pa_nil) (nomark _)) (pw_or (pt_cmpR (op_inUk K (hu65 hr)) (pe_tup (pa_cons pe_str (pa_cons pe_str pa_nil))) (pv 0) (by rfl)) (pw_or1 (pt_cmpR (op_inUk K (hu65 hr)) (pe_tup (pa_cons pe_str (pa_cons pe_str pa_nil))) (pv 0) (by rfl))))))) (pss_one (ps_ret pe_bl)) pss_nil)
  (pss_cons (ps_if (PW.pt (pw_or (pt_cmpR (op_neUk K (hu65 hr)) (pe_lc (own := [("k", 2)]) (g := (gName 2)) rfl sc__law_due.nd (pi_seqk K (pv 1)) (blkOk_by (own := [("k", 2)]) (N := N__law_due) (sc := defScope s__law_due) (by decide +kernel)) (fun _ _ _ _ _ => (pg_name (i := 2) sc__law_due.nd rfl (Or.inl rfl))) (fun _ _ _ _ _ => (pts_one (PW.pt (pw_and (pt_cmpR (op_eqUk K (hu65 hr)) (pe_ix (ix_seqk K) (pe_ix (ix_seqk K) (pv 0) (pv 2) (fun _ _ => rfl)) pe_int (fun _ _ => rfl)) pe_str (nomark _)) (pw_and1 (pt_cmpR op_gt (pv 2) (pe_callB (cr_maxk K rfl) (by rfl) T.m_max b_max (pa_cons (pv 3) pa_nil)) (nomark _))))))) (fun _ _ _ _ _ => (pv 2))) (pe_lst pa_nil) (nomark _)) (pw_or1 (pt_cmpR (op_notInUk K (hu65 hr)) (pe_tup (pa_cons pe_str (pa_cons pe_str pa_nil))) (pv 0) (by rfl))))) (pss_one (ps_ret pe_bl)) pss_nil)
  (pss_cons (ps_if (PW.pt (pw_and (pt_cmpR (op_notInUk K (hu65 hr)) (pe_tup (pa_cons pe_str (pa_cons pe_str pa_nil))) (pv 0) (by rfl)) (pw_and1 (pt_cmpR (op_notInUk K (hu65 hr)) (pe_tup (pa_cons pe_str (pa_cons pe_str pa_nil))) (pv 0) (by rfl))))) (pss_one (ps_ret pe_bl)) pss_nil)
  (pss_one (ps_ret (pe_cmpR (op_neUk K (hu65 hr)) (pe_lc (own := [("k", 2)]) (g := (gName 2)) rfl sc__law_due.nd (pi_range1 (by rfl) T.m_range (pa_cons (pe_callB (call_lenUk K) (by rfl) T.m_len b_len (pa_cons (pv 0) pa_nil)) pa_nil)) (blkOk_by (own := [("k", 2)]) (N := N__law_due) (sc := defScope s__law_due) (by decide +kernel)) (fun _ _ _ _ _ => (pg_name (i := 2) sc__law_due.nd rfl (Or.inl rfl))) (fun _ _ _ _ _ => (pts_one (PW.pt (pw_and (pt_cmpR (op_eqUk K (hu65 hr)) (pe_ix (ix_seqk K) (pv 0) (pv 2) (fun _ _ => rfl)) (pe_tup (pa_cons pe_str (pa_cons pe_str pa_nil))) (nomark _)) (pw_and1 (pt_cmpR op_gt (pv 2) (pe_callB (cr_mink K rfl) (by rfl) T.m_min b_min (pa_cons (pv 1) pa_nil)) (nomark _))))))) (fun _ _ _ _ _ => (pv 2))) (pe_lst pa_nil) (nomark _))))))))), ?_⟩
    obtain ⟨xs, x1, x2⟩ := id R
    have ex := x2.len
    have stepAt : ∀ i, i < ws.length → ∃ a, xs[i]? = some (.ref a) ∧ SqT K H a ((ws.getD i []).map V.str) ∧ ws.getD i [] ∈ menu12 := fun i hi => by
      obtain ⟨a, wd, h1, h2, h3⟩ := Steps.at_ (j := i) x2 hi
      rw [getD_of h2]
      exact ⟨a, h1, h3, hm wd (List.mem_of_getElem? h2)⟩
    walk_at "rd"
    refine k_rng1 (by omega) (by omega) ?_
    refine k_lcFil walk_range (fun i => .int (0 + (i : Int))) (fun i => isMk (ws.getD i [])) (by omega) (by simp) (fun _ _ => True.intro) (fun i H1 x H2 _ _ y => y) (fun i H1 Qb hi s1 qb => ?_) fun makes H1 nm s1 hmakes => ?_
    · obtain ⟨a, ha, hs, hm1⟩ := stepAt i (by omega)
      obtain ⟨⟨z, hz⟩, _, e2⟩ := menu_two _ hm1
      walk_at "rd"
      refine k_ixT (sqT_mono (SameT.of s1) x1) (at_of (j := i) (by omega) ha) ?_
      walk_at "rd"
      refine k_ixT (sqT_mono (SameT.of s1) hs) (at_of (j := 0) rfl (by rw [List.getElem?_map, hz]; rfl)) ?_
      walk_at "rd"
      have e3 : isMk (ws.getD i []) = decide (z = ("make" : Str)) := by
        rw [e2, hz]
        simp
      rw [← e3]
      exact qb H1 (Same.refl _)
    have e0 : (xs.length : Int).toNat = ws.length := by omega
    rw [e0, intsF_map] at hmakes
    have x1' := sqT_mono (SameT.of s1) x1
    walk_at "rd"
    refine k_rng1 (by omega) (by omega) ?_
    refine k_lcFil walk_range (fun i => .int (0 + (i : Int))) (fun i => decide (ws.getD i [] = sDR)) (by omega) (by simp) (fun _ _ => True.intro) (fun i H1 x H2 _ _ y => y) (fun i H2 Qb hi s2 qb => ?_) fun drops H2 nd s2 hdrops => ?_
    · obtain ⟨a, ha, hs, hm1⟩ := stepAt i (by omega)
      have s02 := s1.trans s2
      walk_at "rd"
      refine k_ixT (sqT_mono (SameT.of s02) x1) (at_of (j := i) (by omega) ha) ?_
      walk_at "rd"
      refine k_eq_st sDR (sqT_mono (SameT.of s02) hs |> fun h => by walk_at "sqT") (SqT.of upd_same) hm1 (by decide) ?_
      walk_at "rd"
      exact qb _ (by walk_at "sm")
    rw [e0, intsF_map] at hdrops
    have kF : due ws = false → ∀ H', Same H H' → Q (.bl false) H' := fun e H' s => by
      have q := k H' s
      rwa [e] at q
    have kNo : ∀ {H' : Hp}, Same H H' → (¬ (∃ y ∈ ws, isMk y = true) ∨ ¬ (∃ k : Nat, ws[k]? = some sDR) ∨ (sLA ∈ ws ∨ sTA ∈ ws) ∨ ¬ Dropped ws ∨ sLF ∉ ws ∨ ¬ (sSA ∈ ws ∨ sSF ∈ ws)) → Q (.bl false) H' := fun s h => by
      refine kF ?_ _ s
      unfold due
      rcases h with h | h | h | h | h | h
      · simp [h]
      · have : ¬ Dropped ws := fun d => h d.1
        simp [this]
      · simp [h]
      · simp [h]
      · simp [h]
      · simp [h]
    have R' := fun (H' : Hp) (s : Same H H') => R.mono (SameT.of s)
    have memk : ∀ {y : List Str}, y ∈ ws → ∃ i, i < ws.length ∧ ws.getD i [] = y := fun {y} hy => by
      obtain ⟨i, hi⟩ := List.mem_iff_getElem?.mp hy
      exact ⟨i, (List.getElem?_eq_some_iff.mp hi).1, getD_of hi⟩
    walk_at "rd"
    refine k_eqNil (by walk_at "sqL") (by walk_at "sqL") ?_
    walk_at "rd"
    refine ite2 (fun h1 => ?_) (fun h1 => ?_)
    · walk_at "rd"
      refine kNo (by walk_at "sm") (.inl ?_)
      rintro ⟨y, hy, my⟩
      obtain ⟨i, hi, e⟩ := memk hy
      have := (intsF_empty _ _).mp h1 i hi
      rw [e, my] at this
      cases this
    walk_at "rd"
    refine k_eqNil (by walk_at "sqL") (by walk_at "sqL") ?_
    walk_at "rd"
    refine ite2 (fun h2 => ?_) (fun h2 => ?_)
    · walk_at "rd"
      refine kNo (by walk_at "sm") (.inr (.inl ?_))
      rintro ⟨i, hi⟩
      have := (intsF_empty _ _).mp h2 i (List.getElem?_eq_some_iff.mp hi).1
      rw [getD_of hi] at this
      simp at this
    walk_at "rd"
    refine k_in_st ws (show SqT K _ _ (sLA.map V.str) from SqT.of upd_same) (R' _ (by walk_at "sm")) (by decide) hm ?_
    walk_at "rd"
    refine ite2 (fun h3 => ?_) (fun h3 => ?_)
    · walk_at "rd"
      exact kNo (by walk_at "sm") (.inr (.inr (.inl (.inl h3))))
    walk_at "rd"
    refine k_in_st ws (show SqT K _ _ (sTA.map V.str) from SqT.of upd_same) (R' _ (by walk_at "sm")) (by decide) hm ?_
    walk_at "rd"
    refine ite2 (fun h4 => ?_) (fun h4 => ?_)
    · walk_at "rd"
      exact kNo (by walk_at "sm") (.inr (.inr (.inl (.inr h4))))
    have h2' : intsF (fun i => decide (ws.getD i [] = sDR)) ws.length ≠ [] := fun e => h2 (by rw [e]; rfl)
    have h1' : intsF (fun i => isMk (ws.getD i [])) ws.length ≠ [] := fun e => h1 (by rw [e]; rfl)
    obtain ⟨M, hM1, hM2⟩ := max_of _ h2'
    obtain ⟨N, hN1, hN2⟩ := min_of _ h1'
    obtain ⟨M', rfl, hM3, hM4⟩ := intsF_mem.mp hM1
    obtain ⟨N', rfl, hN3, hN4⟩ := intsF_mem.mp hN1
    have hM4 := of_decide_eq_true hM4
    walk_at "rd"
    rename_i t1 nt1 t2 nt2 t3 nt3 t4 nt4
    generalize hNN : intsF (fun i => isMk (ws.getD i [])) ws.length = NN at *
    generalize hDD : intsF (fun i => decide (ws.getD i [] = sDR)) ws.length = DD at *
    have nnAt : ∀ i, i < NN.length → ∃ z : Nat, NN.getD i 0 = (z : Int) ∧ z < ws.length ∧ isMk (ws.getD z []) = true := fun i hi => by
      have hm : NN.getD i 0 ∈ NN := by
        rw [List.getD_eq_getElem?_getD, List.getElem?_eq_getElem hi]
        exact List.getElem_mem hi
      rw [← hNN] at hm
      obtain ⟨z, h1, h2, h3⟩ := intsF_mem.mp hm
      rw [hNN] at h1
      exact ⟨z, h1, h2, h3⟩
    have hNl : NN.length ≤ 1000 := by
      rw [← hNN]
      unfold intsF
      rw [List.length_map]
      refine Nat.le_trans (List.length_filter_le _ _) ?_
      rw [List.length_range]
      exact hl
    refine k_lcFil (walk_list (K := K) (a := makes) (xs := NN.map V.int)) (fun i => .int (NN.getD i 0)) (fun i => decide (ws.getD (NN.getD i 0).toNat [] = sMA) && decide ((M' : Int) < NN.getD i 0)) (by rw [List.length_map]; omega) (by simp) (fun H' s => by walk_at "sqL") (fun i H3 x H4 hi hG y => ?_) (fun i H3 Qb hi s3 qb => ?_) fun late H3 nl s3 hlate => ?_
    · rw [List.length_map] at hi
      obtain ⟨rfl, hx⟩ := y
      rw [List.getElem?_map, List.getElem?_eq_getElem hi] at hx
      refine ⟨rfl, ?_⟩
      rw [List.getD_eq_getElem?_getD, List.getElem?_eq_getElem hi]
      exact (Option.some.inj hx).symm
    · rw [List.length_map] at hi
      obtain ⟨z, hz1, hz2, hz3⟩ := nnAt i hi
      obtain ⟨a, ha, hs, hm1⟩ := stepAt z hz2
      obtain ⟨_, e1, _⟩ := menu_two _ hm1
      obtain ⟨u, hu1, hu2⟩ := e1 hz3
      rw [hz1] at qb ⊢
      walk_at "rd"
      refine k_ixT (by walk_at "sqT") (at_of (j := z) rfl ha) ?_
      walk_at "rd"
      refine k_ixT (by walk_at "sqT") (at_of (j := 1) rfl (by rw [List.getElem?_map, hu1]; rfl)) ?_
      walk_at "rd"
      rw [Int.toNat_natCast] at qb
      refine ite2 (fun hu => ?_) (fun hu => ?_)
      · walk_at "rd"
        refine k_max1 (ns := DD) (by walk_at "sqL") (List.length_pos_iff.mpr h2') fun m hm1 hm2 => ?_
        have em : m = (M' : Int) := Int.le_antisymm (hM2 m hm1) (hm2 _ hM1)
        walk_at "rd"
        subst em
        rw [decide_eq_true (hu2.mp hu), Bool.true_and] at qb
        exact qb _ (Same.refl _)
      · rw [decide_eq_false (fun e => hu (hu2.mpr e)), Bool.false_and] at qb
        exact qb _ (Same.refl _)
    rw [List.length_map] at hlate
    have hlate' : H3 late = some (.lst ((((List.range NN.length).filter fun i => decide (ws.getD (NN.getD i 0).toNat [] = sMA) && decide ((M' : Int) < NN.getD i 0)).map fun i => NN.getD i 0).map V.int)) := by
      rw [hlate, List.map_map]
      rfl
    have elate : (((List.range NN.length).filter fun i => decide (ws.getD (NN.getD i 0).toNat [] = sMA) && decide ((M' : Int) < NN.getD i 0)).map fun i => NN.getD i 0).isEmpty = true ↔ ∀ k : Nat, ws[k]? = some sMA → k ≤ M' := by
      rw [List.isEmpty_iff, List.map_eq_nil_iff, List.filter_eq_nil_iff]
      constructor
      · intro h z hz
        have hzl := (List.getElem?_eq_some_iff.mp hz).1
        have zm : ((z : Nat) : Int) ∈ NN := by
          rw [← hNN]
          exact intsF_mem.mpr ⟨z, rfl, hzl, by rw [getD_of hz]; decide⟩
        obtain ⟨i, hi⟩ := List.mem_iff_getElem?.mp zm
        have hil := (List.getElem?_eq_some_iff.mp hi).1
        have q := h i (List.mem_range.mpr hil)
        have e : NN.getD i 0 = (z : Int) := by rw [List.getD_eq_getElem?_getD, hi]; rfl
        rw [e, Int.toNat_natCast, getD_of hz] at q
        have q2 : ¬ ((M' : Int) < (z : Int)) := fun h => q (by simp [h])
        omega
      · intro h i hi
        obtain ⟨z, hz1, hz2, hz3⟩ := nnAt i (List.mem_range.mp hi)
        rw [hz1, Int.toNat_natCast]
        intro q
        rw [Bool.and_eq_true] at q
        have q1 := of_decide_eq_true q.1
        have q2 := of_decide_eq_true q.2
        have q3 := h z (by rw [of_getD hz2, q1])
        omega
    have dropIff : (∀ k : Nat, ws[k]? = some sMA → k ≤ M') ↔ Dropped ws := by
      have hMd : ws[M']? = some sDR := by rw [of_getD hM3, hM4]
      constructor
      · intro h
        refine ⟨⟨M', hMd⟩, fun z hz => ⟨M', ?_, hMd⟩⟩
        have h1 := h z hz
        have h2 : z ≠ M' := by
          rintro rfl
          rw [hMd] at hz
          exact absurd (Option.some.inj hz) (by decide)
        omega
      · rintro ⟨_, h⟩ z hz
        obtain ⟨j, hj, hd⟩ := h z hz
        have hjm : (j : Int) ≤ M' := hM2 _ (by rw [← hDD]; exact intsF_mem.mpr ⟨j, rfl, (List.getElem?_eq_some_iff.mp hd).1, by rw [getD_of hd]; simp⟩)
        omega
    revert hlate' elate
    generalize (((List.range NN.length).filter fun i => decide (ws.getD (NN.getD i 0).toNat [] = sMA) && decide ((M' : Int) < NN.getD i 0)).map fun i => NN.getD i 0) = LL
    intro hlate' elate
    walk_at "rd"
    refine k_neNil (ns := LL) (by walk_at "sqL") (by walk_at "sqL") ?_
    walk_at "rd"
    cases hLL : LL.isEmpty with
    | false =>
      walk_at "rd"
      refine kNo (by walk_at "sm") (.inr (.inr (.inr (.inl fun d => ?_))))
      rw [elate.mpr (dropIff.mpr d)] at hLL
      cases hLL
    | true =>
      have hD : Dropped ws := dropIff.mp (elate.mp hLL)
      walk_at "rd"
      refine k_nin_st ws (show SqT K _ _ (sLF.map V.str) from SqT.of upd_same) (R' _ (by walk_at "sm")) (by decide) hm ?_
      walk_at "rd"
      by_cases h5 : sLF ∈ ws
      · simp only [decide_eq_true h5]
        walk_at "rd"
        refine k_nin_st ws (show SqT K _ _ (sSA.map V.str) from SqT.of upd_same) (R' _ (by walk_at "sm")) (by decide) hm ?_
        walk_at "rd"
        by_cases h6 : sSA ∈ ws
        · simp only [decide_eq_true h6]
          walk_at "rd"
          refine k_rng1 (by omega) (by omega) ?_
          refine k_lcFil walk_range (fun i => .int (0 + (i : Int))) (fun i => decide (ws.getD i [] = sTF) && decide ((N' : Int) < 0 + (i : Int))) (by omega) (by simp) (fun _ _ => True.intro) (fun i H1 x H2 _ _ y => y) (fun i H4 Qb hi s4 qb => ?_) fun ties H4 nt s4 hties => ?_
          · obtain ⟨a, ha, hs, hm1⟩ := stepAt i (by omega)
            walk_at "rd"
            refine k_ixT (by walk_at "sqT") (at_of (j := i) (by omega) ha) ?_
            walk_at "rd"
            refine k_eq_st sTF (by walk_at "sqT") (SqT.of upd_same) hm1 (by decide) ?_
            walk_at "rd"
            refine ite2 (fun hu => ?_) (fun hu => ?_)
            · walk_at "rd"
              refine k_min1 (ns := NN) (by walk_at "sqL") (List.length_pos_iff.mpr h1') fun m hm1 hm2 => ?_
              have em : m = (N' : Int) := Int.le_antisymm (hm2 _ hN1) (hN2 m hm1)
              walk_at "rd"
              subst em
              rw [decide_eq_true hu, Bool.true_and] at qb
              exact qb _ (by walk_at "sm")
            · rw [decide_eq_false hu, Bool.false_and] at qb
              exact qb _ (by walk_at "sm")
          rw [e0, intsF_map] at hties
          walk_at "rd"
          refine k_neNil (by walk_at "sqL") (by walk_at "sqL") ?_
          have fin : due ws = !(intsF (fun i => decide (ws.getD i [] = sTF) && decide ((N' : Int) < 0 + (i : Int))) ws.length).isEmpty := by
            have hmk : ∃ y ∈ ws, isMk y = true := ⟨ws.getD N' [], List.mem_of_getElem? (of_getD hN3), hN4⟩
            have hst : sSA ∈ ws ∨ sSF ∈ ws := by first | exact .inl (by assumption) | exact .inr (by assumption)
            have hsp : ¬ (sLA ∈ ws ∨ sTA ∈ ws) := fun h => h.elim h3 h4
            have tieIff : (intsF (fun i => decide (ws.getD i [] = sTF) && decide ((N' : Int) < 0 + (i : Int))) ws.length).isEmpty = true ↔ ¬ Tied ws := by
              rw [intsF_empty]
              constructor
              · rintro h ⟨j, z, hjz, ⟨y, hy, my⟩, hz⟩
                have q := h z (List.getElem?_eq_some_iff.mp hz).1
                have hjm : (N' : Int) ≤ j := hN2 _ (by rw [← hNN]; exact intsF_mem.mpr ⟨j, rfl, (List.getElem?_eq_some_iff.mp hy).1, by rw [getD_of hy]; exact my⟩)
                rw [getD_of hz] at q
                have q2 : ¬ ((N' : Int) < 0 + (z : Int)) := fun h => by
                  rw [decide_eq_true rfl, decide_eq_true h] at q
                  cases q
                omega
              · intro h z hz
                cases q : (decide (ws.getD z [] = sTF) && decide ((N' : Int) < 0 + (z : Int))) with
                | false => rfl
                | true =>
                  rw [Bool.and_eq_true] at q
                  have q1 := of_decide_eq_true q.1
                  have q2 := of_decide_eq_true q.2
                  exact absurd ⟨N', z, by omega, ⟨_, of_getD hN3, hN4⟩, by rw [of_getD hz, q1]⟩ h
            rw [Bool.eq_iff_iff, due_tied hmk hst h5 hD hsp]
            cases q : (intsF (fun i => decide (ws.getD i [] = sTF) && decide ((N' : Int) < 0 + (i : Int))) ws.length).isEmpty with
            | true => exact ⟨fun t => absurd t (tieIff.mp q), fun t => nomatch t⟩
            | false =>
              refine ⟨fun _ => rfl, fun _ => Classical.byContradiction fun h => ?_⟩
              rw [tieIff.mpr h] at q
              cases q
          rw [← fin]
          walk_at "rd"
          exact k _ (by walk_at "sm")
        · simp only [decide_eq_false h6]
          walk_at "rd"
          refine k_nin_st ws (show SqT K _ _ (sSF.map V.str) from SqT.of upd_same) (R' _ (by walk_at "sm")) (by decide) hm ?_
          walk_at "rd"
          by_cases h7 : sSF ∈ ws
          · simp only [decide_eq_true h7]
            walk_at "rd"
            refine k_rng1 (by omega) (by omega) ?_
            refine k_lcFil walk_range (fun i => .int (0 + (i : Int))) (fun i => decide (ws.getD i [] = sTF) && decide ((N' : Int) < 0 + (i : Int))) (by omega) (by simp) (fun _ _ => True.intro) (fun i H1 x H2 _ _ y => y) (fun i H4 Qb hi s4 qb => ?_) fun ties H4 nt s4 hties => ?_
            · obtain ⟨a, ha, hs, hm1⟩ := stepAt i (by omega)
              walk_at "rd"
              refine k_ixT (by walk_at "sqT") (at_of (j := i) (by omega) ha) ?_
              walk_at "rd"
              refine k_eq_st sTF (by walk_at "sqT") (SqT.of upd_same) hm1 (by decide) ?_
              walk_at "rd"
              refine ite2 (fun hu => ?_) (fun hu => ?_)
              · walk_at "rd"
                refine k_min1 (ns := NN) (by walk_at "sqL") (List.length_pos_iff.mpr h1') fun m hm1 hm2 => ?_
                have em : m = (N' : Int) := Int.le_antisymm (hm2 _ hN1) (hN2 m hm1)
                walk_at "rd"
                subst em
                rw [decide_eq_true hu, Bool.true_and] at qb
                exact qb _ (by walk_at "sm")
              · rw [decide_eq_false hu, Bool.false_and] at qb
                exact qb _ (by walk_at "sm")
            rw [e0, intsF_map] at hties
            walk_at "rd"
            refine k_neNil (by walk_at "sqL") (by walk_at "sqL") ?_
            have fin : due ws = !(intsF (fun i => decide (ws.getD i [] = sTF) && decide ((N' : Int) < 0 + (i : Int))) ws.length).isEmpty := by
              have hmk : ∃ y ∈ ws, isMk y = true := ⟨ws.getD N' [], List.mem_of_getElem? (of_getD hN3), hN4⟩
              have hst : sSA ∈ ws ∨ sSF ∈ ws := by first | exact .inl (by assumption) | exact .inr (by assumption)
              have hsp : ¬ (sLA ∈ ws ∨ sTA ∈ ws) := fun h => h.elim h3 h4
              have tieIff : (intsF (fun i => decide (ws.getD i [] = sTF) && decide ((N' : Int) < 0 + (i : Int))) ws.length).isEmpty = true ↔ ¬ Tied ws := by
                rw [intsF_empty]
                constructor
                · rintro h ⟨j, z, hjz, ⟨y, hy, my⟩, hz⟩
                  have q := h z (List.getElem?_eq_some_iff.mp hz).1
                  have hjm : (N' : Int) ≤ j := hN2 _ (by rw [← hNN]; exact intsF_mem.mpr ⟨j, rfl, (List.getElem?_eq_some_iff.mp hy).1, by rw [getD_of hy]; exact my⟩)
                  rw [getD_of hz] at q
                  have q2 : ¬ ((N' : Int) < 0 + (z : Int)) := fun h => by
                    rw [decide_eq_true rfl, decide_eq_true h] at q
                    cases q
                  omega
                · intro h z hz
                  cases q : (decide (ws.getD z [] = sTF) && decide ((N' : Int) < 0 + (z : Int))) with
                  | false => rfl
                  | true =>
                    rw [Bool.and_eq_true] at q
                    have q1 := of_decide_eq_true q.1
                    have q2 := of_decide_eq_true q.2
                    exact absurd ⟨N', z, by omega, ⟨_, of_getD hN3, hN4⟩, by rw [of_getD hz, q1]⟩ h
              rw [Bool.eq_iff_iff, due_tied hmk hst h5 hD hsp]
              cases q : (intsF (fun i => decide (ws.getD i [] = sTF) && decide ((N' : Int) < 0 + (i : Int))) ws.length).isEmpty with
              | true => exact ⟨fun t => absurd t (tieIff.mp q), fun t => nomatch t⟩
              | false =>
                refine ⟨fun _ => rfl, fun _ => Classical.byContradiction fun h => ?_⟩
                rw [tieIff.mpr h] at q
                cases q
            rw [← fin]
            walk_at "rd"
            exact k _ (by walk_at "sm")
          · simp only [decide_eq_false h7]
            walk_at "rd"
            exact kNo (by walk_at "sm") (.inr (.inr (.inr (.inr (.inr fun h => h.elim h6 h7)))))
      · simp only [decide_eq_false h5]
        walk_at "rd"
        exact kNo (by walk_at "sm") (.inr (.inr (.inr (.inr (.inl h5)))))
end
end Y


set_option Elab.async false
set_option linter.all false
set_option maxRecDepth 100000
namespace Y
open PySem L2
local macro_rules | `(tactic| walk_at "ne") => `(tactic| first
  | with_reducible assumption
  | ((with_reducible apply Ne.symm); (focus with_reducible assumption))
  | ((with_reducible apply ne_new); (focus with_reducible assumption); (focus walk_at "hp"))
  | ((with_reducible apply ne_new'); (focus with_reducible assumption); (focus walk_at "hp")))
local macro_rules | `(tactic| walk_at "hp1") => `(tactic| first
  | ((with_reducible apply lk_new2); (focus with_reducible assumption))
  | ((with_reducible apply lk_ne2); (focus walk_at "ne"))
  | ((with_reducible apply Same.get); (focus with_reducible assumption))
  | ((with_reducible apply But.get2); (focus with_reducible assumption); (focus walk_at "ne")))
local macro_rules | `(tactic| walk_at "hp") => `(tactic| first
  | with_reducible assumption
  | with_reducible exact upd_same
  | ((walk_at "hp1"); (walk_at "hp")))
local macro_rules | `(tactic| walk_at "sm1") => `(tactic| first
  | ((with_reducible apply Same.linkN); (focus with_reducible assumption))
  | ((with_reducible apply Same.linkU); (focus with_reducible assumption))
  | ((with_reducible apply Same.link); (focus with_reducible assumption))
  | ((with_reducible apply Same.linkV); (focus with_reducible assumption); (focus walk_at "sm")))
local macro_rules | `(tactic| walk_at "sm") => `(tactic| first
  | with_reducible assumption
  | with_reducible exact Same.refl _
  | ((walk_at "sm1"); (walk_at "sm")))
local macro_rules | `(tactic| walk_at "bt1") => `(tactic| first
  | ((with_reducible apply But.linkN); (focus with_reducible assumption))
  | ((with_reducible apply But.linkU); (focus with_reducible assumption))
  | (with_reducible apply But.linkA)
  | ((with_reducible apply But.link); (focus with_reducible assumption))
  | ((with_reducible apply But.linkS); (focus with_reducible assumption)))
local macro_rules | `(tactic| walk_at "bt") => `(tactic| first
  | with_reducible assumption
  | with_reducible exact But.refl _ _
  | ((walk_at "bt1"); (walk_at "bt")))
local macro_rules | `(tactic| walk_at "rs") => `(tactic| simp only [e_C, e_var0, e_varS, e_op, e_op1, e_un, e_fld, e_tup, e_lst, e_cons, e_cons1, e_cons2, e_nil, e_call, e_call1, e_CB, e_meth, e_make, e_B, e_test, e_B1, e_if, e_if1, e_ifS, e_ifS1, e_and, e_andc, e_or, e_orc, e_not, e_not1, e_andV, e_andVc, e_orV, e_orVc, e_notV, e_notV1, e_seq, e_next, e_break, e_cont, e_drop, e_drop1, e_ret, e_retN, e_asg, e_name, e_part, e_part1, e_noPart, e_sl, e_sl1, e_sl2, e_sl3, o_add_int, o_I0, o_un, c_int, c_intB, c_abs, c_max, c_min, k_isN, k_notN, k_isB, k_notB, e_sub, e_sub1, cx_K, cx_noxK, e_for, e_rng1, e_rng2, e_seqI, e_enumT, e_enum, e_gname, e_lc, e_lcT, e_yes, e_bm, e_par, e_par1, e_par3, e_par31, e_chain, e_chain1, e_chain2, e_chain3, e_sfld, e_sfld1, List.set, ite_true, ite_false, eq_self, Bool.false_eq_true, decide_eq_true_eq, L2.start, List.map, List.length_cons, List.length_nil, List.replicate, Nat.add_one_sub_one, Nat.sub_self, List.nil_append, List.cons_append, Int.reduceToNat, Int.reducePow, Int.reduceMul, Int.reduceAdd, Int.reduceSub, Int.reduceNeg, Int.reduceLT, Int.reduceLE, Int.reduceEq, Bool.not_false, Bool.not_true, L2.wipe, e_never, e_tupZ, e_tC, e_m1, e_m1a, e_m1b, e_asgT, e_gcons, e_gnil, e_callD, e_opS, e_raise, e_mkErr, e_fldErr, decide_true, decide_false, not_true_eq_false, not_false_eq_true, reduceCtorEq])
local macro_rules | `(tactic| walk_at "sd") => `(tactic| first
  | assumption
  | decide
  | omega
  | (dsimp only; omega)
  | exact wide_div (b := 450) (by omega) (by omega) (by decide) (by decide)
  | exact mulX (a := 450) (b := 450) (by omega) (by omega) (by decide) (by decide) (by decide)
  | exact powW (b := 450) (by omega) (by omega) (by decide) (by decide))
local macro_rules | `(tactic| walk_at "sl") => `(tactic| first | omega | (simp only [List.length_cons, List.length_nil, List.length_append]; omega))
local macro_rules | `(tactic| walk_at "sqL1") => `(tactic| first
  | ((with_reducible apply sqL_new2); (focus with_reducible assumption))
  | ((with_reducible apply sqL_link); (focus with_reducible assumption)))
local macro_rules | `(tactic| walk_at "sqL") => `(tactic| first
  | with_reducible assumption
  | ((with_reducible apply SqL.of); focus walk_at "hp")
  | ((walk_at "sqL1"); (walk_at "sqL")))
local macro_rules | `(tactic| walk_at "sqT1") => `(tactic| first
  | ((with_reducible apply sqT_new2); (focus with_reducible assumption))
  | ((with_reducible apply sqT_link); (focus with_reducible assumption))
  | ((with_reducible apply sqT_lst); (focus walk_at "hp"))
  | ((with_reducible apply sqT_ins); (focus walk_at "hp")))
local macro_rules | `(tactic| walk_at "sqT") => `(tactic| first
  | with_reducible assumption
  | ((with_reducible apply SqT.of); focus walk_at "hp")
  | ((with_reducible apply SqT.ofZ); focus walk_at "hp")
  | ((walk_at "sqT1"); (walk_at "sqT")))
local macro_rules | `(tactic| walk_at "kt") => `(tactic| first
  | with_reducible exact kt_self
  | with_reducible exact kt_int_bool
  | with_reducible exact kt_int_str
  | with_reducible exact kt_int_list
  | with_reducible exact kt_int_tuple
  | with_reducible exact kt_bool_int
  | with_reducible exact kt_bool_str
  | with_reducible exact kt_bool_list
  | with_reducible exact kt_bool_tuple
  | with_reducible exact kt_str_int
  | with_reducible exact kt_str_bool
  | with_reducible exact kt_str_list
  | with_reducible exact kt_str_tuple
  | with_reducible exact kt_non_int
  | with_reducible exact kt_non_bool
  | with_reducible exact kt_non_str
  | with_reducible exact kt_non_list
  | with_reducible exact kt_non_tuple
  | with_reducible exact kt_tuple_int
  | with_reducible exact kt_tuple_bool
  | with_reducible exact kt_tuple_str
  | with_reducible exact kt_tuple_list
  | with_reducible exact kt_list_int
  | with_reducible exact kt_list_bool
  | with_reducible exact kt_list_str
  | with_reducible exact kt_list_tuple
  | with_reducible exact kt_dict_int
  | with_reducible exact kt_dict_bool
  | with_reducible exact kt_dict_str
  | with_reducible exact kt_dict_list
  | with_reducible exact kt_dict_tuple)
local macro_rules | `(tactic| walk_at "tyx") => `(tactic| first
  | with_reducible exact .base (.int _)
  | with_reducible exact .base (.str _)
  | with_reducible exact .base (.bl _)
  | with_reducible exact .base .non
  | ((with_reducible apply tyx_tup); focus walk_at "sqT")
  | ((with_reducible apply tyx_lst); focus walk_at "sqL")
  | ((with_reducible apply TyX.base); (focus ((with_reducible apply TyOf.dK); focus walk_at "hp"))))
local macro_rules | `(tactic| walk_at "isi") => `(tactic| first
  | ((with_reducible apply k_isi); (focus (with_reducible exact (ClsV.ty _))); (focus (walk_at "tyx")); (focus (walk_at "kt")))
  | ((with_reducible apply k_isiT); (focus (walk_at "hp")); (focus (with_reducible exact (.cons (.ty _) (.cons (.ty _) .nil)))); (focus (walk_at "tyx")); (focus (first | with_reducible exact ka_tuple | with_reducible exact ka_list | ((with_reducible apply ka_no); (focus walk_at "kt"); (focus walk_at "kt"))))))
local macro_rules | `(tactic| walk_at "lk") => `(tactic| rfl)
local macro_rules | `(tactic| walk_at "rd1") => `(tactic| first
  | walk_at "rs"
  | ((with_reducible apply k_ixL); (focus (walk_at "sqL")); (focus rfl))
  | ((with_reducible apply k_ixT); (focus (walk_at "sqT")); (focus rfl))
  | ((with_reducible apply k_fld); (focus (walk_at "hp")); (focus (assumption)); (focus (assumption)); (focus (walk_at "lk")))
  | ((with_reducible apply k_sfld); (focus (walk_at "hp")); (focus (assumption)); (focus (assumption)); (focus (walk_at "sl")))
  | ((with_reducible apply k_meth); (focus (walk_at "hp")); (focus (walk_at "lk")))
  | ((with_reducible apply k_I); (focus (walk_at "sd")))
  | ((with_reducible apply k_unp); (focus (walk_at "sqT")); (focus rfl))
  | ((with_reducible apply k_mul); (focus (walk_at "sd")))
  | ((with_reducible apply k_setL); (focus (walk_at "hp")); (focus rfl))
  | ((with_reducible apply k_bmL); (focus (walk_at "hp")))
  | ((with_reducible apply k_append); (focus (walk_at "hp")); (focus (walk_at "sd")))
  | ((with_reducible apply k_extend); (focus (walk_at "hp")); (focus (walk_at "hp")); (focus (walk_at "sl")))
  | ((with_reducible apply k_tup); (focus (walk_at "sl")); intro _ _)
  | ((with_reducible apply k_tupZ); (focus (walk_at "sl")); intro _ _ _ _ _)
  | ((with_reducible apply k_lst); (focus (walk_at "sl")); intro _ _)
  | ((with_reducible apply k_lenS); (focus ((with_reducible apply Or.inl); walk_at "sqL")))
  | ((with_reducible apply k_lenS); (focus ((with_reducible apply Or.inr); walk_at "sqT")))
  | ((with_reducible apply k_seqL); (focus (walk_at "sqL")))
  | ((with_reducible apply k_seqT); (focus (walk_at "sqT")))
  | ((with_reducible apply k_enumT); (focus (walk_at "sqT")))
  | walk_at "isi"
  | ((with_reducible apply k_tupOfL); (focus (walk_at "sqL")); intro _ _)
  | ((with_reducible apply k_tupOfT); (focus (walk_at "sqT")))
  | ((with_reducible apply k_listOf); (focus ((with_reducible apply Or.inl); walk_at "sqL")); intro _ _)
  | ((with_reducible apply k_listOf); (focus ((with_reducible apply Or.inr); walk_at "sqT")); intro _ _)
  | (with_reducible apply k_eq_int)
  | (with_reducible apply k_ne_int)
  | (with_reducible apply k_eq_str)
  | (with_reducible apply k_ne_str)
  | (with_reducible apply k_eq_bl)
  | (with_reducible apply k_ne_bl))
local macro_rules | `(tactic| walk_at "rd") => `(tactic| repeat walk_at "rd1")

def lackN : MK → Nat := fun (a, b, c, d, e) => [a, b, c, d, e].countP fun x => !x
def mkI : MK → List V := fun (a, b, c, d, e) => [a, d, b, c, e].map fun x => V.int (if x then 1 else 0)
def MiAt (K : PySem.W.Frag) (H : Hp) (v : V) : Option MK → Prop
  | none => v = .non
  | some m => ∃ a, v = .ref a ∧ SqT K H a (mkI m)
theorem MiAt.same {K : PySem.W.Frag} {H H' : Hp} {v : V} {m : Option MK} (h : MiAt K H v m) (s : Same H H') : MiAt K H' v m := by
  cases m with
  | none => exact h
  | some m =>
    obtain ⟨a, e, h⟩ := h
    exact ⟨a, e, sqT_mono (SameT.of s) h⟩
theorem mk_count (m : MK) : (match mkD (some m) with | .tuple ds => ds.countP (fun z => PyData.eqv z (.bool false)) | _ => 0) = lackN m := by
  obtain ⟨x1, x2, x3, x4, x5⟩ := m
  cases x1 <;> cases x2 <;> cases x3 <;> cases x4 <;> cases x5 <;> rfl
def told (m : Option MK) : V := match m with
  | none => .non
  | some m => .int (lackN m : Nat)
def spBegin (K : PySem.W.Frag) (C : Addr) : Sp := fun vs H Q _ => ∃ (p : Addr) (ws : List (List Str)), vs = [.ref p] ∧ ScrAt K C H p ws ∧ ∀ H', Same H H' → Q (told (marks (some noMK) ws)) H'
def spMark (K : PySem.W.Frag) : Sp := fun vs H Q _ => ∃ (v : V) (s : Addr) (m : Option MK) (x : List Str), vs = [v, .ref s] ∧ MiAt K H v m ∧ SqT K H s (x.map V.str) ∧ x ∈ menu12 ∧ ∀ (v' : V) (H' : Hp), Same H H' → MiAt K H' v' (markStep m x) → Q v' H'
theorem mark_ex : ∀ x ∈ menu12, (∃ z, x[0]? = some z) ∧ (x[0]? = some ("make" : Str) ∨ x[0]? = some ("start" : Str) → ∃ z, x[1]? = some z) := by
  intro x hx
  have h : ∀ x ∈ menu12, 0 < x.length ∧ (x[0]? = some ("make" : Str) ∨ x[0]? = some ("start" : Str) → 1 < x.length) := by decide
  obtain ⟨h1, h2⟩ := h x hx
  exact ⟨⟨_, List.getElem?_eq_getElem h1⟩, fun e => ⟨_, List.getElem?_eq_getElem (h2 e)⟩⟩
theorem mark_m0 : ∀ x ∈ menu12, (x[0]? = some ("make" : Str) → x[1]? = some ("standing" : Str) → x = sMS) := by decide +kernel
theorem mark_m1 : ∀ x ∈ menu12, (x[0]? = some ("make" : Str) → x[1]? ≠ some ("standing" : Str) → x = sMA) := by decide +kernel
theorem mark_m2 : ∀ x ∈ menu12, (x[0]? = some ("drop" : Str) → x = sDR) := by decide +kernel
theorem mark_m3 : ∀ x ∈ menu12, (x[0]? = some ("start" : Str) → x[1]? ≠ some ("new" : Str) → x ∈ [sSA, sSF]) := by decide +kernel
theorem mark_m4 : ∀ x ∈ menu12, (x[0]? = some ("start" : Str) → x[1]? = some ("new" : Str) → x ∉ [sSA, sSF]) := by decide +kernel
theorem mark_m5 : ∀ x ∈ menu12, (x[0]? ≠ some ("make" : Str) → x ≠ sMA ∧ x ≠ sMS) := by decide +kernel
theorem mark_m6 : ∀ x ∈ menu12, (x[0]? ≠ some ("drop" : Str) → x ≠ sDR) := by decide +kernel
theorem mark_m7 : ∀ x ∈ menu12, (x[0]? ≠ some ("start" : Str) → x ∉ [sSA, sSF]) := by decide +kernel
theorem mark_ne : sMA ≠ sMS ∧ sMS ∉ [sLA, sTA] ∧ sMS ≠ sMA ∧ sDR ∉ [sLA, sTA] ∧ sDR ≠ sMA ∧ sDR ≠ sMS ∧ sDR ∉ [sSA, sSF] ∧ sDR ≠ sLF ∧ sDR ≠ sTF ∧ sTF ≠ sLF := by decide
set_option maxHeartbeats 4000000
section
variable {P : Program} {w : World} {K : PySem.W.Frag} {mg : Str → Option Value} {base : Heap}
theorem ok_can_begin (T : Txt P K mg) : FnOk P w K mg base CX0 3 T.f_can_begin T.d_can_begin ["script"] (spBegin K T.a_Script) := by
  refine T.F_can_begin.ok sc_can_begin (fun vs H Q E h => ?_) (fun cdv A outer s H vs Q E hr h => ?_)
  · obtain ⟨p, ws, rfl, _⟩ := h
    rfl
  · obtain ⟨p, ws, rfl, S, k⟩ := h
    obtain ⟨ds, hv_marks_of, hb_marks_of⟩ := T.bd_marks_of
    refine ⟨_, (pss_cons (ps_set (i := 1) sc_can_begin.nd rfl (Or.inl rfl) (pe_call (ok_marks_of T) (hr.mono (by decide)) (by rfl) T.m_marks_of T.F_marks_of.kp hb_marks_of hv_marks_of pass0 (pa_cons (pe_meth0 (pv 0) T.cl_Script T.me_Script_steps (ok_Script_steps T) (hr.mono (by decide)) T.b_Script_steps .nil pass0) pa_nil)))
  (pss_cons (ps_if (pt_cmpR op_isU (pv 1) pe_non (nomark _)) (pss_one (ps_ret pe_non)) pss_nil)
  (pss_one (ps_ret (pe_tcount K (hu65 hr) (pv 1) (pa_cons pe_bl pa_nil)))))), ?_⟩
    obtain ⟨⟨dx, l, xs, h1, h2, h3⟩, h4, h5⟩ := id S
    walk_at "rd"
    refine ⟨p, ws, rfl, S, fun r H1 nr s1 R1 => ?_⟩
    walk_at "rd"
    have hN : MkAt K H1 (.ref T.a_NO_MARKS) (some noMK) := ⟨_, rfl, T.tz_NO_MARKS H1⟩
    refine ⟨r, _, ws, _, rfl, R1, h5, hN, fun v2 H2 s2 M2 => ?_⟩
    cases hm : marks (some noMK) ws with
    | none =>
      rw [hm] at k M2
      cases M2
      walk_at "rd"
      exact k H2 (s1.trans s2)
    | some m =>
      rw [hm] at k M2
      have D2 := M2.dp
      obtain ⟨a, rfl, hz⟩ := M2
      walk_at "rd"
      refine k_tC hz ?_
      walk_at "rd"
      have hc := mk_count m
      have hs := mk_shaped (some m)
      obtain ⟨x1, x2, x3, x4, x5⟩ := m
      refine k_countT D2 (.bl false) hs (by decide) ?_
      rw [show (List.countP (fun z => PyData.eqv z (.bool false)) [.bool x1, .bool x2, .bool x3, .bool x4, .bool x5]) = lackN (x1, x2, x3, x4, x5) from hc]
      exact k H2 (s1.trans s2)
theorem ok__law_mark (T : Txt P K mg) : FnOk P w K mg base CX0 1 T.f__law_mark T.d__law_mark ["marks", "step"] (spMark K) := by
  refine T.F__law_mark.ok sc__law_mark (fun vs H Q E h => ?_) (fun cdv A outer s H vs Q E hr h => ?_)
  · obtain ⟨v, s, m, x, rfl, _⟩ := h
    rfl
  · obtain ⟨v, st, m, x, rfl, hM, hs, hx, k⟩ := h
    refine ⟨_, (pss_cons (ps_if (PW.pt (pw_or (pt_cmpR op_isU (pv 0) pe_non (nomark _)) (pw_or1 (pt_cmpR (op_inUk K (hu65 hr)) (pv 1) (pe_tup (pa_cons (pe_tup (pa_cons pe_str (pa_cons pe_str pa_nil))) (pa_cons (pe_tup (pa_cons pe_str (pa_cons pe_str pa_nil))) pa_nil))) (by rfl))))) (pss_one (ps_ret pe_non)) pss_nil)
  (pss_cons (ps_set (i := 2) sc__law_mark.nd rfl (Or.inl rfl) (pe_callTy (call_list_ofk K) (by rfl) T.m_list b_list (pa_cons (pv 0) pa_nil)))
  (pss_cons (ps_if (pt_cmpR (op_eqUk K (hu65 hr)) (pe_ix (ix_seqk K) (pv 1) pe_int (fun _ _ => rfl)) pe_str (nomark _)) (pss_cons (ps_asg pe_int (pg_sub (pv 2) pe_int set_list))
  (pss_one (ps_asg (pe_ifExp (pt_cmpR (op_eqUk K (hu65 hr)) (pe_ix (ix_seqk K) (pv 1) pe_int (fun _ _ => rfl)) pe_str (nomark _)) (pe_ix (ix_seqk K) (pv 2) pe_int (fun _ _ => rfl)) pe_int) (pg_sub (pv 2) pe_int set_list)))) (pss_one (ps_if (pt_cmpR (op_eqUk K (hu65 hr)) (pe_ix (ix_seqk K) (pv 1) pe_int (fun _ _ => rfl)) pe_str (nomark _)) (pss_one (ps_asg pe_int (pg_sub (pv 2) pe_int set_list))) (pss_one (ps_if (PW.pt (pw_and (pt_cmpR (op_eqUk K (hu65 hr)) (pe_ix (ix_seqk K) (pv 1) pe_int (fun _ _ => rfl)) pe_str (nomark _)) (pw_and1 (pt_cmpR (op_neUk K (hu65 hr)) (pe_ix (ix_seqk K) (pv 1) pe_int (fun _ _ => rfl)) pe_str (nomark _))))) (pss_one (ps_asg pe_int (pg_sub (pv 2) pe_int set_list))) (pss_one (ps_if (pt_cmpR (op_eqUk K (hu65 hr)) (pv 1) (pe_tup (pa_cons pe_str (pa_cons pe_str pa_nil))) (nomark _)) (pss_one (ps_asg pe_int (pg_sub (pv 2) pe_int set_list))) (pss_one (ps_if (pt_cmpR (op_eqUk K (hu65 hr)) (pv 1) (pe_tup (pa_cons pe_str (pa_cons pe_str pa_nil))) (nomark _)) (pss_one (ps_asg (pe_callB (call_max2 rfl) (by rfl) T.m_max b_max (pa_cons (pe_ix (ix_seqk K) (pv 2) pe_int (fun _ _ => rfl)) (pa_cons (pe_ix (ix_seqk K) (pv 2) pe_int (fun _ _ => rfl)) pa_nil))) (pg_sub (pv 2) pe_int set_list))) pss_nil)))))))))
  (pss_one (ps_ret (pe_callTy (call_tuple_ofk K) (by rfl) T.m_tuple b_tuple (pa_cons (pv 2) pa_nil))))))), ?_⟩
    cases m with
    | none =>
      cases hM
      walk_at "rd"
      exact k _ H (Same.refl H) rfl
    | some m =>
      obtain ⟨x1, x2, x3, x4, x5⟩ := m
      obtain ⟨a, rfl, ha⟩ := hM
      have ha' : SqT K H a [.int (if x1 then 1 else 0), .int (if x4 then 1 else 0), .int (if x2 then 1 else 0), .int (if x3 then 1 else 0), .int (if x5 then 1 else 0)] := ha
      have ms : markStep (some (x1, x2, x3, x4, x5)) x = if x ∈ [sLA, sTA] then none else if x = sMA then some (true, x2, x3, x4, false) else if x = sMS then some (true, x2, x3, x4, x5) else if x ∈ [sSA, sSF] then some (x1, true, x3, x4, x5)
        else if x = sLF then some (x1, x2, true, x4, x5) else if x = sTF then some (x1, x2, x3, x4 || x1, x5) else if x = sDR then some (x1, x2, x3, x4, true) else some (x1, x2, x3, x4, x5) := rfl
      rw [ms] at k
      have b2 : ∀ (y1 y4 y2 y3 y5 : Bool) (H1 : Hp) (t : Addr), Same H H1 → H1 t = none → (∀ (v' : V) (H' : Hp), Same H H' → MiAt K H' v' (some (y1, y2, y3, y4, y5)) → Q v' H') →
          Q (.ref t) (upd H1 t (.tup [.int (if y1 then 1 else 0), .int (if y4 then 1 else 0), .int (if y2 then 1 else 0), .int (if y3 then 1 else 0), .int (if y5 then 1 else 0)])) :=
        fun y1 y4 y2 y3 y5 H1 t s n k => k _ _ (s.trans (Same.new n)) ⟨t, rfl, SqT.of upd_same⟩
      obtain ⟨⟨z0, hz0⟩, ex1⟩ := mark_ex x hx
      have mMS := mark_m0 x hx
      have mMA := mark_m1 x hx
      have mDR := mark_m2 x hx
      have mS1 := mark_m3 x hx
      have mS2 := mark_m4 x hx
      have nMake := mark_m5 x hx
      have nDrop := mark_m6 x hx
      have nStart := mark_m7 x hx
      have hi0 : atI (x.map V.str) 0 = some (.str z0) := at_of (j := 0) rfl (by rw [List.getElem?_map, hz0]; rfl)
      have at1 : ∀ z, x[1]? = some z → atI (x.map V.str) 1 = some (.str z) := fun z hz => at_of (j := 1) rfl (by rw [List.getElem?_map, hz]; rfl)
      have e1 : (1 : Int) = if true = true then 1 else 0 := rfl
      have e0 : (0 : Int) = if false = true then 1 else 0 := rfl
      walk_at "rd"
      refine k_in_st [sLA, sTA] (by walk_at "sqT") ⟨_, SqT.of upd_same, .cons ⟨_, rfl, (show SqT K _ _ [V.str "label", V.str "all"] by walk_at "sqT")⟩ (.cons ⟨_, rfl, (show SqT K _ _ [V.str "tie", V.str "all"] by walk_at "sqT")⟩ .nil)⟩ hx (by unfold InMenu; decide) ?_
      walk_at "rd"
      refine ite2 (fun h1 => ?_) (fun h1 => ?_)
      · walk_at "rd"
        rw [if_pos h1] at k
        exact k _ _ (by walk_at "sm") rfl
      rw [if_neg h1] at k
      walk_at "rd"
      refine k_ixT (by walk_at "sqT") hi0 ?_
      walk_at "rd"
      refine ite2 (fun h2 => ?_) (fun h2 => ?_)
      · subst h2
        obtain ⟨z1, hz1⟩ := ex1 (.inl hz0)
        walk_at "rd"
        refine k_ixT (by walk_at "sqT") (at1 z1 hz1) ?_
        walk_at "rd"
        refine ite2 (fun h3 => ?_) (fun h3 => ?_)
        · have ex : x = sMS := mMS hz0 (by rw [hz1, h3])
          rw [if_neg (by rw [ex]; decide), if_pos ex] at k
          walk_at "rd"
          exact b2 true x4 x2 x3 x5 _ _ (by walk_at "sm") (by assumption) k
        · have ex : x = sMA := mMA hz0 (by rw [hz1]; exact fun e => h3 (Option.some.inj e))
          rw [if_pos ex] at k
          walk_at "rd"
          exact b2 true x4 x2 x3 false _ _ (by walk_at "sm") (by assumption) k
      have n0 : x[0]? ≠ some ("make" : Str) := by rw [hz0]; exact fun e => h2 (Option.some.inj e)
      rw [if_neg (nMake n0).1, if_neg (nMake n0).2] at k
      walk_at "rd"
      refine k_ixT (by walk_at "sqT") hi0 ?_
      walk_at "rd"
      refine ite2 (fun h3 => ?_) (fun h3 => ?_)
      · subst h3
        have ex : x = sDR := mDR hz0
        rw [if_neg (by rw [ex]; decide), if_neg (by rw [ex]; decide), if_neg (by rw [ex]; decide), if_pos ex] at k
        walk_at "rd"
        exact b2 x1 x4 x2 x3 true _ _ (by walk_at "sm") (by assumption) k
      have n3 := nDrop (by rw [hz0]; exact fun e => h3 (Option.some.inj e))
      -- what is left: neither a make nor a drop nor a start that counts
      have rest : x ∉ [sSA, sSF] → _ := fun hn => by
        rw [if_neg hn] at k
        exact k
      walk_at "rd"
      refine k_ixT (by walk_at "sqT") hi0 ?_
      walk_at "rd"
      refine ite2 (fun h4 => ?_) (fun h4 => ?_)
      · subst h4
        obtain ⟨z1, hz1⟩ := ex1 (.inr hz0)
        walk_at "rd"
        refine k_ixT (by walk_at "sqT") (at1 z1 hz1) ?_
        walk_at "rd"
        by_cases h5 : z1 = "new"
        · simp only [decide_eq_true h5]
          have k := rest (mS2 hz0 (by rw [hz1, h5]))
          walk_at "rd"
          refine k_eq_st sLF (by walk_at "sqT") (SqT.of upd_same) hx (by decide) ?_
          walk_at "rd"
          refine ite2 (fun h6 => ?_) (fun h6 => ?_)
          · rw [if_pos h6] at k
            walk_at "rd"
            exact b2 x1 x4 x2 true x5 _ _ (by walk_at "sm") (by assumption) k
          rw [if_neg h6] at k
          walk_at "rd"
          refine k_eq_st sTF (by walk_at "sqT") (SqT.of upd_same) hx (by decide) ?_
          walk_at "rd"
          refine ite2 (fun h7 => ?_) (fun h7 => ?_)
          · rw [if_pos h7] at k
            walk_at "rd"
            have em : (if (if x1 = true then (1 : Int) else 0) > (if x4 = true then 1 else 0) then (if x1 = true then (1 : Int) else 0) else if x4 = true then 1 else 0) = if (x4 || x1) = true then 1 else 0 := by
              cases x1 <;> cases x4 <;> rfl
            simp only [em] at *
            exact b2 x1 (x4 || x1) x2 x3 x5 _ _ (by walk_at "sm") (by assumption) k
          rw [if_neg h7, if_neg n3] at k
          walk_at "rd"
          exact b2 x1 x4 x2 x3 x5 _ _ (by walk_at "sm") (by assumption) k
        · have ex := mS1 hz0 (by rw [hz1]; exact fun e => h5 (Option.some.inj e))
          rw [if_pos ex] at k
          simp only [decide_eq_false h5]
          walk_at "rd"
          exact b2 x1 x4 true x3 x5 _ _ (by walk_at "sm") (by assumption) k
      · have k := rest (nStart (by rw [hz0]; exact fun e => h4 (Option.some.inj e)))
        walk_at "rd"
        refine k_eq_st sLF (by walk_at "sqT") (SqT.of upd_same) hx (by decide) ?_
        walk_at "rd"
        refine ite2 (fun h6 => ?_) (fun h6 => ?_)
        · rw [if_pos h6] at k
          walk_at "rd"
          exact b2 x1 x4 x2 true x5 _ _ (by walk_at "sm") (by assumption) k
        rw [if_neg h6] at k
        walk_at "rd"
        refine k_eq_st sTF (by walk_at "sqT") (SqT.of upd_same) hx (by decide) ?_
        walk_at "rd"
        refine ite2 (fun h7 => ?_) (fun h7 => ?_)
        · rw [if_pos h7] at k
          walk_at "rd"
          have em : (if (if x1 = true then (1 : Int) else 0) > (if x4 = true then 1 else 0) then (if x1 = true then (1 : Int) else 0) else if x4 = true then 1 else 0) = if (x4 || x1) = true then 1 else 0 := by
            cases x1 <;> cases x4 <;> rfl
          simp only [em] at *
          exact b2 x1 (x4 || x1) x2 x3 x5 _ _ (by walk_at "sm") (by assumption) k
        rw [if_neg h7, if_neg n3] at k
        walk_at "rd"
        exact b2 x1 x4 x2 x3 x5 _ _ (by walk_at "sm") (by assumption) k
end
end Y


set_option Elab.async false
set_option linter.all false
set_option maxRecDepth 100000
namespace Y
open PySem L2
local macro_rules | `(tactic| walk_at "ne") => `(tactic| first
  | with_reducible assumption
  | ((with_reducible apply Ne.symm); (focus with_reducible assumption))
  | ((with_reducible apply ne_new); (focus with_reducible assumption); (focus walk_at "hp"))
  | ((with_reducible apply ne_new'); (focus with_reducible assumption); (focus walk_at "hp")))
local macro_rules | `(tactic| walk_at "hp1") => `(tactic| first
  | ((with_reducible apply lk_new2); (focus with_reducible assumption))
  | ((with_reducible apply lk_ne2); (focus walk_at "ne"))
  | ((with_reducible apply Same.get); (focus with_reducible assumption))
  | ((with_reducible apply But.get2); (focus with_reducible assumption); (focus walk_at "ne")))
local macro_rules | `(tactic| walk_at "hp") => `(tactic| first
  | with_reducible assumption
  | with_reducible exact upd_same
  | ((walk_at "hp1"); (walk_at "hp")))
local macro_rules | `(tactic| walk_at "sm1") => `(tactic| first
  | ((with_reducible apply Same.linkN); (focus with_reducible assumption))
  | ((with_reducible apply Same.linkU); (focus with_reducible assumption))
  | ((with_reducible apply Same.link); (focus with_reducible assumption))
  | ((with_reducible apply Same.linkV); (focus with_reducible assumption); (focus walk_at "sm")))
local macro_rules | `(tactic| walk_at "sm") => `(tactic| first
  | with_reducible assumption
  | with_reducible exact Same.refl _
  | ((walk_at "sm1"); (walk_at "sm")))
local macro_rules | `(tactic| walk_at "bt1") => `(tactic| first
  | ((with_reducible apply But.linkN); (focus with_reducible assumption))
  | ((with_reducible apply But.linkU); (focus with_reducible assumption))
  | (with_reducible apply But.linkA)
  | ((with_reducible apply But.link); (focus with_reducible assumption))
  | ((with_reducible apply But.linkS); (focus with_reducible assumption)))
local macro_rules | `(tactic| walk_at "bt") => `(tactic| first
  | with_reducible assumption
  | with_reducible exact But.refl _ _
  | ((walk_at "bt1"); (walk_at "bt")))
local macro_rules | `(tactic| walk_at "rs") => `(tactic| simp only [e_C, e_var0, e_varS, e_op, e_op1, e_un, e_fld, e_tup, e_lst, e_cons, e_cons1, e_cons2, e_nil, e_call, e_call1, e_CB, e_meth, e_make, e_B, e_test, e_B1, e_if, e_if1, e_ifS, e_ifS1, e_and, e_andc, e_or, e_orc, e_not, e_not1, e_andV, e_andVc, e_orV, e_orVc, e_notV, e_notV1, e_seq, e_next, e_break, e_cont, e_drop, e_drop1, e_ret, e_retN, e_asg, e_name, e_part, e_part1, e_noPart, e_sl, e_sl1, e_sl2, e_sl3, o_add_int, o_I0, o_un, c_int, c_intB, c_abs, c_max, c_min, k_isN, k_notN, k_isB, k_notB, e_sub, e_sub1, cx_K, cx_noxK, e_for, e_rng1, e_rng2, e_seqI, e_enumT, e_enum, e_gname, e_lc, e_lcT, e_yes, e_bm, e_par, e_par1, e_par3, e_par31, e_chain, e_chain1, e_chain2, e_chain3, e_sfld, e_sfld1, List.set, ite_true, ite_false, eq_self, Bool.false_eq_true, decide_eq_true_eq, L2.start, List.map, List.length_cons, List.length_nil, List.replicate, Nat.add_one_sub_one, Nat.sub_self, List.nil_append, List.cons_append, Int.reduceToNat, Int.reducePow, Int.reduceMul, Int.reduceAdd, Int.reduceSub, Int.reduceNeg, Int.reduceLT, Int.reduceLE, Int.reduceEq, Bool.not_false, Bool.not_true, L2.wipe, e_never, e_tupZ, e_tC, e_m1, e_m1a, e_m1b, e_asgT, e_gcons, e_gnil, e_callD, e_opS, e_raise, e_mkErr, e_fldErr, decide_true, decide_false, not_true_eq_false, not_false_eq_true, reduceCtorEq])
local macro_rules | `(tactic| walk_at "sd") => `(tactic| first
  | assumption
  | decide
  | omega
  | (dsimp only; omega)
  | exact wide_div (b := 450) (by omega) (by omega) (by decide) (by decide)
  | exact mulX (a := 450) (b := 450) (by omega) (by omega) (by decide) (by decide) (by decide)
  | exact powW (b := 450) (by omega) (by omega) (by decide) (by decide))
local macro_rules | `(tactic| walk_at "sl") => `(tactic| first | omega | (simp only [List.length_cons, List.length_nil, List.length_append]; omega))
local macro_rules | `(tactic| walk_at "sqL1") => `(tactic| first
  | ((with_reducible apply sqL_new2); (focus with_reducible assumption))
  | ((with_reducible apply sqL_link); (focus with_reducible assumption)))
local macro_rules | `(tactic| walk_at "sqL") => `(tactic| first
  | with_reducible assumption
  | ((with_reducible apply SqL.of); focus walk_at "hp")
  | ((walk_at "sqL1"); (walk_at "sqL")))
local macro_rules | `(tactic| walk_at "sqT1") => `(tactic| first
  | ((with_reducible apply sqT_new2); (focus with_reducible assumption))
  | ((with_reducible apply sqT_link); (focus with_reducible assumption))
  | ((with_reducible apply sqT_lst); (focus walk_at "hp"))
  | ((with_reducible apply sqT_ins); (focus walk_at "hp")))
local macro_rules | `(tactic| walk_at "sqT") => `(tactic| first
  | with_reducible assumption
  | ((with_reducible apply SqT.of); focus walk_at "hp")
  | ((with_reducible apply SqT.ofZ); focus walk_at "hp")
  | ((walk_at "sqT1"); (walk_at "sqT")))
local macro_rules | `(tactic| walk_at "kt") => `(tactic| first
  | with_reducible exact kt_self
  | with_reducible exact kt_int_bool
  | with_reducible exact kt_int_str
  | with_reducible exact kt_int_list
  | with_reducible exact kt_int_tuple
  | with_reducible exact kt_bool_int
  | with_reducible exact kt_bool_str
  | with_reducible exact kt_bool_list
  | with_reducible exact kt_bool_tuple
  | with_reducible exact kt_str_int
  | with_reducible exact kt_str_bool
  | with_reducible exact kt_str_list
  | with_reducible exact kt_str_tuple
  | with_reducible exact kt_non_int
  | with_reducible exact kt_non_bool
  | with_reducible exact kt_non_str
  | with_reducible exact kt_non_list
  | with_reducible exact kt_non_tuple
  | with_reducible exact kt_tuple_int
  | with_reducible exact kt_tuple_bool
  | with_reducible exact kt_tuple_str
  | with_reducible exact kt_tuple_list
  | with_reducible exact kt_list_int
  | with_reducible exact kt_list_bool
  | with_reducible exact kt_list_str
  | with_reducible exact kt_list_tuple
  | with_reducible exact kt_dict_int
  | with_reducible exact kt_dict_bool
  | with_reducible exact kt_dict_str
  | with_reducible exact kt_dict_list
  | with_reducible exact kt_dict_tuple)
local macro_rules | `(tactic| walk_at "tyx") => `(tactic| first
  | with_reducible exact .base (.int _)
  | with_reducible exact .base (.str _)
  | with_reducible exact .base (.bl _)
  | with_reducible exact .base .non
  | ((with_reducible apply tyx_tup); focus walk_at "sqT")
  | ((with_reducible apply tyx_lst); focus walk_at "sqL")
  | ((with_reducible apply TyX.base); (focus ((with_reducible apply TyOf.dK); focus walk_at "hp"))))
local macro_rules | `(tactic| walk_at "isi") => `(tactic| first
  | ((with_reducible apply k_isi); (focus (with_reducible exact (ClsV.ty _))); (focus (walk_at "tyx")); (focus (walk_at "kt")))
  | ((with_reducible apply k_isiT); (focus (walk_at "hp")); (focus (with_reducible exact (.cons (.ty _) (.cons (.ty _) .nil)))); (focus (walk_at "tyx")); (focus (first | with_reducible exact ka_tuple | with_reducible exact ka_list | ((with_reducible apply ka_no); (focus walk_at "kt"); (focus walk_at "kt"))))))
local macro_rules | `(tactic| walk_at "lk") => `(tactic| rfl)
local macro_rules | `(tactic| walk_at "rd1") => `(tactic| first
  | walk_at "rs"
  | ((with_reducible apply k_ixL); (focus (walk_at "sqL")); (focus rfl))
  | ((with_reducible apply k_ixT); (focus (walk_at "sqT")); (focus rfl))
  | ((with_reducible apply k_fld); (focus (walk_at "hp")); (focus (assumption)); (focus (assumption)); (focus (walk_at "lk")))
  | ((with_reducible apply k_sfld); (focus (walk_at "hp")); (focus (assumption)); (focus (assumption)); (focus (walk_at "sl")))
  | ((with_reducible apply k_meth); (focus (walk_at "hp")); (focus (walk_at "lk")))
  | ((with_reducible apply k_I); (focus (walk_at "sd")))
  | ((with_reducible apply k_unp); (focus (walk_at "sqT")); (focus rfl))
  | ((with_reducible apply k_mul); (focus (walk_at "sd")))
  | ((with_reducible apply k_setL); (focus (walk_at "hp")); (focus rfl))
  | ((with_reducible apply k_bmL); (focus (walk_at "hp")))
  | ((with_reducible apply k_append); (focus (walk_at "hp")); (focus (walk_at "sd")))
  | ((with_reducible apply k_extend); (focus (walk_at "hp")); (focus (walk_at "hp")); (focus (walk_at "sl")))
  | ((with_reducible apply k_tup); (focus (walk_at "sl")); intro _ _)
  | ((with_reducible apply k_tupZ); (focus (walk_at "sl")); intro _ _ _ _ _)
  | ((with_reducible apply k_lst); (focus (walk_at "sl")); intro _ _)
  | ((with_reducible apply k_lenS); (focus ((with_reducible apply Or.inl); walk_at "sqL")))
  | ((with_reducible apply k_lenS); (focus ((with_reducible apply Or.inr); walk_at "sqT")))
  | ((with_reducible apply k_seqL); (focus (walk_at "sqL")))
  | ((with_reducible apply k_seqT); (focus (walk_at "sqT")))
  | ((with_reducible apply k_enumT); (focus (walk_at "sqT")))
  | walk_at "isi"
  | ((with_reducible apply k_tupOfL); (focus (walk_at "sqL")); intro _ _)
  | ((with_reducible apply k_tupOfT); (focus (walk_at "sqT")))
  | ((with_reducible apply k_listOf); (focus ((with_reducible apply Or.inl); walk_at "sqL")); intro _ _)
  | ((with_reducible apply k_listOf); (focus ((with_reducible apply Or.inr); walk_at "sqT")); intro _ _)
  | (with_reducible apply k_eq_int)
  | (with_reducible apply k_ne_int)
  | (with_reducible apply k_eq_str)
  | (with_reducible apply k_ne_str)
  | (with_reducible apply k_eq_bl)
  | (with_reducible apply k_ne_bl))
local macro_rules | `(tactic| walk_at "rd") => `(tactic| repeat walk_at "rd1")

theorem Same.but {p : Addr} {H H1 H2 : Hp} (s : Same H H1) (b : But p H1 H2) (n : H p = none) : Same H H2 := fun c o e => b c o (s c o e) (ne_of_none e n)
def spLaw (K : PySem.W.Frag) : Sp := fun vs H Q _ => ∃ (a : Addr) (ns : List Int), vs = [.ref a] ∧ SqL K H a (ns.map V.int) ∧ ns.length ≤ 63 ∧ (∀ z ∈ ns, Builtin.Int.intBits z ≤ 1048576) ∧ ∀ H', Q (.bl true) H'

def five : List (List Str) := [sMS, sTF, sSA, sLF, sDR]
def mkB : MK → List Bool := fun (a, b, c, d, e) => [a, d, b, c, e]
def lackL (m : MK) : List (List Str) := ((List.range 5).filter fun k => !(mkB m).getD k false).map fun k => five.getD k []
theorem lack_all : ∀ a b c d e : Bool, marks (some (a, b, c, d, e)) (lackL (a, b, c, d, e)) = some allMK ∧ (lackL (a, b, c, d, e)).length = lackN (a, b, c, d, e) ∧ (lackN (a, b, c, d, e) = 0 ↔ (a, b, c, d, e) = allMK) ∧ (∀ x ∈ lackL (a, b, c, d, e), x ∈ menu12) := by
  intro a b c d e
  cases a <;> cases b <;> cases c <;> cases d <;> cases e <;> exact ⟨by decide +kernel, by decide +kernel, by decide +kernel, by decide +kernel⟩
theorem lack_one : ∀ x ∈ menu12, ∀ a b c d e : Bool, (match markStep (some (a, b, c, d, e)) x with | none => true | some m => decide (lackN (a, b, c, d, e) ≤ lackN m + 1)) = true := by decide +kernel
theorem marks_none (us : List (List Str)) : marks none us = none := by
  unfold marks
  induction us with
  | nil => rfl
  | cons x us ih => exact ih
theorem lack_less : ∀ (us : List (List Str)) (m : MK), InMenu us → marks (some m) us = some allMK → lackN m ≤ us.length
  | [], (a, b, c, d, e), _, h => by
    have : (a, b, c, d, e) = allMK := Option.some.inj h
    rw [(lack_all a b c d e).2.2.1.mpr this]
    exact Nat.zero_le _
  | x :: us, (a, b, c, d, e), hm, h => by
    have h1 := lack_one x (hm x List.mem_cons_self) a b c d e
    have h2 : marks (markStep (some (a, b, c, d, e)) x) us = some allMK := h
    cases q : markStep (some (a, b, c, d, e)) x with
    | none =>
      rw [q, marks_none] at h2
      cases h2
    | some m =>
      rw [q] at h1 h2
      have h3 := lack_less us m (fun y hy => hm y (List.mem_cons_of_mem _ hy)) h2
      have h4 := of_decide_eq_true h1
      simp only [List.length_cons]
      omega
theorem marks_app (ws us : List (List Str)) (m : Option MK) : marks m (ws ++ us) = marks (marks m ws) us := by
  unfold marks
  rw [List.foldl_append]
def WantAt (K : PySem.W.Frag) (H : Hp) (v : V) : Option MK → Prop
  | none => v = .non
  | some m => ∃ p, v = .ref p ∧ LstAt K H p (lackL m)
def spWanted (K : PySem.W.Frag) : Sp := fun vs H Q _ => ∃ (r : Addr) (ws : List (List Str)), vs = [.ref r] ∧ Row K H r ws ∧ InMenu ws ∧ ws.length ≤ 100 ∧ ∀ (v : V) (H' : Hp), Same H H' → WantAt K H' v (marks (some noMK) ws) → Q v H'
set_option maxHeartbeats 4000000
section
variable {P : Program} {w : World} {K : PySem.W.Frag} {mg : Str → Option Value} {base : Heap}
theorem ok__law_wanted (T : Txt P K mg) : FnOk P w K mg base CX0 2 T.f__law_wanted T.d__law_wanted ["steps"] (spWanted K) := by
  refine T.F__law_wanted.ok sc__law_wanted (fun vs H Q E h => ?_) (fun cdv A outer s H vs Q E hr h => ?_)
  · obtain ⟨r, ws, rfl, _⟩ := h
    rfl
  · obtain ⟨r, ws, rfl, R, hm, hl, k⟩ := h
    refine ⟨_, (pss_cons (ps_set (i := 1) sc__law_wanted.nd rfl (Or.inr rfl) (pe_tup (pa_cons pe_int (pa_cons pe_int (pa_cons pe_int (pa_cons pe_int (pa_cons pe_int pa_nil)))))))
  (pss_cons (ps_for PassesOwn.never rfl (pi_seqk K (pv 0)) (pg_name (i := 2) sc__law_wanted.nd rfl (Or.inl rfl))
  (pss_one (ps_set (i := 1) sc__law_wanted.nd rfl (Or.inr rfl) (pe_call (ok__law_mark T) (hr.mono (by decide)) (by rfl) T.m__law_mark T.F__law_mark.kp T.b__law_mark .nil pass0 (pa_cons (pv 1) (pa_cons (pv 2) pa_nil))))))
  (pss_cons (ps_if (pt_cmpR op_isU (pv 1) pe_non (nomark _)) (pss_one (ps_ret pe_non)) pss_nil)
  (pss_cons (ps_set (i := 3) sc__law_wanted.nd rfl (Or.inr rfl) (pe_lst (pa_cons (pe_tup (pa_cons pe_str (pa_cons pe_str pa_nil))) (pa_cons (pe_tup (pa_cons pe_str (pa_cons pe_str pa_nil))) (pa_cons (pe_tup (pa_cons pe_str (pa_cons pe_str pa_nil))) (pa_cons (pe_tup (pa_cons pe_str (pa_cons pe_str pa_nil))) (pa_cons (pe_tup (pa_cons pe_str pa_nil)) pa_nil)))))))
  (pss_one (ps_ret (pe_lc (own := [("k", 4)]) (g := (gName 4)) rfl sc__law_wanted.nd (pi_range1 (by rfl) T.m_range (pa_cons pe_int pa_nil)) (blkOk_by (own := [("k", 4)]) (N := N__law_wanted) (sc := defScope s__law_wanted) (by decide +kernel)) (fun _ _ _ _ _ => (pg_name (i := 4) sc__law_wanted.nd rfl (Or.inl rfl))) (fun _ _ _ _ _ => (pts_one (pt_cmpR (op_eqUk K (hu65 hr)) (pe_ix (ix_seqk K) (pv 1) (pv 4) (fun _ _ => rfl)) pe_int (nomark _)))) (fun _ _ _ _ _ => (pe_ix (ix_seqk K) (pv 3) (pv 4) (fun _ _ => rfl)))))))))), ?_⟩
    obtain ⟨xs, x1, x2⟩ := id R
    have ex := x2.len
    walk_at "rd"
    rename_i t nt
    refine k_for walk_tup (fun i σ H' => ∃ (v' : V) (u1 u2 u3 : Option V), σ = [some (.ref r), some v', u1, u2, u3] ∧ Same H H' ∧ MiAt K H' v' (marks (some noMK) (ws.take i)))
      ⟨_, none, none, none, rfl, Same.new nt, ⟨t, rfl, SqT.of upd_same⟩⟩ (fun i σ H' _ ⟨_, _, _, _, _, e, _⟩ => sqT_mono (SameT.of e) x1) ?_ ?_
    · rintro i x σ H1 H2 hi ⟨v', u1, u2, u3, rfl, s1, M1⟩ ⟨rfl, hx⟩
      obtain ⟨b, wd, hb1, hb2, hb3⟩ := Steps.at_ (j := i) x2 (by omega)
      rw [hb1] at hx
      cases hx
      walk_at "rd"
      refine ⟨v', b, _, wd, rfl, M1, sqT_mono (SameT.of s1) hb3, hm wd (List.mem_of_getElem? hb2), fun v2 H3 s3 M3 => ?_⟩
      walk_at "rd"
      refine ⟨v2, _, _, _, rfl, s1.trans s3, ?_⟩
      have e : ws.take (i + 1) = ws.take i ++ [wd] := by
        rw [List.take_add_one, hb2]
        rfl
      rw [e, marks_app]
      exact M3
    · rintro σ H1 ⟨v', u1, u2, u3, rfl, s1, M1⟩
      rw [ex, List.take_length] at M1
      cases hmk : marks (some noMK) ws with
      | none =>
        rw [hmk] at M1 k
        cases M1
        walk_at "rd"
        exact k _ H1 s1 rfl
      | some m =>
        rw [hmk] at M1 k
        obtain ⟨a, rfl, ha⟩ := M1
        walk_at "rd"
        rename_i t1 n1 t2 n2 t3 n3 t4 n4 t5 n5 l nl
        have s6 : Same H1 (upd (upd (upd (upd (upd (upd H1 t1 (.tup [.str "make", .str "standing"])) t2 (.tup [.str "tie", .str "free"])) t3 (.tup [.str "start", .str "all"])) t4 (.tup [.str "label", .str "free"])) t5 (.tup [.str "drop"])) l (.lst [.ref t1, .ref t2, .ref t3, .ref t4, .ref t5])) := by walk_at "sm"
        have hS : Steps K (upd (upd (upd (upd (upd (upd H1 t1 (.tup [.str "make", .str "standing"])) t2 (.tup [.str "tie", .str "free"])) t3 (.tup [.str "start", .str "all"])) t4 (.tup [.str "label", .str "free"])) t5 (.tup [.str "drop"])) l (.lst [.ref t1, .ref t2, .ref t3, .ref t4, .ref t5])) [.ref t1, .ref t2, .ref t3, .ref t4, .ref t5] five :=
          .cons ⟨_, rfl, (show SqT K _ _ [V.str "make", V.str "standing"] by walk_at "sqT")⟩ (.cons ⟨_, rfl, (show SqT K _ _ [V.str "tie", V.str "free"] by walk_at "sqT")⟩ (.cons ⟨_, rfl, (show SqT K _ _ [V.str "start", V.str "all"] by walk_at "sqT")⟩
            (.cons ⟨_, rfl, (show SqT K _ _ [V.str "label", V.str "free"] by walk_at "sqT")⟩ (.cons ⟨_, rfl, (show SqT K _ _ [V.str "drop"] by walk_at "sqT")⟩ .nil))))
        have hlst : (upd (upd (upd (upd (upd (upd H1 t1 (.tup [.str "make", .str "standing"])) t2 (.tup [.str "tie", .str "free"])) t3 (.tup [.str "start", .str "all"])) t4 (.tup [.str "label", .str "free"])) t5 (.tup [.str "drop"])) l (.lst [.ref t1, .ref t2, .ref t3, .ref t4, .ref t5])) l = some (.lst [.ref t1, .ref t2, .ref t3, .ref t4, .ref t5]) := upd_same
        revert s6 hS hlst
        generalize (upd (upd (upd (upd (upd (upd H1 t1 (.tup [.str "make", .str "standing"])) t2 (.tup [.str "tie", .str "free"])) t3 (.tup [.str "start", .str "all"])) t4 (.tup [.str "label", .str "free"])) t5 (.tup [.str "drop"])) l (.lst [.ref t1, .ref t2, .ref t3, .ref t4, .ref t5])) = H2
        intro s6 hS hlst
        refine k_rng1 (by decide) (by decide) ?_
        refine k_lc walk_range fun D nD => ⟨fun i H' => Same H2 H' ∧ ∃ ys, H' D = some (.lst ys) ∧ Steps K H' ys (((List.range i).filter fun k => !(mkB m).getD k false).map fun k => five.getD k []), ⟨Same.new nD, [], upd_same, .nil⟩, fun _ _ _ _ => True.intro, ?_, ?_⟩
        · rintro i y H3 H4 hi ⟨s3, ys, hD, hY⟩ ⟨rfl, rfl⟩
          have hi5 : i < 5 := hi
          have ha4 : SqT K H4 a (mkI m) := sqT_mono (SameT.of (s6.trans s3)) ha
          have hl4 := s3 _ _ hlst
          have hb : (mkI m)[i]? = some (.int (if (mkB m).getD i false then 1 else 0)) := by
            obtain ⟨y1, y2, y3, y4, y5⟩ := m
            match i, hi5 with
            | 0, _ => rfl
            | 1, _ => rfl
            | 2, _ => rfl
            | 3, _ => rfl
            | 4, _ => rfl
          have hly : ys.length ≤ 5 := by
            have e := hY.len
            rw [List.length_map] at e
            have h := List.length_filter_le (fun k => !(mkB m).getD k false) (List.range i)
            rw [List.length_range] at h
            omega
          walk_at "rs"
          refine ⟨trivial, ?_⟩
          walk_at "rd"
          refine k_ixT ha4 (at_of (j := i) (by omega) hb) ?_
          walk_at "rd"
          cases hbit : (mkB m).getD i false with
          | true =>
            refine ⟨s3, ys, hD, ?_⟩
            rw [filter_range_succ, hbit]
            simpa using hY
          | false =>
            obtain ⟨b, wd, hb1, hb2, hb3⟩ := Steps.at_ (j := i) (hS.mono (SameT.of s3)) (by exact hi5)
            walk_at "rd"
            refine k_ixL (SqL.of hl4) (at_of (j := i) (by omega) hb1) ?_
            refine k_acc hD (by omega) ⟨Same.upd_new s3 nD, _, upd_same, ?_⟩
            rw [filter_range_succ, hbit]
            simp only [Bool.not_false, if_true, List.map_append, List.map_cons, List.map_nil]
            have e : five.getD i [] = wd := by rw [List.getD_eq_getElem?_getD, hb2]; rfl
            rw [e]
            exact Steps.append (hY.mono (SameT.lst hD)) (Steps.one (sqT_mono (SameT.lst hD) hb3))
        · rintro H3 ⟨s3, ys, hD, hY⟩
          exact k _ H3 (by walk_at "sm") ⟨D, rfl, ys, hD, hY⟩
def spRightQ (K : PySem.W.Frag) : Sp := fun vs H Q _ => ∃ (a : Addr) (n : Nat), vs = [.ref a] ∧ PotAt H a n ∧ n ≤ 500000 ∧ ∀ H', But a H H' → PotAt H' a (n + 2000) → Q (.bl true) H'
theorem ok__law_right (T : Txt P K mg) : FnOk P w K mg base CX0 7 T.f__law_right T.d__law_right ["pot"] (spRightQ K) := by
  refine T.F__law_right.ok sc__law_right (fun vs H Q E h => ?_) (fun cdv A outer s H vs Q E hr h => ?_)
  · obtain ⟨a, n, rfl, _⟩ := h
    rfl
  · obtain ⟨a, n, rfl, hP, hn, k⟩ := h
    refine ⟨_, (pss_cons (ps_set (i := 1) sc__law_right.nd rfl (Or.inl rfl) (pe_call (ok__law_steps T) (hr.mono (by decide)) (by rfl) T.m__law_steps T.F__law_steps.kp T.b__law_steps .nil pass0 (pa_cons (pv 0) pa_nil)))
  (pss_cons (ps_if (pt_cmpR (op_eqUk K (hu65 hr)) (pe_call (ok__law_dip T) (hr.mono (by decide)) (by rfl) T.m__law_dip T.F__law_dip.kp T.b__law_dip .nil pass0 (pa_cons (pv 0) (pa_cons pe_int pa_nil))) pe_int (nomark _)) (pss_one (ps_set (i := 1) sc__law_right.nd rfl (Or.inl rfl) (pe_callTy (call_tuple_ofk K) (by rfl) T.m_tuple b_tuple (pa_cons (pe_slice (sl_Uk K) (pe_call (ok__law_sound T) (hr.mono (by decide)) (by rfl) T.m__law_sound T.F__law_sound.kp T.b__law_sound .nil pass0 (pa_cons (pv 0) pa_nil)) po_none (po_some (pe_call (ok__law_dip T) (hr.mono (by decide)) (by rfl) T.m__law_dip T.F__law_dip.kp T.b__law_dip .nil pass0 (pa_cons (pv 0) (pa_cons pe_int pa_nil))))) pa_nil)))) pss_nil)
  (pss_cons (ps_par (i := 2) (j := 3) rfl sc__law_right.nd rfl rfl (by decide) rfl rfl (pa_cons (pe_call (ok_can_begin T) (hr.mono (by decide)) (by rfl) T.m_can_begin T.F_can_begin.kp T.b_can_begin .nil pass0 (pa_cons (pe_call (ok__law_script T) (hr.mono (by decide)) (by rfl) T.m__law_script T.F__law_script.kp T.b__law_script .nil pass0 (pa_cons (pv 1) pa_nil)) pa_nil)) (pa_cons (pe_call (ok__law_wanted T) (hr.mono (by decide)) (by rfl) T.m__law_wanted T.F__law_wanted.kp T.b__law_wanted .nil pass0 (pa_cons (pv 1) pa_nil)) pa_nil)) (by rfl))
  (pss_cons (ps_if (PW.pt (pw_or (pt_cmpR op_isU (pv 2) pe_non (nomark _)) (pw_or1 (pt_cmpR op_isU (pv 3) pe_non (nomark _))))) (pss_one (ps_ret (pe_and (pe_cmpR op_isU (pv 2) pe_non (nomark _)) (pe_one (pe_cmpR op_isU (pv 3) pe_non (nomark _)))))) pss_nil)
  (pss_cons (ps_if (PW.pt (pw_or (pt_not (pt_val (pe_callB (call_isiUk K) (by rfl) T.m_isinstance b_isinstance (pa_cons (pv 2) (pa_cons (pe_bty (by rfl) T.m_int b_int) pa_nil))))) (pw_or (pt_val (pe_callB (call_isiUk K) (by rfl) T.m_isinstance b_isinstance (pa_cons (pv 2) (pa_cons (pe_bty (by rfl) T.m_bool b_bool) pa_nil)))) (pw_or1 (pt_cmpR (op_neUk K (hu65 hr)) (pv 2) (pe_callB (call_lenUk K) (by rfl) T.m_len b_len (pa_cons (pv 3) pa_nil)) (nomark _)))))) (pss_one (ps_ret pe_bl)) pss_nil)
  (pss_cons (ps_set (i := 4) sc__law_right.nd rfl (Or.inl rfl) (pe_op (op_addUk K) (pv 1) (pe_callTy (call_tuple_ofk K) (by rfl) T.m_tuple b_tuple (pa_cons (pv 3) pa_nil))))
  (pss_cons (ps_if (PW.pt (pw_or (pt_not (pt_val (pe_call (ok__law_due T) (hr.mono (by decide)) (by rfl) T.m__law_due T.F__law_due.kp T.b__law_due .nil pass0 (pa_cons (pv 4) pa_nil)))) (pw_or1 (PW.pt (pw_and (pt_cmpR op_lt (pe_callB (call_lenUk K) (by rfl) T.m_len b_len (pa_cons (pv 4) pa_nil)) pe_int (nomark _)) (pw_and1 (pt_not (pt_val (pe_call (ok_is_right T) (hr.mono (by decide)) (by rfl) T.m_is_right T.F_is_right.kp T.b_is_right .nil pass0 (pa_cons (pe_make T.M_Script (ok_Script___init__ T) (hr.mono (by decide)) (by rfl) T.m_Script T.b_Script___init__ .nil passX0 (pa_cons (pv 4) pa_nil)) pa_nil)))))))))) (pss_one (ps_ret pe_bl)) pss_nil)
  (pss_cons (ps_for PassesOwn.never rfl (pi_range1 (by rfl) T.m_range (pa_cons pe_int pa_nil)) (pg_name (i := 5) sc__law_right.nd rfl (Or.inl rfl))
  (pss_one (ps_if (PW.pt (pw_and (pt_cmpR op_gt (pv 2) pe_int (nomark _)) (pw_and1 (pt_val (pe_call (ok__law_due T) (hr.mono (by decide)) (by rfl) T.m__law_due T.F__law_due.kp T.b__law_due .nil pass0 (pa_cons (pe_op (op_addUk K) (pv 1) (pe_callTy (call_tuple_ofk K) (by rfl) T.m_tuple b_tuple (pa_cons (pe_call (ok__law_any T) (hr.mono (by decide)) (by rfl) T.m__law_any T.F__law_any.kp T.b__law_any .nil pass0 (pa_cons (pv 0) (pa_cons (pe_call (ok__law_dip T) (hr.mono (by decide)) (by rfl) T.m__law_dip T.F__law_dip.kp T.b__law_dip .nil pass0 (pa_cons (pv 0) (pa_cons (pv 2) pa_nil))) pa_nil))) pa_nil))) pa_nil)))))) (pss_one (ps_ret pe_bl)) pss_nil)))
  (pss_one (ps_ret (pe_cmpR (op_eqUk K (hu65 hr)) (pe_cmpR (op_eqUk K (hu65 hr)) (pv 2) pe_int (nomark _)) (pe_call (ok__law_due T) (hr.mono (by decide)) (by rfl) T.m__law_due T.F__law_due.kp T.b__law_due .nil pass0 (pa_cons (pv 1) pa_nil)) (nomark _)))))))))))), ?_⟩
    have c1 := T.cl_Script
    refine k_opq2 fun R0 hR0 => ?_
    have rest : ∀ (r : Addr) (ws : List (List Str)) (H1 : Hp), But a H H1 → PotAt H1 a (n + 40) → Row K H1 r ws → ws.length ≤ 12 → InMenu ws → R0 { nx := fun _ H' => Q .non H', rt := Q } [some (.ref a), some (.ref r), none, none, none, none] H1 := by
      intro r ws H1 b1 P1 R1 hl hm
      subst hR0
      refine k_opq5 fun R1' hR1 => ?_
      have loop : ∀ (q g : Addr) (m : MK) (H5 : Hp), marks (some noMK) ws = some m → But a H H5 → PotAt H5 a (n + 40) → Row K H5 r ws → R1' { nx := fun _ H' => Q .non H', rt := Q } [some (.ref a), some (.ref r), some (.int (lackN m : Nat)), some (.ref q), some (.ref g), none] H5 := by
        intro q g m H5 hmk b5 P5 R5
        have hd : due ws = decide (m = allMK) := by rw [← right_due ws hm, hmk]; simp
        have e5 : lackN m = 0 ↔ m = allMK := by
          obtain ⟨x1, x2, x3, x4, x5⟩ := m
          exact (lack_all x1 x2 x3 x4 x5).2.2.1
        have e6 : lackN m ≤ 5 := by
          obtain ⟨x1, x2, x3, x4, x5⟩ := m
          exact List.countP_le_length
        subst hR1
        walk_at "rd"
        refine k_rng1 (by decide) (by decide) ?_
        refine k_for walk_range (fun i σ H' => ∃ v5 : Option V, σ = [some (.ref a), some (.ref r), some (.int (lackN m : Nat)), some (.ref q), some (.ref g), v5] ∧ But a H H' ∧ PotAt H' a (n + 40 + 10 * i) ∧ Row K H' r ws) ⟨_, rfl, b5, P5, R5⟩ (fun _ _ _ _ _ => True.intro) ?_ ?_
        · rintro i x σ H6 H7 hi ⟨v5, rfl, b6, P6, R6⟩ ⟨rfl, rfl⟩
          have hi' : i < 20 := hi
          walk_at "rd"
          refine ite2 (fun hpos => ?_) (fun hneg => ?_)
          · walk_at "rd"
            refine ⟨a, _, n + 40 + 10 * i, rfl, P6, by omega, by omega, by omega, fun e H8 e0 e1 P8 b8 => ?_⟩
            obtain ⟨j, rfl⟩ : ∃ j : Nat, e = j := ⟨e.toNat, by omega⟩
            walk_at "rd"
            refine ⟨a, j, _, rfl, P8, by omega, by omega, fun p us H9 np pa b9 P9 L9 hl9 hm9 => ?_⟩
            obtain ⟨ys, hy, hY⟩ := L9
            have R9 := (R6.mono (P6.but b8)).mono (P8.but b9)
            obtain ⟨xs, x1, x2⟩ := id R9
            have ex := x2.len
            have ey := hY.len
            walk_at "rd"
            rename_i t nt
            refine k_catT (by walk_at "sqT") (SqT.of upd_same) (by omega) fun z H10 s10 z1 => ?_
            have s9 : Same H9 H10 := (Same.new nt).trans s10
            have hmA : InMenu (ws ++ us) := hm.app hm9
            walk_at "rd"
            refine ⟨z, ws ++ us, rfl, ⟨_, z1, (x2.mono (SameT.of s9)).append (hY.mono (SameT.of s9))⟩, hmA, by rw [List.length_append]; omega, fun H11 s11 => ?_⟩
            have dF : due (ws ++ us) = false := by
              rw [← right_due _ hmA, marks_app, hmk]
              refine decide_eq_false fun h => ?_
              have := lack_less us m hm9 h
              omega
            rw [dF]
            walk_at "rd"
            have s11' : Same H9 H11 := s9.trans s11
            exact ⟨_, rfl, ((b6.trans b8).trans b9).trans (But.of s11'), (P9.same s11').le (by omega), R9.mono (SameT.of s11')⟩
          · exact ⟨_, rfl, b6, P6.le (by omega), R6⟩
        · rintro σ H6 ⟨v5, rfl, b6, P6, R6⟩
          walk_at "rd"
          refine ⟨r, ws, rfl, R6, hm, by omega, fun H7 s7 => ?_⟩
          rw [hd]
          walk_at "rd"
          have e7 : decide (decide ((lackN m : Int) = 0) = decide (m = allMK)) = true := by
            rw [decide_eq_true_eq, decide_eq_decide, ← e5]
            omega
          rw [e7]
          exact k _ (b6.trans (But.of s7)) ((P6.same s7).le (by omega))
      walk_at "rd"
      refine ⟨r, ws, rfl, R1, hl, hm, fun p l H2 np nl s2 L2 => ?_⟩
      walk_at "rd"
      refine ⟨p, ws, rfl, L2.at_, fun H3 s3 => ?_⟩
      walk_at "rd"
      refine ⟨r, ws, rfl, R1.mono (SameT.of (s2.trans s3)), hm, by omega, fun v H4 s4 W4 => ?_⟩
      have b4 : But a H H4 := b1.trans (But.of (s2.trans (s3.trans s4)))
      have P4 := P1.same (s2.trans (s3.trans s4))
      have R4 := R1.mono (SameT.of (s2.trans (s3.trans s4)))
      have hd : due ws = decide (marks (some noMK) ws = some allMK) := (right_due ws hm).symm
      cases hmk : marks (some noMK) ws with
      | none =>
        rw [hmk] at W4
        cases W4
        walk_at "rd"
        exact k _ (by walk_at "bt") (P4.le (by omega))
      | some m =>
        rw [hmk] at W4 hd
        obtain ⟨q, rfl, ys, hq, hY⟩ := W4
        have e1 := hY.len
        have e2 : (lackL m).length = lackN m := by
          obtain ⟨x1, x2, x3, x4, x5⟩ := m
          exact (lack_all x1 x2 x3 x4 x5).2.1
        have e3 : InMenu (lackL m) := by
          obtain ⟨x1, x2, x3, x4, x5⟩ := m
          exact (lack_all x1 x2 x3 x4 x5).2.2.2
        have e4 : marks (some m) (lackL m) = some allMK := by
          obtain ⟨x1, x2, x3, x4, x5⟩ := m
          exact (lack_all x1 x2 x3 x4 x5).1
        have e5 : lackN m = 0 ↔ m = allMK := by
          obtain ⟨x1, x2, x3, x4, x5⟩ := m
          exact (lack_all x1 x2 x3 x4 x5).2.2.1
        have e6 : lackN m ≤ 5 := by
          obtain ⟨x1, x2, x3, x4, x5⟩ := m
          exact List.countP_le_length
        have eG : marks (some noMK) (ws ++ lackL m) = some allMK := by rw [marks_app, hmk, e4]
        have hmG : InMenu (ws ++ lackL m) := hm.app e3
        have dG : due (ws ++ lackL m) = true := by rw [← right_due _ hmG, eG]; rfl
        walk_at "rd"
        have el : decide ((lackN m : Int) = (ys.length : Int)) = true := by
          rw [e1, e2]
          simp
        unfold told
        walk_at "rd"
        simp only [el]
        walk_at "rd"
        rename_i t nt
        have X4 := R4
        obtain ⟨xs, x1, x2⟩ := X4
        have ex := x2.len
        refine k_catT (by walk_at "sqT") (SqT.of upd_same) (by omega) fun g H5 s5 g1 => ?_
        have s45 : Same H4 H5 := (Same.new nt).trans s5
        have RG : Row K H5 g (ws ++ lackL m) := ⟨_, g1, (x2.mono (SameT.of s45)).append (hY.mono (SameT.of s45))⟩
        have lG : (ws ++ lackL m).length = ws.length + lackN m := by rw [List.length_append, e2]
        walk_at "rd"
        refine ⟨g, _, rfl, RG, hmG, by omega, fun H6 s6 => ?_⟩
        have RG6 := RG.mono (SameT.of s6)
        obtain ⟨zs, z1, z2⟩ := id RG6
        have ez := z2.len
        have fin : ∀ H7, Same H6 H7 → R1' { nx := fun _ H' => Q .non H', rt := Q } [some (.ref a), some (.ref r), some (.int (lackN m : Nat)), some (.ref q), some (.ref g), none] H7 := fun H7 s7 =>
          loop q g m H7 hmk (b4.trans (But.of (s45.trans (s6.trans s7)))) (P4.same (s45.trans (s6.trans s7))) (R4.mono (SameT.of (s45.trans (s6.trans s7))))
        rw [dG]
        walk_at "rd"
        refine ite2 (fun h13 => ?_) (fun h13 => ?_)
        · walk_at "rd"
          refine k_newScr RG6 (by omega) hmG fun y l2 H7 ny nl2 s7 L7 => ?_
          walk_at "rd"
          refine ⟨y, _, rfl, L7.at_, fun H8 s8 => ?_⟩
          rw [eG]
          walk_at "rd"
          exact fin H8 (s7.trans s8)
        · exact fin H6 (Same.refl _)
    walk_at "rd"
    refine ⟨a, n, rfl, hP, by omega, fun r ws H1 b1 P1 R1 hl hm => ?_⟩
    walk_at "rd"
    refine ⟨a, 2, n + 30, rfl, P1, by omega, by omega, by omega, fun e2 H2 _ _ P2 b2 => ?_⟩
    walk_at "rd"
    refine ite2 (fun h0 => ?_) (fun h0 => ?_)
    · walk_at "rd"
      refine ⟨a, n + 31, rfl, P2, by omega, fun p us H3 np pa b3 P3 L3 hl3 hm3 => ?_⟩
      walk_at "rd"
      refine ⟨a, 6, n + 36, rfl, P3, by omega, by omega, by omega, fun e4 H4 e40 e41 P4 b4 => ?_⟩
      obtain ⟨ys, hy, hY⟩ := LstAt.but L3 b4 pa (P3.but b4)
      obtain ⟨j, rfl⟩ : ∃ j : Nat, e4 = j := ⟨e4.toNat, by omega⟩
      walk_at "rd"
      refine k_slL (SqL.of hy) fun c nc => ?_
      rw [cutV_eq, cutG_to]
      walk_at "rd"
      rename_i t nt
      have st : Same H4 (upd (upd H4 c (.lst (ys.take j))) t (.tup (ys.take j))) := by walk_at "sm"
      exact rest t (us.take j) _ ((((b1.trans b2).trans b3).trans b4).trans (But.of st)) ((P4.same st).le (by omega)) ⟨_, SqT.of upd_same, (hY.take j).mono (SameT.of st)⟩ (by rw [List.length_take]; omega) (hm3.take j)
    · exact rest r ws H2 (b1.trans b2) (P2.le (by omega)) (R1.mono (P1.but b2)) hl hm
end
end Y


set_option Elab.async false
set_option linter.all false
set_option maxRecDepth 100000
namespace Y
open PySem L2
local macro_rules | `(tactic| walk_at "ne") => `(tactic| first
  | with_reducible assumption
  | ((with_reducible apply Ne.symm); (focus with_reducible assumption))
  | ((with_reducible apply ne_new); (focus with_reducible assumption); (focus walk_at "hp"))
  | ((with_reducible apply ne_new'); (focus with_reducible assumption); (focus walk_at "hp")))
local macro_rules | `(tactic| walk_at "hp1") => `(tactic| first
  | ((with_reducible apply lk_new2); (focus with_reducible assumption))
  | ((with_reducible apply lk_ne2); (focus walk_at "ne"))
  | ((with_reducible apply Same.get); (focus with_reducible assumption))
  | ((with_reducible apply But.get2); (focus with_reducible assumption); (focus walk_at "ne")))
local macro_rules | `(tactic| walk_at "hp") => `(tactic| first
  | with_reducible assumption
  | with_reducible exact upd_same
  | ((walk_at "hp1"); (walk_at "hp")))
local macro_rules | `(tactic| walk_at "sm1") => `(tactic| first
  | ((with_reducible apply Same.linkN); (focus with_reducible assumption))
  | ((with_reducible apply Same.linkU); (focus with_reducible assumption))
  | ((with_reducible apply Same.link); (focus with_reducible assumption))
  | ((with_reducible apply Same.linkV); (focus with_reducible assumption); (focus walk_at "sm")))
local macro_rules | `(tactic| walk_at "sm") => `(tactic| first
  | with_reducible assumption
  | with_reducible exact Same.refl _
  | ((walk_at "sm1"); (walk_at "sm")))
local macro_rules | `(tactic| walk_at "bt1") => `(tactic| first
  | ((with_reducible apply But.linkN); (focus with_reducible assumption))
  | ((with_reducible apply But.linkU); (focus with_reducible assumption))
  | (with_reducible apply But.linkA)
  | ((with_reducible apply But.link); (focus with_reducible assumption))
  | ((with_reducible apply But.linkS); (focus with_reducible assumption)))
local macro_rules | `(tactic| walk_at "bt") => `(tactic| first
  | with_reducible assumption
  | with_reducible exact But.refl _ _
  | ((walk_at "bt1"); (walk_at "bt")))
local macro_rules | `(tactic| walk_at "rs") => `(tactic| simp only [e_C, e_var0, e_varS, e_op, e_op1, e_un, e_fld, e_tup, e_lst, e_cons, e_cons1, e_cons2, e_nil, e_call, e_call1, e_CB, e_meth, e_make, e_B, e_test, e_B1, e_if, e_if1, e_ifS, e_ifS1, e_and, e_andc, e_or, e_orc, e_not, e_not1, e_andV, e_andVc, e_orV, e_orVc, e_notV, e_notV1, e_seq, e_next, e_break, e_cont, e_drop, e_drop1, e_ret, e_retN, e_asg, e_name, e_part, e_part1, e_noPart, e_sl, e_sl1, e_sl2, e_sl3, o_add_int, o_I0, o_un, c_int, c_intB, c_abs, c_max, c_min, k_isN, k_notN, k_isB, k_notB, e_sub, e_sub1, cx_K, cx_noxK, e_for, e_rng1, e_rng2, e_seqI, e_enumT, e_enum, e_gname, e_lc, e_lcT, e_yes, e_bm, e_par, e_par1, e_par3, e_par31, e_chain, e_chain1, e_chain2, e_chain3, e_sfld, e_sfld1, List.set, ite_true, ite_false, eq_self, Bool.false_eq_true, decide_eq_true_eq, L2.start, List.map, List.length_cons, List.length_nil, List.replicate, Nat.add_one_sub_one, Nat.sub_self, List.nil_append, List.cons_append, Int.reduceToNat, Int.reducePow, Int.reduceMul, Int.reduceAdd, Int.reduceSub, Int.reduceNeg, Int.reduceLT, Int.reduceLE, Int.reduceEq, Bool.not_false, Bool.not_true, L2.wipe, e_never, e_tupZ, e_tC, e_m1, e_m1a, e_m1b, e_asgT, e_gcons, e_gnil, e_callD, e_opS, e_raise, e_mkErr, e_fldErr, decide_true, decide_false, not_true_eq_false, not_false_eq_true, reduceCtorEq])
local macro_rules | `(tactic| walk_at "sd") => `(tactic| first
  | assumption
  | decide
  | omega
  | (dsimp only; omega)
  | exact wide_div (b := 450) (by omega) (by omega) (by decide) (by decide)
  | exact mulX (a := 450) (b := 450) (by omega) (by omega) (by decide) (by decide) (by decide)
  | exact powW (b := 450) (by omega) (by omega) (by decide) (by decide))
local macro_rules | `(tactic| walk_at "sl") => `(tactic| first | omega | (simp only [List.length_cons, List.length_nil, List.length_append]; omega))
local macro_rules | `(tactic| walk_at "sqL1") => `(tactic| first
  | ((with_reducible apply sqL_new2); (focus with_reducible assumption))
  | ((with_reducible apply sqL_link); (focus with_reducible assumption)))
local macro_rules | `(tactic| walk_at "sqL") => `(tactic| first
  | with_reducible assumption
  | ((with_reducible apply SqL.of); focus walk_at "hp")
  | ((walk_at "sqL1"); (walk_at "sqL")))
local macro_rules | `(tactic| walk_at "sqT1") => `(tactic| first
  | ((with_reducible apply sqT_new2); (focus with_reducible assumption))
  | ((with_reducible apply sqT_link); (focus with_reducible assumption))
  | ((with_reducible apply sqT_lst); (focus walk_at "hp"))
  | ((with_reducible apply sqT_ins); (focus walk_at "hp")))
local macro_rules | `(tactic| walk_at "sqT") => `(tactic| first
  | with_reducible assumption
  | ((with_reducible apply SqT.of); focus walk_at "hp")
  | ((with_reducible apply SqT.ofZ); focus walk_at "hp")
  | ((walk_at "sqT1"); (walk_at "sqT")))
local macro_rules | `(tactic| walk_at "kt") => `(tactic| first
  | with_reducible exact kt_self
  | with_reducible exact kt_int_bool
  | with_reducible exact kt_int_str
  | with_reducible exact kt_int_list
  | with_reducible exact kt_int_tuple
  | with_reducible exact kt_bool_int
  | with_reducible exact kt_bool_str
  | with_reducible exact kt_bool_list
  | with_reducible exact kt_bool_tuple
  | with_reducible exact kt_str_int
  | with_reducible exact kt_str_bool
  | with_reducible exact kt_str_list
  | with_reducible exact kt_str_tuple
  | with_reducible exact kt_non_int
  | with_reducible exact kt_non_bool
  | with_reducible exact kt_non_str
  | with_reducible exact kt_non_list
  | with_reducible exact kt_non_tuple
  | with_reducible exact kt_tuple_int
  | with_reducible exact kt_tuple_bool
  | with_reducible exact kt_tuple_str
  | with_reducible exact kt_tuple_list
  | with_reducible exact kt_list_int
  | with_reducible exact kt_list_bool
  | with_reducible exact kt_list_str
  | with_reducible exact kt_list_tuple
  | with_reducible exact kt_dict_int
  | with_reducible exact kt_dict_bool
  | with_reducible exact kt_dict_str
  | with_reducible exact kt_dict_list
  | with_reducible exact kt_dict_tuple)
local macro_rules | `(tactic| walk_at "tyx") => `(tactic| first
  | with_reducible exact .base (.int _)
  | with_reducible exact .base (.str _)
  | with_reducible exact .base (.bl _)
  | with_reducible exact .base .non
  | ((with_reducible apply tyx_tup); focus walk_at "sqT")
  | ((with_reducible apply tyx_lst); focus walk_at "sqL")
  | ((with_reducible apply TyX.base); (focus ((with_reducible apply TyOf.dK); focus walk_at "hp"))))
local macro_rules | `(tactic| walk_at "isi") => `(tactic| first
  | ((with_reducible apply k_isi); (focus (with_reducible exact (ClsV.ty _))); (focus (walk_at "tyx")); (focus (walk_at "kt")))
  | ((with_reducible apply k_isiT); (focus (walk_at "hp")); (focus (with_reducible exact (.cons (.ty _) (.cons (.ty _) .nil)))); (focus (walk_at "tyx")); (focus (first | with_reducible exact ka_tuple | with_reducible exact ka_list | ((with_reducible apply ka_no); (focus walk_at "kt"); (focus walk_at "kt"))))))
local macro_rules | `(tactic| walk_at "lk") => `(tactic| rfl)
local macro_rules | `(tactic| walk_at "rd1") => `(tactic| first
  | walk_at "rs"
  | ((with_reducible apply k_ixL); (focus (walk_at "sqL")); (focus rfl))
  | ((with_reducible apply k_ixT); (focus (walk_at "sqT")); (focus rfl))
  | ((with_reducible apply k_fld); (focus (walk_at "hp")); (focus (assumption)); (focus (assumption)); (focus (walk_at "lk")))
  | ((with_reducible apply k_sfld); (focus (walk_at "hp")); (focus (assumption)); (focus (assumption)); (focus (walk_at "sl")))
  | ((with_reducible apply k_meth); (focus (walk_at "hp")); (focus (walk_at "lk")))
  | ((with_reducible apply k_I); (focus (walk_at "sd")))
  | ((with_reducible apply k_unp); (focus (walk_at "sqT")); (focus rfl))
  | ((with_reducible apply k_mul); (focus (walk_at "sd")))
  | ((with_reducible apply k_setL); (focus (walk_at "hp")); (focus rfl))
  | ((with_reducible apply k_bmL); (focus (walk_at "hp")))
  | ((with_reducible apply k_append); (focus (walk_at "hp")); (focus (walk_at "sd")))
  | ((with_reducible apply k_extend); (focus (walk_at "hp")); (focus (walk_at "hp")); (focus (walk_at "sl")))
  | ((with_reducible apply k_tup); (focus (walk_at "sl")); intro _ _)
  | ((with_reducible apply k_tupZ); (focus (walk_at "sl")); intro _ _ _ _ _)
  | ((with_reducible apply k_lst); (focus (walk_at "sl")); intro _ _)
  | ((with_reducible apply k_lenS); (focus ((with_reducible apply Or.inl); walk_at "sqL")))
  | ((with_reducible apply k_lenS); (focus ((with_reducible apply Or.inr); walk_at "sqT")))
  | ((with_reducible apply k_seqL); (focus (walk_at "sqL")))
  | ((with_reducible apply k_seqT); (focus (walk_at "sqT")))
  | ((with_reducible apply k_enumT); (focus (walk_at "sqT")))
  | walk_at "isi"
  | ((with_reducible apply k_tupOfL); (focus (walk_at "sqL")); intro _ _)
  | ((with_reducible apply k_tupOfT); (focus (walk_at "sqT")))
  | ((with_reducible apply k_listOf); (focus ((with_reducible apply Or.inl); walk_at "sqL")); intro _ _)
  | ((with_reducible apply k_listOf); (focus ((with_reducible apply Or.inr); walk_at "sqT")); intro _ _)
  | (with_reducible apply k_eq_int)
  | (with_reducible apply k_ne_int)
  | (with_reducible apply k_eq_str)
  | (with_reducible apply k_ne_str)
  | (with_reducible apply k_eq_bl)
  | (with_reducible apply k_ne_bl))
local macro_rules | `(tactic| walk_at "rd") => `(tactic| repeat walk_at "rd1")

set_option maxHeartbeats 4000000
section
variable {P : Program} {w : World} {K : PySem.W.Frag} {mg : Str → Option Value} {base : Heap}
theorem ok_law (T : Txt P K mg) : FnOk P w K mg base CX0 8 T.f_law T.d_law ["script"] (spLaw K) := by
  refine T.F_law.ok sc_law (fun vs H Q E h => ?_) (fun cdv A outer s H vs Q E hr h => ?_)
  · obtain ⟨a, ns, rfl, _⟩ := h
    rfl
  · obtain ⟨a, ns, rfl, ha, hl, hb, k⟩ := h
    refine ⟨_, (pss_cons (ps_for PassesOwn.never rfl (pi_range1 (by rfl) T.m_range (pa_cons (pe_callB (call_max2 rfl) (by rfl) T.m_max b_max (pa_cons pe_int (pa_cons (pe_callB (call_min2 rfl) (by rfl) T.m_min b_min (pa_cons pe_int (pa_cons (pe_callB (call_lenUk K) (by rfl) T.m_len b_len (pa_cons (pv 0) pa_nil)) pa_nil))) pa_nil))) pa_nil)) (pg_name (i := 1) sc_law.nd rfl (Or.inl rfl))
  (pss_cons (ps_set (i := 2) sc_law.nd rfl (Or.inl rfl) (pe_call (ok__law_pot T) (hr.mono (by decide)) (by rfl) T.m__law_pot T.F__law_pot.kp T.b__law_pot .nil pass0 (pa_cons (pv 0) (pa_cons (pv 1) pa_nil))))
  (pss_one (ps_for PassesOwn.never rfl (pi_range1 (by rfl) T.m_range (pa_cons pe_int pa_nil)) (pg_name (i := 3) sc_law.nd rfl (Or.inl rfl))
  (pss_one (ps_if (pt_not (pt_val (pe_call (ok__law_right T) (hr.mono (by decide)) (by rfl) T.m__law_right T.F__law_right.kp T.b__law_right .nil pass0 (pa_cons (pv 2) pa_nil)))) (pss_one (ps_ret pe_bl)) pss_nil))))))
  (pss_one (ps_ret pe_bl))), ?_⟩
    walk_at "rd"
    refine k_rng1 (by split <;> split <;> omega) (by split <;> split <;> omega) ?_
    refine k_for walk_range (fun i σ H' => ∃ v1 v2 v3 : Option V, σ = [some (.ref a), v1, v2, v3] ∧ Same H H') ⟨_, _, _, rfl, Same.refl H⟩ (fun _ _ _ _ _ => True.intro) ?_ ?_
    · rintro i x σ H1 H2 hi ⟨v1, v2, v3, rfl, s1⟩ ⟨rfl, rfl⟩
      have hi' : i < 64 := by
        revert hi
        split <;> split <;> omega
      walk_at "rd"
      refine ⟨a, ns, i, by simp, sqL_same s1 ha, hl, by omega, fun p H3 np s3 P3 => ?_⟩
      walk_at "rd"
      refine k_rng1 (by decide) (by decide) ?_
      have npH : H p = none := Same.none_of s1 np
      refine k_for walk_range (fun j σ H' => ∃ v3 : Option V, σ = [some (.ref a), some (.int (0 + (i : Int))), some (.ref p), v3] ∧ Same H H' ∧ PotAt H' p (2000 * j)) ⟨_, rfl, by walk_at "sm", P3⟩ (fun _ _ _ _ _ => True.intro) ?_ ?_
      · rintro j x σ H4 H5 hj ⟨v3, rfl, s4, P4⟩ ⟨rfl, rfl⟩
        have hj' : j < 20 := Nat.lt_of_lt_of_le hj (by decide)
        walk_at "rd"
        refine ⟨p, 2000 * j, rfl, P4, by omega, fun H6 b6 P6 => ?_⟩
        walk_at "rd"
        exact ⟨_, rfl, Same.but s4 b6 npH, P6.le (by omega)⟩
      · rintro σ H4 ⟨v3, rfl, s4, P4⟩
        exact ⟨_, _, _, rfl, s4⟩
    · rintro σ H1 ⟨v1, v2, v3, rfl, s1⟩
      walk_at "rd"
      exact k _
end
end Y


set_option Elab.async false
set_option linter.all false
set_option maxRecDepth 100000
set_option maxHeartbeats 4000000
namespace Y
open PySem L2
theorem all_mk {l : PySem.W.OpenLaw} {w : World} {K : PySem.W.Frag} {h : Heap} {mg : Str → Option Value} {fa a_Script a_ALL_MARKS a_NO_MARKS a_SPOILING b_SPOILING_0 b_SPOILING_1 a_STEPS b_STEPS_0 b_STEPS_1 b_STEPS_2 b_STEPS_3 b_STEPS_4 b_STEPS_5 b_STEPS_6 b_STEPS_7 b_STEPS_8 b_STEPS_9 b_STEPS_10 b_STEPS_11 f_is_integer f_is_step f_Script___init__ f_Script___len__ f_Script___add__ f_Script_steps f_Script_without f_Script_with_step f_Script__has f_marks_behind f_marks_of T_marks_of f_is_right f__law_pot f__law_dip f__law_kinds f__law_any f__law_sound f__law_steps f__law_script f__law_due f_can_begin f__law_mark f__law_wanted f__law_right f_law a_NoStep f_NoStep t_NoStep N_NoStep cda_NoStep cc_NoStep a_NoIndex f_NoIndex t_NoIndex N_NoIndex cda_NoIndex cc_NoIndex : Addr} (X : K.In h) (G : h.Ns mainGlobals mg) (hfa : mg "law" = some (.ref fa))
    {od_is_integer an_is_integer od_is_step an_is_step od_Script___init__ an_Script___init__ od_Script___len__ an_Script___len__ od_Script___add__ an_Script___add__ od_Script_steps an_Script_steps od_Script_without an_Script_without od_Script_with_step an_Script_with_step od_Script__has an_Script__has od_marks_behind an_marks_behind od_marks_of an_marks_of od_is_right an_is_right od__law_pot an__law_pot od__law_dip an__law_dip od__law_kinds an__law_kinds od__law_any an__law_any od__law_sound an__law_sound od__law_steps an__law_steps od__law_script an__law_script od__law_due an__law_due od_can_begin an_can_begin od__law_mark an__law_mark od__law_wanted an__law_wanted od__law_right an__law_right od_law an_law : Option Addr} {sl_is_integer sl_is_step sl_Script___init__ sl_Script___len__ sl_Script___add__ sl_Script_steps sl_Script_without sl_Script_with_step sl_Script__has sl_marks_behind sl_marks_of sl_is_right sl__law_pot sl__law_dip sl__law_kinds sl__law_any sl__law_sound sl__law_steps sl__law_script sl__law_due sl_can_begin sl__law_mark sl__law_wanted sl__law_right sl_law : Array (Option Value)}
    {oc_is_integer kV_is_integer dc_is_integer pm_is_integer cd_is_integer ct_is_integer oc_is_step kV_is_step dc_is_step pm_is_step cd_is_step ct_is_step oc_Script___init__ kV_Script___init__ dc_Script___init__ pm_Script___init__ cd_Script___init__ ct_Script___init__ oc_Script___len__ kV_Script___len__ dc_Script___len__ pm_Script___len__ cd_Script___len__ ct_Script___len__ oc_Script___add__ kV_Script___add__ dc_Script___add__ pm_Script___add__ cd_Script___add__ ct_Script___add__ oc_Script_steps kV_Script_steps dc_Script_steps pm_Script_steps cd_Script_steps ct_Script_steps oc_Script_without kV_Script_without dc_Script_without pm_Script_without cd_Script_without ct_Script_without oc_Script_with_step kV_Script_with_step dc_Script_with_step pm_Script_with_step cd_Script_with_step ct_Script_with_step oc_Script__has kV_Script__has dc_Script__has pm_Script__has cd_Script__has ct_Script__has oc_marks_behind kV_marks_behind dc_marks_behind pm_marks_behind cd_marks_behind ct_marks_behind oc_marks_of kV_marks_of dc_marks_of pm_marks_of cd_marks_of ct_marks_of oc_is_right kV_is_right dc_is_right pm_is_right cd_is_right ct_is_right oc__law_pot kV__law_pot dc__law_pot pm__law_pot cd__law_pot ct__law_pot oc__law_dip kV__law_dip dc__law_dip pm__law_dip cd__law_dip ct__law_dip oc__law_kinds kV__law_kinds dc__law_kinds pm__law_kinds cd__law_kinds ct__law_kinds oc__law_any kV__law_any dc__law_any pm__law_any cd__law_any ct__law_any oc__law_sound kV__law_sound dc__law_sound pm__law_sound cd__law_sound ct__law_sound oc__law_steps kV__law_steps dc__law_steps pm__law_steps cd__law_steps ct__law_steps oc__law_script kV__law_script dc__law_script pm__law_script cd__law_script ct__law_script oc__law_due kV__law_due dc__law_due pm__law_due cd__law_due ct__law_due oc_can_begin kV_can_begin dc_can_begin pm_can_begin cd_can_begin ct_can_begin oc__law_mark kV__law_mark dc__law_mark pm__law_mark cd__law_mark ct__law_mark oc__law_wanted kV__law_wanted dc__law_wanted pm__law_wanted cd__law_wanted ct__law_wanted oc__law_right kV__law_right dc__law_right pm__law_right cd__law_right ct__law_right oc_law kV_law dc_law pm_law cd_law ct_law : Value} {tk_SPOILING_0_0 tk_SPOILING_0_1 tk_SPOILING_1_0 tk_SPOILING_1_1 tk_STEPS_0_0 tk_STEPS_0_1 tk_STEPS_1_0 tk_STEPS_1_1 tk_STEPS_2_0 tk_STEPS_2_1 tk_STEPS_3_0 tk_STEPS_3_1 tk_STEPS_4_0 tk_STEPS_4_1 tk_STEPS_5_0 tk_STEPS_5_1 tk_STEPS_6_0 tk_STEPS_6_1 tk_STEPS_7_0 tk_STEPS_7_1 tk_STEPS_8_0 tk_STEPS_8_1 tk_STEPS_9_0 tk_STEPS_9_1 tk_STEPS_10_0 tk_STEPS_10_1 tk_STEPS_11_0 tk_MOST_STEPS : Tok} {dd_ALL_MARKS : Option Addr} {nn_ALL_MARKS : Nat} {ss_ALL_MARKS : Array (Option Value)} {dd_NO_MARKS : Option Addr} {nn_NO_MARKS : Nat} {ss_NO_MARKS : Array (Option Value)} {dd_SPOILING : Option Addr} {nn_SPOILING : Nat} {ss_SPOILING : Array (Option Value)} {dd_SPOILING_0 : Option Addr} {nn_SPOILING_0 : Nat} {ss_SPOILING_0 : Array (Option Value)} {dd_SPOILING_1 : Option Addr} {nn_SPOILING_1 : Nat} {ss_SPOILING_1 : Array (Option Value)} {dd_STEPS : Option Addr} {nn_STEPS : Nat} {ss_STEPS : Array (Option Value)} {dd_STEPS_0 : Option Addr} {nn_STEPS_0 : Nat} {ss_STEPS_0 : Array (Option Value)} {dd_STEPS_1 : Option Addr} {nn_STEPS_1 : Nat} {ss_STEPS_1 : Array (Option Value)} {dd_STEPS_2 : Option Addr} {nn_STEPS_2 : Nat} {ss_STEPS_2 : Array (Option Value)} {dd_STEPS_3 : Option Addr} {nn_STEPS_3 : Nat} {ss_STEPS_3 : Array (Option Value)} {dd_STEPS_4 : Option Addr} {nn_STEPS_4 : Nat} {ss_STEPS_4 : Array (Option Value)} {dd_STEPS_5 : Option Addr} {nn_STEPS_5 : Nat} {ss_STEPS_5 : Array (Option Value)} {dd_STEPS_6 : Option Addr} {nn_STEPS_6 : Nat} {ss_STEPS_6 : Array (Option Value)} {dd_STEPS_7 : Option Addr} {nn_STEPS_7 : Nat} {ss_STEPS_7 : Array (Option Value)} {dd_STEPS_8 : Option Addr} {nn_STEPS_8 : Nat} {ss_STEPS_8 : Array (Option Value)} {dd_STEPS_9 : Option Addr} {nn_STEPS_9 : Nat} {ss_STEPS_9 : Array (Option Value)} {dd_STEPS_10 : Option Addr} {nn_STEPS_10 : Nat} {ss_STEPS_10 : Array (Option Value)} {dd_STEPS_11 : Option Addr} {nn_STEPS_11 : Nat} {ss_STEPS_11 : Array (Option Value)} {ddT_marks_of : Option Addr} {nnT_marks_of : Nat} {ssT_marks_of : Array (Option Value)} {nm_NoStep q_NoStep file_NoStep : Str} {bs_NoStep sub_NoStep : List Value} {sn_NoStep : List Str} {ab_NoStep : Bool} {col_NoStep : Option Bool} {m0_NoStep m1_NoStep m2_NoStep m3_NoStep m5_NoStep : Option Value} {dd_NoStep od_NoStep an_NoStep cdd_NoStep cld_NoStep : Option Addr} {oc_NoStep dc_NoStep pm_NoStep ct_NoStep ccl_NoStep cl_NoStep : Value} {sl_NoStep ccs_NoStep csl_NoStep : Array (Option Value)} {vs_NoStep : Array Value} {tf_NoStep : Tok} {nm_NoIndex q_NoIndex file_NoIndex : Str} {bs_NoIndex sub_NoIndex : List Value} {sn_NoIndex : List Str} {ab_NoIndex : Bool} {col_NoIndex : Option Bool} {m0_NoIndex m1_NoIndex m2_NoIndex m3_NoIndex m5_NoIndex : Option Value} {dd_NoIndex od_NoIndex an_NoIndex cdd_NoIndex cld_NoIndex : Option Addr} {oc_NoIndex dc_NoIndex pm_NoIndex ct_NoIndex ccl_NoIndex cl_NoIndex : Value} {sl_NoIndex ccs_NoIndex csl_NoIndex : Array (Option Value)} {vs_NoIndex : Array Value} {tf_NoIndex : Tok} {nz_NO : Nat} {sz_NO : Array (Option Value)}
    (g_Script : PySem.W.nsIn K mainGlobals "Script" = some (some (.ref a_Script)))
    (pg_Script : PySem.W.plainGet K a_Script Str.empty = true)
    (hd_Script : PySem.W.hasDictIn K a_Script = true)
    (po_Script : PySem.W.plainOver K a_Script = true)
    (sa_Script : PySem.W.findIn K (.ref a_Script) "__setattr__" = some (some (.builtin "object.__setattr__")))
    (na_Script__steps : PySem.W.findIn K (.ref a_Script) "_steps" = some none)
    (g_ALL_MARKS : PySem.W.nsIn K mainGlobals "ALL_MARKS" = some (some (.ref a_ALL_MARKS)))
    (l_ALL_MARKS : K.lookup a_ALL_MARKS = some ⟨.type "tuple", dd_ALL_MARKS, .seq #[.bool true, .bool true, .bool true, .bool true, .bool true] nn_ALL_MARKS, ss_ALL_MARKS⟩)
    (g_NO_MARKS : PySem.W.nsIn K mainGlobals "NO_MARKS" = some (some (.ref a_NO_MARKS)))
    (l_NO_MARKS : K.lookup a_NO_MARKS = some ⟨.type "tuple", dd_NO_MARKS, .seq #[.bool false, .bool false, .bool false, .bool false, .bool false] nn_NO_MARKS, ss_NO_MARKS⟩)
    (g_SPOILING : PySem.W.nsIn K mainGlobals "SPOILING" = some (some (.ref a_SPOILING)))
    (l_SPOILING : K.lookup a_SPOILING = some ⟨.type "tuple", dd_SPOILING, .seq #[.ref b_SPOILING_0, .ref b_SPOILING_1] nn_SPOILING, ss_SPOILING⟩)
    (l_SPOILING_0 : K.lookup b_SPOILING_0 = some ⟨.type "tuple", dd_SPOILING_0, .seq #[.str "label" tk_SPOILING_0_0, .str "all" tk_SPOILING_0_1] nn_SPOILING_0, ss_SPOILING_0⟩)
    (l_SPOILING_1 : K.lookup b_SPOILING_1 = some ⟨.type "tuple", dd_SPOILING_1, .seq #[.str "tie" tk_SPOILING_1_0, .str "all" tk_SPOILING_1_1] nn_SPOILING_1, ss_SPOILING_1⟩)
    (g_STEPS : PySem.W.nsIn K mainGlobals "STEPS" = some (some (.ref a_STEPS)))
    (l_STEPS : K.lookup a_STEPS = some ⟨.type "tuple", dd_STEPS, .seq #[.ref b_STEPS_0, .ref b_STEPS_1, .ref b_STEPS_2, .ref b_STEPS_3, .ref b_STEPS_4, .ref b_STEPS_5, .ref b_STEPS_6, .ref b_STEPS_7, .ref b_STEPS_8, .ref b_STEPS_9, .ref b_STEPS_10, .ref b_STEPS_11] nn_STEPS, ss_STEPS⟩)
    (l_STEPS_0 : K.lookup b_STEPS_0 = some ⟨.type "tuple", dd_STEPS_0, .seq #[.str "make" tk_STEPS_0_0, .str "all" tk_STEPS_0_1] nn_STEPS_0, ss_STEPS_0⟩)
    (l_STEPS_1 : K.lookup b_STEPS_1 = some ⟨.type "tuple", dd_STEPS_1, .seq #[.str "make" tk_STEPS_1_0, .str "standing" tk_STEPS_1_1] nn_STEPS_1, ss_STEPS_1⟩)
    (l_STEPS_2 : K.lookup b_STEPS_2 = some ⟨.type "tuple", dd_STEPS_2, .seq #[.str "start" tk_STEPS_2_0, .str "new" tk_STEPS_2_1] nn_STEPS_2, ss_STEPS_2⟩)
    (l_STEPS_3 : K.lookup b_STEPS_3 = some ⟨.type "tuple", dd_STEPS_3, .seq #[.str "start" tk_STEPS_3_0, .str "all" tk_STEPS_3_1] nn_STEPS_3, ss_STEPS_3⟩)
    (l_STEPS_4 : K.lookup b_STEPS_4 = some ⟨.type "tuple", dd_STEPS_4, .seq #[.str "start" tk_STEPS_4_0, .str "free" tk_STEPS_4_1] nn_STEPS_4, ss_STEPS_4⟩)
    (l_STEPS_5 : K.lookup b_STEPS_5 = some ⟨.type "tuple", dd_STEPS_5, .seq #[.str "label" tk_STEPS_5_0, .str "new" tk_STEPS_5_1] nn_STEPS_5, ss_STEPS_5⟩)
    (l_STEPS_6 : K.lookup b_STEPS_6 = some ⟨.type "tuple", dd_STEPS_6, .seq #[.str "label" tk_STEPS_6_0, .str "all" tk_STEPS_6_1] nn_STEPS_6, ss_STEPS_6⟩)
    (l_STEPS_7 : K.lookup b_STEPS_7 = some ⟨.type "tuple", dd_STEPS_7, .seq #[.str "label" tk_STEPS_7_0, .str "free" tk_STEPS_7_1] nn_STEPS_7, ss_STEPS_7⟩)
    (l_STEPS_8 : K.lookup b_STEPS_8 = some ⟨.type "tuple", dd_STEPS_8, .seq #[.str "tie" tk_STEPS_8_0, .str "new" tk_STEPS_8_1] nn_STEPS_8, ss_STEPS_8⟩)
    (l_STEPS_9 : K.lookup b_STEPS_9 = some ⟨.type "tuple", dd_STEPS_9, .seq #[.str "tie" tk_STEPS_9_0, .str "all" tk_STEPS_9_1] nn_STEPS_9, ss_STEPS_9⟩)
    (l_STEPS_10 : K.lookup b_STEPS_10 = some ⟨.type "tuple", dd_STEPS_10, .seq #[.str "tie" tk_STEPS_10_0, .str "free" tk_STEPS_10_1] nn_STEPS_10, ss_STEPS_10⟩)
    (l_STEPS_11 : K.lookup b_STEPS_11 = some ⟨.type "tuple", dd_STEPS_11, .seq #[.str "drop" tk_STEPS_11_0] nn_STEPS_11, ss_STEPS_11⟩)
    (g_is_integer : PySem.W.nsIn K mainGlobals "is_integer" = some (some (.ref f_is_integer)))
    (l_is_integer : K.lookup f_is_integer = some ⟨oc_is_integer, od_is_integer, .func (PySem.W.fnOf "is_integer" "is_integer" (defArgs s_is_integer) (defBody s_is_integer) (defScope s_is_integer) .none kV_is_integer dc_is_integer pm_is_integer an_is_integer cd_is_integer ct_is_integer), sl_is_integer⟩)
    (c_is_integer : PySem.W.codeIn K cd_is_integer "is_integer" = true)
    (k_is_integer : PySem.W.keepIn K (.ref f_is_integer) = true)
    (g_is_step : PySem.W.nsIn K mainGlobals "is_step" = some (some (.ref f_is_step)))
    (l_is_step : K.lookup f_is_step = some ⟨oc_is_step, od_is_step, .func (PySem.W.fnOf "is_step" "is_step" (defArgs s_is_step) (defBody s_is_step) (defScope s_is_step) .none kV_is_step dc_is_step pm_is_step an_is_step cd_is_step ct_is_step), sl_is_step⟩)
    (c_is_step : PySem.W.codeIn K cd_is_step "is_step" = true)
    (k_is_step : PySem.W.keepIn K (.ref f_is_step) = true)
    (fi_Script___init__ : PySem.W.findIn K (.ref a_Script) "__init__" = some (some (.ref f_Script___init__)))
    (isf_Script___init__ : PySem.W.isFn K (.ref f_Script___init__) = true)
    (l_Script___init__ : K.lookup f_Script___init__ = some ⟨oc_Script___init__, od_Script___init__, .func (PySem.W.fnOf "__init__" "Script.__init__" (defArgs s_Script___init__) (defBody s_Script___init__) (defScope s_Script___init__) .none kV_Script___init__ dc_Script___init__ pm_Script___init__ an_Script___init__ cd_Script___init__ ct_Script___init__), sl_Script___init__⟩)
    (c_Script___init__ : PySem.W.codeIn K cd_Script___init__ "Script.__init__" = true)
    (k_Script___init__ : PySem.W.keepIn K (.ref f_Script___init__) = true)
    (mk_Script : PySem.W.makesIn K a_Script = true)
    (kc_Script : PySem.W.keepIn K (.ref a_Script) = true)
    (fi_Script___len__ : PySem.W.findIn K (.ref a_Script) "__len__" = some (some (.ref f_Script___len__)))
    (isf_Script___len__ : PySem.W.isFn K (.ref f_Script___len__) = true)
    (l_Script___len__ : K.lookup f_Script___len__ = some ⟨oc_Script___len__, od_Script___len__, .func (PySem.W.fnOf "__len__" "Script.__len__" (defArgs s_Script___len__) (defBody s_Script___len__) (defScope s_Script___len__) .none kV_Script___len__ dc_Script___len__ pm_Script___len__ an_Script___len__ cd_Script___len__ ct_Script___len__), sl_Script___len__⟩)
    (c_Script___len__ : PySem.W.codeIn K cd_Script___len__ "Script.__len__" = true)
    (k_Script___len__ : PySem.W.keepIn K (.ref f_Script___len__) = true)
    (fi_Script___add__ : PySem.W.findIn K (.ref a_Script) "__add__" = some (some (.ref f_Script___add__)))
    (isf_Script___add__ : PySem.W.isFn K (.ref f_Script___add__) = true)
    (l_Script___add__ : K.lookup f_Script___add__ = some ⟨oc_Script___add__, od_Script___add__, .func (PySem.W.fnOf "__add__" "Script.__add__" (defArgs s_Script___add__) (defBody s_Script___add__) (defScope s_Script___add__) .none kV_Script___add__ dc_Script___add__ pm_Script___add__ an_Script___add__ cd_Script___add__ ct_Script___add__), sl_Script___add__⟩)
    (c_Script___add__ : PySem.W.codeIn K cd_Script___add__ "Script.__add__" = true)
    (k_Script___add__ : PySem.W.keepIn K (.ref f_Script___add__) = true)
    (sf_Script : PySem.W.selfFirst K a_Script = true)
    (fi_Script_steps : PySem.W.findIn K (.ref a_Script) "steps" = some (some (.ref f_Script_steps)))
    (isf_Script_steps : PySem.W.isFn K (.ref f_Script_steps) = true)
    (l_Script_steps : K.lookup f_Script_steps = some ⟨oc_Script_steps, od_Script_steps, .func (PySem.W.fnOf "steps" "Script.steps" (defArgs s_Script_steps) (defBody s_Script_steps) (defScope s_Script_steps) .none kV_Script_steps dc_Script_steps pm_Script_steps an_Script_steps cd_Script_steps ct_Script_steps), sl_Script_steps⟩)
    (c_Script_steps : PySem.W.codeIn K cd_Script_steps "Script.steps" = true)
    (k_Script_steps : PySem.W.keepIn K (.ref f_Script_steps) = true)
    (fi_Script_without : PySem.W.findIn K (.ref a_Script) "without" = some (some (.ref f_Script_without)))
    (isf_Script_without : PySem.W.isFn K (.ref f_Script_without) = true)
    (l_Script_without : K.lookup f_Script_without = some ⟨oc_Script_without, od_Script_without, .func (PySem.W.fnOf "without" "Script.without" (defArgs s_Script_without) (defBody s_Script_without) (defScope s_Script_without) .none kV_Script_without dc_Script_without pm_Script_without an_Script_without cd_Script_without ct_Script_without), sl_Script_without⟩)
    (c_Script_without : PySem.W.codeIn K cd_Script_without "Script.without" = true)
    (k_Script_without : PySem.W.keepIn K (.ref f_Script_without) = true)
    (fi_Script_with_step : PySem.W.findIn K (.ref a_Script) "with_step" = some (some (.ref f_Script_with_step)))
    (isf_Script_with_step : PySem.W.isFn K (.ref f_Script_with_step) = true)
    (l_Script_with_step : K.lookup f_Script_with_step = some ⟨oc_Script_with_step, od_Script_with_step, .func (PySem.W.fnOf "with_step" "Script.with_step" (defArgs s_Script_with_step) (defBody s_Script_with_step) (defScope s_Script_with_step) .none kV_Script_with_step dc_Script_with_step pm_Script_with_step an_Script_with_step cd_Script_with_step ct_Script_with_step), sl_Script_with_step⟩)
    (c_Script_with_step : PySem.W.codeIn K cd_Script_with_step "Script.with_step" = true)
    (k_Script_with_step : PySem.W.keepIn K (.ref f_Script_with_step) = true)
    (fi_Script__has : PySem.W.findIn K (.ref a_Script) "_has" = some (some (.ref f_Script__has)))
    (isf_Script__has : PySem.W.isFn K (.ref f_Script__has) = true)
    (l_Script__has : K.lookup f_Script__has = some ⟨oc_Script__has, od_Script__has, .func (PySem.W.fnOf "_has" "Script._has" (defArgs s_Script__has) (defBody s_Script__has) (defScope s_Script__has) .none kV_Script__has dc_Script__has pm_Script__has an_Script__has cd_Script__has ct_Script__has), sl_Script__has⟩)
    (c_Script__has : PySem.W.codeIn K cd_Script__has "Script._has" = true)
    (k_Script__has : PySem.W.keepIn K (.ref f_Script__has) = true)
    (g_marks_behind : PySem.W.nsIn K mainGlobals "marks_behind" = some (some (.ref f_marks_behind)))
    (l_marks_behind : K.lookup f_marks_behind = some ⟨oc_marks_behind, od_marks_behind, .func (PySem.W.fnOf "marks_behind" "marks_behind" (defArgs s_marks_behind) (defBody s_marks_behind) (defScope s_marks_behind) .none kV_marks_behind dc_marks_behind pm_marks_behind an_marks_behind cd_marks_behind ct_marks_behind), sl_marks_behind⟩)
    (c_marks_behind : PySem.W.codeIn K cd_marks_behind "marks_behind" = true)
    (k_marks_behind : PySem.W.keepIn K (.ref f_marks_behind) = true)
    (g_marks_of : PySem.W.nsIn K mainGlobals "marks_of" = some (some (.ref f_marks_of)))
    (l_marks_of : K.lookup f_marks_of = some ⟨oc_marks_of, od_marks_of, .func (PySem.W.fnOf "marks_of" "marks_of" (defArgs s_marks_of) (defBody s_marks_of) (defScope s_marks_of) (.ref T_marks_of) kV_marks_of dc_marks_of pm_marks_of an_marks_of cd_marks_of ct_marks_of), sl_marks_of⟩)
    (lT_marks_of : K.lookup T_marks_of = some ⟨.type "tuple", ddT_marks_of, .seq #[.ref a_NO_MARKS] nnT_marks_of, ssT_marks_of⟩)
    (c_marks_of : PySem.W.codeIn K cd_marks_of "marks_of" = true)
    (k_marks_of : PySem.W.keepIn K (.ref f_marks_of) = true)
    (g_is_right : PySem.W.nsIn K mainGlobals "is_right" = some (some (.ref f_is_right)))
    (l_is_right : K.lookup f_is_right = some ⟨oc_is_right, od_is_right, .func (PySem.W.fnOf "is_right" "is_right" (defArgs s_is_right) (defBody s_is_right) (defScope s_is_right) .none kV_is_right dc_is_right pm_is_right an_is_right cd_is_right ct_is_right), sl_is_right⟩)
    (c_is_right : PySem.W.codeIn K cd_is_right "is_right" = true)
    (k_is_right : PySem.W.keepIn K (.ref f_is_right) = true)
    (g__law_pot : PySem.W.nsIn K mainGlobals "_law_pot" = some (some (.ref f__law_pot)))
    (l__law_pot : K.lookup f__law_pot = some ⟨oc__law_pot, od__law_pot, .func (PySem.W.fnOf "_law_pot" "_law_pot" (defArgs s__law_pot) (defBody s__law_pot) (defScope s__law_pot) .none kV__law_pot dc__law_pot pm__law_pot an__law_pot cd__law_pot ct__law_pot), sl__law_pot⟩)
    (c__law_pot : PySem.W.codeIn K cd__law_pot "_law_pot" = true)
    (k__law_pot : PySem.W.keepIn K (.ref f__law_pot) = true)
    (g__law_dip : PySem.W.nsIn K mainGlobals "_law_dip" = some (some (.ref f__law_dip)))
    (l__law_dip : K.lookup f__law_dip = some ⟨oc__law_dip, od__law_dip, .func (PySem.W.fnOf "_law_dip" "_law_dip" (defArgs s__law_dip) (defBody s__law_dip) (defScope s__law_dip) .none kV__law_dip dc__law_dip pm__law_dip an__law_dip cd__law_dip ct__law_dip), sl__law_dip⟩)
    (c__law_dip : PySem.W.codeIn K cd__law_dip "_law_dip" = true)
    (k__law_dip : PySem.W.keepIn K (.ref f__law_dip) = true)
    (g__law_kinds : PySem.W.nsIn K mainGlobals "_law_kinds" = some (some (.ref f__law_kinds)))
    (l__law_kinds : K.lookup f__law_kinds = some ⟨oc__law_kinds, od__law_kinds, .func (PySem.W.fnOf "_law_kinds" "_law_kinds" (defArgs s__law_kinds) (defBody s__law_kinds) (defScope s__law_kinds) .none kV__law_kinds dc__law_kinds pm__law_kinds an__law_kinds cd__law_kinds ct__law_kinds), sl__law_kinds⟩)
    (c__law_kinds : PySem.W.codeIn K cd__law_kinds "_law_kinds" = true)
    (k__law_kinds : PySem.W.keepIn K (.ref f__law_kinds) = true)
    (g__law_any : PySem.W.nsIn K mainGlobals "_law_any" = some (some (.ref f__law_any)))
    (l__law_any : K.lookup f__law_any = some ⟨oc__law_any, od__law_any, .func (PySem.W.fnOf "_law_any" "_law_any" (defArgs s__law_any) (defBody s__law_any) (defScope s__law_any) .none kV__law_any dc__law_any pm__law_any an__law_any cd__law_any ct__law_any), sl__law_any⟩)
    (c__law_any : PySem.W.codeIn K cd__law_any "_law_any" = true)
    (k__law_any : PySem.W.keepIn K (.ref f__law_any) = true)
    (g__law_sound : PySem.W.nsIn K mainGlobals "_law_sound" = some (some (.ref f__law_sound)))
    (l__law_sound : K.lookup f__law_sound = some ⟨oc__law_sound, od__law_sound, .func (PySem.W.fnOf "_law_sound" "_law_sound" (defArgs s__law_sound) (defBody s__law_sound) (defScope s__law_sound) .none kV__law_sound dc__law_sound pm__law_sound an__law_sound cd__law_sound ct__law_sound), sl__law_sound⟩)
    (c__law_sound : PySem.W.codeIn K cd__law_sound "_law_sound" = true)
    (k__law_sound : PySem.W.keepIn K (.ref f__law_sound) = true)
    (g__law_steps : PySem.W.nsIn K mainGlobals "_law_steps" = some (some (.ref f__law_steps)))
    (l__law_steps : K.lookup f__law_steps = some ⟨oc__law_steps, od__law_steps, .func (PySem.W.fnOf "_law_steps" "_law_steps" (defArgs s__law_steps) (defBody s__law_steps) (defScope s__law_steps) .none kV__law_steps dc__law_steps pm__law_steps an__law_steps cd__law_steps ct__law_steps), sl__law_steps⟩)
    (c__law_steps : PySem.W.codeIn K cd__law_steps "_law_steps" = true)
    (k__law_steps : PySem.W.keepIn K (.ref f__law_steps) = true)
    (g__law_script : PySem.W.nsIn K mainGlobals "_law_script" = some (some (.ref f__law_script)))
    (l__law_script : K.lookup f__law_script = some ⟨oc__law_script, od__law_script, .func (PySem.W.fnOf "_law_script" "_law_script" (defArgs s__law_script) (defBody s__law_script) (defScope s__law_script) .none kV__law_script dc__law_script pm__law_script an__law_script cd__law_script ct__law_script), sl__law_script⟩)
    (c__law_script : PySem.W.codeIn K cd__law_script "_law_script" = true)
    (k__law_script : PySem.W.keepIn K (.ref f__law_script) = true)
    (g__law_due : PySem.W.nsIn K mainGlobals "_law_due" = some (some (.ref f__law_due)))
    (l__law_due : K.lookup f__law_due = some ⟨oc__law_due, od__law_due, .func (PySem.W.fnOf "_law_due" "_law_due" (defArgs s__law_due) (defBody s__law_due) (defScope s__law_due) .none kV__law_due dc__law_due pm__law_due an__law_due cd__law_due ct__law_due), sl__law_due⟩)
    (c__law_due : PySem.W.codeIn K cd__law_due "_law_due" = true)
    (k__law_due : PySem.W.keepIn K (.ref f__law_due) = true)
    (g_can_begin : PySem.W.nsIn K mainGlobals "can_begin" = some (some (.ref f_can_begin)))
    (l_can_begin : K.lookup f_can_begin = some ⟨oc_can_begin, od_can_begin, .func (PySem.W.fnOf "can_begin" "can_begin" (defArgs s_can_begin) (defBody s_can_begin) (defScope s_can_begin) .none kV_can_begin dc_can_begin pm_can_begin an_can_begin cd_can_begin ct_can_begin), sl_can_begin⟩)
    (c_can_begin : PySem.W.codeIn K cd_can_begin "can_begin" = true)
    (k_can_begin : PySem.W.keepIn K (.ref f_can_begin) = true)
    (g__law_mark : PySem.W.nsIn K mainGlobals "_law_mark" = some (some (.ref f__law_mark)))
    (l__law_mark : K.lookup f__law_mark = some ⟨oc__law_mark, od__law_mark, .func (PySem.W.fnOf "_law_mark" "_law_mark" (defArgs s__law_mark) (defBody s__law_mark) (defScope s__law_mark) .none kV__law_mark dc__law_mark pm__law_mark an__law_mark cd__law_mark ct__law_mark), sl__law_mark⟩)
    (c__law_mark : PySem.W.codeIn K cd__law_mark "_law_mark" = true)
    (k__law_mark : PySem.W.keepIn K (.ref f__law_mark) = true)
    (g__law_wanted : PySem.W.nsIn K mainGlobals "_law_wanted" = some (some (.ref f__law_wanted)))
    (l__law_wanted : K.lookup f__law_wanted = some ⟨oc__law_wanted, od__law_wanted, .func (PySem.W.fnOf "_law_wanted" "_law_wanted" (defArgs s__law_wanted) (defBody s__law_wanted) (defScope s__law_wanted) .none kV__law_wanted dc__law_wanted pm__law_wanted an__law_wanted cd__law_wanted ct__law_wanted), sl__law_wanted⟩)
    (c__law_wanted : PySem.W.codeIn K cd__law_wanted "_law_wanted" = true)
    (k__law_wanted : PySem.W.keepIn K (.ref f__law_wanted) = true)
    (g__law_right : PySem.W.nsIn K mainGlobals "_law_right" = some (some (.ref f__law_right)))
    (l__law_right : K.lookup f__law_right = some ⟨oc__law_right, od__law_right, .func (PySem.W.fnOf "_law_right" "_law_right" (defArgs s__law_right) (defBody s__law_right) (defScope s__law_right) .none kV__law_right dc__law_right pm__law_right an__law_right cd__law_right ct__law_right), sl__law_right⟩)
    (c__law_right : PySem.W.codeIn K cd__law_right "_law_right" = true)
    (k__law_right : PySem.W.keepIn K (.ref f__law_right) = true)
    (g_law : PySem.W.nsIn K mainGlobals "law" = some (some (.ref f_law)))
    (l_law : K.lookup f_law = some ⟨oc_law, od_law, .func (PySem.W.fnOf "law" "law" (defArgs s_law) (defBody s_law) (defScope s_law) .none kV_law dc_law pm_law an_law cd_law ct_law), sl_law⟩)
    (c_law : PySem.W.codeIn K cd_law "law" = true)
    (k_law : PySem.W.keepIn K (.ref f_law) = true)
    (g_MOST_STEPS : PySem.W.nsIn K mainGlobals "MOST_STEPS" = some (some (.int 12 tk_MOST_STEPS)))
    (g_abs : PySem.W.nsIn K mainGlobals "abs" = some none)
    (g_all : PySem.W.nsIn K mainGlobals "all" = some none)
    (g_bool : PySem.W.nsIn K mainGlobals "bool" = some none)
    (g_enumerate : PySem.W.nsIn K mainGlobals "enumerate" = some none)
    (g_int : PySem.W.nsIn K mainGlobals "int" = some none)
    (g_isinstance : PySem.W.nsIn K mainGlobals "isinstance" = some none)
    (g_len : PySem.W.nsIn K mainGlobals "len" = some none)
    (g_list : PySem.W.nsIn K mainGlobals "list" = some none)
    (g_max : PySem.W.nsIn K mainGlobals "max" = some none)
    (g_min : PySem.W.nsIn K mainGlobals "min" = some none)
    (g_range : PySem.W.nsIn K mainGlobals "range" = some none)
    (g_str : PySem.W.nsIn K mainGlobals "str" = some none)
    (g_tuple : PySem.W.nsIn K mainGlobals "tuple" = some none)
    (g_super : PySem.W.nsIn K mainGlobals "super" = some none)
    (any_ : PySem.W.nsIn K cStatics "thirdparty.any" = some none)
    (top_ : (l.prog.main.scope.names.lookup ("super" : Str)).isSome = false)
    (gsn_ : PySem.W.specialIn K (.builtin "object.__class__") "__get__" = some (some (.builtin "getset_descriptor.__get__")))
    (gst_ : PySem.W.takesIn K (.builtin "object.__class__") = some true)
    (g_NoStep : PySem.W.nsIn K mainGlobals "NoStep" = some (some (.ref a_NoStep)))
    (x_NoStep : K.lookup a_NoStep = some (excClassObj nm_NoStep q_NoStep a_NoStep N_NoStep bs_NoStep [.ref t_NoStep, .type "ValueError", .type "Exception", .type "BaseException", .type "object"] true sn_NoStep sub_NoStep ab_NoStep col_NoStep dd_NoStep m0_NoStep m1_NoStep m2_NoStep m3_NoStep m5_NoStep "ValueError.__new__"))
    (sa_NoStep : PySem.W.findIn K (.ref a_NoStep) "__setattr__" = some (some (.builtin "object.__setattr__")))
    (ga_NoStep : PySem.W.findIn K (.ref a_NoStep) "__getattribute__" = some (some (.builtin "BaseException.__getattribute__")))
    (gg_NoStep : PySem.W.findIn K (.ref a_NoStep) "__getattr__" = some none)
    (nf_NoStep : PySem.W.findIn K (.ref a_NoStep) "index" = some none)
    (ic_NoStep : PySem.W.findIn K (.ref a_NoStep) "__init__" = some (some (.ref f_NoStep)))
    (ha_NoStep : PySem.W.findIn K (.ref a_NoStep) "__class__" = some (some (.builtin "object.__class__")))
    (tf__NoStep : PySem.W.typeIn K (.ref f_NoStep) = some (.type "function"))
    (kc_NoStep : PySem.W.keepIn K (.ref a_NoStep) = true)
    (ex_NoStep : PySem.W.subIn K (.ref a_NoStep) (.type "BaseException") = some true)
    (ty_NoStep : PySem.W.typeIn K (.ref a_NoStep) = some (.type "type"))
    (hd_NoStep : PySem.W.hasDictIn K a_NoStep = true)
    (ss_NoStep : PySem.W.subIn K (.ref a_NoStep) (.ref a_NoStep) = some true)
    (qi_NoStep : PySem.W.excInitIn K a_NoStep [.type "ValueError", .type "Exception", .type "BaseException", .type "object"] "ValueError.__new__" = true)
    (ve_NoStep : PySem.W.subIn K (.ref a_NoStep) (.type "ValueError") = some true)
    (mr_NoStep : PySem.W.mroIn K a_NoStep (.ref a_NoStep) = some true)
    (mo_NoStep : PySem.W.mroIn K a_NoStep (.type "object") = some true)
    (su_NoStep : PySem.W.ks_superIn K a_NoStep a_NoStep "__init__" = some (some (.builtin "ValueError.__init__")))
    (l_NoStep : K.lookup f_NoStep = some ⟨oc_NoStep, od_NoStep, .func (PySem.W.ksFn "__init__" "NoStep.__init__" (PySem.ErrX.iA "index" ⟨6, 17, 6, 21⟩ ⟨6, 23, 6, 28⟩) (PySem.ErrX.iB "index" "there is no step at this index" ⟨7, 8, 7, 13⟩ ⟨7, 8, 7, 15⟩ ⟨7, 8, 7, 24⟩ ⟨7, 25, 7, 57⟩ ⟨7, 8, 7, 58⟩ ⟨7, 8, 7, 58⟩ ⟨8, 8, 8, 12⟩ ⟨8, 8, 8, 18⟩ ⟨8, 21, 8, 26⟩ ⟨8, 8, 8, 26⟩) (PySem.ErrX.iS "index") .none .none dc_NoStep pm_NoStep an_NoStep (.ref cda_NoStep) ct_NoStep cc_NoStep), sl_NoStep⟩)
    (c_NoStep : PySem.W.codeIn K (.ref cda_NoStep) "NoStep.__init__" = true)
    (lc_NoStep : K.lookup cda_NoStep = some ⟨ccl_NoStep, cdd_NoStep, .fields vs_NoStep, ccs_NoStep⟩)
    (vv_NoStep : vs_NoStep[2]? = some (.str file_NoStep tf_NoStep))
    (ff_NoStep : ((l.prog.main.file : Str) == file_NoStep) = true)
    (cl__NoStep : K.lookup cc_NoStep = some ⟨cl_NoStep, cld_NoStep, .cell (some (.ref a_NoStep)), csl_NoStep⟩)
    (g_NoIndex : PySem.W.nsIn K mainGlobals "NoIndex" = some (some (.ref a_NoIndex)))
    (x_NoIndex : K.lookup a_NoIndex = some (excClassObj nm_NoIndex q_NoIndex a_NoIndex N_NoIndex bs_NoIndex [.ref t_NoIndex, .type "ValueError", .type "Exception", .type "BaseException", .type "object"] true sn_NoIndex sub_NoIndex ab_NoIndex col_NoIndex dd_NoIndex m0_NoIndex m1_NoIndex m2_NoIndex m3_NoIndex m5_NoIndex "ValueError.__new__"))
    (sa_NoIndex : PySem.W.findIn K (.ref a_NoIndex) "__setattr__" = some (some (.builtin "object.__setattr__")))
    (ga_NoIndex : PySem.W.findIn K (.ref a_NoIndex) "__getattribute__" = some (some (.builtin "BaseException.__getattribute__")))
    (gg_NoIndex : PySem.W.findIn K (.ref a_NoIndex) "__getattr__" = some none)
    (nf_NoIndex : PySem.W.findIn K (.ref a_NoIndex) "index" = some none)
    (ic_NoIndex : PySem.W.findIn K (.ref a_NoIndex) "__init__" = some (some (.ref f_NoIndex)))
    (ha_NoIndex : PySem.W.findIn K (.ref a_NoIndex) "__class__" = some (some (.builtin "object.__class__")))
    (tf__NoIndex : PySem.W.typeIn K (.ref f_NoIndex) = some (.type "function"))
    (kc_NoIndex : PySem.W.keepIn K (.ref a_NoIndex) = true)
    (ex_NoIndex : PySem.W.subIn K (.ref a_NoIndex) (.type "BaseException") = some true)
    (ty_NoIndex : PySem.W.typeIn K (.ref a_NoIndex) = some (.type "type"))
    (hd_NoIndex : PySem.W.hasDictIn K a_NoIndex = true)
    (ss_NoIndex : PySem.W.subIn K (.ref a_NoIndex) (.ref a_NoIndex) = some true)
    (qi_NoIndex : PySem.W.excInitIn K a_NoIndex [.type "ValueError", .type "Exception", .type "BaseException", .type "object"] "ValueError.__new__" = true)
    (ve_NoIndex : PySem.W.subIn K (.ref a_NoIndex) (.type "ValueError") = some true)
    (mr_NoIndex : PySem.W.mroIn K a_NoIndex (.ref a_NoIndex) = some true)
    (mo_NoIndex : PySem.W.mroIn K a_NoIndex (.type "object") = some true)
    (su_NoIndex : PySem.W.ks_superIn K a_NoIndex a_NoIndex "__init__" = some (some (.builtin "ValueError.__init__")))
    (l_NoIndex : K.lookup f_NoIndex = some ⟨oc_NoIndex, od_NoIndex, .func (PySem.W.ksFn "__init__" "NoIndex.__init__" (PySem.ErrX.iA "index" ⟨11, 17, 11, 21⟩ ⟨11, 23, 11, 28⟩) (PySem.ErrX.iB "index" "no step can be put in at this index" ⟨12, 8, 12, 13⟩ ⟨12, 8, 12, 15⟩ ⟨12, 8, 12, 24⟩ ⟨12, 25, 12, 62⟩ ⟨12, 8, 12, 63⟩ ⟨12, 8, 12, 63⟩ ⟨13, 8, 13, 12⟩ ⟨13, 8, 13, 18⟩ ⟨13, 21, 13, 26⟩ ⟨13, 8, 13, 26⟩) (PySem.ErrX.iS "index") .none .none dc_NoIndex pm_NoIndex an_NoIndex (.ref cda_NoIndex) ct_NoIndex cc_NoIndex), sl_NoIndex⟩)
    (c_NoIndex : PySem.W.codeIn K (.ref cda_NoIndex) "NoIndex.__init__" = true)
    (lc_NoIndex : K.lookup cda_NoIndex = some ⟨ccl_NoIndex, cdd_NoIndex, .fields vs_NoIndex, ccs_NoIndex⟩)
    (vv_NoIndex : vs_NoIndex[2]? = some (.str file_NoIndex tf_NoIndex))
    (ff_NoIndex : ((l.prog.main.file : Str) == file_NoIndex) = true)
    (cl__NoIndex : K.lookup cc_NoIndex = some ⟨cl_NoIndex, cld_NoIndex, .cell (some (.ref a_NoIndex)), csl_NoIndex⟩)
    (q1_Script : PySem.W.findIn K (.ref a_Script) "__class__" = some (some (.builtin "object.__class__")))
    (q2_Script : PySem.W.specialIn K (.builtin "object.__class__") "__get__" = some (some (.builtin "getset_descriptor.__get__")))
    (q3_Script : PySem.W.takesIn K (.builtin "object.__class__") = some true)
    (q4_Script : PySem.W.mroIn K a_Script (.type "object") = some true)
    (lz_NO : K.lookup a_NO_MARKS = some ⟨.type "tuple", none, .seq #[.bool false, .bool false, .bool false, .bool false, .bool false] nz_NO, sz_NO⟩)
    : ∃ fd : FuncData, (∀ (s : Shared) (v : Value), BindsTo s fd ⟨[v], []⟩ [("script", v)]) ∧ ∀ base : Heap, K.In base → base.Ns mainGlobals mg → FnOk l.prog w K mg base CX0 8 fa fd ["script"] (spLaw K) := by
  have e := hfa.symm.trans (PySem.W.mg_of X G g_law)
  have e9 : f_law = fa := by
    cases e
    rfl
  subst e9
  have T : Nonempty (Σ' T : Txt l.prog K mg, T.f_law = f_law ∧ T.d_law = (PySem.W.fnOf "law" "law" (defArgs s_law) (defBody s_law) (defScope s_law) .none kV_law dc_law pm_law an_law cd_law ct_law)) := ⟨⟨{
    a_Script := a_Script
    m_Script := PySem.W.mg_of X G g_Script
    cl_Script := ⟨pg_Script, hd_Script, po_Script, sa_Script⟩
    na_Script__steps := na_Script__steps
    a_ALL_MARKS := a_ALL_MARKS
    dp_ALL_MARKS := fun _ => (dp_kt (xs := [.bl true, .bl true, .bl true, .bl true, .bl true]) l_ALL_MARKS (by simp) (.cons rfl (.cons rfl (.cons rfl (.cons rfl (.cons rfl .nil))))) (DpAll.cons (.bl _) (DpAll.cons (.bl _) (DpAll.cons (.bl _) (DpAll.cons (.bl _) (DpAll.cons (.bl _) DpAll.nil))))))
    a_NO_MARKS := a_NO_MARKS
    dp_NO_MARKS := fun _ => (dp_kt (xs := [.bl false, .bl false, .bl false, .bl false, .bl false]) l_NO_MARKS (by simp) (.cons rfl (.cons rfl (.cons rfl (.cons rfl (.cons rfl .nil))))) (DpAll.cons (.bl _) (DpAll.cons (.bl _) (DpAll.cons (.bl _) (DpAll.cons (.bl _) (DpAll.cons (.bl _) DpAll.nil))))))
    a_SPOILING := a_SPOILING
    dp_SPOILING := fun _ => (dp_kt (xs := [.ref b_SPOILING_0, .ref b_SPOILING_1]) l_SPOILING (by simp) (.cons rfl (.cons rfl .nil)) (DpAll.cons (dp_kt (xs := [.str "label", .str "all"]) l_SPOILING_0 (by simp) (.cons ⟨_, rfl⟩ (.cons ⟨_, rfl⟩ .nil)) (DpAll.cons (.str _) (DpAll.cons (.str _) DpAll.nil))) (DpAll.cons (dp_kt (xs := [.str "tie", .str "all"]) l_SPOILING_1 (by simp) (.cons ⟨_, rfl⟩ (.cons ⟨_, rfl⟩ .nil)) (DpAll.cons (.str _) (DpAll.cons (.str _) DpAll.nil))) DpAll.nil)))
    a_STEPS := a_STEPS
    dp_STEPS := fun _ => (dp_kt (xs := [.ref b_STEPS_0, .ref b_STEPS_1, .ref b_STEPS_2, .ref b_STEPS_3, .ref b_STEPS_4, .ref b_STEPS_5, .ref b_STEPS_6, .ref b_STEPS_7, .ref b_STEPS_8, .ref b_STEPS_9, .ref b_STEPS_10, .ref b_STEPS_11]) l_STEPS (by simp) (.cons rfl (.cons rfl (.cons rfl (.cons rfl (.cons rfl (.cons rfl (.cons rfl (.cons rfl (.cons rfl (.cons rfl (.cons rfl (.cons rfl .nil)))))))))))) (DpAll.cons (dp_kt (xs := [.str "make", .str "all"]) l_STEPS_0 (by simp) (.cons ⟨_, rfl⟩ (.cons ⟨_, rfl⟩ .nil)) (DpAll.cons (.str _) (DpAll.cons (.str _) DpAll.nil))) (DpAll.cons (dp_kt (xs := [.str "make", .str "standing"]) l_STEPS_1 (by simp) (.cons ⟨_, rfl⟩ (.cons ⟨_, rfl⟩ .nil)) (DpAll.cons (.str _) (DpAll.cons (.str _) DpAll.nil))) (DpAll.cons (dp_kt (xs := [.str "start", .str "new"]) l_STEPS_2 (by simp) (.cons ⟨_, rfl⟩ (.cons ⟨_, rfl⟩ .nil)) (DpAll.cons (.str _) (DpAll.cons (.str _) DpAll.nil))) (DpAll.cons (dp_kt (xs := [.str "start", .str "all"]) l_STEPS_3 (by simp) (.cons ⟨_, rfl⟩ (.cons ⟨_, rfl⟩ .nil)) (DpAll.cons (.str _) (DpAll.cons (.str _) DpAll.nil))) (DpAll.cons (dp_kt (xs := [.str "start", .str "free"]) l_STEPS_4 (by simp) (.cons ⟨_, rfl⟩ (.cons ⟨_, rfl⟩ .nil)) (DpAll.cons (.str _) (DpAll.cons (.str _) DpAll.nil))) (DpAll.cons (dp_kt (xs := [.str "label", .str "new"]) l_STEPS_5 (by simp) (.cons ⟨_, rfl⟩ (.cons ⟨_, rfl⟩ .nil)) (DpAll.cons (.str _) (DpAll.cons (.str _) DpAll.nil))) (DpAll.cons (dp_kt (xs := [.str "label", .str "all"]) l_STEPS_6 (by simp) (.cons ⟨_, rfl⟩ (.cons ⟨_, rfl⟩ .nil)) (DpAll.cons (.str _) (DpAll.cons (.str _) DpAll.nil))) (DpAll.cons (dp_kt (xs := [.str "label", .str "free"]) l_STEPS_7 (by simp) (.cons ⟨_, rfl⟩ (.cons ⟨_, rfl⟩ .nil)) (DpAll.cons (.str _) (DpAll.cons (.str _) DpAll.nil))) (DpAll.cons (dp_kt (xs := [.str "tie", .str "new"]) l_STEPS_8 (by simp) (.cons ⟨_, rfl⟩ (.cons ⟨_, rfl⟩ .nil)) (DpAll.cons (.str _) (DpAll.cons (.str _) DpAll.nil))) (DpAll.cons (dp_kt (xs := [.str "tie", .str "all"]) l_STEPS_9 (by simp) (.cons ⟨_, rfl⟩ (.cons ⟨_, rfl⟩ .nil)) (DpAll.cons (.str _) (DpAll.cons (.str _) DpAll.nil))) (DpAll.cons (dp_kt (xs := [.str "tie", .str "free"]) l_STEPS_10 (by simp) (.cons ⟨_, rfl⟩ (.cons ⟨_, rfl⟩ .nil)) (DpAll.cons (.str _) (DpAll.cons (.str _) DpAll.nil))) (DpAll.cons (dp_kt (xs := [.str "drop"]) l_STEPS_11 (by simp) (.cons ⟨_, rfl⟩ .nil) (DpAll.cons (.str _) DpAll.nil)) DpAll.nil)))))))))))))
    f_is_integer := f_is_integer
    d_is_integer := (PySem.W.fnOf "is_integer" "is_integer" (defArgs s_is_integer) (defBody s_is_integer) (defScope s_is_integer) .none kV_is_integer dc_is_integer pm_is_integer an_is_integer cd_is_integer ct_is_integer)
    F_is_integer := fun_mk (st := s_is_integer) l_is_integer c_is_integer k_is_integer
    b_is_integer := (fun_mk (st := s_is_integer) l_is_integer c_is_integer k_is_integer).binds (ps := ["value", "low", "high"]) fun _ _ _ _ _ _ us hl => match us, hl with | [_, _, _], _ => rfl
    m_is_integer := PySem.W.mg_of X G g_is_integer
    f_is_step := f_is_step
    d_is_step := (PySem.W.fnOf "is_step" "is_step" (defArgs s_is_step) (defBody s_is_step) (defScope s_is_step) .none kV_is_step dc_is_step pm_is_step an_is_step cd_is_step ct_is_step)
    F_is_step := fun_mk (st := s_is_step) l_is_step c_is_step k_is_step
    b_is_step := (fun_mk (st := s_is_step) l_is_step c_is_step k_is_step).binds (ps := ["value"]) fun _ _ _ _ _ _ us hl => match us, hl with | [_], _ => rfl
    m_is_step := PySem.W.mg_of X G g_is_step
    f_Script___init__ := f_Script___init__
    d_Script___init__ := (PySem.W.fnOf "__init__" "Script.__init__" (defArgs s_Script___init__) (defBody s_Script___init__) (defScope s_Script___init__) .none kV_Script___init__ dc_Script___init__ pm_Script___init__ an_Script___init__ cd_Script___init__ ct_Script___init__)
    F_Script___init__ := fun_mk (st := s_Script___init__) l_Script___init__ c_Script___init__ k_Script___init__
    b_Script___init__ := (fun_mk (st := s_Script___init__) l_Script___init__ c_Script___init__ k_Script___init__).binds (ps := ["self", "steps"]) fun _ _ _ _ _ _ us hl => match us, hl with | [_, _], _ => rfl
    M_Script := ⟨mk_Script, fi_Script___init__, isf_Script___init__, kc_Script⟩
    f_Script___len__ := f_Script___len__
    d_Script___len__ := (PySem.W.fnOf "__len__" "Script.__len__" (defArgs s_Script___len__) (defBody s_Script___len__) (defScope s_Script___len__) .none kV_Script___len__ dc_Script___len__ pm_Script___len__ an_Script___len__ cd_Script___len__ ct_Script___len__)
    F_Script___len__ := fun_mk (st := s_Script___len__) l_Script___len__ c_Script___len__ k_Script___len__
    b_Script___len__ := (fun_mk (st := s_Script___len__) l_Script___len__ c_Script___len__ k_Script___len__).binds (ps := ["self"]) fun _ _ _ _ _ _ us hl => match us, hl with | [_], _ => rfl
    me_Script___len__ := ⟨fi_Script___len__, isf_Script___len__, k_Script___len__⟩
    f_Script___add__ := f_Script___add__
    d_Script___add__ := (PySem.W.fnOf "__add__" "Script.__add__" (defArgs s_Script___add__) (defBody s_Script___add__) (defScope s_Script___add__) .none kV_Script___add__ dc_Script___add__ pm_Script___add__ an_Script___add__ cd_Script___add__ ct_Script___add__)
    F_Script___add__ := fun_mk (st := s_Script___add__) l_Script___add__ c_Script___add__ k_Script___add__
    b_Script___add__ := (fun_mk (st := s_Script___add__) l_Script___add__ c_Script___add__ k_Script___add__).binds (ps := ["self", "other"]) fun _ _ _ _ _ _ us hl => match us, hl with | [_, _], _ => rfl
    me_Script___add__ := ⟨fi_Script___add__, isf_Script___add__, k_Script___add__⟩
    sf_Script := sf_Script
    f_Script_steps := f_Script_steps
    d_Script_steps := (PySem.W.fnOf "steps" "Script.steps" (defArgs s_Script_steps) (defBody s_Script_steps) (defScope s_Script_steps) .none kV_Script_steps dc_Script_steps pm_Script_steps an_Script_steps cd_Script_steps ct_Script_steps)
    F_Script_steps := fun_mk (st := s_Script_steps) l_Script_steps c_Script_steps k_Script_steps
    b_Script_steps := (fun_mk (st := s_Script_steps) l_Script_steps c_Script_steps k_Script_steps).binds (ps := ["self"]) fun _ _ _ _ _ _ us hl => match us, hl with | [_], _ => rfl
    me_Script_steps := ⟨fi_Script_steps, isf_Script_steps, k_Script_steps⟩
    f_Script_without := f_Script_without
    d_Script_without := (PySem.W.fnOf "without" "Script.without" (defArgs s_Script_without) (defBody s_Script_without) (defScope s_Script_without) .none kV_Script_without dc_Script_without pm_Script_without an_Script_without cd_Script_without ct_Script_without)
    F_Script_without := fun_mk (st := s_Script_without) l_Script_without c_Script_without k_Script_without
    b_Script_without := (fun_mk (st := s_Script_without) l_Script_without c_Script_without k_Script_without).binds (ps := ["self", "index"]) fun _ _ _ _ _ _ us hl => match us, hl with | [_, _], _ => rfl
    me_Script_without := ⟨fi_Script_without, isf_Script_without, k_Script_without⟩
    f_Script_with_step := f_Script_with_step
    d_Script_with_step := (PySem.W.fnOf "with_step" "Script.with_step" (defArgs s_Script_with_step) (defBody s_Script_with_step) (defScope s_Script_with_step) .none kV_Script_with_step dc_Script_with_step pm_Script_with_step an_Script_with_step cd_Script_with_step ct_Script_with_step)
    F_Script_with_step := fun_mk (st := s_Script_with_step) l_Script_with_step c_Script_with_step k_Script_with_step
    b_Script_with_step := (fun_mk (st := s_Script_with_step) l_Script_with_step c_Script_with_step k_Script_with_step).binds (ps := ["self", "index", "step"]) fun _ _ _ _ _ _ us hl => match us, hl with | [_, _, _], _ => rfl
    me_Script_with_step := ⟨fi_Script_with_step, isf_Script_with_step, k_Script_with_step⟩
    f_Script__has := f_Script__has
    d_Script__has := (PySem.W.fnOf "_has" "Script._has" (defArgs s_Script__has) (defBody s_Script__has) (defScope s_Script__has) .none kV_Script__has dc_Script__has pm_Script__has an_Script__has cd_Script__has ct_Script__has)
    F_Script__has := fun_mk (st := s_Script__has) l_Script__has c_Script__has k_Script__has
    b_Script__has := (fun_mk (st := s_Script__has) l_Script__has c_Script__has k_Script__has).binds (ps := ["self", "index"]) fun _ _ _ _ _ _ us hl => match us, hl with | [_, _], _ => rfl
    me_Script__has := ⟨fi_Script__has, isf_Script__has, k_Script__has⟩
    f_marks_behind := f_marks_behind
    d_marks_behind := (PySem.W.fnOf "marks_behind" "marks_behind" (defArgs s_marks_behind) (defBody s_marks_behind) (defScope s_marks_behind) .none kV_marks_behind dc_marks_behind pm_marks_behind an_marks_behind cd_marks_behind ct_marks_behind)
    F_marks_behind := fun_mk (st := s_marks_behind) l_marks_behind c_marks_behind k_marks_behind
    b_marks_behind := (fun_mk (st := s_marks_behind) l_marks_behind c_marks_behind k_marks_behind).binds (ps := ["marks", "step"]) fun _ _ _ _ _ _ us hl => match us, hl with | [_, _], _ => rfl
    m_marks_behind := PySem.W.mg_of X G g_marks_behind
    f_marks_of := f_marks_of
    d_marks_of := (PySem.W.fnOf "marks_of" "marks_of" (defArgs s_marks_of) (defBody s_marks_of) (defScope s_marks_of) (.ref T_marks_of) kV_marks_of dc_marks_of pm_marks_of an_marks_of cd_marks_of ct_marks_of)
    F_marks_of := ⟨⟨_, _, _, _, _, _, _, _, _, _, rfl, l_marks_of, c_marks_of, .inr ⟨by simp, _, _, _, _, rfl, lT_marks_of, rfl, (.cons rfl .nil)⟩, .inl rfl⟩, k_marks_of⟩
    bd_marks_of := by
      refine FunD.binds1 (x := "marks_of") (qual := "marks_of") (params := defArgs s_marks_of) (body := defBody s_marks_of) (scope := defScope s_marks_of) (dvs := [.ref a_NO_MARKS]) (f := f_marks_of) ⟨⟨_, _, _, _, _, _, _, _, _, _, rfl, l_marks_of, c_marks_of, .inr ⟨by simp, _, _, _, _, rfl, lT_marks_of, rfl, (.cons rfl .nil)⟩, .inl rfl⟩, k_marks_of⟩ 1 0 (by simp) rfl ?_
      intro T kV doc pm an cdv ct us its h1 h2
      match us, its, h1, h2 with
      | [_], [_], _, _ => exact ⟨_, rfl, rfl⟩
    b_marks_of := by
      obtain ⟨ds, h1, h2⟩ := FunD.binds1 (ps := ["steps", "ahead"]) (x := "marks_of") (qual := "marks_of") (params := defArgs s_marks_of) (body := defBody s_marks_of) (scope := defScope s_marks_of) (dvs := [.ref a_NO_MARKS]) (f := f_marks_of) ⟨⟨_, _, _, _, _, _, _, _, _, _, rfl, l_marks_of, c_marks_of, .inr ⟨by simp, _, _, _, _, rfl, lT_marks_of, rfl, (.cons rfl .nil)⟩, .inl rfl⟩, k_marks_of⟩ 2 1 (by simp) rfl (by
        intro T kV doc pm an cdv ct us its h1 h2
        match us, its, h1, h2 with
        | [_, _], [_], _, _ => exact ⟨_, rfl, rfl⟩)
      cases h1
      exact h2
    m_marks_of := PySem.W.mg_of X G g_marks_of
    f_is_right := f_is_right
    d_is_right := (PySem.W.fnOf "is_right" "is_right" (defArgs s_is_right) (defBody s_is_right) (defScope s_is_right) .none kV_is_right dc_is_right pm_is_right an_is_right cd_is_right ct_is_right)
    F_is_right := fun_mk (st := s_is_right) l_is_right c_is_right k_is_right
    b_is_right := (fun_mk (st := s_is_right) l_is_right c_is_right k_is_right).binds (ps := ["script"]) fun _ _ _ _ _ _ us hl => match us, hl with | [_], _ => rfl
    m_is_right := PySem.W.mg_of X G g_is_right
    f__law_pot := f__law_pot
    d__law_pot := (PySem.W.fnOf "_law_pot" "_law_pot" (defArgs s__law_pot) (defBody s__law_pot) (defScope s__law_pot) .none kV__law_pot dc__law_pot pm__law_pot an__law_pot cd__law_pot ct__law_pot)
    F__law_pot := fun_mk (st := s__law_pot) l__law_pot c__law_pot k__law_pot
    b__law_pot := (fun_mk (st := s__law_pot) l__law_pot c__law_pot k__law_pot).binds (ps := ["script", "k"]) fun _ _ _ _ _ _ us hl => match us, hl with | [_, _], _ => rfl
    m__law_pot := PySem.W.mg_of X G g__law_pot
    f__law_dip := f__law_dip
    d__law_dip := (PySem.W.fnOf "_law_dip" "_law_dip" (defArgs s__law_dip) (defBody s__law_dip) (defScope s__law_dip) .none kV__law_dip dc__law_dip pm__law_dip an__law_dip cd__law_dip ct__law_dip)
    F__law_dip := fun_mk (st := s__law_dip) l__law_dip c__law_dip k__law_dip
    b__law_dip := (fun_mk (st := s__law_dip) l__law_dip c__law_dip k__law_dip).binds (ps := ["pot", "many"]) fun _ _ _ _ _ _ us hl => match us, hl with | [_, _], _ => rfl
    m__law_dip := PySem.W.mg_of X G g__law_dip
    f__law_kinds := f__law_kinds
    d__law_kinds := (PySem.W.fnOf "_law_kinds" "_law_kinds" (defArgs s__law_kinds) (defBody s__law_kinds) (defScope s__law_kinds) .none kV__law_kinds dc__law_kinds pm__law_kinds an__law_kinds cd__law_kinds ct__law_kinds)
    F__law_kinds := fun_mk (st := s__law_kinds) l__law_kinds c__law_kinds k__law_kinds
    b__law_kinds := (fun_mk (st := s__law_kinds) l__law_kinds c__law_kinds k__law_kinds).binds (ps := []) fun _ _ _ _ _ _ us hl => match us, hl with | [], _ => rfl
    m__law_kinds := PySem.W.mg_of X G g__law_kinds
    f__law_any := f__law_any
    d__law_any := (PySem.W.fnOf "_law_any" "_law_any" (defArgs s__law_any) (defBody s__law_any) (defScope s__law_any) .none kV__law_any dc__law_any pm__law_any an__law_any cd__law_any ct__law_any)
    F__law_any := fun_mk (st := s__law_any) l__law_any c__law_any k__law_any
    b__law_any := (fun_mk (st := s__law_any) l__law_any c__law_any k__law_any).binds (ps := ["pot", "many"]) fun _ _ _ _ _ _ us hl => match us, hl with | [_, _], _ => rfl
    m__law_any := PySem.W.mg_of X G g__law_any
    f__law_sound := f__law_sound
    d__law_sound := (PySem.W.fnOf "_law_sound" "_law_sound" (defArgs s__law_sound) (defBody s__law_sound) (defScope s__law_sound) .none kV__law_sound dc__law_sound pm__law_sound an__law_sound cd__law_sound ct__law_sound)
    F__law_sound := fun_mk (st := s__law_sound) l__law_sound c__law_sound k__law_sound
    b__law_sound := (fun_mk (st := s__law_sound) l__law_sound c__law_sound k__law_sound).binds (ps := ["pot"]) fun _ _ _ _ _ _ us hl => match us, hl with | [_], _ => rfl
    m__law_sound := PySem.W.mg_of X G g__law_sound
    f__law_steps := f__law_steps
    d__law_steps := (PySem.W.fnOf "_law_steps" "_law_steps" (defArgs s__law_steps) (defBody s__law_steps) (defScope s__law_steps) .none kV__law_steps dc__law_steps pm__law_steps an__law_steps cd__law_steps ct__law_steps)
    F__law_steps := fun_mk (st := s__law_steps) l__law_steps c__law_steps k__law_steps
    b__law_steps := (fun_mk (st := s__law_steps) l__law_steps c__law_steps k__law_steps).binds (ps := ["pot"]) fun _ _ _ _ _ _ us hl => match us, hl with | [_], _ => rfl
    m__law_steps := PySem.W.mg_of X G g__law_steps
    f__law_script := f__law_script
    d__law_script := (PySem.W.fnOf "_law_script" "_law_script" (defArgs s__law_script) (defBody s__law_script) (defScope s__law_script) .none kV__law_script dc__law_script pm__law_script an__law_script cd__law_script ct__law_script)
    F__law_script := fun_mk (st := s__law_script) l__law_script c__law_script k__law_script
    b__law_script := (fun_mk (st := s__law_script) l__law_script c__law_script k__law_script).binds (ps := ["steps"]) fun _ _ _ _ _ _ us hl => match us, hl with | [_], _ => rfl
    m__law_script := PySem.W.mg_of X G g__law_script
    f__law_due := f__law_due
    d__law_due := (PySem.W.fnOf "_law_due" "_law_due" (defArgs s__law_due) (defBody s__law_due) (defScope s__law_due) .none kV__law_due dc__law_due pm__law_due an__law_due cd__law_due ct__law_due)
    F__law_due := fun_mk (st := s__law_due) l__law_due c__law_due k__law_due
    b__law_due := (fun_mk (st := s__law_due) l__law_due c__law_due k__law_due).binds (ps := ["steps"]) fun _ _ _ _ _ _ us hl => match us, hl with | [_], _ => rfl
    m__law_due := PySem.W.mg_of X G g__law_due
    f_can_begin := f_can_begin
    d_can_begin := (PySem.W.fnOf "can_begin" "can_begin" (defArgs s_can_begin) (defBody s_can_begin) (defScope s_can_begin) .none kV_can_begin dc_can_begin pm_can_begin an_can_begin cd_can_begin ct_can_begin)
    F_can_begin := fun_mk (st := s_can_begin) l_can_begin c_can_begin k_can_begin
    b_can_begin := (fun_mk (st := s_can_begin) l_can_begin c_can_begin k_can_begin).binds (ps := ["script"]) fun _ _ _ _ _ _ us hl => match us, hl with | [_], _ => rfl
    m_can_begin := PySem.W.mg_of X G g_can_begin
    f__law_mark := f__law_mark
    d__law_mark := (PySem.W.fnOf "_law_mark" "_law_mark" (defArgs s__law_mark) (defBody s__law_mark) (defScope s__law_mark) .none kV__law_mark dc__law_mark pm__law_mark an__law_mark cd__law_mark ct__law_mark)
    F__law_mark := fun_mk (st := s__law_mark) l__law_mark c__law_mark k__law_mark
    b__law_mark := (fun_mk (st := s__law_mark) l__law_mark c__law_mark k__law_mark).binds (ps := ["marks", "step"]) fun _ _ _ _ _ _ us hl => match us, hl with | [_, _], _ => rfl
    m__law_mark := PySem.W.mg_of X G g__law_mark
    f__law_wanted := f__law_wanted
    d__law_wanted := (PySem.W.fnOf "_law_wanted" "_law_wanted" (defArgs s__law_wanted) (defBody s__law_wanted) (defScope s__law_wanted) .none kV__law_wanted dc__law_wanted pm__law_wanted an__law_wanted cd__law_wanted ct__law_wanted)
    F__law_wanted := fun_mk (st := s__law_wanted) l__law_wanted c__law_wanted k__law_wanted
    b__law_wanted := (fun_mk (st := s__law_wanted) l__law_wanted c__law_wanted k__law_wanted).binds (ps := ["steps"]) fun _ _ _ _ _ _ us hl => match us, hl with | [_], _ => rfl
    m__law_wanted := PySem.W.mg_of X G g__law_wanted
    f__law_right := f__law_right
    d__law_right := (PySem.W.fnOf "_law_right" "_law_right" (defArgs s__law_right) (defBody s__law_right) (defScope s__law_right) .none kV__law_right dc__law_right pm__law_right an__law_right cd__law_right ct__law_right)
    F__law_right := fun_mk (st := s__law_right) l__law_right c__law_right k__law_right
    b__law_right := (fun_mk (st := s__law_right) l__law_right c__law_right k__law_right).binds (ps := ["pot"]) fun _ _ _ _ _ _ us hl => match us, hl with | [_], _ => rfl
    m__law_right := PySem.W.mg_of X G g__law_right
    f_law := f_law
    d_law := (PySem.W.fnOf "law" "law" (defArgs s_law) (defBody s_law) (defScope s_law) .none kV_law dc_law pm_law an_law cd_law ct_law)
    F_law := fun_mk (st := s_law) l_law c_law k_law
    b_law := (fun_mk (st := s_law) l_law c_law k_law).binds (ps := ["script"]) fun _ _ _ _ _ _ us hl => match us, hl with | [_], _ => rfl
    m_law := PySem.W.mg_of X G g_law
    m_ALL_MARKS := PySem.W.mg_of X G g_ALL_MARKS
    m_MOST_STEPS := ⟨_, PySem.W.mg_of X G g_MOST_STEPS⟩
    m_SPOILING := PySem.W.mg_of X G g_SPOILING
    m_STEPS := PySem.W.mg_of X G g_STEPS
    m_abs := PySem.W.mg_none_of X G g_abs
    m_all := PySem.W.mg_none_of X G g_all
    m_bool := PySem.W.mg_none_of X G g_bool
    m_enumerate := PySem.W.mg_none_of X G g_enumerate
    m_int := PySem.W.mg_none_of X G g_int
    m_isinstance := PySem.W.mg_none_of X G g_isinstance
    m_len := PySem.W.mg_none_of X G g_len
    m_list := PySem.W.mg_none_of X G g_list
    m_max := PySem.W.mg_none_of X G g_max
    m_min := PySem.W.mg_none_of X G g_min
    m_range := PySem.W.mg_none_of X G g_range
    m_str := PySem.W.mg_none_of X G g_str
    m_tuple := PySem.W.mg_none_of X G g_tuple
    a_NoStep := a_NoStep
    f_NoStep := f_NoStep
    ec_NoStep := ⟨ga_NoStep, gg_NoStep, ex_NoStep, hd_NoStep, ha_NoStep, gsn_, gst_, mo_NoStep⟩
    er_NoStep := { gC := PySem.W.mg_of X G g_NoStep, gS := PySem.W.mg_none_of X G g_super, cls := ⟨_, _, _, _, _, _, _, _, _, _, _, _, _, _, _, x_NoStep, rfl⟩, sa := sa_NoStep, ga := ga_NoStep, gg := gg_NoStep, noN := nf_NoStep, iC := ic_NoStep, tC := tf__NoStep, kC := kc_NoStep, exC := ex_NoStep, tyC := ty_NoStep, hdC := hd_NoStep, te := PySem.W.exm_ref ex_NoStep hd_NoStep ty_NoStep ss_NoStep, qI := qi_NoStep, veC := ve_NoStep, mro := mr_NoStep, sup := su_NoStep, any := any_, top := top_, fn := ⟨"NoStep.__init__", _, _, _, _, _, _, _, _, _, _, _, _, _, _, _, _, _, _, _, _, _, _, _, _, _, _, _, _, _, _, l_NoStep, c_NoStep, lc_NoStep, vv_NoStep, ff_NoStep, cl__NoStep, fun _ => _, fun _ => rfl⟩ }
    a_NoIndex := a_NoIndex
    f_NoIndex := f_NoIndex
    ec_NoIndex := ⟨ga_NoIndex, gg_NoIndex, ex_NoIndex, hd_NoIndex, ha_NoIndex, gsn_, gst_, mo_NoIndex⟩
    er_NoIndex := { gC := PySem.W.mg_of X G g_NoIndex, gS := PySem.W.mg_none_of X G g_super, cls := ⟨_, _, _, _, _, _, _, _, _, _, _, _, _, _, _, x_NoIndex, rfl⟩, sa := sa_NoIndex, ga := ga_NoIndex, gg := gg_NoIndex, noN := nf_NoIndex, iC := ic_NoIndex, tC := tf__NoIndex, kC := kc_NoIndex, exC := ex_NoIndex, tyC := ty_NoIndex, hdC := hd_NoIndex, te := PySem.W.exm_ref ex_NoIndex hd_NoIndex ty_NoIndex ss_NoIndex, qI := qi_NoIndex, veC := ve_NoIndex, mro := mr_NoIndex, sup := su_NoIndex, any := any_, top := top_, fn := ⟨"NoIndex.__init__", _, _, _, _, _, _, _, _, _, _, _, _, _, _, _, _, _, _, _, _, _, _, _, _, _, _, _, _, _, _, l_NoIndex, c_NoIndex, lc_NoIndex, vv_NoIndex, ff_NoIndex, cl__NoIndex, fun _ => _, fun _ => rfl⟩ }
    ty_Script := fun _ _ _ _ h => .base (.ins h ⟨pg_Script, hd_Script, po_Script, sa_Script⟩ q1_Script q2_Script q3_Script q4_Script)
    tz_NO_MARKS := fun H => tupZ_K lz_NO (by simp) (.cons rfl (.cons rfl (.cons rfl (.cons rfl (.cons rfl .nil)))))
    }, rfl, rfl⟩⟩
  obtain ⟨⟨T, e1, e2⟩⟩ := T
  refine ⟨T.d_law, ?_, fun base _ _ => ?_⟩
  · rw [e2]
    exact fun s v => .of_eq rfl
  have q : FnOk l.prog w K mg base CX0 8 T.f_law T.d_law ["script"] (spLaw K) := ok_law T
  rw [e1] at q
  exact q
theorem walk {l : PySem.W.OpenLaw} {q : Program} {loose : List Str} {XP : (Str → Option Value) → Heap → Prop} {YP : World → Heap → Prop} {d : DefRec} {K : Params → PySem.W.Frag} (hn : l.most = some 63) (hdf : d.params.defaults = [])
    (hY : ∀ (w : World) (h : Heap), YP w h → (K w.params).In h)
    (F : ∀ (w : World) (mg : Str → Option Value) (fa : Addr) (h : Heap), (K w.params).In h → h.Ns mainGlobals mg → mg d.name = some (.ref fa) →
      ∃ fd : FuncData, (∀ (s : Shared) (u : Value), BindsTo s fd ⟨[u], []⟩ [("script", u)]) ∧ ∀ base : Heap, (K w.params).In base → base.Ns mainGlobals mg → FnOk l.prog w (K w.params) mg base CX0 8 fa fd ["script"] (spLaw (K w.params))) :
    PySem.W.WalkO q loose XP YP l.row.toRowW d [] (fun f vs => PySem.call f vs) :=
  L2.walk_ofB (n := 63) (k := 8) (x := "script") (CX := fun _ => CX0) (sp := fun w => spLaw (K w.params)) hn (by decide) hdf ⟨rfl, by decide, by decide⟩ hY F (fun _ _ a ns hl hb _ hS => ⟨a, ns, rfl, hS, hl, hb, fun _ => rfl⟩) fun _ _ _ _ _ z => z
end Y
open PySem PySem.W PyProof.Rows
set_option maxRecDepth 100000 in
set_option maxHeartbeats 0 in
theorem PySem.Challenge.cw_yearturned_k48_what_is_still_wanted_holds : PySem.Challenge.rw_yearturned_k48_what_is_still_wanted.Holds := by
  w_on; o_law; k_head; (case hw => w_witness2)
  k_fill
  refine Y.walk (l := PySem.Challenge.rw_yearturned_k48_what_is_still_wanted) rfl rfl (fun w h Y => PySem.W.kIn_of Y) ?F
  case F =>
    intro w mg fa h KX G hmg
    refine' Y.all_mk KX G hmg ?g_Script ?pg_Script ?hd_Script ?po_Script ?sa_Script ?na_Script__steps ?g_ALL_MARKS ?l_ALL_MARKS ?g_NO_MARKS ?l_NO_MARKS ?g_SPOILING ?l_SPOILING ?l_SPOILING_0 ?l_SPOILING_1 ?g_STEPS ?l_STEPS ?l_STEPS_0 ?l_STEPS_1 ?l_STEPS_2 ?l_STEPS_3 ?l_STEPS_4 ?l_STEPS_5 ?l_STEPS_6 ?l_STEPS_7 ?l_STEPS_8 ?l_STEPS_9 ?l_STEPS_10 ?l_STEPS_11 ?g_is_integer ?l_is_integer ?c_is_integer ?k_is_integer ?g_is_step ?l_is_step ?c_is_step ?k_is_step ?fi_Script___init__ ?isf_Script___init__ ?l_Script___init__ ?c_Script___init__ ?k_Script___init__ ?mk_Script ?kc_Script ?fi_Script___len__ ?isf_Script___len__ ?l_Script___len__ ?c_Script___len__ ?k_Script___len__ ?fi_Script___add__ ?isf_Script___add__ ?l_Script___add__ ?c_Script___add__ ?k_Script___add__ ?sf_Script ?fi_Script_steps ?isf_Script_steps ?l_Script_steps ?c_Script_steps ?k_Script_steps ?fi_Script_without ?isf_Script_without ?l_Script_without ?c_Script_without ?k_Script_without ?fi_Script_with_step ?isf_Script_with_step ?l_Script_with_step ?c_Script_with_step ?k_Script_with_step ?fi_Script__has ?isf_Script__has ?l_Script__has ?c_Script__has ?k_Script__has ?g_marks_behind ?l_marks_behind ?c_marks_behind ?k_marks_behind ?g_marks_of ?l_marks_of ?lT_marks_of ?c_marks_of ?k_marks_of ?g_is_right ?l_is_right ?c_is_right ?k_is_right ?g__law_pot ?l__law_pot ?c__law_pot ?k__law_pot ?g__law_dip ?l__law_dip ?c__law_dip ?k__law_dip ?g__law_kinds ?l__law_kinds ?c__law_kinds ?k__law_kinds ?g__law_any ?l__law_any ?c__law_any ?k__law_any ?g__law_sound ?l__law_sound ?c__law_sound ?k__law_sound ?g__law_steps ?l__law_steps ?c__law_steps ?k__law_steps ?g__law_script ?l__law_script ?c__law_script ?k__law_script ?g__law_due ?l__law_due ?c__law_due ?k__law_due ?g_can_begin ?l_can_begin ?c_can_begin ?k_can_begin ?g__law_mark ?l__law_mark ?c__law_mark ?k__law_mark ?g__law_wanted ?l__law_wanted ?c__law_wanted ?k__law_wanted ?g__law_right ?l__law_right ?c__law_right ?k__law_right ?g_law ?l_law ?c_law ?k_law ?g_MOST_STEPS ?g_abs ?g_all ?g_bool ?g_enumerate ?g_int ?g_isinstance ?g_len ?g_list ?g_max ?g_min ?g_range ?g_str ?g_tuple ?g_super ?any_ ?top_ ?gsn_ ?gst_ ?g_NoStep ?x_NoStep ?sa_NoStep ?ga_NoStep ?gg_NoStep ?nf_NoStep ?ic_NoStep ?ha_NoStep ?tf__NoStep ?kc_NoStep ?ex_NoStep ?ty_NoStep ?hd_NoStep ?ss_NoStep ?qi_NoStep ?ve_NoStep ?mr_NoStep ?mo_NoStep ?su_NoStep ?l_NoStep ?c_NoStep ?lc_NoStep ?vv_NoStep ?ff_NoStep ?cl__NoStep ?g_NoIndex ?x_NoIndex ?sa_NoIndex ?ga_NoIndex ?gg_NoIndex ?nf_NoIndex ?ic_NoIndex ?ha_NoIndex ?tf__NoIndex ?kc_NoIndex ?ex_NoIndex ?ty_NoIndex ?hd_NoIndex ?ss_NoIndex ?qi_NoIndex ?ve_NoIndex ?mr_NoIndex ?mo_NoIndex ?su_NoIndex ?l_NoIndex ?c_NoIndex ?lc_NoIndex ?vv_NoIndex ?ff_NoIndex ?cl__NoIndex ?q1_Script ?q2_Script ?q3_Script ?q4_Script ?lz_NO
    (case g_Script => first | k_is | ks_is | rfl | decide +kernel)
    (case pg_Script => first | k_is | ks_is | rfl | decide +kernel)
    (case hd_Script => first | k_is | ks_is | rfl | decide +kernel)
    (case po_Script => first | k_is | ks_is | rfl | decide +kernel)
    (case sa_Script => first | k_is | ks_is | rfl | decide +kernel)
    (case na_Script__steps => first | k_is | ks_is | rfl | decide +kernel)
    (case g_ALL_MARKS => first | k_is | ks_is | rfl | decide +kernel)
    (case l_ALL_MARKS => first | k_is | ks_is | rfl | decide +kernel)
    (case g_NO_MARKS => first | k_is | ks_is | rfl | decide +kernel)
    (case l_NO_MARKS => first | k_is | ks_is | rfl | decide +kernel)
    (case g_SPOILING => first | k_is | ks_is | rfl | decide +kernel)
    (case l_SPOILING => first | k_is | ks_is | rfl | decide +kernel)
    (case l_SPOILING_0 => first | k_is | ks_is | rfl | decide +kernel)
    (case l_SPOILING_1 => first | k_is | ks_is | rfl | decide +kernel)
    (case g_STEPS => first | k_is | ks_is | rfl | decide +kernel)
    (case l_STEPS => first | k_is | ks_is | rfl | decide +kernel)
    (case l_STEPS_0 => first | k_is | ks_is | rfl | decide +kernel)
    (case l_STEPS_1 => first | k_is | ks_is | rfl | decide +kernel)
    (case l_STEPS_2 => first | k_is | ks_is | rfl | decide +kernel)
    (case l_STEPS_3 => first | k_is | ks_is | rfl | decide +kernel)
    (case l_STEPS_4 => first | k_is | ks_is | rfl | decide +kernel)
    (case l_STEPS_5 => first | k_is | ks_is | rfl | decide +kernel)
    (case l_STEPS_6 => first | k_is | ks_is | rfl | decide +kernel)
    (case l_STEPS_7 => first | k_is | ks_is | rfl | decide +kernel)
    (case l_STEPS_8 => first | k_is | ks_is | rfl | decide +kernel)
    (case l_STEPS_9 => first | k_is | ks_is | rfl | decide +kernel)
    (case l_STEPS_10 => first | k_is | ks_is | rfl | decide +kernel)
    (case l_STEPS_11 => first | k_is | ks_is | rfl | decide +kernel)
    (case g_is_integer => first | k_is | ks_is | rfl | decide +kernel)
    (case l_is_integer => first | k_is | ks_is | rfl | decide +kernel)
    (case c_is_integer => first | k_is | ks_is | rfl | decide +kernel)
    (case k_is_integer => first | k_is | ks_is | rfl | decide +kernel)
    (case g_is_step => first | k_is | ks_is | rfl | decide +kernel)
    (case l_is_step => first | k_is | ks_is | rfl | decide +kernel)
    (case c_is_step => first | k_is | ks_is | rfl | decide +kernel)
    (case k_is_step => first | k_is | ks_is | rfl | decide +kernel)
    (case fi_Script___init__ => first | k_is | ks_is | rfl | decide +kernel)
    (case isf_Script___init__ => first | k_is | ks_is | rfl | decide +kernel)
    (case l_Script___init__ => first | k_is | ks_is | rfl | decide +kernel)
    (case c_Script___init__ => first | k_is | ks_is | rfl | decide +kernel)
    (case k_Script___init__ => first | k_is | ks_is | rfl | decide +kernel)
    (case mk_Script => first | k_is | ks_is | rfl | decide +kernel)
    (case kc_Script => first | k_is | ks_is | rfl | decide +kernel)
    (case fi_Script___len__ => first | k_is | ks_is | rfl | decide +kernel)
    (case isf_Script___len__ => first | k_is | ks_is | rfl | decide +kernel)
    (case l_Script___len__ => first | k_is | ks_is | rfl | decide +kernel)
    (case c_Script___len__ => first | k_is | ks_is | rfl | decide +kernel)
    (case k_Script___len__ => first | k_is | ks_is | rfl | decide +kernel)
    (case fi_Script___add__ => first | k_is | ks_is | rfl | decide +kernel)
    (case isf_Script___add__ => first | k_is | ks_is | rfl | decide +kernel)
    (case l_Script___add__ => first | k_is | ks_is | rfl | decide +kernel)
    (case c_Script___add__ => first | k_is | ks_is | rfl | decide +kernel)
    (case k_Script___add__ => first | k_is | ks_is | rfl | decide +kernel)
    (case sf_Script => first | k_is | ks_is | rfl | decide +kernel)
    (case fi_Script_steps => first | k_is | ks_is | rfl | decide +kernel)
    (case isf_Script_steps => first | k_is | ks_is | rfl | decide +kernel)
    (case l_Script_steps => first | k_is | ks_is | rfl | decide +kernel)
    (case c_Script_steps => first | k_is | ks_is | rfl | decide +kernel)
    (case k_Script_steps => first | k_is | ks_is | rfl | decide +kernel)
    (case fi_Script_without => first | k_is | ks_is | rfl | decide +kernel)
    (case isf_Script_without => first | k_is | ks_is | rfl | decide +kernel)
    (case l_Script_without => first | k_is | ks_is | rfl | decide +kernel)
    (case c_Script_without => first | k_is | ks_is | rfl | decide +kernel)
    (case k_Script_without => first | k_is | ks_is | rfl | decide +kernel)
    (case fi_Script_with_step => first | k_is | ks_is | rfl | decide +kernel)
    (case isf_Script_with_step => first | k_is | ks_is | rfl | decide +kernel)
    (case l_Script_with_step => first | k_is | ks_is | rfl | decide +kernel)
    (case c_Script_with_step => first | k_is | ks_is | rfl | decide +kernel)
    (case k_Script_with_step => first | k_is | ks_is | rfl | decide +kernel)
    (case fi_Script__has => first | k_is | ks_is | rfl | decide +kernel)
    (case isf_Script__has => first | k_is | ks_is | rfl | decide +kernel)
    (case l_Script__has => first | k_is | ks_is | rfl | decide +kernel)
    (case c_Script__has => first | k_is | ks_is | rfl | decide +kernel)
    (case k_Script__has => first | k_is | ks_is | rfl | decide +kernel)
    (case g_marks_behind => first | k_is | ks_is | rfl | decide +kernel)
    (case l_marks_behind => first | k_is | ks_is | rfl | decide +kernel)
    (case c_marks_behind => first | k_is | ks_is | rfl | decide +kernel)
    (case k_marks_behind => first | k_is | ks_is | rfl | decide +kernel)
    (case g_marks_of => first | k_is | ks_is | rfl | decide +kernel)
    (case l_marks_of => first | k_is | ks_is | rfl | decide +kernel)
    (case lT_marks_of => first | k_is | ks_is | rfl | decide +kernel)
    (case c_marks_of => first | k_is | ks_is | rfl | decide +kernel)
    (case k_marks_of => first | k_is | ks_is | rfl | decide +kernel)
    (case g_is_right => first | k_is | ks_is | rfl | decide +kernel)
    (case l_is_right => first | k_is | ks_is | rfl | decide +kernel)
    (case c_is_right => first | k_is | ks_is | rfl | decide +kernel)
    (case k_is_right => first | k_is | ks_is | rfl | decide +kernel)
    (case g__law_pot => first | k_is | ks_is | rfl | decide +kernel)
    (case l__law_pot => first | k_is | ks_is | rfl | decide +kernel)
    (case c__law_pot => first | k_is | ks_is | rfl | decide +kernel)
    (case k__law_pot => first | k_is | ks_is | rfl | decide +kernel)
    (case g__law_dip => first | k_is | ks_is | rfl | decide +kernel)
    (case l__law_dip => first | k_is | ks_is | rfl | decide +kernel)
    (case c__law_dip => first | k_is | ks_is | rfl | decide +kernel)
    (case k__law_dip => first | k_is | ks_is | rfl | decide +kernel)
    (case g__law_kinds => first | k_is | ks_is | rfl | decide +kernel)
    (case l__law_kinds => first | k_is | ks_is | rfl | decide +kernel)
    (case c__law_kinds => first | k_is | ks_is | rfl | decide +kernel)
    (case k__law_kinds => first | k_is | ks_is | rfl | decide +kernel)
    (case g__law_any => first | k_is | ks_is | rfl | decide +kernel)
    (case l__law_any => first | k_is | ks_is | rfl | decide +kernel)
    (case c__law_any => first | k_is | ks_is | rfl | decide +kernel)
    (case k__law_any => first | k_is | ks_is | rfl | decide +kernel)
    (case g__law_sound => first | k_is | ks_is | rfl | decide +kernel)
    (case l__law_sound => first | k_is | ks_is | rfl | decide +kernel)
    (case c__law_sound => first | k_is | ks_is | rfl | decide +kernel)
    (case k__law_sound => first | k_is | ks_is | rfl | decide +kernel)
    (case g__law_steps => first | k_is | ks_is | rfl | decide +kernel)
    (case l__law_steps => first | k_is | ks_is | rfl | decide +kernel)
    (case c__law_steps => first | k_is | ks_is | rfl | decide +kernel)
    (case k__law_steps => first | k_is | ks_is | rfl | decide +kernel)
    (case g__law_script => first | k_is | ks_is | rfl | decide +kernel)
    (case l__law_script => first | k_is | ks_is | rfl | decide +kernel)
    (case c__law_script => first | k_is | ks_is | rfl | decide +kernel)
    (case k__law_script => first | k_is | ks_is | rfl | decide +kernel)
    (case g__law_due => first | k_is | ks_is | rfl | decide +kernel)
    (case l__law_due => first | k_is | ks_is | rfl | decide +kernel)
    (case c__law_due => first | k_is | ks_is | rfl | decide +kernel)
    (case k__law_due => first | k_is | ks_is | rfl | decide +kernel)
    (case g_can_begin => first | k_is | ks_is | rfl | decide +kernel)
    (case l_can_begin => first | k_is | ks_is | rfl | decide +kernel)
    (case c_can_begin => first | k_is | ks_is | rfl | decide +kernel)
    (case k_can_begin => first | k_is | ks_is | rfl | decide +kernel)
    (case g__law_mark => first | k_is | ks_is | rfl | decide +kernel)
    (case l__law_mark => first | k_is | ks_is | rfl | decide +kernel)
    (case c__law_mark => first | k_is | ks_is | rfl | decide +kernel)
    (case k__law_mark => first | k_is | ks_is | rfl | decide +kernel)
    (case g__law_wanted => first | k_is | ks_is | rfl | decide +kernel)
    (case l__law_wanted => first | k_is | ks_is | rfl | decide +kernel)
    (case c__law_wanted => first | k_is | ks_is | rfl | decide +kernel)
    (case k__law_wanted => first | k_is | ks_is | rfl | decide +kernel)
    (case g__law_right => first | k_is | ks_is | rfl | decide +kernel)
    (case l__law_right => first | k_is | ks_is | rfl | decide +kernel)
    (case c__law_right => first | k_is | ks_is | rfl | decide +kernel)
    (case k__law_right => first | k_is | ks_is | rfl | decide +kernel)
    (case g_law => first | k_is | ks_is | rfl | decide +kernel)
    (case l_law => first | k_is | ks_is | rfl | decide +kernel)
    (case c_law => first | k_is | ks_is | rfl | decide +kernel)
    (case k_law => first | k_is | ks_is | rfl | decide +kernel)
    (case g_MOST_STEPS => first | k_is | ks_is | rfl | decide +kernel)
    (case g_abs => first | k_is | ks_is | rfl | decide +kernel)
    (case g_all => first | k_is | ks_is | rfl | decide +kernel)
    (case g_bool => first | k_is | ks_is | rfl | decide +kernel)
    (case g_enumerate => first | k_is | ks_is | rfl | decide +kernel)
    (case g_int => first | k_is | ks_is | rfl | decide +kernel)
    (case g_isinstance => first | k_is | ks_is | rfl | decide +kernel)
    (case g_len => first | k_is | ks_is | rfl | decide +kernel)
    (case g_list => first | k_is | ks_is | rfl | decide +kernel)
    (case g_max => first | k_is | ks_is | rfl | decide +kernel)
    (case g_min => first | k_is | ks_is | rfl | decide +kernel)
    (case g_range => first | k_is | ks_is | rfl | decide +kernel)
    (case g_str => first | k_is | ks_is | rfl | decide +kernel)
    (case g_tuple => first | k_is | ks_is | rfl | decide +kernel)
    (case g_super => first | k_is | ks_is | rfl | decide +kernel)
    (case any_ => first | k_is | ks_is | rfl | decide +kernel)
    (case top_ => first | k_is | ks_is | rfl | decide +kernel)
    (case gsn_ => first | k_is | ks_is | rfl | decide +kernel)
    (case gst_ => first | k_is | ks_is | rfl | decide +kernel)
    (case g_NoStep => first | k_is | ks_is | rfl | decide +kernel)
    (case x_NoStep => first | k_is | ks_is | rfl | decide +kernel)
    (case sa_NoStep => first | k_is | ks_is | rfl | decide +kernel)
    (case ga_NoStep => first | k_is | ks_is | rfl | decide +kernel)
    (case gg_NoStep => first | k_is | ks_is | rfl | decide +kernel)
    (case nf_NoStep => first | k_is | ks_is | rfl | decide +kernel)
    (case ic_NoStep => first | k_is | ks_is | rfl | decide +kernel)
    (case ha_NoStep => first | k_is | ks_is | rfl | decide +kernel)
    (case tf__NoStep => first | k_is | ks_is | rfl | decide +kernel)
    (case kc_NoStep => first | k_is | ks_is | rfl | decide +kernel)
    (case ex_NoStep => first | k_is | ks_is | rfl | decide +kernel)
    (case ty_NoStep => first | k_is | ks_is | rfl | decide +kernel)
    (case hd_NoStep => first | k_is | ks_is | rfl | decide +kernel)
    (case ss_NoStep => first | k_is | ks_is | rfl | decide +kernel)
    (case qi_NoStep => first | k_is | ks_is | rfl | decide +kernel)
    (case ve_NoStep => first | k_is | ks_is | rfl | decide +kernel)
    (case mr_NoStep => first | k_is | ks_is | rfl | decide +kernel)
    (case mo_NoStep => first | k_is | ks_is | rfl | decide +kernel)
    (case su_NoStep => first | k_is | ks_is | rfl | decide +kernel)
    (case l_NoStep => first | k_is | ks_is | rfl | decide +kernel)
    (case c_NoStep => first | k_is | ks_is | rfl | decide +kernel)
    (case lc_NoStep => first | k_is | ks_is | rfl | decide +kernel)
    (case vv_NoStep => first | k_is | ks_is | rfl | decide +kernel)
    (case ff_NoStep => first | k_is | ks_is | rfl | decide +kernel)
    (case cl__NoStep => first | k_is | ks_is | rfl | decide +kernel)
    (case g_NoIndex => first | k_is | ks_is | rfl | decide +kernel)
    (case x_NoIndex => first | k_is | ks_is | rfl | decide +kernel)
    (case sa_NoIndex => first | k_is | ks_is | rfl | decide +kernel)
    (case ga_NoIndex => first | k_is | ks_is | rfl | decide +kernel)
    (case gg_NoIndex => first | k_is | ks_is | rfl | decide +kernel)
    (case nf_NoIndex => first | k_is | ks_is | rfl | decide +kernel)
    (case ic_NoIndex => first | k_is | ks_is | rfl | decide +kernel)
    (case ha_NoIndex => first | k_is | ks_is | rfl | decide +kernel)
    (case tf__NoIndex => first | k_is | ks_is | rfl | decide +kernel)
    (case kc_NoIndex => first | k_is | ks_is | rfl | decide +kernel)
    (case ex_NoIndex => first | k_is | ks_is | rfl | decide +kernel)
    (case ty_NoIndex => first | k_is | ks_is | rfl | decide +kernel)
    (case hd_NoIndex => first | k_is | ks_is | rfl | decide +kernel)
    (case ss_NoIndex => first | k_is | ks_is | rfl | decide +kernel)
    (case qi_NoIndex => first | k_is | ks_is | rfl | decide +kernel)
    (case ve_NoIndex => first | k_is | ks_is | rfl | decide +kernel)
    (case mr_NoIndex => first | k_is | ks_is | rfl | decide +kernel)
    (case mo_NoIndex => first | k_is | ks_is | rfl | decide +kernel)
    (case su_NoIndex => first | k_is | ks_is | rfl | decide +kernel)
    (case l_NoIndex => first | k_is | ks_is | rfl | decide +kernel)
    (case c_NoIndex => first | k_is | ks_is | rfl | decide +kernel)
    (case lc_NoIndex => first | k_is | ks_is | rfl | decide +kernel)
    (case vv_NoIndex => first | k_is | ks_is | rfl | decide +kernel)
    (case ff_NoIndex => first | k_is | ks_is | rfl | decide +kernel)
    (case cl__NoIndex => first | k_is | ks_is | rfl | decide +kernel)
    (case q1_Script => first | k_is | ks_is | rfl | decide +kernel)
    (case q2_Script => first | k_is | ks_is | rfl | decide +kernel)
    (case q3_Script => first | k_is | ks_is | rfl | decide +kernel)
    (case q4_Script => first | k_is | ks_is | rfl | decide +kernel)
    (case lz_NO => first | k_is | ks_is | rfl | decide +kernel)


