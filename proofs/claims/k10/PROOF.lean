import PyProof.Rows.All
import Wide.All
import OpenK.AllK
import Wide.FinOn
import HandS.Base
import HandS.Call
import HandS.List
import HandS.Comp
import HandS.Dict
import HandS.Iter
import HandS.Text
import HandS.TupAny
import HandS.Wide
import HandS.Deep
import HandS.Style
import HandS.ForMost
import HandS.IsInst
import HandS.Defaults
import HandS.MakeKw
import HandS.Conv
import OpenK.KMeth
import OpenK.KOps
import KE.GoesMore
import KE.GoesEnum
import HandS.MakeKwOnly
import HandS.Walk
import HandS.Exc
import KE.KExcSuper
import HandS.ExcOwn
import HandS.WordsExc
import HandS.ExcIs
import KE.DataFind
import HandS.More
import PySem.Challenge.RW_yearturned_k10_script_texts
import HandS.EndBits
import HandS.Ends
set_option Elab.async false
set_option linter.all false
set_option maxRecDepth 100000
namespace Y
open PySem L2
/-! frames -/
abbrev VL := List V → Hp → Prop
def fOp1 (r : R2) (tb : TE) (σ : St) (Q : VK) : VK := fun x H => tb σ H fun y H2 => r x y H2 Q
def fOp2 (r : R2) (x : V) (Q : VK) : VK := fun y H => r x y H Q
def fUn (r : V → Hp → VK → Prop) (Q : VK) : VK := fun x H => r x H Q
def fFld (K : PySem.W.Frag) (f : Str) (Q : VK) : VK := fun x H1 => ∃ a C dx fs v, x = .ref a ∧ H1 a = some (.ins C dx fs) ∧ Cls K C ∧ NoAttr K C f ∧ fs.lookup f = some v ∧ Q v H1
def fTup (Q : VK) : VL := fun xs H1 => xs.length ≤ sizeLine ∧ ∀ p, H1 p = none → Q (.ref p) (upd H1 p (.tup xs))
def fLst (Q : VK) : VL := fun xs H1 => xs.length ≤ sizeLine ∧ ∀ p, H1 p = none → Q (.ref p) (upd H1 p (.lst xs))
def fCons (tr : TA) (σ : St) (Q : VL) : VK := fun x H1 => tr σ H1 fun xs H2 => Q (x :: xs) H2
def fCons2 (x : V) (Q : VL) : VL := fun xs H2 => Q (x :: xs) H2
def fCall (sp : Sp) (dvs : List V) (E : XK) (Q : VK) : VL := fun vs H1 => sp (vs ++ dvs) H1 Q E
def fCB (r : List V → Hp → VK → Prop) (Q : VK) : VL := fun vs H1 => r vs H1 Q
def fMeth (C : Addr) (m : Str) (sp : Sp) (dvs : List V) (E : XK) (t : TA) (σ : St) (Q : VK) : VK := fun x H1 => ∃ a dx fs, x = .ref a ∧ H1 a = some (.ins C dx fs) ∧ fs.lookup m = none ∧ t σ H1 fun vs H2 => sp (.ref a :: (vs ++ dvs)) H2 Q E
def fMake (C : Addr) (sp : Sp) (dvs : List V) (E : XK) (Q : VK) : VL := fun vs H1 => ∀ x dx, H1 x = none → H1 dx = none → dx ≠ x →
  sp (.ref x :: (vs ++ dvs)) (upd (upd H1 dx (.own x)) x (.ins C dx [])) (fun v H2 => v = .non ∧ Q (.ref x) H2) E
def fB (Q : Bool → Hp → Prop) : VK := fun x H1 => ∃ c, x = .bl c ∧ Q c H1
def fIf (ta tb : TE) (σ : St) (Q : VK) : Bool → Hp → Prop := fun c H1 => if c = true then ta σ H1 Q else tb σ H1 Q
def fIfS (t u : TS) (D : Ends) (σ : St) : Bool → Hp → Prop := fun b H1 => if b = true then t D σ H1 else u D σ H1
def fAnd (u : TT) (σ : St) (Q : Bool → Hp → Prop) : Bool → Hp → Prop := fun c H1 => if c = true then u σ H1 Q else Q false H1
def fOr (u : TT) (σ : St) (Q : Bool → Hp → Prop) : Bool → Hp → Prop := fun c H1 => if c = true then Q true H1 else u σ H1 Q
def fNot (Q : Bool → Hp → Prop) : Bool → Hp → Prop := fun c H1 => Q (!c) H1
def fAndV (tb : TE) (σ : St) (Q : VK) : VK := fun x H1 => ∃ c, x = .bl c ∧ if c = true then tb σ H1 Q else Q (.bl false) H1
def fOrV (tb : TE) (σ : St) (Q : VK) : VK := fun x H1 => ∃ c, x = .bl c ∧ if c = true then Q (.bl true) H1 else tb σ H1 Q
def fNotV (Q : VK) : VK := fun x H1 => ∃ c, x = .bl c ∧ Q (.bl (!c)) H1
def fDrop (nx : St → Hp → Prop) (σ : St) : VK := fun _ H1 => nx σ H1
def fAsg (g : TG) (σ : St) (nx : St → Hp → Prop) : VK := fun x H1 => g x σ H1 nx
def fPart (Q : Option Int → Hp → Prop) : VK := fun x H1 => ∃ i, x = .int i ∧ Q (some i) H1
def fSl1 (r : V → Option Int → Option Int → Hp → VK → Prop) (tl th : TO) (σ : St) (Q : VK) : VK := fun x H1 => tl σ H1 fun l H2 => th σ H2 fun u H3 => r x l u H3 Q
def fSl2 (r : V → Option Int → Option Int → Hp → VK → Prop) (x : V) (th : TO) (σ : St) (Q : VK) : Option Int → Hp → Prop := fun l H2 => th σ H2 fun u H3 => r x l u H3 Q
def fSl3 (r : V → Option Int → Option Int → Hp → VK → Prop) (x : V) (l : Option Int) (Q : VK) : Option Int → Hp → Prop := fun u H3 => r x l u H3 Q
section
variable {K : PySem.W.Frag} {σ : St} {H : Hp} {Q : VK} {QT : Bool → Hp → Prop} {r : R2} {ta tb tc : TE} {t u : TT} {v : V} {f m : Str} {tl tr : TA} {sp : Sp} {dvs : List V} {E : XK} {C : Addr} {QL : VL} {D : Ends} {nx : St → Hp → Prop} {rt : VK} {bk ct : St → Hp → Prop} {s1 s2 : TS} {g : TG} {i : Nat}
theorem e_C : tC v σ H Q = Q v H := rfl
theorem e_var0 {x : V} {l : St} : tVar 0 (some x :: l) H Q = Q x H := by
  show (∃ v, (some x :: l)[0]? = some (some v) ∧ Q v H) = Q x H
  simp
theorem e_varS {x : Option V} {l : St} {n : Nat} : tVar (n + 1) (x :: l) H Q = tVar n l H Q := by
  show (∃ v, (x :: l)[n + 1]? = some (some v) ∧ Q v H) = (∃ v, l[n]? = some (some v) ∧ Q v H)
  simp
theorem e_op : tOp r ta tb σ H Q = ta σ H (fOp1 r tb σ Q) := rfl
theorem e_op1 : fOp1 r tb σ Q v H = tb σ H (fOp2 r v Q) := rfl
theorem e_un {r : V → Hp → VK → Prop} : tUn r ta σ H Q = ta σ H (fUn r Q) := rfl
theorem e_fld : tFld K ta f σ H Q = ta σ H (fFld K f Q) := rfl
theorem e_tup : tTup tl σ H Q = tl σ H (fTup Q) := rfl
theorem e_lst : tLst tl σ H Q = tl σ H (fLst Q) := rfl
theorem e_cons : tCons ta tr σ H QL = ta σ H (fCons tr σ QL) := rfl
theorem e_cons1 : fCons tr σ QL v H = tr σ H (fCons2 v QL) := rfl
theorem e_cons2 {xs : List V} : fCons2 v QL xs H = QL (v :: xs) H := rfl
theorem e_nil : tNil σ H QL = QL [] H := rfl
theorem e_call : tCall sp dvs E tl σ H Q = tl σ H (fCall sp dvs E Q) := rfl
theorem e_call1 {vs : List V} : fCall sp [] E Q vs H = sp vs H Q E := by
  show sp (vs ++ []) H Q E = _
  rw [List.append_nil]
theorem e_CB {r : List V → Hp → VK → Prop} : tCB r tl σ H Q = tl σ H (fCB r Q) := rfl
theorem e_CB1 {r : List V → Hp → VK → Prop} {vs : List V} : fCB r Q vs H = r vs H Q := rfl
theorem e_meth : tMeth C m sp dvs E ta tl σ H Q = ta σ H (fMeth C m sp dvs E tl σ Q) := by
  unfold tMeth fMeth
  congr 1
  funext x H1
  apply propext
  constructor
  · rintro ⟨a, dx, fs, rfl, h1, h2, h3⟩
    exact ⟨a, dx, fs, rfl, h1, h2, h3⟩
  · rintro ⟨a, dx, fs, rfl, h1, h2, h3⟩
    exact ⟨a, dx, fs, rfl, h1, h2, h3⟩
theorem e_make : tMake C sp dvs E tl σ H Q = tl σ H (fMake C sp dvs E Q) := rfl
theorem e_B : tB ta σ H QT = ta σ H (fB QT) := rfl
theorem e_test : tTest ta σ H QT = ta σ H (fB QT) := rfl
theorem e_B1 {b : Bool} : fB QT (.bl b) H = QT b H := by
  apply propext
  constructor
  · rintro ⟨c, h, q⟩
    cases h
    exact q
  · exact fun q => ⟨b, rfl, q⟩
theorem e_if : tIf t ta tb σ H Q = t σ H (fIf ta tb σ Q) := rfl
theorem e_if1 {c : Bool} : fIf ta tb σ Q c H = (if c = true then ta σ H Q else tb σ H Q) := rfl
theorem e_ifS : tIfS t s1 s2 D σ H = t σ H (fIfS s1 s2 D σ) := rfl
theorem e_ifS1 {c : Bool} : fIfS s1 s2 D σ c H = (if c = true then s1 D σ H else s2 D σ H) := rfl
theorem e_and : tAnd t u σ H QT = t σ H (fAnd u σ QT) := rfl
theorem e_and1 : fAnd u σ QT true H = u σ H QT := rfl
theorem e_and0 : fAnd u σ QT false H = QT false H := rfl
theorem e_or : tOr t u σ H QT = t σ H (fOr u σ QT) := rfl
theorem e_or1 : fOr u σ QT true H = QT true H := rfl
theorem e_or0 : fOr u σ QT false H = u σ H QT := rfl
theorem e_not : tNot t σ H QT = t σ H (fNot QT) := rfl
theorem e_not1 {c : Bool} : fNot QT c H = QT (!c) H := rfl
theorem e_andV : tAndV ta tb σ H Q = ta σ H (fAndV tb σ Q) := rfl
theorem e_andV1 : fAndV tb σ Q (.bl true) H = tb σ H Q := propext ⟨fun ⟨c, h, q⟩ => by cases h; exact q, fun q => ⟨true, rfl, q⟩⟩
theorem e_andV0 : fAndV tb σ Q (.bl false) H = Q (.bl false) H := propext ⟨fun ⟨c, h, q⟩ => by cases h; exact q, fun q => ⟨false, rfl, q⟩⟩
theorem e_orV : tOrV ta tb σ H Q = ta σ H (fOrV tb σ Q) := rfl
theorem e_orV1 : fOrV tb σ Q (.bl true) H = Q (.bl true) H := propext ⟨fun ⟨c, h, q⟩ => by cases h; exact q, fun q => ⟨true, rfl, q⟩⟩
theorem e_orV0 : fOrV tb σ Q (.bl false) H = tb σ H Q := propext ⟨fun ⟨c, h, q⟩ => by cases h; exact q, fun q => ⟨false, rfl, q⟩⟩
theorem e_notV : tNotV ta σ H Q = ta σ H (fNotV Q) := rfl
theorem e_notV1 {b : Bool} : fNotV Q (.bl b) H = Q (.bl (!b)) H := propext ⟨fun ⟨c, h, q⟩ => by cases h; exact q, fun q => ⟨b, rfl, q⟩⟩
theorem e_seq : tSeq s1 s2 ⟨nx, rt, bk, ct⟩ σ H = s1 ⟨s2 ⟨nx, rt, bk, ct⟩, rt, bk, ct⟩ σ H := rfl
theorem e_next : tNext ⟨nx, rt, bk, ct⟩ σ H = nx σ H := rfl
theorem e_break : tBreak ⟨nx, rt, bk, ct⟩ σ H = bk σ H := rfl
theorem e_cont : tCont ⟨nx, rt, bk, ct⟩ σ H = ct σ H := rfl
theorem e_drop : tDrop ta ⟨nx, rt, bk, ct⟩ σ H = ta σ H (fDrop nx σ) := rfl
theorem e_drop1 : fDrop nx σ v H = nx σ H := rfl
theorem e_ret : tRet ta ⟨nx, rt, bk, ct⟩ σ H = ta σ H rt := rfl
theorem e_retN : tRetN ⟨nx, rt, bk, ct⟩ σ H = rt .non H := rfl
theorem e_asg : tAsg ta g ⟨nx, rt, bk, ct⟩ σ H = ta σ H (fAsg g σ nx) := rfl
theorem e_name : fAsg (gName i) σ nx v H = nx (σ.set i (some v)) H := rfl
theorem e_part : tPart ta σ H = fun q => ta σ H (fPart q) := rfl
theorem e_part1 {q : Option Int → Hp → Prop} {j : Int} : fPart q (.int j) H = q (some j) H := propext ⟨fun ⟨c, h, q⟩ => by cases h; exact q, fun q => ⟨j, rfl, q⟩⟩
theorem e_noPart {q : Option Int → Hp → Prop} : tNoPart σ H q = q none H := rfl
theorem e_sl {r : V → Option Int → Option Int → Hp → VK → Prop} {tl th : TO} : tSl r ta tl th σ H Q = ta σ H (fSl1 r tl th σ Q) := rfl
theorem e_sl1 {r : V → Option Int → Option Int → Hp → VK → Prop} {tl th : TO} : fSl1 r tl th σ Q v H = tl σ H (fSl2 r v th σ Q) := rfl
theorem e_sl2 {r : V → Option Int → Option Int → Hp → VK → Prop} {th : TO} {o : Option Int} : fSl2 r v th σ Q o H = th σ H (fSl3 r v o Q) := rfl
theorem e_sl3 {r : V → Option Int → Option Int → Hp → VK → Prop} {o o2 : Option Int} : fSl3 r v o Q o2 H = r v o o2 H Q := rfl
end
end Y

set_option Elab.async false
set_option linter.all false
set_option maxRecDepth 100000
namespace Y
open PySem L2
/-! ### operators whatever their operands are -/
def rAddU (K : PySem.W.Frag) : R2 := fun x y H Q => match x, y with
  | .int i, .int j => Q (.int (i + j)) H
  | .str a, .str b => a.length + b.length ≤ sizeLine ∧ Q (.str (a ++ b)) H
  | .ref a, .ref b => rCatA K (.ref a) (.ref b) H Q ∨ rCat (.ref a) (.ref b) H Q
  | _, _ => False
theorem op_addU {X : Cx} : OpR X (binaryOp .Add) (rAddU X.K) := by
  intro pins s σ H x y v u Q I rx ry h
  unfold rAddU at h
  split at h
  · exact op_add pins s σ H _ _ v u Q I rx ry ⟨_, _, rfl, rfl, h⟩
  · exact op_add_str pins s σ H _ _ v u Q I rx ry ⟨_, _, rfl, rfl, h.1, h.2⟩
  · rcases h with h | h
    · exact op_catA pins s σ H _ _ v u Q I rx ry h
    · exact op_cat pins s σ H _ _ v u Q I rx ry h
  · exact h.elim
/-- * of two factors of together at most a hundred million bits -/
def CMulX (i j : Int) : Prop := Builtin.Int.intBits i + Builtin.Int.intBits j ≤ 100000000
theorem CMulX.ok {i j : Int} (h : CMulX i j) : IntMulOk i j := by
  have h' : Builtin.Int.intBits i + Builtin.Int.intBits j ≤ 100000000 := h
  have e : bitsLine = 134217728 := by decide
  unfold IntMulOk
  intro z
  rw [Bool.and_eq_true] at z
  have z2 := z.2
  unfold Builtin.Int.intTooBig at z2
  have z3 := of_decide_eq_true z2
  rw [e] at z3
  omega
theorem op_mulX {X : Cx} : OpR X (binaryOp .Mult) (rI CMulX fun i j => .int (i * j)) := opI fun _ _ _ _ _ _ _ hc q => PyProof.Rows.mul_int q hc.ok
theorem bits_lt {i : Int} {a : Nat} (ha : i.natAbs < 2 ^ a) (h0 : 0 < a) : Builtin.Int.intBits i ≤ a := by
  have x := PySem.Flt.log2_lt_of h0 ha
  unfold Builtin.Int.intBits
  split <;> omega
theorem mulX {i j : Int} {a b : Nat} (ha : i.natAbs < 2 ^ a) (hb : j.natAbs < 2 ^ b) (h0 : 0 < a) (h1 : 0 < b) (h : a + b ≤ 100000000) : CMulX i j := by
  have x := bits_lt ha h0
  have y := bits_lt hb h1
  unfold CMulX
  omega
def rMulU : R2 := fun x y H Q => match x, y with
  | .int i, .int j => CMulX i j ∧ Q (.int (i * j)) H
  | .ref a, .int k => rRep (.ref a) (.int k) H Q
  | _, _ => False
theorem op_mulU {X : Cx} : OpR X (binaryOp .Mult) rMulU := by
  intro pins s σ H x y v u Q I rx ry h
  unfold rMulU at h
  split at h
  · exact op_mulX pins s σ H _ _ v u Q I rx ry ⟨_, _, rfl, rfl, h.1, h.2⟩
  · exact op_rep pins s σ H _ _ v u Q I rx ry h
  · exact h.elim
/-- a power of at most 2 ^ 27 bits -/
def CPowW (i j : Int) : Prop := 0 ≤ j ∧ ((i.natAbs.log2 : Int) + 1) * j ≤ 134217728
theorem op_powW {X : Cx} : OpR X (binaryOp .Pow) (rI CPowW fun i j => .int (i ^ j.toNat)) := opI fun i j _ _ _ _ _ hc q => by
  refine PyProof.Rows.pow_int hc.1 ?_ q
  have b : Builtin.Int.intBits i ≤ i.natAbs.log2 + 1 := by
    unfold Builtin.Int.intBits
    split <;> omega
  have h0 : (Builtin.Int.intBits i : Int) ≤ (i.natAbs.log2 : Int) + 1 := by omega
  have h1 : (Builtin.Int.intBits i : Int) * j ≤ ((i.natAbs.log2 : Int) + 1) * j := Int.mul_le_mul_of_nonneg_right h0 hc.1
  have := hc.2
  omega
/-- what the rules of great numbers ask, from bounds -/
theorem powW {i j : Int} {b : Nat} (h0 : 0 ≤ j) (hb : i.natAbs < 2 ^ b) (hp : 0 < b) (h : (b : Int) * j ≤ 134217728) : CPowW i j := by
  have x := PySem.Flt.log2_lt_of hp hb
  refine ⟨h0, ?_⟩
  have h1 : (i.natAbs.log2 : Int) + 1 ≤ (b : Int) := by omega
  have h2 : ((i.natAbs.log2 : Int) + 1) * j ≤ (b : Int) * j := Int.mul_le_mul_of_nonneg_right h1 h0
  omega
def rEqU (K : PySem.W.Frag) : R2 := fun x y H Q => rEq x y H Q ∨ rEqD K x y H Q
def rNeU (K : PySem.W.Frag) : R2 := fun x y H Q => rNe x y H Q ∨ rNeD K x y H Q
theorem op_eqU {X : Cx} (hu : X.A.units + 65 < cLine) : OpR X (compareOp .Eq) (rEqU X.K) := by
  intro pins s σ H x y v u Q I rx ry h
  rcases h with h | h
  · exact op_eq pins s σ H _ _ v u Q I rx ry h
  · exact op_eqD (by omega) pins s σ H _ _ v u Q I rx ry h
theorem op_neU {X : Cx} (hu : X.A.units + 65 < cLine) : OpR X (compareOp .NotEq) (rNeU X.K) := by
  intro pins s σ H x y v u Q I rx ry h
  rcases h with h | h
  · exact op_ne pins s σ H _ _ v u Q I rx ry h
  · exact op_neD (by omega) pins s σ H _ _ v u Q I rx ry h
/-- x in t, t a tuple of data -/
def rInT (K : PySem.W.Frag) : R2 := fun x y H Q => ∃ d ds, Dp K H x d ∧ Dp K H y (.tuple ds) ∧ SeqAt.shaped d = true ∧ SeqAt.shaped (.tuple ds) = true ∧ Q (.bl (ds.any fun z => PyData.eqv z d)) H
theorem op_inT {X : Cx} (hu : X.A.units + 65 < cLine) : OpR X (compareOp .In) (rInT X.K) := by
  intro pins s σ H x y v u Q I rx ry h
  obtain ⟨d, ds, hd, he, sd, se, q⟩ := h
  obtain ⟨as, r1⟩ := Dp.reads I d x v hd rx
  obtain ⟨bs, r2⟩ := Dp.reads I (.tuple ds) y u he ry
  exact SeqAt.in_tuple_reads r2 r1 (SeqAt.canLay_of_shaped se) (SeqAt.canLay_of_shaped sd) (PyProof.Rows.room_in_shaped sd hu) ⟨.bl _, H, I, rfl, q⟩
def rInU (K : PySem.W.Frag) : R2 := fun x y H Q => rIn K false x y H Q ∨ rInT K x y H Q ∨ rInD K x y H Q
theorem op_inU {X : Cx} (hu : X.A.units + 65 < cLine) : OpR X (compareOp .In) (rInU X.K) := by
  intro pins s σ H x y v u Q I rx ry h
  rcases h with h | h | h
  · exact op_in_seq pins s σ H _ _ v u Q I rx ry h
  · exact op_inT hu pins s σ H _ _ v u Q I rx ry h
  · exact op_inD hu pins s σ H _ _ v u Q I rx ry h
theorem hu65 {A : Around} {k : Nat} (hr : Room k A) : A.units + 65 < cLine := by
  have := hr.un
  omega
end Y

set_option Elab.async false
set_option linter.all false
set_option maxRecDepth 100000
namespace Y
open PySem L2
/-! ### names of Python's own -/
theorem b_len : bootBuiltins "len" = some (.builtin "len") := by decide +kernel
theorem b_abs : bootBuiltins "abs" = some (.builtin "abs") := by decide +kernel
theorem b_isinstance : bootBuiltins "isinstance" = some (.builtin "isinstance") := by decide +kernel
theorem b_all : bootBuiltins "all" = some (.builtin "all") := by decide +kernel
theorem b_any : bootBuiltins "any" = some (.builtin "any") := by decide +kernel
theorem b_max : bootBuiltins "max" = some (.builtin "max") := by decide +kernel
theorem b_min : bootBuiltins "min" = some (.builtin "min") := by decide +kernel
theorem b_int : bootBuiltins "int" = some (.type "int") := by decide +kernel
theorem b_bool : bootBuiltins "bool" = some (.type "bool") := by decide +kernel
theorem b_str : bootBuiltins "str" = some (.type "str") := by decide +kernel
theorem b_tuple : bootBuiltins "tuple" = some (.type "tuple") := by decide +kernel
theorem b_list : bootBuiltins "list" = some (.type "list") := by decide +kernel
theorem b_dict : bootBuiltins "dict" = some (.type "dict") := by decide +kernel
/-! ### is, is not -/
def rIsU (neg : Bool) : R2 := fun x y H Q => match x, y with
  | x, .non => Q (.bl (if neg then !decide (x = .non) else decide (x = .non))) H
  | .bl a, .bl b => Q (.bl (if neg then !decide (a = b) else decide (a = b))) H
  | _, _ => False
/-! ### len -/
def rLenU (K : PySem.W.Frag) : List V → Hp → VK → Prop := fun xs H Q => match xs with
  | [.str z] => z.length ≤ sizeLine ∧ Q (.int z.length) H
  | [.ref a] => (∃ ys, (SqL K H a ys ∨ SqT K H a ys) ∧ Q (.int ys.length) H) ∨ ∃ kvs, H a = some (.dK kvs) ∧ Q (.int kvs.length) H
  | _ => False
theorem call_lenU {X : Cx} : CallR X (.builtin "len") (rLenU X.K) := by
  intro pins s σ H xs us Q I r h
  unfold rLenU at h
  split at h
  · exact call_len pins s σ H _ us Q I r ⟨_, _, rfl, ⟨h.1, rfl⟩, h.2⟩
  · rcases h with ⟨ys, hq, q⟩ | ⟨kvs, hq, q⟩
    · exact call_len_seq pins s σ H _ us Q I r ⟨_, ys, rfl, hq, q⟩
    · exact call_lenD pins s σ H _ us Q I r ⟨_, kvs, rfl, hq, q⟩
  · exact h.elim
/-! ### isinstance -/
def rIsiU (K : PySem.W.Frag) : List V → Hp → VK → Prop := fun xs H Q => rIsi K xs H Q ∨ rIsiT K xs H Q
theorem call_isiU {X : Cx} : CallR X (.builtin "isinstance") (rIsiU X.K) := by
  intro pins s σ H xs us Q I r h
  rcases h with h | h
  · exact call_isi pins s σ H _ us Q I r h
  · exact call_isiT pins s σ H _ us Q I r h
/-! ### slices -/
def rSlU (K : PySem.W.Frag) : V → Option Int → Option Int → Hp → VK → Prop := fun x lo hi H Q => rSlA K x lo hi H Q ∨ rSlL K x lo hi H Q
/-! ### a method of one's own behind an operator -/
section
variable {X : Cx} {CX : CXT} {k : Nat} {f C : Addr} {fd : FuncData} {ps : List Str} {sp : Sp} {E : XK}
/-- x in o, o an instance with its own __contains__ -/
def rInO (C : Addr) (sp : Sp) (E : XK) : R2 := fun x y H Q => ∃ a dx fs, y = .ref a ∧ H a = some (.ins C dx fs) ∧ sp [.ref a, x] H (fun v H' => ∃ b, v = .bl b ∧ Q (.bl b) H') E
theorem op_inO (hs : PySem.W.findIn X.K (.ref C) "__contains__" = some (some (.ref f))) (hf : PySem.W.isFn X.K (.ref f) = true) (F : FnOk X.prog X.w X.K X.mg X.base CX k f fd ps sp) (hr : Room k X.A) (hb : Binds X.K fd ps []) (hx : Passes CX X E) :
    OpR X (compareOp .In) (rInO C sp E) := by
  intro pins s σ H x y v u Q I rx ry h
  obtain ⟨a, dx, fs, rfl, ha, q⟩ := h
  obtain rfl : u = Value.ref a := ry
  obtain ⟨mA, O, _⟩ := ins_get I.hok ha
  obtain ⟨od, J, _⟩ := O.look
  obtain ⟨m, fr⟩ := I.fr
  refine PySem.W.in_K fr I.ok.mod.kin J hs hf ?_
  refine thn (run_fn (us := [.ref a, v]) (vs := [.ref a, x]) (dvs := []) (ds := []) F hr hb .nil hx I (.cons rfl (.cons rx .nil)) q) fun w s1 ⟨z, H1, I1, rz, b, ez, q1⟩ => ?_
  subst ez
  cases rz
  exact wpAny_truthy_bool ⟨.bl b, H1, I1, rfl, q1⟩
/-- the callee runs, at an around of the same frames -/
theorem run_fnA {A : Around} {pins : List (Addr × Obj)} {σ : St} {H : Hp} {s : Shared} {Q : VK} {us : List Value} {vs : List V} (hf : A.frames = X.A.frames) (F : FnOk X.prog X.w X.K X.mg X.base CX k f fd ps sp) (hr : Room k A) (hb : Binds X.K fd ps []) (hx : Passes CX X E)
    (I : Inv X pins σ H s) (r : Vals vs us) (h : sp vs H Q E) : wpAny (model X.prog X.w) A (call (.ref f) us) (EP X pins σ Q) X.xe s := by
  have hl : (us ++ []).length = ps.length := by rw [List.append_nil, ← r.length]; exact F.len _ _ _ _ h
  have e := I.env0
  have e0 : Env0 X.prog X.w X.K X.mg X.base A X.stack s H := ⟨by rw [hf]; exact e.frames, e.mod, e.bs, e.bsz, e.funs, e.frf, e.hok, e.bare⟩
  have hb' := hb s us I.kIn hl
  rw [List.append_nil] at hb'
  refine wpAny_call (codeAny_mono (F.run A X.stack s H ⟨us, []⟩ us vs Q E hr e0 hb' r h) fun r s' hq => ?_)
  cases r with
  | error e => exact hx pins σ H s e s' I hq
  | ok fl =>
    cases fl with
    | ret u => exact I.after hq
    | next => exact False.elim hq
    | brk => exact False.elim hq
    | cont => exact False.elim hq
/-- o[i], o an instance with its own __getitem__ -/
def rIxO (C : Addr) (sp : Sp) (E : XK) : R2 := fun x y H Q => ∃ a dx fs, x = .ref a ∧ H a = some (.ins C dx fs) ∧ sp [.ref a, y] H Q E
theorem pe_ixO {a b : Expr} {ta tb : TE} {pos : Pos} (hs : PySem.W.findIn X.K (.ref C) "__getitem__" = some (some (.ref f))) (hf : PySem.W.isFn X.K (.ref f) = true) (hn : PySem.W.fnIn X.K f = true) (F : FnOk X.prog X.w X.K X.mg X.base CX k f fd ps sp) (hr : Room (k + 1) X.A) (hb : Binds X.K fd ps [])
    (hx : Passes CX X E) (ha : PE X a ta) (hi : PE X b tb) (hsl : ∀ o i, subscripted b true o i = runValue (.builtin "lifetime.subscript" ⟨[o, i], []⟩) := by intro _ _; with_unfolding_all rfl) :
    PE X (.Subscript a b pos) (tOp (rIxO C sp E) ta tb) := by
  refine ⟨fun pins s σ H Q I h => ?_⟩
  refine PyProof.Rows.Subscript_ (binT ha hi I h fun v u s2 x y H2 I2 rx ry q => ?_)
  obtain ⟨o, dx, fs, rfl, ho, q⟩ := q
  obtain rfl : v = Value.ref o := rx
  obtain ⟨mA, O, _⟩ := ins_get I2.hok ho
  obtain ⟨od, J, _⟩ := O.look
  obtain ⟨m, fr⟩ := I2.fr
  exact PySem.W.sub_K fr I2.ok.mod.kin J hs hn hf (run_fnA (A := X.A.in1) (vs := [.ref o, y]) rfl F hr.in1 hb hx I2 (.cons rfl (.cons ry .nil)) q) (hsl _ _)
/-- len(o), o an instance with its own __len__ -/
def rLenO (C : Addr) (sp : Sp) (E : XK) : List V → Hp → VK → Prop := fun xs H Q => ∃ a dx fs, xs = [.ref a] ∧ H a = some (.ins C dx fs) ∧ sp [.ref a] H (fun v H' => ∃ n : Nat, v = .int n ∧ n < 2 ^ 63 ∧ Q (.int n) H') E
theorem call_lenO (hs : PySem.W.findIn X.K (.ref C) "__len__" = some (some (.ref f))) (hf : PySem.W.isFn X.K (.ref f) = true) (F : FnOk X.prog X.w X.K X.mg X.base CX k f fd ps sp) (hr : Room (k + 1) X.A) (hb : Binds X.K fd ps []) (hx : Passes CX X E) :
    CallR X (.builtin "len") (rLenO C sp E) := by
  intro pins s σ H xs us Q I r h
  obtain ⟨a, dx, fs, rfl, ha, q⟩ := h
  obtain ⟨u, rfl, rx⟩ := vals1 r
  obtain rfl : u = Value.ref a := rx
  obtain ⟨mA, O, _⟩ := ins_get I.hok ha
  obtain ⟨od, J, _⟩ := O.look
  obtain ⟨m, fr⟩ := I.fr
  refine PySem.W.len_K fr I.ok.mod.kin J hs hf (thn (run_fnA (A := X.A.in1) (vs := [.ref a]) rfl F hr.in1 hb hx I (.cons rfl .nil) q) fun w s1 ⟨z, H1, I1, rz, n, ez, hn, q1⟩ => ?_)
  subst ez
  obtain ⟨t, rfl⟩ := rz
  exact ⟨⟨by omega, by omega⟩, .int n, H1, I1.tok _, ⟨_, rfl⟩, q1⟩
/-- o + p, both instances of the class at C, with its own __add__ -/
def rAddO (C : Addr) (sp : Sp) (E : XK) : R2 := fun x y H Q => ∃ a b dx dy fs gs, x = .ref a ∧ y = .ref b ∧ H a = some (.ins C dx fs) ∧ H b = some (.ins C dy gs) ∧ sp [.ref a, .ref b] H Q E
theorem op_addO (hs : PySem.W.findIn X.K (.ref C) "__add__" = some (some (.ref f))) (hf : PySem.W.isFn X.K (.ref f) = true) (hc : PySem.W.selfFirst X.K C = true) (F : FnOk X.prog X.w X.K X.mg X.base CX k f fd ps sp) (hr : Room k X.A) (hb : Binds X.K fd ps []) (hx : Passes CX X E) :
    OpR X (binaryOp .Add) (rAddO C sp E) := by
  intro pins s σ H x y v u Q I rx ry h
  obtain ⟨a, b, dx, dy, fs, gs, rfl, rfl, ha, hb', q⟩ := h
  obtain rfl : v = Value.ref a := rx
  obtain rfl : u = Value.ref b := ry
  obtain ⟨mA, O, _⟩ := ins_get I.hok ha
  obtain ⟨od, J, _⟩ := O.look
  obtain ⟨mB, O', _⟩ := ins_get I.hok hb'
  obtain ⟨od', J', _⟩ := O'.look
  obtain ⟨m, fr⟩ := I.fr
  refine PySem.W.binop_K (op := .Add) fr I.ok.mod.kin J J'.type hc hs hf (thn (run_fnA (A := X.A) (vs := [.ref a, .ref b]) rfl F hr hb hx I (.cons rfl (.cons rfl .nil)) q) fun w s1 hw => ?_)
  obtain ⟨z, H1, I1, rz, q1⟩ := hw
  have nn : w ≠ .notImplemented := by
    intro e
    subst e
    cases z <;> first
      | exact nomatch (show Value.notImplemented = _ from rz)
      | (obtain ⟨t, e⟩ := rz; cases e)
  cases w <;> first
    | exact absurd rfl nn
    | exact ⟨z, H1, I1, rz, q1⟩
end
/-! ### is, is not; slices -/
section
variable {X : Cx}
theorem op_isU : OpR X (compareOp .Is) (rIsU false) := by
  intro pins s σ H x y v u Q I rx ry h
  unfold rIsU at h
  split at h
  · exact op_isN pins s σ H _ _ v u Q I rx ry ⟨rfl, by simpa using h⟩
  · exact op_isBl pins s σ H _ _ v u Q I rx ry ⟨_, _, rfl, rfl, by simpa using h⟩
  · exact h.elim
theorem op_isNotU : OpR X (compareOp .IsNot) (rIsU true) := by
  intro pins s σ H x y v u Q I rx ry h
  unfold rIsU at h
  split at h
  · exact op_notN pins s σ H _ _ v u Q I rx ry ⟨rfl, by simpa using h⟩
  · exact op_notBl pins s σ H _ _ v u Q I rx ry ⟨_, _, rfl, rfl, by simpa using h⟩
  · exact h.elim
theorem sl_U : SlR X (rSlU X.K) := SlR.or sl_tupA sl_list
end
end Y

set_option Elab.async false
set_option linter.all false
set_option maxRecDepth 100000
namespace Y
open PySem L2
theorem pe_gint {X : Cx} {x : Str} {i : Int} {pos : Pos} (hg : Gl X x) (hm : ∃ t, X.mg x = some (.int i t)) (hd : (x == ("__debug__" : Str)) = false := by decide) : PE X (.Name x pos) (tC (.int i)) := by
  obtain ⟨t, e⟩ := hm
  exact pe_glob hg e ⟨t, rfl⟩ hd
theorem pe_gstr {X : Cx} {x : Str} {i : Str} {pos : Pos} (hg : Gl X x) (hm : ∃ t, X.mg x = some (.str i t)) (hd : (x == ("__debug__" : Str)) = false := by decide) : PE X (.Name x pos) (tC (.str i)) := by
  obtain ⟨t, e⟩ := hm
  exact pe_glob hg e ⟨t, rfl⟩ hd
section
variable {K : PySem.W.Frag} {σ : St} {H : Hp} {Q : VK} {QT : Bool → Hp → Prop} {r : R2} {ta tb tc : TE} {t u : TT} {v x y : V} {f m : Str} {tl tr : TA} {sp : Sp} {dvs : List V} {E : XK} {a b C dx p : Addr} {fs : List (Str × V)} {QL : VL} {D : Ends} {nx : St → Hp → Prop} {rt : VK} {bk ct : St → Hp → Prop} {s1 s2 : TS} {g : TG} {i j : Int} {n : Nat} {xs ys : List V}
/-! ### values in frames -/
theorem k_fld (h : H a = some (.ins C dx fs)) (c : Cls K C) (n : NoAttr K C f) (l : fs.lookup f = some v) (q : Q v H) : fFld K f Q (.ref a) H := ⟨a, C, dx, fs, v, rfl, h, c, n, l, q⟩
theorem k_tup (hl : xs.length ≤ 100000) (q : ∀ p, H p = none → Q (.ref p) (upd H p (.tup xs))) : fTup Q xs H := ⟨Nat.le_trans hl (by decide), q⟩
theorem k_lst (hl : xs.length ≤ 100000) (q : ∀ p, H p = none → Q (.ref p) (upd H p (.lst xs))) : fLst Q xs H := ⟨Nat.le_trans hl (by decide), q⟩
theorem o_add_int : fOp2 (rAddU K) (.int i) Q (.int j) H = Q (.int (i + j)) H := rfl
theorem o_add_str {a b : Str} : fOp2 (rAddU K) (.str a) Q (.str b) H = (a.length + b.length ≤ sizeLine ∧ Q (.str (a ++ b)) H) := rfl
theorem o_I0 {g : Int → Int → V} : fOp2 (rI0 g) (.int i) Q (.int j) H = Q (g i j) H := propext ⟨fun ⟨a, b, h1, h2, q⟩ => by cases h1; cases h2; exact q, fun q => ⟨i, j, rfl, rfl, q⟩⟩
theorem o_un {g : Int → V} : fUn (rU g) Q (.int i) H = Q (g i) H := propext ⟨fun ⟨a, h1, q⟩ => by cases h1; exact q, fun q => ⟨i, rfl, q⟩⟩
theorem k_I {P : Int → Int → Prop} {g : Int → Int → V} (h : P i j) (q : Q (g i j) H) : fOp2 (rI P g) (.int i) Q (.int j) H := ⟨i, j, rfl, rfl, h, q⟩
theorem k_mul (h : CMulX i j) (q : Q (.int (i * j)) H) : fOp2 rMulU (.int i) Q (.int j) H := ⟨h, q⟩
theorem k_eq_int (q : Q (.bl (decide (i = j))) H) : fOp2 (rEqU K) (.int i) Q (.int j) H := .inl ⟨rfl, by
  have e : decide (V.int i = V.int j) = decide (i = j) := by simp
  rw [e]
  exact q⟩
theorem k_ne_int (q : Q (.bl (!decide (i = j))) H) : fOp2 (rNeU K) (.int i) Q (.int j) H := .inl ⟨rfl, by
  have e : decide (V.int i = V.int j) = decide (i = j) := by simp
  rw [e]
  exact q⟩
theorem k_eq_str {i j : Str} (q : Q (.bl (decide (i = j))) H) : fOp2 (rEqU K) (.str i) Q (.str j) H := .inl ⟨rfl, by
  have e : decide (V.str i = V.str j) = decide (i = j) := by simp
  rw [e]
  exact q⟩
theorem k_ne_str {i j : Str} (q : Q (.bl (!decide (i = j))) H) : fOp2 (rNeU K) (.str i) Q (.str j) H := .inl ⟨rfl, by
  have e : decide (V.str i = V.str j) = decide (i = j) := by simp
  rw [e]
  exact q⟩
theorem k_eq_bl {i j : Bool} (q : Q (.bl (decide (i = j))) H) : fOp2 (rEqU K) (.bl i) Q (.bl j) H := .inl ⟨rfl, by
  have e : decide (V.bl i = V.bl j) = decide (i = j) := by simp
  rw [e]
  exact q⟩
theorem k_ne_bl {i j : Bool} (q : Q (.bl (!decide (i = j))) H) : fOp2 (rNeU K) (.bl i) Q (.bl j) H := .inl ⟨rfl, by
  have e : decide (V.bl i = V.bl j) = decide (i = j) := by simp
  rw [e]
  exact q⟩
/-- == of data -/
theorem k_eq_D {d e : PyData} (h1 : Dp K H x d) (h2 : Dp K H y e) (s1 : SeqAt.shaped d = true) (s2 : SeqAt.shaped e = true) (q : Q (.bl (PyData.eqv d e)) H) : fOp2 (rEqU K) x Q y H := .inr ⟨d, e, h1, h2, s1, s2, q⟩
theorem k_ne_D {d e : PyData} (h1 : Dp K H x d) (h2 : Dp K H y e) (s1 : SeqAt.shaped d = true) (s2 : SeqAt.shaped e = true) (q : Q (.bl (!PyData.eqv d e)) H) : fOp2 (rNeU K) x Q y H := .inr ⟨d, e, h1, h2, s1, s2, q⟩
theorem k_isN : fOp2 (rIsU false) x Q .non H = Q (.bl (decide (x = .non))) H := by
  show rIsU false x .non H Q = _
  unfold rIsU
  split
  · simp
  · simp_all
  · simp_all
theorem k_notN : fOp2 (rIsU true) x Q .non H = Q (.bl (!decide (x = .non))) H := by
  show rIsU true x .non H Q = _
  unfold rIsU
  split
  · simp
  · simp_all
  · simp_all
theorem k_isB {i j : Bool} : fOp2 (rIsU false) (.bl i) Q (.bl j) H = Q (.bl (decide (i = j))) H := rfl
theorem k_notB {i j : Bool} : fOp2 (rIsU true) (.bl i) Q (.bl j) H = Q (.bl (!decide (i = j))) H := rfl
/-! calls of Python's own -/
theorem c_int : fCB (fun xs H Q => (∃ i, xs = [V.int i] ∧ Q (.int i) H) ∨ ∃ k, xs = [V.bl k] ∧ Q (.int (if k then 1 else 0)) H) Q [.int i] H = Q (.int i) H := by
  show ((∃ i', [V.int i] = [V.int i'] ∧ Q (.int i') H) ∨ ∃ k, [V.int i] = [V.bl k] ∧ Q (.int (if k then 1 else 0)) H) = _
  apply propext
  constructor
  · rintro (⟨k, h, q⟩ | ⟨k, h, q⟩)
    · cases h
      exact q
    · cases h
  · exact fun q => .inl ⟨i, rfl, q⟩
theorem c_intB {k : Bool} : fCB (fun xs H Q => (∃ i, xs = [V.int i] ∧ Q (.int i) H) ∨ ∃ k, xs = [V.bl k] ∧ Q (.int (if k then 1 else 0)) H) Q [.bl k] H = Q (.int (if k then 1 else 0)) H := by
  show ((∃ i', [V.bl k] = [V.int i'] ∧ Q (.int i') H) ∨ ∃ k', [V.bl k] = [V.bl k'] ∧ Q (.int (if k' then 1 else 0)) H) = _
  apply propext
  constructor
  · rintro (⟨k, h, q⟩ | ⟨k, h, q⟩)
    · cases h
    · cases h
      exact q
  · exact fun q => .inr ⟨k, rfl, q⟩
theorem c_abs : fCB (fun xs H Q => ∃ i, xs = [V.int i] ∧ Q (.int (if i < 0 then -i else i)) H) Q [.int i] H = Q (.int (if i < 0 then -i else i)) H := propext ⟨fun ⟨k, h, q⟩ => by cases h; exact q, fun q => ⟨i, rfl, q⟩⟩
theorem c_max : fCB (fun xs H Q => ∃ i j, xs = [V.int i, V.int j] ∧ Q (.int (if j > i then j else i)) H) Q [.int i, .int j] H = Q (.int (if j > i then j else i)) H := propext ⟨fun ⟨k, l, h, q⟩ => by cases h; exact q, fun q => ⟨i, j, rfl, q⟩⟩
theorem c_min : fCB (fun xs H Q => ∃ i j, xs = [V.int i, V.int j] ∧ Q (.int (if j < i then j else i)) H) Q [.int i, .int j] H = Q (.int (if j < i then j else i)) H := propext ⟨fun ⟨k, l, h, q⟩ => by cases h; exact q, fun q => ⟨i, j, rfl, q⟩⟩
theorem k_lenS (h : SqL K H a xs ∨ SqT K H a xs) (q : Q (.int xs.length) H) : fCB (rLenU K) Q [.ref a] H := .inl ⟨xs, h, q⟩
theorem k_lenD {kvs : List (Key × V)} (h : H a = some (.dK kvs)) (q : Q (.int kvs.length) H) : fCB (rLenU K) Q [.ref a] H := .inr ⟨kvs, h, q⟩
theorem k_isi {c : V} {w z : Value} {k : Bool} (hc : ClsV c z) (ht : TyX K H x w) (hk : PySem.W.kitOne K w z = some k) (q : Q (.bl k) H) : fCB (rIsiU K) Q [x, c] H := .inl ⟨x, c, w, z, k, rfl, hc, ht, hk, q⟩
theorem k_isiT {tp : Addr} {cs : List V} {w : Value} {us : List Value} {k : Bool} (h : H tp = some (.tup cs)) (hc : Paired ClsV cs us) (ht : TyX K H x w) (hk : PySem.W.kitAny K w us = some k) (q : Q (.bl k) H) : fCB (rIsiU K) Q [x, .ref tp] H := .inr ⟨x, tp, cs, w, us, k, rfl, h, hc, ht, hk, q⟩
theorem k_listOf (h : SqL K H a xs ∨ SqT K H a xs) (q : ∀ l, H l = none → Q (.ref l) (upd H l (.lst xs))) : fCB (fun xs H Q => ∃ p ys, xs = [V.ref p] ∧ (SqL K H p ys ∨ SqT K H p ys) ∧ ∀ l, H l = none → Q (.ref l) (upd H l (.lst ys))) Q [.ref a] H := ⟨a, xs, rfl, h, q⟩
theorem k_tupOfL (h : SqL K H a xs) (q : ∀ l, H l = none → Q (.ref l) (upd H l (.tup xs))) : fCB (fun xs H Q => ∃ p ys, xs = [V.ref p] ∧ ((SqL K H p ys ∧ ∀ l, H l = none → Q (.ref l) (upd H l (.tup ys))) ∨ (SqT K H p ys ∧ Q (.ref p) H))) Q [.ref a] H := ⟨a, xs, rfl, .inl ⟨h, q⟩⟩
theorem k_tupOfT (h : SqT K H a xs) (q : Q (.ref a) H) : fCB (fun xs H Q => ∃ p ys, xs = [V.ref p] ∧ ((SqL K H p ys ∧ ∀ l, H l = none → Q (.ref l) (upd H l (.tup ys))) ∨ (SqT K H p ys ∧ Q (.ref p) H))) Q [.ref a] H := ⟨a, xs, rfl, .inr ⟨h, q⟩⟩
/-! items -/
theorem k_ixL (h : SqL K H a xs) (e : atI xs i = some v) (q : Q v H) : fOp2 (rIx K) (.ref a) Q (.int i) H := .inl ⟨a, xs, i, v, rfl, rfl, h, e, q⟩
theorem k_ixT (h : SqT K H a xs) (e : atI xs i = some v) (q : Q v H) : fOp2 (rIx K) (.ref a) Q (.int i) H := .inr (.inl ⟨a, xs, i, v, rfl, rfl, h, e, q⟩)
theorem k_ixS {z : Str} {c : Nat} (h : z.length ≤ sizeLine) (e : atI z.cps.toList i = some c) (q : Q (.str ⟨#[c]⟩) H) : fOp2 (rIx K) (.str z) Q (.int i) H := .inr (.inr ⟨z, i, c, rfl, rfl, h, e, q⟩)
/-- xs[i] = v -/
def fSub (ti : TE) (t : TSet) (v : V) (σ : St) (nx : St → Hp → Prop) : VK := fun o H1 => ti σ H1 fun i H2 => t o i v H2 fun H3 => nx σ H3
def fSub2 (t : TSet) (o v : V) (σ : St) (nx : St → Hp → Prop) : VK := fun i H2 => t o i v H2 fun H3 => nx σ H3
theorem e_sub {to ti : TE} {ts : TSet} : fAsg (gSub to ti ts) σ nx v H = to σ H (fSub ti ts v σ nx) := rfl
theorem e_sub1 {ti : TE} {ts : TSet} : fSub ti ts v σ nx x H = ti σ H (fSub2 ts x v σ nx) := rfl
theorem k_setL {j : Nat} (h : H p = some (.lst xs)) (e : ixN xs.length i = some j) (q : nx σ (upd H p (.lst (xs.set j v)))) : fSub2 rSetL (.ref p) v σ nx (.int i) H := ⟨p, xs, i, j, rfl, rfl, h, e, q⟩
theorem e_andc {c : Bool} : fAnd u σ QT c H = (if c = true then u σ H QT else QT false H) := rfl
theorem e_orc {c : Bool} : fOr u σ QT c H = (if c = true then QT true H else u σ H QT) := rfl
theorem e_andVc {c : Bool} : fAndV tb σ Q (.bl c) H = (if c = true then tb σ H Q else Q (.bl false) H) := propext ⟨fun ⟨c, h, q⟩ => by cases h; exact q, fun q => ⟨c, rfl, q⟩⟩
theorem e_orVc {c : Bool} : fOrV tb σ Q (.bl c) H = (if c = true then Q (.bl true) H else tb σ H Q) := propext ⟨fun ⟨c, h, q⟩ => by cases h; exact q, fun q => ⟨c, rfl, q⟩⟩
theorem cx_K {CX : CXT} {P : Program} {w : World} {mg : Str → Option Value} {base : Heap} {N : List Str} {qual : Str} {scope : Scope} {f : Addr} {cd : Value} {A : Around} {outer : List Env} {s : Shared} : (cxOf CX P w K mg base N qual scope f cd A outer s H E).K = K := rfl
theorem cx_noxK {X : Cx} : X.nox.K = X.K := rfl
theorem cx_P {CX : CXT} {P : Program} {w : World} {mg : Str → Option Value} {base : Heap} {N : List Str} {qual : Str} {scope : Scope} {f : Addr} {cd : Value} {A : Around} {outer : List Env} {s : Shared} : (cxOf CX P w K mg base N qual scope f cd A outer s H E).prog = P := rfl
theorem cx_w {CX : CXT} {P : Program} {w : World} {mg : Str → Option Value} {base : Heap} {N : List Str} {qual : Str} {scope : Scope} {f : Addr} {cd : Value} {A : Around} {outer : List Env} {s : Shared} : (cxOf CX P w K mg base N qual scope f cd A outer s H E).w = w := rfl
end
end Y

set_option Elab.async false
set_option linter.all false
set_option maxRecDepth 100000
namespace PySem
set_option maxHeartbeats 1000000 in
/-- enumerate(v), v begun as B says: its two new cells -/
theorem yEnumNew {v : Value} {o : Obj} {H : Heap → Prop} (B : Begins v o H) : Meets (Builtin.«enumerate.__new__» ⟨[.type "enumerate", v], []⟩) (fun _ R s =>
    H s.heap ∧ R (.ok (.ret (.ref (s.heap.push o).objs.size))) { s with heap := (s.heap.push o).push { cls := .type "enumerate", data := .fields #[.none, .bool false, .ref s.heap.objs.size, rawInt 0, .none, .none] } }) := by
  refine .of_wp fun prog w A R s h => ?_
  rcases s with ⟨hp, g, d, tk, os⟩
  rcases h with ⟨h1, h⟩
  have hs := sub_enumerate
  have go : ∀ {A' : Around} {E Q : Value → Shared → Prop}, Q (.ref hp.objs.size) ⟨hp.push o, g, d, tk, os⟩ → wpAny (model prog w) A' (pyIter v) Q E ⟨hp, g, d, tk, os⟩ := fun q => B.iter prog w _ _ ⟨hp, g, d, tk, os⟩ _ h1 q
  wp_walk using go
  refine wpAny_stack_any fun _ => wpAny_pure ?_
  split <;> first
    | (rename_i c _ _ _ _ _
       cases (c == Value.type "enumerate") <;> (wp_walk using go; exact ⟨_, rfl, h⟩))
    | (wp_walk using go; exact ⟨_, rfl, h⟩)
theorem yEnum1 {prog : Program} {w : World} {A : Around} {E : Value → Shared → Prop} {s : Shared} {v : Value} {o : Obj} {H : Heap → Prop} {Q : Value → Shared → Prop} (B : Begins v o H) (h1 : H s.heap)
    (h : ∀ h', IsEnum h' (s.heap.objs.size + 1) s.heap.objs.size 0 .none → h'.get? s.heap.objs.size = some o → (∀ b o, s.heap.get? b = some o → h'.get? b = some o) → Q (.ref (s.heap.objs.size + 1)) { s with heap := h' }) :
    wpAny (model prog w) A (call (.type "enumerate") [v]) Q E s := by
  refine callType_new F.called_enumerate (by decide) (F.typeCall_enumerate_1 _) (F.newCall_enumerate_1 _) (fun obj => F.args_object_init_2 obj _) F.entry_enumerate_new (yEnumNew B) ⟨h1, ?_⟩
  have z : (s.heap.push o).objs.size = s.heap.objs.size + 1 := Heap.size_push ..
  show _ ∧ _
  rw [z]
  have e := Heap.get?_push_size (s.heap.push o) (o := { cls := .type "enumerate", data := .fields #[.none, .bool false, .ref s.heap.objs.size, rawInt 0, .none, .none] }) rfl
  rw [z] at e
  exact ⟨⟨_, e, rfl⟩, h _ e (Heap.get?_push_of_some _ (Heap.get?_push_size _ B.free)) fun b o x => Heap.get?_push_of_some _ (Heap.get?_push_of_some _ x)⟩
end PySem
namespace Y
open PySem L2
/-! ### for i, x in enumerate(t), t a tuple -/
def IteT (K : PySem.W.Frag) (a : Addr) : It :=
  ⟨fun i H => ∃ (xs : List V) (x : V), SqT K H a xs ∧ xs[i]? = some x, fun i H v H' => ∃ T x, v = .ref T ∧ H T = none ∧ H' = upd H T (.tup [.int (i : Nat), x]) ∧ ∀ xs, SqT K H a xs → xs[i]? = some x,
    fun i H => ∃ xs : List V, SqT K H a xs ∧ xs.length ≤ i⟩
theorem tup_inj {X : Cx} {pins : List (Addr × Obj)} {σ : St} {H : Hp} {s : Shared} {a : Addr} {xs ys : List V} (I : Inv X pins σ H s) (h1 : SqT X.K H a xs) (h2 : SqT X.K H a ys) : xs = ys := by
  obtain ⟨its, r1, ⟨o1, e1, c1, n1, d1⟩, _⟩ := I.tuple h1
  obtain ⟨its2, r2, ⟨o2, e2, c2, n2, d2⟩, _⟩ := I.tuple h2
  rw [e1] at e2
  cases e2
  rw [d1] at d2
  have e : its = its2 := by
    have := congrArg Array.toList (by injection d2)
    simpa using this
  subst e
  exact r1.inj r2
theorem turn_enumT {P : Program} {w : World} {K : PySem.W.Frag} {elts : List Expr} {kk : Nat} {tpos : Pos} (a e it : Addr) :
    Turn P w K (.Tuple elts kk tpos) (IteT K a) [e, it] e (fun i h => (∃ old, IsEnum h e it ((i : Nat) : Int) old) ∧ h.IsTupleIter it a i ∧ e ≠ it ∧ a ≠ it ∧ a ≠ e) where
  mem := by simp
  obj := fun i h st b hb => by
    rcases st with ⟨⟨old, he⟩, ⟨o, ho, hc, hd⟩, _⟩
    rcases List.mem_cons.mp hb with z | z
    · subst z
      exact ⟨_, he, fun v q => nomatch q⟩
    · have z' := List.mem_singleton.mp z
      subst z'
      exact ⟨o, ho, fun v q => by rw [hd] at q; cases q⟩
  keep := fun i h h' st k => by
    rcases st with ⟨⟨old, he⟩, hi, ne⟩
    exact ⟨⟨old, k e (by simp) _ he⟩, hi.at fun o q => k it (by simp) o q, ne⟩
  item := by
    rintro X rfl rfl rfl hc i pins s σ H E I hf st ⟨xs, x, hq, hx⟩
    rcases st with ⟨⟨old, he⟩, hit, hne, hai, hae⟩
    obtain ⟨its, rv, p, hz⟩ := I.tuple hq
    obtain ⟨u, hu, ru⟩ := rv.get hx
    have hel : e < s.heap.objs.size := Heap.lt_size he
    have hil : it < s.heap.objs.size := by
      obtain ⟨_, q, _⟩ := hit
      exact Heap.lt_size q
    have hlt : i < its.toArray.size := by
      have := (List.getElem?_eq_some_iff.mp hu).1
      simpa using this
    have D := Draws.tuple (prog := X.prog) (w := X.w) (A := X.A.in1) (I.ok.hd hc) it a hai its.toArray
    refine wpAny_pyNext_enum_itemD D he ⟨hit, p⟩ hlt hne (by simp [hne, Ne.symm hae]) fun y h' tk hy ho hst' hT hsz hk => ?_
    have hy' : y = u := by
      have e1 : its.toArray[i]? = its[i]? := by simp
      rw [e1, hu] at hy
      exact (Option.some.inj hy).symm
    subst hy'
    refine ⟨_, rfl, wpAny_letOwnedTupleGo_enum (s := { s with heap := h', toks := tk + 1 }) ho fun h2 he' sb => ?_⟩
    have hT2 : h2.get? s.heap.objs.size = some { cls := .type "tuple", data := .seq #[.int i tk, y] } := (sb.2 _ (Nat.ne_of_gt hel)).trans hT
    have new : ObjOk X.prog X.w (upd H s.heap.objs.size (.tup [.int (i : Nat), x])) h2 s.heap.objs.size (.tup [.int (i : Nat), x]) :=
      ⟨(by decide : 2 ≤ sizeLine), [.int i tk, y], .cons ⟨_, rfl⟩ (.cons ru .nil), ⟨_, hT2, rfl, _, rfl⟩⟩
    have I1 : Inv X pins σ (upd H s.heap.objs.size (.tup [.int (i : Nat), x])) { s with heap := h2, toks := tk + 1 } := by
      refine I.turnedNew (ch := [e, it]) (fun b ob hb q => ?_) hf (Nat.le_refl _) new
      have h1 : b ≠ e := fun z => hb (by simp [z])
      have h3 : b ≠ it := fun z => hb (by simp [z])
      exact (sb.2 b h1).trans (hk b ob h1 h3 q)
    refine ⟨.ref s.heap.objs.size, _, I1, rfl, ⟨_, x, rfl, I.hok.fresh (Nat.le_refl _), rfl, fun ys hy => by rw [tup_inj I hy hq]; exact hx⟩, ⟨⟨y, ?_⟩, hst'.1.at fun o q => (sb.2 it (Ne.symm hne)).trans q, hne, hai, hae⟩, fun b hb => ?_⟩
    · rw [show ((i + 1 : Nat) : Int) = (i : Int) + 1 by omega]
      exact he'
    · have hb' : b < s.heap.objs.size := by
        rcases List.mem_cons.mp hb with z | z
        · rw [z]
          exact hel
        · rw [List.mem_singleton.mp z]
          exact hil
      rw [upd_ne (Nat.ne_of_lt hb')]
      exact (hf b hb).1
  done := by
    rintro X rfl rfl rfl hc i pins s σ H E I hf st ⟨xs, hq, hx⟩
    rcases st with ⟨⟨old, he⟩, hit, hne, hai, hae⟩
    obtain ⟨its, rv, p, hz⟩ := I.tuple hq
    obtain ⟨f0, f1, f2, f3, f4, f5⟩ := hf it (by simp)
    have hl := rv.length
    have D := Draws.tuple (prog := X.prog) (w := X.w) (A := X.A.in1) (I.ok.hd hc) it a hai its.toArray
    have D' : Draws X.prog X.w X.A.in1 it [it, a] 0 (fun _ _ => True) (fun j h => h.IsTupleIter it a (i + j) ∧ h.IsTuple a its.toArray) := {
      live := fun j h st => D.live _ h st
      frame := fun j h h' st k => D.frame _ h h' st k
      item := fun j s Q E hj => absurd hj (Nat.not_lt_zero _)
      done := fun s Q E st hE => wpAny_nextOf_tuple_end (I.ok.hd hc) st.1 st.2 (by simp; omega) hE }
    exact wpAny_pyNext_enum_endD D' he ⟨hit, p⟩ fun h' eb => ⟨rfl, I.turned (t' := s.toks) (fun b o hb q => eb b o hb q) f0 f1 f3 f4 f5⟩
  self := fun A i s Q E st h => by
    rcases st with ⟨⟨_, he⟩, _⟩
    exact wpAny_pyIter_enum he h
/-- what enumerate walks: a list or a tuple -/
def iEnumT (K : PySem.W.Frag) (ta : TA) : TI := fun σ H R => ta σ H fun vs H1 => ∃ a xs, vs = [.ref a] ∧ SqT K H1 a xs ∧ R (IteT K a) H1
theorem pi_enumT {X : Cx} {e : Expr} {ta : TA} {p pos tpos : Pos} {elts : List Expr} {kk : Nat} (hg : Gl X "enumerate") (hm : X.mg "enumerate" = none) (ha : PA X [e] ta) (hs : starEach [e] X.env = [(false, eval e X.env)] := by rfl) :
    PI X (.Tuple elts kk tpos) (.Call (.Name "enumerate" p) [e] [] pos) (iEnumT X.K ta) := by
  refine ⟨fun pins s σ H R I h => PyProof.Rows.Call_ (ld_blt I hg hm PyProof.Rows.boot_enumerate (PyProof.Rows.callWith_type1 (thn (ha.run pos pins s σ H _ I h) fun us s1 ⟨vs, H1, I1, r1, q1⟩ => ?_) hs rfl))⟩
  rcases q1 with ⟨a, xs, ex, hq, q⟩
  subst ex
  cases r1 with
  | cons r rr =>
    cases rr
    cases r
    obtain ⟨its, rv, p', hz⟩ := I1.tuple hq
    refine yEnum1 (begins_tuple a its.toArray) p' fun h' he hit hk => wpAny_pyIter_enum he ?_
    have I2 : Inv X pins σ H1 { s1 with heap := h' } := I1.kept (t' := s1.toks) hk
    have hal : a < s1.heap.objs.size := by
      obtain ⟨o, e1, _⟩ := p'
      exact Heap.lt_size e1
    refine ⟨s1.heap.objs.size + 1, [s1.heap.objs.size + 1, s1.heap.objs.size], _, _, H1, rfl, I2, turn_enumT a (s1.heap.objs.size + 1) s1.heap.objs.size, ⟨⟨.none, he⟩, ⟨_, hit, rfl, rfl⟩, Nat.succ_ne_self _, Nat.ne_of_lt hal, Nat.ne_of_lt (Nat.lt_succ_of_lt hal)⟩, fun b hb => ?_, q⟩
    have hle : s1.heap.objs.size ≤ b := by
      rcases List.mem_cons.mp hb with z | z
      · rw [z]
        exact Nat.le_succ _
      · rw [List.mem_singleton.mp z]
        exact Nat.le_refl _
    exact I1.fpOk hle (I1.hok.fresh hle)
theorem walk_enumT {K : PySem.W.Frag} {a : Addr} {xs : List V} : Walk (IteT K a) xs.length (fun H => SqT K H a xs) (YPair (fun i => some (.int (i : Nat))) (fun i => xs[i]?)) := by
  refine ⟨fun i _ hi q => ⟨xs, xs[i], q, by simp [hi]⟩, fun _ q => ⟨xs, q, Nat.le_refl _⟩, fun i H v H' _ q y => ?_⟩
  rcases y with ⟨T, x, h1, h2, h3, h4⟩
  exact ⟨T, .int (i : Nat), x, h1, h2, h3, rfl, h4 xs q⟩
/-- a list or a tuple walked -/
def iSeq (K : PySem.W.Frag) (te : TE) : TI := fun σ H R => te σ H fun x H1 => (∃ a, x = .ref a ∧ (∃ xs, SqL K H1 a xs) ∧ R (Itl K a) H1) ∨ ∃ a, x = .ref a ∧ (∃ xs, SqT K H1 a xs) ∧ R (Itt K a) H1
theorem pi_seq {X : Cx} {tg e : Expr} {te : TE} (he : PE X e te) : PI X tg e (iSeq X.K te) := by
  refine ⟨fun pins s σ H R I h => thn (he.run pins s σ H _ I h) fun v s1 ⟨x, H1, I1, r1, q1⟩ => ?_⟩
  rcases q1 with ⟨a, ex, ⟨xs, hq⟩, q⟩ | ⟨a, ex, ⟨xs, hq⟩, q⟩
  · subst ex
    cases r1
    obtain ⟨its, rv, p, hz⟩ := I1.list hq
    refine wpAny_pyIter_list p.isList ⟨s1.heap.objs.size, [s1.heap.objs.size], _, _, H1, rfl, I1.kept (t' := s1.toks) fun b o e => Heap.get?_push_of_some _ e, turn_list a _, ⟨_, Heap.get?_push_size _ rfl, rfl, rfl⟩, fun b hb => ?_, q⟩
    cases List.mem_singleton.mp hb
    exact I1.fpOk (Nat.le_refl _) (I1.hok.fresh (Nat.le_refl _))
  · subst ex
    cases r1
    obtain ⟨its, rv, p, hz⟩ := I1.tuple hq
    refine wpAny_pyIter_tuple (show s1.heap.IsTuple a its.toArray from p) ⟨s1.heap.objs.size, [s1.heap.objs.size], _, _, H1, rfl, I1.kept (t' := s1.toks) fun b o e => Heap.get?_push_of_some _ e, turn_tuple a _, ⟨_, Heap.get?_push_size _ rfl, rfl, rfl⟩, fun b hb => ?_, q⟩
    cases List.mem_singleton.mp hb
    exact I1.fpOk (Nat.le_refl _) (I1.hok.fresh (Nat.le_refl _))
end Y

set_option Elab.async false
set_option linter.all false
set_option maxRecDepth 100000
namespace Y
open PySem L2
def fFor (g : TG) (tb : TS) (D : Ends) (σ : St) : It → Hp → Prop := fun J H1 => ∃ W : Nat → Nat → St → Hp → Prop, (∃ m, W 0 m σ H1) ∧ ∀ i m σ H, W i m σ H →
  (J.stop i H ∧ D.nx σ H) ∨ (J.go i H ∧ ∃ N : St → Hp → Prop, (∀ σ' H', N σ' H' → ∃ m', m' < m ∧ W (i + 1) m' σ' H') ∧ ∀ x H', J.yld i H x H' → g x σ H' fun σ2 H2 => tb { D with nx := N, ct := N, bk := D.nx } σ2 H2)
def fRng1 (R : It → Hp → Prop) : VL := fun vs H1 => ∃ j : Int, vs = [.int j] ∧ -(2 ^ 62) ≤ j ∧ j < 2 ^ 62 ∧ R (Itr 0 j.toNat) H1
def fRng2 (R : It → Hp → Prop) : VL := fun vs H1 => ∃ i j : Int, vs = [.int i, .int j] ∧ (-(2 ^ 62) ≤ i ∧ i < 2 ^ 62 ∧ -(2 ^ 62) ≤ j ∧ j < 2 ^ 62) ∧ R (Itr i (j - i).toNat) H1
def fSeq (K : PySem.W.Frag) (R : It → Hp → Prop) : VK := fun x H1 => (∃ a, x = .ref a ∧ (∃ xs, SqL K H1 a xs) ∧ R (Itl K a) H1) ∨ ∃ a, x = .ref a ∧ (∃ xs, SqT K H1 a xs) ∧ R (Itt K a) H1
def fEnumT (K : PySem.W.Frag) (R : It → Hp → Prop) : VL := fun vs H1 => ∃ a xs, vs = [.ref a] ∧ SqT K H1 a xs ∧ R (IteT K a) H1
def fEnum (K : PySem.W.Frag) (R : It → Hp → Prop) : VL := fun vs H1 => ∃ a xs, vs = [.ref a] ∧ SqL K H1 a xs ∧ R (Ite K a) H1
def fLc (g : TG) (tt : TT) (te : TE) (vs : List Nat) (σ : St) (Q : VK) : It → Hp → Prop := fun J H1 => ∀ D, H1 D = none → ∃ W : Nat → Nat → Hp → Prop, (∃ m, W 0 m (upd H1 D (.lst []))) ∧ ∀ i m H, W i m H →
  (J.stop i H ∧ Q (.ref D) H) ∨ (J.go i H ∧ ∃ Nx : Hp → Prop, (∀ H', Nx H' → ∃ m', m' < m ∧ W (i + 1) m' H') ∧ ∀ x H', J.yld i H x H' → g x (wipe σ vs) H' fun σ2 H2 => wipe σ2 vs = wipe σ vs ∧ tt σ2 H2 fun b H3 =>
    if b = true then te σ2 H3 fun y H4 => ∃ acc, H4 D = some (.lst acc) ∧ acc.length < sizeLine ∧ Nx (upd H4 D (.lst (acc ++ [y]))) else Nx H3)
/-- a comprehension's element is laid -/
def fAcc (D : Addr) (N : Hp → Prop) : VK := fun y H4 => ∃ acc, H4 D = some (.lst acc) ∧ acc.length < sizeLine ∧ N (upd H4 D (.lst (acc ++ [y])))
def fLcT (te : TE) (σ2 : St) (D : Addr) (N : Hp → Prop) : Bool → Hp → Prop := fun b H3 => if b = true then te σ2 H3 (fAcc D N) else N H3
def fBM (K : PySem.W.Frag) (T : String) (r : V → List V → Hp → VK → Prop) (t : TA) (σ : St) (Q : VK) : VK := fun x H1 => tyV K T x H1 ∧ t σ H1 fun xs H2 => r x xs H2 Q
def fBM2 (r : V → List V → Hp → VK → Prop) (x : V) (Q : VK) : VL := fun xs H2 => r x xs H2 Q
def fBM0 (K : PySem.W.Frag) (T : String) (r : V → List V → Hp → VK → Prop) (Q : VK) : VK := fun x H1 => tyV K T x H1 ∧ r x [] H1 Q
def fPar (i j : Nat) (σ : St) (nx : St → Hp → Prop) : VL := fun vs H1 => ∃ v w, vs = [v, w] ∧ nx ((σ.set i (some v)).set j (some w)) H1
def fPar3 (i j l : Nat) (σ : St) (nx : St → Hp → Prop) : VL := fun vs H1 => ∃ u v w, vs = [u, v, w] ∧ nx (((σ.set i (some u)).set j (some v)).set l (some w)) H1
def fChain1 (r r' : R2) (tb tc : TE) (σ : St) (Q : VK) : VK := fun x H1 => tb σ H1 fun y H2 => r x y H2 fun z H3 => ∃ k, z = .bl k ∧ (if k = true then tc σ H3 fun w' H4 => r' y w' H4 Q else Q (.bl false) H3)
def fChain2 (r r' : R2) (x : V) (tc : TE) (σ : St) (Q : VK) : VK := fun y H2 => r x y H2 fun z H3 => ∃ k, z = .bl k ∧ (if k = true then tc σ H3 fun w' H4 => r' y w' H4 Q else Q (.bl false) H3)
def fChain3 (r' : R2) (y : V) (tc : TE) (σ : St) (Q : VK) : VK := fun z H3 => ∃ k, z = .bl k ∧ (if k = true then tc σ H3 (fOp2 r' y Q) else Q (.bl false) H3)
def fStF (K : PySem.W.Frag) (ta : TE) (f : Str) (σ : St) (nx : St → Hp → Prop) : VK := fun y H1 => ta σ H1 fun x H2 => ∃ a C dx fs, x = .ref a ∧ H2 a = some (.ins C dx fs) ∧ Cls K C ∧ NoAttr K C f ∧ fs.length < 1000 ∧ nx σ (upd H2 a (.ins C dx (putF f y fs)))
def fStF2 (K : PySem.W.Frag) (y : V) (f : Str) (σ : St) (nx : St → Hp → Prop) : VK := fun x H2 => ∃ a C dx fs, x = .ref a ∧ H2 a = some (.ins C dx fs) ∧ Cls K C ∧ NoAttr K C f ∧ fs.length < 1000 ∧ nx σ (upd H2 a (.ins C dx (putF f y fs)))
section
variable {K : PySem.W.Frag} {σ σ2 : St} {H : Hp} {Q : VK} {QT : Bool → Hp → Prop} {r r' : R2} {ta tb tc te : TE} {t u tt : TT} {v x y : V} {f m : Str} {tl tr : TA} {sp : Sp} {dvs : List V} {E : XK} {a b C dx p l : Addr} {fs : List (Str × V)} {QL : VL} {D : Ends} {nx : St → Hp → Prop} {rt : VK} {bk ct : St → Hp → Prop} {s1 s2 ts : TS} {g : TG} {i j : Int} {n : Nat} {xs ys zs vs : List V} {wi : TI} {R : It → Hp → Prop} {J : It} {G : Hp → Prop} {Yd : Nat → Hp → V → Hp → Prop} {T : String} {rm : V → List V → Hp → VK → Prop}
theorem lk_new {o u : HO} (h : H a = some o) (n : H p = none) : upd H p u a = some o := by
  rw [upd_ne (ne_of_none h n)]
  exact h
theorem lk_ne {o u : HO} (h : H a = some o) (n : a ≠ p) : upd H p u a = some o := by
  rw [upd_ne n]
  exact h
theorem sqL_new {o : HO} (h : SqL K H a xs) (n : H p = none) : SqL K (upd H p o) a xs := by
  rcases h with (h | ⟨u, h⟩) | h
  · exact .inl (.inl (lk_new h n))
  · exact .inl (.inr ⟨u, lk_new h n⟩)
  · exact .inr h
theorem sqT_new {o : HO} (h : SqT K H a xs) (n : H p = none) : SqT K (upd H p o) a xs := by
  rcases h with (h | ⟨u, h⟩) | h
  · exact .inl (.inl (lk_new h n))
  · exact .inl (.inr ⟨u, lk_new h n⟩)
  · exact .inr h
theorem sqL_same {H' : Hp} (e : Same H H') (h : SqL K H a xs) : SqL K H' a xs := e.seq h
/-- a list that is read stays where another one is changed -/
theorem sqL_mut {o : HO} (h : SqL K H a xs) (n : a ≠ p) : SqL K (upd H p o) a xs := by
  rcases h with (h | ⟨u, h⟩) | h
  · exact .inl (.inl (lk_ne h n))
  · exact .inl (.inr ⟨u, lk_ne h n⟩)
  · exact .inr h
theorem e_for : tFor wi g ts D σ H = wi σ H (fFor g ts D σ) := rfl
theorem e_rng1 : iRng1 tl σ H R = tl σ H (fRng1 R) := rfl
theorem e_rng2 : iRng2 tl σ H R = tl σ H (fRng2 R) := rfl
theorem e_seqI : iSeq K te σ H R = te σ H (fSeq K R) := rfl
theorem e_enumT : iEnumT K tl σ H R = tl σ H (fEnumT K R) := rfl
theorem e_enum : iEnum K tl σ H R = tl σ H (fEnum K R) := rfl
theorem k_rng1 (h1 : -(2 ^ 62) ≤ j) (h2 : j < 2 ^ 62) (q : R (Itr 0 j.toNat) H) : fRng1 R [.int j] H := ⟨j, rfl, h1, h2, q⟩
theorem k_rng2 (h : -(2 ^ 62) ≤ i ∧ i < 2 ^ 62 ∧ -(2 ^ 62) ≤ j ∧ j < 2 ^ 62) (q : R (Itr i (j - i).toNat) H) : fRng2 R [.int i, .int j] H := ⟨i, j, rfl, h, q⟩
theorem k_seqL (h : SqL K H a xs) (q : R (Itl K a) H) : fSeq K R (.ref a) H := .inl ⟨a, rfl, ⟨xs, h⟩, q⟩
theorem k_seqT (h : SqT K H a xs) (q : R (Itt K a) H) : fSeq K R (.ref a) H := .inr ⟨a, rfl, ⟨xs, h⟩, q⟩
theorem k_enumT (h : SqT K H a xs) (q : R (IteT K a) H) : fEnumT K R [.ref a] H := ⟨a, xs, rfl, h, q⟩
theorem k_enum (h : SqL K H a xs) (q : R (Ite K a) H) : fEnum K R [.ref a] H := ⟨a, xs, rfl, h, q⟩
/-- a for, by what holds at each turn -/
theorem k_for (w : Walk J n G Yd) (Pv : Nat → St → Hp → Prop) (h0 : Pv 0 σ H) (hG : ∀ i σ H, i ≤ n → Pv i σ H → G H)
    (hs : ∀ i x σ H H', i < n → Pv i σ H → Yd i H x H' → g x σ H' fun σ2 H2 => ts ⟨Pv (i + 1), rt, nx, Pv (i + 1)⟩ σ2 H2) (hd : ∀ σ H, Pv n σ H → nx σ H) : fFor g ts ⟨nx, rt, bk, ct⟩ σ J H :=
  for_it w (D := ⟨nx, rt, bk, ct⟩) Pv h0 hG hs hd
theorem e_gname {i : Nat} {Qs : St → Hp → Prop} : gName i v σ H Qs = Qs (σ.set i (some v)) H := rfl
/-- the pair of an enumerate, of a dict's items .. -/
theorem k_pairS {t1 t2 : TG} {Qs : St → Hp → Prop} (h : SqT K H p [x, y]) (q : t1 x σ H fun σ1 H1 => t2 y σ1 H1 Qs) : gTup K 2 (gCons t1 (gCons t2 gNil)) (.ref p) σ H Qs :=
  ⟨p, [x, y], rfl, h, rfl, x, [y], rfl, (by
    have e : (fun σ' H' => (gCons t2 gNil) [y] σ' H' Qs) = fun σ1 H1 => t2 y σ1 H1 Qs := by
      funext σ1 H1
      apply propext
      constructor
      · rintro ⟨v, r, e, q⟩
        cases e
        have e2 : (fun σ' H' => gNil [] σ' H' Qs) = Qs := by
          funext σ' H'
          exact propext ⟨fun z => z.2, fun z => ⟨rfl, z⟩⟩
        rw [e2] at q
        exact q
      · intro q
        refine ⟨y, [], rfl, ?_⟩
        have e2 : (fun σ' H' => gNil [] σ' H' Qs) = Qs := by
          funext σ' H'
          exact propext ⟨fun z => z.2, fun z => ⟨rfl, z⟩⟩
        rw [e2]
        exact q
    rw [e]
    exact q)⟩
/-! comprehensions -/
theorem k_pair {t1 t2 : TG} {Qs : St → Hp → Prop} (h : H p = some (.tup [x, y])) (q : t1 x σ H fun σ1 H1 => t2 y σ1 H1 Qs) : gTup K 2 (gCons t1 (gCons t2 gNil)) (.ref p) σ H Qs := k_pairS (SqT.of h) q
theorem e_lc : tLc wi g tt te ((n : Nat) :: []) σ H Q = wi σ H (fLc g tt te [n] σ Q) := rfl
theorem e_acc {Nx : Hp → Prop} : fAcc l Nx v H = ∃ acc, H l = some (.lst acc) ∧ acc.length < sizeLine ∧ Nx (upd H l (.lst (acc ++ [v]))) := rfl
theorem k_acc {Nx : Hp → Prop} {acc : List V} (h : H l = some (.lst acc)) (hl : acc.length < 100000) (q : Nx (upd H l (.lst (acc ++ [v])))) : fAcc l Nx v H := ⟨acc, h, Nat.lt_of_lt_of_le hl (by decide), q⟩
theorem e_lcT {Nx : Hp → Prop} {b : Bool} : fLcT te σ2 l Nx b H = (if b = true then te σ2 H (fAcc l Nx) else Nx H) := rfl
theorem e_yes : tYes σ H QT = QT true H := rfl
/-- a list comprehension, by what holds at each turn; l: the new list -/
theorem k_lc {wp : List Nat} (w : Walk J n G Yd) (q : ∀ l, H l = none → ∃ Pv : Nat → Hp → Prop, Pv 0 (upd H l (.lst [])) ∧ (∀ i H, i ≤ n → Pv i H → G H) ∧
    (∀ i x H H', i < n → Pv i H → Yd i H x H' → g x (wipe σ wp) H' fun σ2 H2 => wipe σ2 wp = wipe σ wp ∧ tt σ2 H2 (fLcT te σ2 l (Pv (i + 1)))) ∧ ∀ H, Pv n H → Q (.ref l) H) : fLc g tt te wp σ Q J H := by
  intro l hl
  obtain ⟨Pv, h0, hG, hs, hd⟩ := q l hl
  exact lc_it w (Qd := fun H => Q (.ref l) H) Pv h0 hG hs hd
/-! methods of Python's own -/
theorem e_bm : tBM K T rm ta tl σ H Q = ta σ H (fBM K T rm tl σ Q) := rfl
theorem e_bm2 : fBM2 rm x Q xs H = rm x xs H Q := rfl
theorem k_bmL (h : H a = some (.lst xs)) (q : tl σ H (fBM2 rm (.ref a) Q)) : fBM K "list" rm tl σ Q (.ref a) H := ⟨.inl ⟨rfl, xs, SqL.of h⟩, q⟩
theorem k_bmS {z : Str} (q : tl σ H (fBM2 rm (.str z) Q)) : fBM K "str" rm tl σ Q (.str z) H := ⟨rfl, q⟩
theorem k_append (h : H a = some (.lst xs)) (hl : xs.length < 100000) (q : Q .non (upd H a (.lst (xs ++ [y])))) : fBM2 rAppend (.ref a) Q [y] H := ⟨a, xs, y, rfl, rfl, h, Nat.lt_of_lt_of_le hl (by decide), q⟩
theorem k_extend (h : H a = some (.lst xs)) (h' : H b = some (.lst zs)) (hl : xs.length + zs.length ≤ 100000) (q : Q .non (upd H a (.lst (xs ++ zs)))) : fBM2 rExtend (.ref a) Q [.ref b] H :=
  ⟨a, b, xs, zs, rfl, rfl, h, h', Nat.le_trans hl (by decide), q⟩
/-! several targets, chains, fields stored -/
theorem e_par {i j : Nat} : tPar i j tl ⟨nx, rt, bk, ct⟩ σ H = tl σ H (fPar i j σ nx) := rfl
theorem e_par1 {i j : Nat} : fPar i j σ nx [x, y] H = nx ((σ.set i (some x)).set j (some y)) H := propext ⟨fun ⟨v, w, e, q⟩ => by cases e; exact q, fun q => ⟨x, y, rfl, q⟩⟩
theorem e_par3 {i j l : Nat} : tPar3 i j l tl ⟨nx, rt, bk, ct⟩ σ H = tl σ H (fPar3 i j l σ nx) := rfl
theorem e_par31 {i j l : Nat} {z : V} : fPar3 i j l σ nx [x, y, z] H = nx (((σ.set i (some x)).set j (some y)).set l (some z)) H := propext ⟨fun ⟨u, v, w, e, q⟩ => by cases e; exact q, fun q => ⟨x, y, z, rfl, q⟩⟩
theorem e_chain : tChain r r' ta tb tc σ H Q = ta σ H (fChain1 r r' tb tc σ Q) := rfl
theorem e_chain1 : fChain1 r r' tb tc σ Q x H = tb σ H (fChain2 r r' x tc σ Q) := rfl
theorem e_chain2 : fChain2 r r' x tc σ Q y H = fOp2 r x (fChain3 r' y tc σ Q) y H := rfl
theorem e_chain3 {k : Bool} : fChain3 r' y tc σ Q (.bl k) H = (if k = true then tc σ H (fOp2 r' y Q) else Q (.bl false) H) := propext ⟨fun ⟨u, e, q⟩ => by cases e; exact q, fun q => ⟨k, rfl, q⟩⟩
theorem e_sfld : sFld K ta tb f ⟨nx, rt, bk, ct⟩ σ H = tb σ H (fStF K ta f σ nx) := rfl
theorem e_sfld1 : fStF K ta f σ nx y H = ta σ H (fStF2 K y f σ nx) := rfl
theorem k_sfld (h : H a = some (.ins C dx fs)) (c : Cls K C) (n : NoAttr K C f) (hl : fs.length < 1000) (q : nx σ (upd H a (.ins C dx (putF f y fs)))) : fStF2 K y f σ nx (.ref a) H := ⟨a, C, dx, fs, rfl, h, c, n, hl, q⟩
theorem k_meth (h : H a = some (.ins C dx fs)) (hl : fs.lookup m = none) (q : tl σ H (fCons2 (.ref a) (fCall sp dvs E Q))) : fMeth C m sp dvs E tl σ Q (.ref a) H := ⟨a, dx, fs, rfl, h, hl, q⟩
end
end Y

set_option Elab.async false
set_option linter.all false
set_option maxRecDepth 100000
namespace Y
open PySem L2
section
variable {K : PySem.W.Frag}
theorem e_never {D : Ends} {σ : St} {H : Hp} : tNever D σ H = False := rfl
theorem kt_self {t : Value} : PySem.W.kitOne K t t = some true := by
  unfold PySem.W.kitOne
  rw [if_pos (by simp)]
theorem kt_int_bool : PySem.W.kitOne K (.type "int") (.type "bool") = some false := kit_ty (by decide +kernel)
theorem kt_int_str : PySem.W.kitOne K (.type "int") (.type "str") = some false := kit_ty (by decide +kernel)
theorem kt_int_list : PySem.W.kitOne K (.type "int") (.type "list") = some false := kit_ty (by decide +kernel)
theorem kt_int_tuple : PySem.W.kitOne K (.type "int") (.type "tuple") = some false := kit_ty (by decide +kernel)
theorem kt_bool_int : PySem.W.kitOne K (.type "bool") (.type "int") = some true := kit_ty (by decide +kernel)
theorem kt_bool_str : PySem.W.kitOne K (.type "bool") (.type "str") = some false := kit_ty (by decide +kernel)
theorem kt_bool_list : PySem.W.kitOne K (.type "bool") (.type "list") = some false := kit_ty (by decide +kernel)
theorem kt_bool_tuple : PySem.W.kitOne K (.type "bool") (.type "tuple") = some false := kit_ty (by decide +kernel)
theorem kt_str_int : PySem.W.kitOne K (.type "str") (.type "int") = some false := kit_ty (by decide +kernel)
theorem kt_str_bool : PySem.W.kitOne K (.type "str") (.type "bool") = some false := kit_ty (by decide +kernel)
theorem kt_str_list : PySem.W.kitOne K (.type "str") (.type "list") = some false := kit_ty (by decide +kernel)
theorem kt_str_tuple : PySem.W.kitOne K (.type "str") (.type "tuple") = some false := kit_ty (by decide +kernel)
theorem kt_non_int : PySem.W.kitOne K (.type "NoneType") (.type "int") = some false := kit_ty (by decide +kernel)
theorem kt_non_bool : PySem.W.kitOne K (.type "NoneType") (.type "bool") = some false := kit_ty (by decide +kernel)
theorem kt_non_str : PySem.W.kitOne K (.type "NoneType") (.type "str") = some false := kit_ty (by decide +kernel)
theorem kt_non_list : PySem.W.kitOne K (.type "NoneType") (.type "list") = some false := kit_ty (by decide +kernel)
theorem kt_non_tuple : PySem.W.kitOne K (.type "NoneType") (.type "tuple") = some false := kit_ty (by decide +kernel)
theorem kt_tuple_int : PySem.W.kitOne K (.type "tuple") (.type "int") = some false := kit_ty (by decide +kernel)
theorem kt_tuple_bool : PySem.W.kitOne K (.type "tuple") (.type "bool") = some false := kit_ty (by decide +kernel)
theorem kt_tuple_str : PySem.W.kitOne K (.type "tuple") (.type "str") = some false := kit_ty (by decide +kernel)
theorem kt_tuple_list : PySem.W.kitOne K (.type "tuple") (.type "list") = some false := kit_ty (by decide +kernel)
theorem kt_list_int : PySem.W.kitOne K (.type "list") (.type "int") = some false := kit_ty (by decide +kernel)
theorem kt_list_bool : PySem.W.kitOne K (.type "list") (.type "bool") = some false := kit_ty (by decide +kernel)
theorem kt_list_str : PySem.W.kitOne K (.type "list") (.type "str") = some false := kit_ty (by decide +kernel)
theorem kt_list_tuple : PySem.W.kitOne K (.type "list") (.type "tuple") = some false := kit_ty (by decide +kernel)
theorem kt_dict_int : PySem.W.kitOne K (.type "dict") (.type "int") = some false := kit_ty (by decide +kernel)
theorem kt_dict_bool : PySem.W.kitOne K (.type "dict") (.type "bool") = some false := kit_ty (by decide +kernel)
theorem kt_dict_str : PySem.W.kitOne K (.type "dict") (.type "str") = some false := kit_ty (by decide +kernel)
theorem kt_dict_list : PySem.W.kitOne K (.type "dict") (.type "list") = some false := kit_ty (by decide +kernel)
theorem kt_dict_tuple : PySem.W.kitOne K (.type "dict") (.type "tuple") = some false := kit_ty (by decide +kernel)
/-- (list, tuple) -/
theorem ka_tuple : PySem.W.kitAny K (.type "tuple") [.type "list", .type "tuple"] = some true := kitAny_cons kt_tuple_list (fun _ => kitAny_cons kt_self (fun z => nomatch z) fun _ => rfl) fun z => nomatch z
theorem ka_list : PySem.W.kitAny K (.type "list") [.type "list", .type "tuple"] = some true := kitAny_cons kt_self (fun z => nomatch z) fun _ => rfl
theorem ka_no {t : Value} (h1 : PySem.W.kitOne K t (.type "list") = some false) (h2 : PySem.W.kitOne K t (.type "tuple") = some false) : PySem.W.kitAny K t [.type "list", .type "tuple"] = some false :=
  kitAny_cons h1 (fun _ => kitAny_cons h2 (fun _ => rfl) fun z => nomatch z) fun z => nomatch z
/-- (bool, int), (bool, str) -/
theorem ka_bi_int : PySem.W.kitAny K (.type "int") [.type "bool", .type "int"] = some true := kitAny_cons kt_int_bool (fun _ => kitAny_cons kt_self (fun z => nomatch z) fun _ => rfl) fun z => nomatch z
variable {H : Hp} {a : Addr} {xs : List V} {Q : VK} {QL : VL}
theorem tyx_tup (h : SqT K H a xs) : TyX K H (.ref a) (.type "tuple") := by
  rcases h with (h | ⟨o, h⟩) | ⟨o, its, n, h1, h2, _⟩
  · exact .base (.tup h)
  · exact .fTuple h
  · exact .kTuple h1 h2
theorem tyx_lst (h : SqL K H a xs) : TyX K H (.ref a) (.type "list") := by
  rcases h with (h | ⟨o, h⟩) | ⟨o, its, n, h1, h2, _⟩
  · exact .base (.lst h)
  · exact .base (.frz h)
  · exact .kList h1 h2
theorem k_all {bs : List Bool} (h : SqL K H a (bs.map V.bl)) (q : Q (.bl (bs.all id)) H) : fCB (rAll K) Q [.ref a] H := ⟨a, bs, rfl, h, q⟩
theorem k_inT {x y : V} {d : PyData} {ds : List PyData} (h1 : Dp K H x d) (h2 : Dp K H y (.tuple ds)) (s1 : SeqAt.shaped d = true) (s2 : SeqAt.shaped (.tuple ds) = true) (q : Q (.bl (ds.any fun z => PyData.eqv z d)) H) : fOp2 (rInU K) x Q y H :=
  .inr (.inl ⟨d, ds, h1, h2, s1, s2, q⟩)
theorem k_inL {x y : V} {d : PyData} {ds : List PyData} (h1 : Dp K H x d) (h2 : Dp K H y (.list ds)) (s1 : SeqAt.shaped d = true) (s2 : SeqAt.shaped (.list ds) = true) (q : Q (.bl (ds.any fun z => PyData.eqv z d)) H) : fOp2 (rInU K) x Q y H :=
  .inr (.inr ⟨d, ds, h1, h2, s1, s2, q⟩)
/-- data from tuples of texts -/
theorem dp_strs : ∀ {w : List Str}, DpAll K H (w.map V.str) (w.map PyData.str)
  | [] => .nil
  | _ :: _ => .cons (.str _) dp_strs
end
/-! ### the rules with the written part named -/
section
variable {X : Cx} (K : PySem.W.Frag)
theorem pe_bty {x : Str} {n : String} {pos : Pos} (hg : Gl X x) (hm : X.mg x = none) (hv : bootBuiltins x = some (.type n)) (hn : x ≠ "__name__" := by decide) (hd : (x == ("__debug__" : Str)) = false := by decide) : PE X (.Name x pos) (tC (.ty n)) :=
  pe_bltn hg hm hv (v := .ty n) rfl hn hd
theorem call_isiUk (h : X.K = K := by rfl) : CallR X (.builtin "isinstance") (rIsiU K) := by subst h; exact call_isiU
theorem call_lenUk (h : X.K = K := by rfl) : CallR X (.builtin "len") (rLenU K) := by subst h; exact call_lenU
theorem op_addUk (h : X.K = K := by rfl) : OpR X (binaryOp .Add) (rAddU K) := by subst h; exact op_addU
theorem op_eqUk (hu : X.A.units + 65 < cLine) (h : X.K = K := by rfl) : OpR X (compareOp .Eq) (rEqU K) := by subst h; exact op_eqU hu
theorem op_neUk (hu : X.A.units + 65 < cLine) (h : X.K = K := by rfl) : OpR X (compareOp .NotEq) (rNeU K) := by subst h; exact op_neU hu
theorem op_inUk (hu : X.A.units + 65 < cLine) (h : X.K = K := by rfl) : OpR X (compareOp .In) (rInU K) := by subst h; exact op_inU hu
theorem ix_seqk (h : X.K = K := by rfl) : IxR X (rIx K) := by subst h; exact ix_seq
theorem sl_Uk (h : X.K = K := by rfl) : SlR X (rSlU K) := by subst h; exact sl_U
theorem cr_allk (hc : X.calm = true) (h : X.K = K := by rfl) : CallR X (.builtin "all") (rAll K) := by subst h; exact cr_all hc
theorem cr_anyk (hc : X.calm = true) (h : X.K = K := by rfl) : CallR X (.builtin "any") (rAny K) := by subst h; exact cr_any hc
theorem call_tuple_ofk (h : X.K = K := by rfl) : CallR X (.type "tuple") (fun xs H Q => ∃ p ys, xs = [.ref p] ∧ ((SqL K H p ys ∧ ∀ l, H l = none → Q (.ref l) (upd H l (.tup ys))) ∨ (SqT K H p ys ∧ Q (.ref p) H))) := by subst h; exact call_tuple_of
theorem call_list_ofk (h : X.K = K := by rfl) : CallR X (.type "list") (fun xs H Q => ∃ p ys, xs = [.ref p] ∧ (SqL K H p ys ∨ SqT K H p ys) ∧ ∀ l, H l = none → Q (.ref l) (upd H l (.lst ys))) := by subst h; exact call_list_of
theorem pe_fldk {e : Expr} {f : Str} {ta : TE} {pos : Pos} (he : PE X e ta) (hb : attributeBase e f X.env (eval e X.env) = eval e X.env) (h : X.K = K := by rfl) : PE X (.Attribute e f pos) (tFld K ta f) := by subst h; exact pe_fld he hb
theorem pi_seqk {tg e : Expr} {te : TE} (he : PE X e te) (h : X.K = K := by rfl) : PI X tg e (iSeq K te) := by subst h; exact pi_seq he
end
end Y

set_option Elab.async false
set_option linter.all false
set_option maxRecDepth 100000
set_option maxHeartbeats 2000000
namespace PySem
namespace ErrX
open PySem.W PySem.Calls PyProof.Rows PySem.HandSPX
/-! an own error whose __init__ says super().__init__(text); self.f = f -/
def iA (fl : Str) (p1 p2 : Pos) : Arguments := { posonlyargs := [], args := [{ arg := "self", annotation := none, pos := p1 }, { arg := fl, annotation := none, pos := p2 }], vararg := none, kwonlyargs := [], kw_defaults := [], kwarg := none, defaults := [] }
def iB (fl msg : Str) (a b c d e f g h i j : Pos) : List Stmt :=
  [.Expr (.Call (.Attribute (.Call (.Name "super" a) [] [] b) "__init__" c) [.Constant (.str msg) 0 d] [] e) f, .Assign [.Attribute (.Name "self" g) fl h] (.Name fl i) j]
def iS (fl : Str) : Scope := { kind := .function, names := [("self", .local), (fl, .local), ("__class__", .free), ("super", .globalImplicit)], isGenerator := false, isCoroutine := false, more := [] }
/-- what the written part says of the class, at C, and of its __init__, at fI -/
structure ErrTxt (P : Program) (K : Frag) (mg : Str → Option Value) (nm fl msg : Str) (C fI : Addr) : Prop where
  gC : mg nm = some (.ref C)
  gS : mg "super" = none
  cls : ∃ nm q N bs bm sn sub ab col dd k0 k1 k2 k3 k5, K.lookup C = some (excClassObj nm q C N bs bm true sn sub ab col dd k0 k1 k2 k3 k5 "ValueError.__new__") ∧ refsVE bm = true
  sa : findIn K (.ref C) "__setattr__" = some (some (.builtin "object.__setattr__"))
  ga : findIn K (.ref C) "__getattribute__" = some (some (.builtin "BaseException.__getattribute__"))
  gg : findIn K (.ref C) "__getattr__" = some none
  noN : findIn K (.ref C) fl = some none
  iC : findIn K (.ref C) "__init__" = some (some (.ref fI))
  tC : typeIn K (.ref fI) = some (.type "function")
  kC : keepIn K (.ref C) = true
  exC : subIn K (.ref C) (.type "BaseException") = some true
  tyC : typeIn K (.ref C) = some (.type "type")
  hdC : hasDictIn K C = true
  te : exmOne K (.ref C) (.ref C) = some true
  qI : excInitIn K C [.type "ValueError", .type "Exception", .type "BaseException", .type "object"] "ValueError.__new__" = true
  veC : subIn K (.ref C) (.type "ValueError") = some true
  mro : mroIn K C (.ref C) = some true
  sup : ks_superIn K C C "__init__" = some (some (.builtin "ValueError.__init__"))
  any : nsIn K cStatics "thirdparty.any" = some none
  top : (P.main.scope.names.lookup ("super" : Str)).isSome = false
  fn : ∃ (qual : Str) (oc : Value) (od : Option Addr) (doc pm : Value) (an : Option Addr) (cda : Addr) (ct : Value) (osl : Array (Option Value)) (cc : Addr) (p1 p2 a b c d e f g h i j : Pos) (ccl : Value) (cdd : Option Addr) (vs : Array Value) (ccs : Array (Option Value)) (file : Str) (tf : Tok) (cl : Value) (cld : Option Addr) (csl : Array (Option Value)),
    K.lookup fI = some ⟨oc, od, .func (ksFn "__init__" qual (iA fl p1 p2) (iB fl msg a b c d e f g h i j) (iS fl) .none .none doc pm an (.ref cda) ct cc), osl⟩ ∧ codeIn K (.ref cda) qual = true ∧
    K.lookup cda = some ⟨ccl, cdd, .fields vs, ccs⟩ ∧ vs[2]? = some (.str file tf) ∧ ((P.main.file : Str) == file) = true ∧ K.lookup cc = some ⟨cl, cld, .cell (some (.ref C)), csl⟩ ∧
    (∃ pl : Env → Sem Bool, ∀ env : Env, eval (.Call (.Attribute (.Call (.Name "super" a) [] [] b) "__init__" c) [.Constant (.str msg) 0 d] [] e) env = (do
      let ov ← attributeBase (.Call (.Name "super" a) [] [] b) "__init__" env (eval (.Call (.Name "super" a) [] [] b) env)
      standAt c.atName
      let (f, first) ← holding [ov] (getMethod ov "__init__" (pl env))
      callWith e f first (backTo e (starEach [.Constant (.str msg) 0 d] env)) []))
theorem one_size (v : Value) : [v].length ≤ sizeLine := by
  rw [sizeLine_eq]
  exact (by decide : 1 ≤ 16777216)
theorem ldC {M : Model} {s : Shared} {env : Env} {m : Str → Option Value} {x : Str} {pos : Pos} {v : Value} {Q : Value → Shared → Prop} {A : Around} {E : Value → Shared → Prop} (hn : s.heap.Ns env.locals m) (hv : m x = some v) (h : Q v s)
    (hk : env.scope.kind = .function := by rfl) (hl : env.kindOf x = some .local := by rfl) (hd : (x == ("__debug__" : Str)) = false := by decide) :
    wpAny M A (eval (.Name x pos) env) Q E s := wpAny_Name (wpAny_loadName_local hk hl hn hv h) hd
/-- what __init__ leaves of a fresh exception at x -/
structure InitEnd (fl : Str) (h h' : Heap) (x C dx t1 : Addr) (v : Value) : Prop where
  keep : ∀ b o, b ≠ x → h.get? b = some o → h'.get? b = some o
  obj : h'.get? x = some { cls := .ref C, dict := some dx, data := .fields #[.ref t1, .none, .none, .none, .bool false, .none] }
  dbig : h.objs.size ≤ dx
  dne : dx ≠ x
  ns : h'.Ns1 dx (fun y => if y = fl then some v else none)
/-- a made error -/
structure OwnMade (fl : Str) (h h' : Heap) (e C d : Addr) (v : Value) : Prop where
  keep : ∀ b o, h.get? b = some o → h'.get? b = some o
  new : h.objs.size ≤ e
  obj : ∃ oe vs, h'.get? e = some oe ∧ oe.cls = .ref C ∧ oe.dict = some d ∧ oe.data = .fields vs ∧ vs[1]? = some .none
  dbig : h.objs.size ≤ d
  dne : d ≠ e
  ns : h'.Ns1 d (fun y => if y = fl then some v else none)
section
variable {P : Program} {w : World} {A : Around} {E : Value → Shared → Prop} {R : Result → Shared → Prop} {s : Shared} {K : Frag} {mg mb : Str → Option Value} {nm fl msg : Str} {C fI : Addr}
theorem err_init (T : ErrTxt P K mg nm fl msg C fI) (hfl : fl = "index" ∨ fl = "number" ∨ fl = "part") {x t0 : Addr} {v : Value} (X : K.In s.heap) (G : s.heap.Ns mainGlobals mg) (Bn : s.heap.Ns builtinsNs mb) (hmb : mb "super" = bootBuiltins "super")
    (hlim : s.heap.NoLimit) (hnx : K.lookup x = none) (hx : s.heap.get? x = some (excO C t0)) (hroom : A.depth < recursionLimit)
    (hq : ∀ h' tk dx t1, InitEnd fl s.heap h' x C dx t1 v → R (.ok (.ret .none)) { s with heap := h', toks := tk }) :
    codeAny (model P w) A (.call (.ref fI) ⟨[.ref x, v], []⟩) R s := by
  obtain ⟨qual, oc, od, doc, pm, an, cda, ct, osl, cc, p1, p2, a, b, c, d, e, f, g, h, i, j, ccl, cdd, vs, ccs, file, tf, cl, cld, csl, ho, hcd, hcda, hvs, hfile, hcc, pl, he⟩ := T.fn
  obtain ⟨nm', q, N, bs, bm, sn, sub, ab, col, dd, k0, k1, k2, k3, k5, hC, hbm⟩ := T.cls
  have hcl : clsIn K C = some { name := nm', bases := bs, mro := .ref C :: bm, ns := N, qualname := q, hasDict := true, slotNames := sn, subclasses := sub, abstract := ab, collection := col, hasDel := false } := by unfold clsIn; rw [hC] <;> rfl
  have tab : ∀ z ∈ (iS fl).names, z.2 ≠ .cell := by rcases hfl with rfl | rfl | rfl <;> decide
  have hb : BindsTo s (ksFn "__init__" qual (iA fl p1 p2) (iB fl msg a b c d e f g h i j) (iS fl) .none .none doc pm an (.ref cda) ct cc) ⟨[.ref x, v], []⟩ [("self", .ref x), (fl, v)] := by
    rcases hfl with rfl | rfl | rfl <;> exact BindsTo.of_eq (by first | rfl | with_unfolding_all rfl)
  have hloc : ∀ z ∈ ([("self", .ref x), (fl, v)] : List (Str × Value)), (iS fl).names.lookup z.1 = some .local := by
    rcases hfl with rfl | rfl | rfl <;> exact locs rfl
  have hnk : (iS fl).names.lookup ("super" : Str) = some .globalImplicit := by rcases hfl with rfl | rfl | rfl <;> rfl
  have hck : (iS fl).names.lookup ("__class__" : Str) = some .free := by rcases hfl with rfl | rfl | rfl <;> rfl
  have hsk : (iS fl).names.lookup ("self" : Str) = some .local := by rcases hfl with rfl | rfl | rfl <;> rfl
  have hfk : (iS fl).names.lookup fl = some .local := by rcases hfl with rfl | rfl | rfl <;> rfl
  have hfd : (fl == ("__debug__" : Str)) = false := by rcases hfl with rfl | rfl | rfl <;> decide
  have hls : ([("self", Value.ref x), (fl, v)] : List (Str × Value)).reverse.lookup ("self" : Str) = some (Value.ref x) := by rcases hfl with rfl | rfl | rfl <;> rfl
  have hlf : ([("self", Value.ref x), (fl, v)] : List (Str × Value)).reverse.lookup fl = some v := by rcases hfl with rfl | rfl | rfl <;> rfl
  have sup : alongIn K "__init__" (((.ref C :: bm : List Value).dropWhile (· != .ref C)).drop 1) = some (some (.builtin "ValueError.__init__")) := by
    have q := T.sup
    unfold ks_superIn at q
    rw [hcl] at q
    exact q
  refine ks_codeAny_call_defAt (fd := ksFn "__init__" qual (iA fl p1 p2) (iB fl msg a b c d e f g h i j) (iS fl) .none .none doc pm an (.ref cda) ct cc) (binds := [("self", .ref x), (fl, v)]) hroom (X _ _ ho) rfl hlim (codeRec_of X hcd) rfl hb tab hloc (fun h₁ hn k => ?_)
  obtain ⟨hp, gg, dd', tt, os⟩ := s
  have X₁ : K.In h₁ := X.keeps k
  have hx₁ := k _ _ hx
  refine ks_wpAt_execs_cons (ks_wpAt_Expr_any (ks_wpAt_MethodCall (pl := pl _) ?_ (he _)))
  refine ks_wpAt_super_base (env := callEnv (ksFn "__init__" qual (iA fl p1 p2) (iB fl msg a b c d e f g h i j) (iS fl) .none .none doc pm an (.ref cda) ct cc) hp.objs.size fI) hnk hck (by decide) rfl (X₁ _ _ ho) rfl rfl rfl (X₁ _ _ hcda) rfl hvs hfile T.top ?_
  refine ks_loadName_global rfl hnk (loadGlobal_builtin (G.keeps k) T.gS (Bn.keeps k) (hmb.trans (by decide +kernel : bootBuiltins "super" = some (.type "super"))) ⟨rfl, ?_⟩)
  refine wpAny_loadName_free rfl hck rfl ⟨_, X₁ _ _ hcc, rfl⟩ ?_
  refine wpAny_loadName_local rfl hsk hn hls ?_
  refine ks_wpAny_isType_cls (X₁ _ _ hC) rfl ⟨rfl, ?_⟩
  refine ks_wpAny_call_super (X₁ _ _ hC) rfl hx₁ rfl (fun c e => by cases e) (looks_mroIn X₁ T.mro) (fun h₂ e₂ k₂ => ?_)
  have X₂ : K.In h₂ := X₁.keeps k₂
  have hx₂ := k₂ _ _ hx₁
  have I₂ : InstAt h₂ x (excO C t0) C none := ⟨hx₂, rfl, rfl, trivial⟩
  refine kxs_getMethod kxs_ValueError e₂ (looks_opaque X₂ T.any) (l₀ := .ref C :: bm) (fun A Q E s k q => wpAny_bind ((looks_clsIn X₂ hcl) A _ E s k (wpAny_pure q))) rfl X₂ sup (I₂.type.andThen (looks_subIn X₂ T.veC)) (ks_ne X₂ I₂ hcl) (by decide) ?_
  have lt1 : hp.objs.size < h₁.objs.size := hn.lt
  have lt2 : h₁.objs.size < h₂.objs.size := Heap.lt_size e₂
  have ltx : x < hp.objs.size := Heap.lt_size hx
  have k₃ : ∀ b o, h₂.get? b = some o → (h₂.push (kxs_mw "ValueError.__init__" x)).get? b = some o := fun b o e => Heap.get?_push_of_some _ e
  have XH : K.In (hp.hide x) := fun a o e => (Heap.hide_ne hp fun z => by rw [z, hnx] at e; cases e).trans (X a o e)
  have F₃ : Fr (hp.hide x) hp.objs.size (h₂.push (kxs_mw "ValueError.__init__" x)) (fun y => ([("self", .ref x), (fl, v)] : List (Str × Value)).reverse.lookup y) :=
    ⟨hn.keeps fun b o e => k₃ b o (k₂ b o e), fun b o e => k₃ b o (k₂ b o (k b o (Heap.of_hide e))), Nat.le_of_eq (Heap.hide_size hp x)⟩
  have N₃ : News (hp.hide x) hp.objs.size (h₂.push (kxs_mw "ValueError.__init__" x)) [(h₂.objs.size, kxs_mw "ValueError.__init__" x), (x, excObj C t0 none .none)] := fun p hp' => by
    rcases List.mem_cons.mp hp' with rfl | hp'
    · refine ⟨Heap.get?_push_at rfl rfl, Nat.ne_of_gt (Nat.lt_trans lt1 lt2), ?_⟩
      cases z : (hp.hide x).get? h₂.objs.size with
      | none => rfl
      | some o => exact absurd (Heap.lt_size (Heap.of_hide z)) (Nat.not_lt_of_gt (Nat.lt_trans lt1 lt2))
    · rw [List.mem_singleton.mp hp']
      exact ⟨k₃ _ _ hx₂, Nat.ne_of_lt ltx, Heap.hide_self hp x⟩
  refine kxs_callWith1 N₃ (List.mem_cons_self ..) (spliced_more (Constant_str (spliced_none ⟨(N₃ _ (List.mem_cons_self ..)).1, ?_⟩)))
  refine kxs_call F₃ XH N₃ F.excBase_ValueError T.qI (List.mem_cons_self ..) (.tail (Nat.ne_of_gt (Nat.lt_trans ltx (Nat.lt_trans lt1 lt2))) (.head fun _ z => nomatch z)) (one_size _) (fun t' h₄ F₄ N₄ _ => ?_)
  have X₄ : K.In h₄ := XH.keeps F₄.keep
  have hx₄ : h₄.get? x = some (excO C t') := (N₄ (x, excObj C t' none .none) (by simp)).1
  have hn₄ := F₄.ns
  have lt4 : hp.objs.size < h₄.objs.size := hn₄.lt
  show wpAt _ _ _ (execs _ _) _ _ _
  refine wpAt_of_wpAny (wpAny_execs_cons (plainObj_wpAny_Assign_Attribute ?_))
  refine ldC (v := v) hn₄ hlf (ldC (v := .ref x) hn₄ hls ?_ rfl hsk) rfl hfk hfd
  refine set_plain X₄ (ox := excO C t') (od := none) ⟨hx₄, rfl, rfl, trivial⟩ T.sa ?_
  refine exc_osa X₄ hx₄ hcl (show refsVE (.ref C :: bm) = true from hbm) rfl T.noN (fun h₅ tk₅ dx k₅ dn dne hx₅ hn₅ => ?_)
  show wpAny _ _ (execs _ _) _ _ _
  exact wpAny_execs_nil (hq h₅ tk₅ dx t' ⟨fun b o hb e => k₅ b o hb (F₄.keep b o ((Heap.hide_ne hp hb).trans e)), hx₅, Nat.le_of_lt (Nat.lt_of_lt_of_le lt4 dn), dne, hn₅⟩)
end
end ErrX
end PySem

set_option Elab.async false
set_option linter.all false
set_option maxRecDepth 100000
set_option maxHeartbeats 2000000
namespace PySem
namespace ErrX
open PySem.W PySem.Calls PyProof.Rows PySem.HandSPX
section
variable {P : Program} {w : World} {A : Around} {R : Result → Shared → Prop} {s : Shared} {K : Frag} {mg mb : Str → Option Value} {nm fl msg : Str} {C fI : Addr}
theorem err_made (T : ErrTxt P K mg nm fl msg C fI) (hfl : fl = "index" ∨ fl = "number" ∨ fl = "part") {v : Value} (X : K.In s.heap) (G : s.heap.Ns mainGlobals mg) (Bn : s.heap.Ns builtinsNs mb) (hmb : mb "super" = bootBuiltins "super")
    (hlim : s.heap.NoLimit) (hroom : A.depth + 1 < recursionLimit)
    (hq : ∀ h' tk e d, OwnMade fl s.heap h' e C d v → R (.ok (.ret (.ref e))) { s with heap := h', toks := tk }) :
    codeAny (model P w) A (.call (.ref C) ⟨[v], []⟩) R s := by
  obtain ⟨nm', q, N, bs, bm, sn, sub, ab, col, dd, k0, k1, k2, k3, k5, hC, hbm⟩ := T.cls
  obtain ⟨hp, g, dr, tk, os⟩ := s
  have up : ∀ b o, hp.get? b = some o → ((hp.push (kdv_tup [v])).push (excO C hp.objs.size)).get? b = some o :=
    fun b o e => Heap.get?_push_of_some _ (Heap.get?_push_of_some _ e)
  have mine : ((hp.push (kdv_tup [v])).push (excO C hp.objs.size)).get? (hp.objs.size + 1) = some (excO C hp.objs.size) := by heap_get
  have free : K.lookup (hp.objs.size + 1) = none := by
    cases e : K.lookup (hp.objs.size + 1) with
    | none => rfl
    | some o => exact absurd (Nat.lt_of_succ_lt (Heap.lt_size (X _ _ e))) (Nat.lt_irrefl _)
  refine call_own F.excBase_ValueError (fun Y => refsVE_contains Y bm hbm) (X _ _ hC) (looks_findIn X T.iC) (fun self => bind_fn X self T.tC) (one_size v) ?_
  refine err_init (s := ⟨(hp.push (kdv_tup [v])).push (excO C hp.objs.size), g, dr, tk, os⟩) T hfl (X.keeps up) (G.keeps up) (Bn.keeps up) hmb (hlim.keeps up) free mine ?_ fun h' tk' dx t1 I => ?_
  · show A.depth + 1 < recursionLimit
    exact hroom
  · have old : ∀ b o, hp.get? b = some o → h'.get? b = some o := fun b o e => I.keep b o (Nat.ne_of_lt (Nat.lt_succ_of_lt (Heap.lt_size e))) (up b o e)
    have z : hp.objs.size + 1 + 1 ≤ dx := by
      have q := I.dbig
      first
        | exact q
        | (rw [Heap.size_push, Heap.size_push] at q; exact q)
        | (simpa only [Heap.size_push] using q)
    exact ⟨rfl, hq h' tk' (hp.objs.size + 1) dx ⟨old, Nat.le_succ _, ⟨_, _, I.obj, rfl, rfl, rfl, rfl⟩, Nat.le_trans (Nat.le_trans (Nat.le_succ _) (Nat.le_succ _)) z, I.dne, I.ns⟩⟩
end
end ErrX
end PySem
namespace L2
open PySem PySem.Spec PyProof.Rows
theorem relO_err {fl : Str} {v : V} {v' : Value} (r : RelV v v') (f : Str) : RelO (List.lookup f [(fl, v)]) (if f = fl then some v' else none) := by
  by_cases hw : f = fl
  · subst hw
    rw [if_pos rfl]
    have q : List.lookup f [(f, v)] = some v := by simp [List.lookup]
    rw [q]
    exact r
  · have e : (f == fl) = false := by simpa using hw
    rw [if_neg hw]
    simp [List.lookup, e, RelO]
section
variable {X : Cx} {nm fl msg : Str} {C fI : Addr}
/-- C(e): for every new dict d that holds the field -/
def tMkErr (fl : Str) (C : Addr) (ta : TA) : St → Hp → XK → Prop := fun σ H Q => ta σ H fun vs H1 => ∃ v, vs = [v] ∧ ∀ d, H1 d = none → Q (.ref C) (some d) (upd H1 d (.xd [(fl, v)]))
theorem pmk_err {a : Expr} {ta : TA} {p pos : Pos} {k : Nat} (T : PySem.ErrX.ErrTxt X.prog X.K X.mg nm fl msg C fI) (hfl : fl = "index" ∨ fl = "number" ∨ fl = "part") (hr : Room k X.A) (ha : PA X [a] ta) (hg : Gl X nm) (hd : (nm == ("__debug__" : Str)) = false)
    (he : starEach (a :: []) X.env = (false, eval a X.env) :: starEach [] X.env := by rfl) (hpl : (backTo pos (starEach [] X.env)).any (·.1) = false := by rfl) :
    PMk X (.Call (.Name nm p) [a] [] pos) (tMkErr fl C ta) := by
  intro pins s σ H Q I h
  refine wpAny_Call_Name_kw (ld_glob I hg T.gC ?_ hd)
  refine PySem.W.callWith_K (h₀ := X.base) I.ok.mod.kin T.kC (thn (ha.run pos pins s σ H _ I h) fun us s1 hh => ?_) he hpl
  obtain ⟨vs, H1, I1, r1, v, ev, q1⟩ := hh
  subst ev
  refine ⟨I1.kIn, ?_⟩
  cases r1 with
  | cons rv rn =>
    rename_i v' us'
    cases rn
    show wpAny _ _ (call (.ref C) [v']) _ _ _
    have hlim := I1.nolimit
    obtain ⟨mb, b1, b2⟩ := I1.mod.blt
    have gl := I1.mod.glob.keeps I1.bk
    have bl := b1.keeps I1.bk
    obtain ⟨hp, g, dr, tk, os⟩ := s1
    refine wpAny_call (PySem.ErrX.err_made T hfl I1.kIn gl bl (b2 _ (by decide)) hlim (by have := hr.dp; omega) fun h' tk' e d M => ?_)
    show MkP X pins σ Q (.ref e) ⟨h', g, dr, tk', os⟩
    obtain ⟨oe, fv, hoe, hc, hd', hdat, h1⟩ := M.obj
    have hns := M.ns
    obtain ⟨G', g1, g2⟩ := restrict h' fun b => decide (b ≠ e)
    have gk : ∀ b, b ≠ e → G'.get? b = h'.get? b := fun b hb => g1 b (decide_eq_true hb)
    have ge : G'.get? e = none := g2 e (by simp)
    have old : ∀ b o, hp.get? b = some o → G'.get? b = some o := fun b o q => (gk b (Nat.ne_of_lt (Nat.lt_of_lt_of_le (Heap.lt_size q) M.new))).trans (M.keep b o q)
    have ob : ObjOk X.prog X.w (upd H1 d (.xd [(fl, v)])) G' d (.xd [(fl, v)]) := ⟨_, hns.at (fun o q => (gk d M.dne).trans q), fun f => relO_err rv f⟩
    have J : Inv X pins σ (upd H1 d (.xd [(fl, v)])) ⟨G', g, dr, tk', os⟩ := I1.laid (t' := tk') old M.dbig ob
    refine ⟨e, oe, fv, ⟨G', g, dr, tk', os⟩, _, .ref C, some d, rfl, J, fun b o q => ?_, ge, hoe, ⟨hc, hd'⟩, hdat, h1, ?_, rfl, I1.bare, raises_own T.exC T.tyC, q1 d (I1.hok.fresh M.dbig)⟩
    · by_cases hb : b = e
      · have q' : G'.get? b = some o := q
        rw [hb, ge] at q'
        cases q'
      · exact (gk b hb).symm.trans q
    · rw [upd_ne (Ne.symm M.dne)]
      exact I1.hok.fresh M.new
/-- raise C(e) -/
def tRaiseErr (fl : Str) (C : Addr) (W : WX) (ta : TA) : TS := fun _ σ H => tMkErr fl C ta σ H fun cls d H' => W cls d σ H'
theorem ps_raiseErr {a : Expr} {ta : TA} {W : WX} {p pos pos2 : Pos} {k : Nat} (hc : X.calm = true) (T : PySem.ErrX.ErrTxt X.prog X.K X.mg nm fl msg C fI) (hfl : fl = "index" ∨ fl = "number" ∨ fl = "part") (hr : Room k X.A) (tk : Takes X W) (ha : PA X [a] ta) (hg : Gl X nm) (hd : (nm == ("__debug__" : Str)) = false)
    (he : starEach (a :: []) X.env = (false, eval a X.env) :: starEach [] X.env := by rfl) (hpl : (backTo pos (starEach [] X.env)).any (·.1) = false := by rfl) :
    PS X (.Raise (some (.Call (.Name nm p) [a] [] pos)) none pos2) (tRaiseErr fl C W ta) := ps_raise hc tk (pmk_err T hfl hr ha hg hd he hpl)
/-- e.field, e the exception that the suite holds (at a; its class cls, its dict d) -/
def tFldErr (fl : Str) (C : Addr) (a : Addr) (cls : Value) (d : Option Addr) (te : TE) : TE := fun σ H Q => te σ H fun x H1 => x = .ref a ∧ cls = .ref C ∧ ∃ (dd : Addr) (v : V), d = some dd ∧ H1 dd = some (.xd [(fl, v)]) ∧ Q v H1
theorem pe_fldErr {a : Addr} {oe : Obj} {cls : Value} {d : Option Addr} {pn : List (Addr × Obj)} {e : Expr} {te : TE} {pos : Pos} (T : PySem.ErrX.ErrTxt X.prog X.K X.mg nm fl msg C fI) (hz : Zc cls d oe) (hf : ∃ vs, oe.data = .fields vs) (he : PE (X.suite a ((a, oe) :: pn)) e te)
    (hb : attributeBase e fl X.env (eval e X.env) = eval e X.env := by rfl) :
    PE (X.suite a ((a, oe) :: pn)) (.Attribute e fl pos) (tFldErr fl C a cls d te) := by
  refine ⟨fun pins s σ H Q I h => ?_⟩
  refine attr_of hb (thn (he.run pins s σ H _ I h) fun u s1 hh => ?_)
  obtain ⟨x, H1, I1, rx, ex, ec, dd, v, ed, ea, q⟩ := hh
  subst ex
  obtain rfl : u = Value.ref a := rx
  subst ec
  subst ed
  obtain ⟨ha, _⟩ := I1.pin (a, oe) (List.mem_append_left _ List.mem_cons_self)
  obtain ⟨vs, hd⟩ := hf
  have hx : ObjOk X.prog X.w H1 s1.heap dd (.xd [(fl, v)]) := I1.hok dd _ ea
  obtain ⟨mA, hns, hr⟩ := hx
  obtain ⟨od, ho, hl⟩ := lookIn_ns hns
  have l : List.lookup fl [(fl, v)] = some v := by simp [List.lookup]
  obtain ⟨u, hu, ru⟩ := RelO.some_of (v := v) (o := mA fl) (by rw [← l]; exact hr fl)
  have J : PySem.W.InstAt s1.heap a oe C (some od) := ⟨ha, hz.1, by unfold PySem.W.notCls; rw [hd] <;> rfl, by rw [hz.2]; exact ho⟩
  exact PySem.HandSPX.exc_get I1.kIn J T.ga T.gg T.exC (PySem.W.findObj_own T.hdC T.noN rfl (by rw [hl, hu])) (handed_of ru) ⟨v, H1, I1.tok _, ru, q⟩
end
end L2

set_option Elab.async false
set_option linter.all false
set_option maxRecDepth 100000
set_option maxHeartbeats 2000000
namespace Y
open PySem L2
/-! calls that may raise, for a try around: what is wanted of an error may speak of the slots -/
section
variable {X : Cx} {CX : CXT} {k : Nat} {f C : Addr} {fd : FuncData} {ps : List Str} {sp : Sp}
theorem run_fnT {A : Around} {pins : List (Addr × Obj)} {σ : St} {H : Hp} {s : Shared} {Q : VK} {E : XK} {us ds : List Value} {vs dvs : List V} (hf : A.frames = X.A.frames) (F : FnOk X.prog X.w X.K X.mg X.base CX k f fd ps sp) (hr : Room k A) (hb : Binds X.K fd ps ds) (hd : Vals dvs ds) (hx : PassesAt CX X σ E)
    (I : Inv X pins σ H s) (r : Vals vs us) (h : sp (vs ++ dvs) H Q E) : wpAny (model X.prog X.w) A (call (.ref f) us) (EP X pins σ Q) X.xe s := by
  have r2 := r.append hd
  have len : (us ++ ds).length = ps.length := r2.length.symm.trans (F.len _ _ _ _ h)
  have e := I.env0
  have e0 : Env0 X.prog X.w X.K X.mg X.base A X.stack s H := ⟨hf.trans e.frames, e.mod, e.bs, e.bsz, e.funs, e.frf, e.hok, e.bare⟩
  refine wpAny_call (codeAny_mono (F.run A X.stack s H ⟨us, []⟩ _ _ Q E hr e0 (hb s us I.kIn len) r2 h) fun r t hq => ?_)
  rcases r with x | fl
  · exact hx pins H s x t I hq
  · cases fl <;> first | exact I.after hq | exact hq.elim
def tOpS (r : St → R2) (ta tb : TE) : TE := fun σ H Q => ta σ H fun x H1 => tb σ H1 fun y H2 => r σ x y H2 Q
/-- a + b of two instances, their class's own __add__ may raise -/
theorem pe_addOS {E : St → XK} {a b : Expr} {ta tb : TE} {pos : Pos} (hs : PySem.W.findIn X.K (.ref C) "__add__" = some (some (.ref f))) (hf : PySem.W.isFn X.K (.ref f) = true) (hc : PySem.W.selfFirst X.K C = true) (F : FnOk X.prog X.w X.K X.mg X.base CX k f fd ps sp) (hr : Room k X.A) (hb : Binds X.K fd ps [])
    (hx : ∀ σ, PassesAt CX X σ (E σ)) (ha : PE X a ta) (hb2 : PE X b tb) : PE X (.BinOp a .Add b pos) (tOpS (fun σ => rAddO C sp (E σ)) ta tb) := by
  refine ⟨fun pins s σ H Q I h => wpAny_BinOp (binT ha hb2 I (R := fun x y H2 => rAddO C sp (E σ) x y H2 Q) h fun v u s2 x y H2 I2 rx ry q => ?_)⟩
  obtain ⟨a, b, dx, dy, fs, gs, rfl, rfl, e1, e2, q⟩ := q
  obtain rfl : v = Value.ref a := rx
  obtain rfl : u = Value.ref b := ry
  obtain ⟨_, O, _⟩ := ins_get I2.hok e1
  obtain ⟨_, J, _⟩ := O.look
  obtain ⟨_, O', _⟩ := ins_get I2.hok e2
  obtain ⟨_, J', _⟩ := O'.look
  obtain ⟨m, fr⟩ := I2.fr
  refine PySem.W.binop_K (op := .Add) fr I2.ok.mod.kin J J'.type hc hs hf (thn (run_fnT (A := X.A) (vs := [.ref a, .ref b]) (dvs := []) (ds := []) rfl F hr hb .nil (hx σ) I2 (.cons rfl (.cons rfl .nil)) q) fun w s1 hw => ?_)
  obtain ⟨z, H1, I1, rz, q1⟩ := hw
  have nn : w ≠ .notImplemented := fun e => by
    subst e
    cases z <;> first
      | exact nomatch (show Value.notImplemented = _ from rz)
      | (obtain ⟨t, e⟩ := rz; cases e)
  cases w <;> first
    | exact absurd rfl nn
    | exact ⟨z, H1, I1, rz, q1⟩
/-- o[i], the class's own __getitem__ may raise -/
theorem pe_ixOS {E : St → XK} {a b : Expr} {ta tb : TE} {pos : Pos} (hs : PySem.W.findIn X.K (.ref C) "__getitem__" = some (some (.ref f))) (hf : PySem.W.isFn X.K (.ref f) = true) (hn : PySem.W.fnIn X.K f = true) (F : FnOk X.prog X.w X.K X.mg X.base CX k f fd ps sp) (hr : Room (k + 1) X.A) (hb : Binds X.K fd ps [])
    (hx : ∀ σ, PassesAt CX X σ (E σ)) (ha : PE X a ta) (hi : PE X b tb) (hsl : ∀ o i, subscripted b true o i = runValue (.builtin "lifetime.subscript" ⟨[o, i], []⟩) := by intro _ _; with_unfolding_all rfl) :
    PE X (.Subscript a b pos) (tOpS (fun σ => rIxO C sp (E σ)) ta tb) := by
  refine ⟨fun pins s σ H Q I h => PyProof.Rows.Subscript_ (binT ha hi I (R := fun x y H2 => rIxO C sp (E σ) x y H2 Q) h fun v u s2 x y H2 I2 rx ry q => ?_)⟩
  obtain ⟨o, dx, fs, rfl, ho, q⟩ := q
  obtain rfl : v = Value.ref o := rx
  obtain ⟨_, O, _⟩ := ins_get I2.hok ho
  obtain ⟨_, J, _⟩ := O.look
  obtain ⟨_, fr⟩ := I2.fr
  exact PySem.W.sub_K fr I2.ok.mod.kin J hs hn hf (run_fnT (A := X.A.in1) (vs := [.ref o, y]) (dvs := []) (ds := []) rfl F hr.in1 hb .nil (hx σ) I2 (.cons rfl (.cons ry .nil)) q) (hsl _ _)
/-- o.m(..), which may raise -/
def tMethS (C : Addr) (m : Str) (sp : Sp) (E : St → XK) (ta : TE) (t : TA) : TE := fun σ H Q => ta σ H fun x H1 => ∃ a dx fs, x = .ref a ∧ H1 a = some (.ins C dx fs) ∧ fs.lookup m = none ∧ t σ H1 fun vs H2 => sp (x :: vs) H2 Q (E σ)
theorem pe_methS {m : Str} {E : St → XK} {o e : Expr} {es : List Expr} {ta : TE} {t : TA} {apos pos : Pos} {pl : Sem Bool} (ho : PE X o ta) (c : Cls X.K C) (hm : Meth X.K C m f) (F : FnOk X.prog X.w X.K X.mg X.base CX k f fd ps sp) (hr : Room k X.A) (hb : Binds X.K fd ps []) (hx : ∀ σ, PassesAt CX X σ (E σ)) (ha : PA X (e :: es) t)
    (hst : starEach (e :: es) X.env = (false, eval e X.env) :: starEach es X.env := by rfl) (hpl : (backTo pos (starEach es X.env)).any (·.1) = false := by rfl)
    (ht : eval (.Call (.Attribute o m apos) (e :: es) [] pos) X.env = (do
      let ov ← eval o X.env
      standAt apos.atName
      let (g, first) ← holding [ov] (getMethod ov m pl)
      callWith pos g first (backTo pos (starEach (e :: es) X.env)) (backToKw pos (keywordEach [] X.env))) := by rfl) :
    PE X (.Call (.Attribute o m apos) (e :: es) [] pos) (tMethS C m sp E ta t) := by
  refine ⟨fun pins s σ H Q I h => PySem.W.methodCall_KW (pl := pl) (thn (ho.run pins s σ H _ I h) fun z s1 hz => ?_) ht⟩
  obtain ⟨x, H1, I1, rx, a, dx, fs, rfl, ea, l, q⟩ := hz
  obtain rfl : z = Value.ref a := rx
  refine getmeth_ok I1 ea c hm l (PySem.W.callWith_K (first := [.ref a]) (h₀ := X.base) I.ok.mod.kin hm.kp (thn (ha.run pos pins s1 σ H1 _ I1 q) fun us s2 hu => ?_) hst hpl)
  obtain ⟨vs, H2, I2, r, q2⟩ := hu
  refine ⟨I2.kIn, run_fnT (us := .ref a :: us) (vs := .ref a :: vs) (dvs := []) (ds := []) rfl F hr hb .nil (hx σ) I2 (.cons rfl r) ?_⟩
  rw [List.append_nil]
  exact q2
/-- C(..), whose own __init__ may raise -/
def tMakeS (C : Addr) (sp : Sp) (E : St → XK) (t : TA) : TE := fun σ H Q => t σ H fun vs H1 => ∀ x dx, H1 x = none → H1 dx = none → dx ≠ x → sp (.ref x :: vs) (upd (upd H1 dx (.own x)) x (.ins C dx [])) (fun v H2 => v = .non ∧ Q (.ref x) H2) (E σ)
theorem run_makeS {pins : List (Addr × Obj)} {σ : St} {H : Hp} {s : Shared} {Q : VK} {E : XK} {us : List Value} {vs : List V} (M : Mk X.K C f) (F : FnOk X.prog X.w X.K X.mg X.base CX k f fd ps sp) (hr : Room (k + 1) X.A) (hb : Binds X.K fd ps [])
    (hx : PassesAt CX X σ E) (I : Inv X pins σ H s) (r : Vals vs us) (h : ∀ x dx, H x = none → H dx = none → dx ≠ x → sp (.ref x :: vs) (upd (upd H dx (.own x)) x (.ins C dx [])) (fun v H2 => v = .non ∧ Q (.ref x) H2) E) :
    wpAny (model X.prog X.w) X.A (call (.ref C) us) (EP X pins σ Q) X.xe s := by
  have q := h (s.heap.objs.size + 1) s.heap.objs.size (I.hok.fresh (Nat.le_succ _)) (I.hok.fresh (Nat.le_refl _)) (Nat.ne_of_lt (Nat.lt_succ_self _))
  have J := Inv.made (C := C) I
  have r2 : Vals (V.ref (s.heap.objs.size + 1) :: vs) (Value.ref (s.heap.objs.size + 1) :: us) := .cons rfl r
  have len : (Value.ref (s.heap.objs.size + 1) :: us ++ []).length = ps.length := by
    rw [List.append_nil]
    exact r2.length.symm.trans (F.len _ _ _ _ q)
  have bd := hb _ (Value.ref (s.heap.objs.size + 1) :: us) J.kIn len
  rw [List.append_nil] at bd
  refine wpAny_call (make_map (f := f) I.kIn M.makes M.init (beq_iff_eq.mp M.fn) (codeAny_mono (F.run _ X.stack _ _ ⟨Value.ref (s.heap.objs.size + 1) :: us, []⟩ _ _ _ E (hr.make C us []) (J.env0.make C us []) bd r2 q) fun r t hq => ?_))
  rcases r with x | fl
  · exact hx pins _ _ x t J hq
  · cases fl with
    | ret u =>
      obtain ⟨v, H', I3, rv, rfl, q3⟩ := J.after hq
      exact ⟨rv, V.ref (s.heap.objs.size + 1), H', I3, rfl, q3⟩
    | next => exact hq.elim
    | brk => exact hq.elim
    | cont => exact hq.elim
theorem pe_makeS {x : Str} {E : St → XK} {e : Expr} {es : List Expr} {t : TA} {p pos : Pos} (M : Mk X.K C f) (F : FnOk X.prog X.w X.K X.mg X.base CX k f fd ps sp) (hr : Room (k + 1) X.A) (hg : Gl X x) (hm : X.mg x = some (.ref C)) (hb : Binds X.K fd ps []) (hx : ∀ σ, PassesAt CX X σ (E σ))
    (ha : PA X (e :: es) t) (hdb : (x == ("__debug__" : Str)) = false := by decide) (he : starEach (e :: es) X.env = (false, eval e X.env) :: starEach es X.env := by rfl) (hpl : (backTo pos (starEach es X.env)).any (·.1) = false := by rfl) :
    PE X (.Call (.Name x p) (e :: es) [] pos) (tMakeS C sp E t) :=
  ⟨fun pins s σ H Q I h => wpAny_Call_Name_kw (ld_glob I hg hm (PySem.W.callWith_K (h₀ := X.base) I.ok.mod.kin M.kp (thn (ha.run pos pins s σ H _ I h) fun us s1 hu => by
    obtain ⟨vs, H1, I1, r, q⟩ := hu
    exact ⟨I1.kIn, run_makeS M F hr hb (hx σ) I1 r q⟩) he hpl) hdb)⟩
end
end Y
namespace Y
open PySem L2
/-- a call of what may raise, where it does not -/
theorem passX0 {X : Cx} : Passes (L2.CX X.prog X.w) X (fun _ _ _ => False) := passes_call (W := fun _ _ _ _ => False) takes0 fun _ _ _ _ z => z
end Y

set_option Elab.async false
set_option linter.all false
set_option maxRecDepth 100000
set_option maxHeartbeats 2000000
namespace PySem
namespace ErrX
open PySem.W PySem.Calls PyProof.Rows PySem.Spec
section
variable {prog : Program} {w : World} {A : Around} {E : Value → Shared → Prop} {s : Shared} {K : Frag} {x D : Addr} {ox : Obj} {od : Option Obj}
theorem find_data {name : Str} {a g : Value} (hc : (clsIn K D).isSome = true) (ha : findIn K (.ref D) name = some (some a)) (hg : specialIn K a "__get__" = some (some g)) (ht : takesIn K a = some true) : findObj K D od name = some (.bind g a) := by
  obtain ⟨cd, e⟩ := Option.isSome_iff_exists.mp hc
  unfold findObj
  rw [e, Option.bind_some, ha, Option.bind_some]
  cases od <;> simp [hg, ht]
/-- e.__class__ of an own error, whatever its dict holds -/
theorem cls_asked {Q : Option Value → Shared → Prop} (Y : L2.ExcC K D) (X : K.In s.heap) (J : InstAt s.heap x ox D od) (h : Q (some (.ref D)) { s with toks := s.toks + 1 }) : wpAny (model prog w) A (getAttr? (.ref x) "__class__") Q E s := by
  have found : findObj K D od "__class__" = some (.bind (.builtin "getset_descriptor.__get__") (.builtin "object.__class__")) :=
    find_data (by obtain ⟨c, e, _⟩ := any_some Y.hd; rw [e]; rfl) Y.ha Y.hn Y.ht
  rcases s with ⟨hh, gg, dd, tt, oo⟩
  have a0 := J.type (M := model prog w)
  have a1 := looks_findIn (M := model prog w) X Y.hg
  have a2 := looks_findIn (M := model prog w) X Y.hk
  have a3 := looks_find (M := model prog w) X J found
  have base : Looks (model prog w) hh (isInstance (.ref x) (.type "BaseException")) true := a0.andThen (looks_subIn X Y.hs)
  have other : (Value.builtin "BaseException.__getattribute__" == Value.builtin "object.__getattribute__") = false := by decide +kernel
  unfold getAttr? getAttrBy? getAttrBy
  refine wpAny_bind (wpAny_mkText (wpAny_bind (wpAny_attempt (wpAny_holding (wpAny_bind (a0.at (wpAny_bind (a1.at ?_))))))))
  simp only [other, Bool.and_false, Bool.false_eq_true, if_false]
  unfold getAttrByItsOwn hookBefore
  refine wpAny_bind ?_
  simp only [show onTheHeap (Value.ref D) = true from rfl, if_true]
  refine a2.at (wpAny_bind (wpAny_attempt (wpAny_holding ?_)))
  unfold callGetattribute
  simp only [Bool.false_and, Bool.false_eq_true, if_false]
  unfold boundAndCalled
  rw [PySem.F.excAttr_ValueError.ga.bind (.ref x)]
  refine wpAny_bind (wpAny_pure (wpAny_call (codeAny_call_builtin PySem.F.excAttr_ValueError.ga.plain PySem.F.entry_bexc_ga
    (@check_slot (model prog w) _ _ ⟨hh, gg, dd, tt + 1, oo⟩ "BaseException.__getattribute__" "BaseException" "__getattribute__" (.ref x) [.str "__class__" tt] [] _ (by decide +kernel) (by decide +kernel) base (PySem.F.args_bexc_ga (.ref x) (.str "__class__" tt)) ?_))))
  unfold Builtin.«object.__getattribute__»
  refine wpAny_bind (wpAny_of_eq (a := ((Value.ref x : Value), [Value.str "__class__" tt])) (by first | rfl | (simp only [slotArgs]; rfl)) (wpAny_bind (wpAny_pure (wpAny_bind (a0.at (wpAny_bind (a3.at ?_)))))))
  show wpAny _ _ (holding [_] (call (.builtin "getset_descriptor.__get__") [.builtin "object.__class__", .ref x, .ref D]) >>= ret) _ _ _
  refine wpAny_bind (wpAny_holding (wpAny_call (class_get (s := ⟨hh, gg, dd, tt + 1, oo⟩) (ox := ox) (od := od) X J Y.hm (wpAny_pure ?_))))
  show wpAny _ _ (handedOut (.ref D)) _ _ _
  rw [handedOut_of (v := .ref D) rfl]
  first
    | exact wpAny_pure h
    | exact wpAny_pure (wpAny_pure h)
    | exact wpAny_pure (wpAny_bind (wpAny_pure (wpAny_pure h)))
theorem cls_at {h : Heap} {cd : ClassData} (X : K.In h) (e : clsIn K D = some cd) : ∃ o, h.get? D = some o ∧ o.data = .cls cd := by
  unfold clsIn at e
  split at e
  · rename_i z
    cases e
    exact ⟨_, X _ _ z, rfl⟩
  · cases e
theorem kitx_err (Y : L2.ExcC K D) : KitX K (.ref x) (.ref D) (fun h => InstAt h x ox D od) where
  ty := fun _ _ _ J => J.type
  it := fun _ h X _ A Q E t k q => by
    obtain ⟨c, e, _⟩ := any_some Y.hd
    obtain ⟨o, e1, e2⟩ := cls_at X e
    obtain ⟨hp, g, d, t, os⟩ := t
    exact ks_wpAny_isType_cls (k _ _ e1) e2 q
  ne := (PySem.W.handS_kitx_exc (x := x) (ox := ox) Y.hg Y.hk Y.hs Y.hd Y.ha Y.hn Y.ht Y.hm).ne
  ca := fun X J k => cls_asked Y X J k
end
end ErrX
end PySem

namespace L2
open PySem PySem.Spec PyProof.Rows
/-- isinstance(e, c), e the exception that the suite holds at a, whatever its own dict holds -/
def rIsErr (K : PySem.W.Frag) (D a : Addr) (cls : Value) (d : Option Addr) : List V → Hp → VK → Prop := fun xs H Q => ∃ (c : V) (cv : Value) (b : Bool) (dd : Addr) (fs : List (Str × V)), d = some dd ∧ H dd = some (.xd fs) ∧ cls = .ref D ∧ xs = [.ref a, c] ∧ (∀ u, RelV c u → u = cv) ∧ PySem.W.kitOne K (.ref D) cv = some b ∧ Q (.bl b) H
theorem call_isErr {X : Cx} {a D : Addr} {cls : Value} {d : Option Addr} {oe : Obj} {pn : List (Addr × Obj)} (Y : ExcC X.K D) (hz : Zc cls d oe) (hf : ∃ vs, oe.data = .fields vs) :
    CallR (X.suite a ((a, oe) :: pn)) (.builtin "isinstance") (rIsErr X.K D a cls d) := by
  intro pins s σ H xs us Q I r h
  obtain ⟨c, cv, b, dd, fs, rfl, hd, rfl, rfl, hcv, e, q⟩ := h
  obtain ⟨u, v, rfl, rx, rt⟩ := vals2 r
  obtain rfl : u = Value.ref a := rx
  obtain rfl := hcv _ rt
  obtain ⟨ha, _⟩ := I.pin (a, oe) (List.mem_append_left _ List.mem_cons_self)
  obtain ⟨vs, hv⟩ := hf
  have ob : ObjOk X.prog X.w H s.heap dd (.xd fs) := I.hok dd _ hd
  obtain ⟨mA, hns, hr⟩ := ob
  obtain ⟨od, ho, hl⟩ := lookIn_ns hns
  have J : PySem.W.InstAt s.heap a oe D (some od) := ⟨ha, hz.1, by unfold PySem.W.notCls; rw [hv], by rw [hz.2]; exact ho⟩
  exact PySem.W.kia_one (PySem.ErrX.kitx_err Y) I.kIn J e (fun z => nomatch z) fun tk => ⟨.bl b, H, I.kept (t' := tk) fun _ _ z => z, rfl, q⟩
end L2

set_option Elab.async false
set_option linter.all false
set_option maxRecDepth 100000
set_option maxHeartbeats 2000000
namespace Y
open PySem L2
section
variable {X : Cx} {CX : CXT} {k : Nat} {f C : Addr} {fd : FuncData} {ps : List Str} {sp : Sp} {E : XK}
/-- a == b of two instances, by their class's own __eq__ -/
def rEqO (C : Addr) (sp : Sp) (E : XK) : R2 := fun x y H Q => ∃ a b dx dy fs gs, x = .ref a ∧ y = .ref b ∧ H a = some (.ins C dx fs) ∧ H b = some (.ins C dy gs) ∧ sp [.ref a, .ref b] H (fun v H' => ∃ t, v = .bl t ∧ Q v H') E
theorem op_eqO (hs : PySem.W.findIn X.K (.ref C) "__eq__" = some (some (.ref f))) (hf : PySem.W.isFn X.K (.ref f) = true) (F : FnOk X.prog X.w X.K X.mg X.base CX k f fd ps sp) (hr : Room k X.A) (hb : Binds X.K fd ps []) (hx : Passes CX X E) :
    OpR X (compareOp .Eq) (rEqO C sp E) := by
  intro pins s σ H x y v u Q I rx ry h
  obtain ⟨a, b, dx, dy, fs, gs, rfl, rfl, ha, hb', q⟩ := h
  obtain rfl : v = Value.ref a := rx
  obtain rfl : u = Value.ref b := ry
  obtain ⟨_, O, _⟩ := ins_get I.hok ha
  obtain ⟨_, J, _⟩ := O.look
  obtain ⟨_, O', _⟩ := ins_get I.hok hb'
  obtain ⟨_, J', _⟩ := O'.look
  obtain ⟨m, fr⟩ := I.fr
  show wpAny (model X.prog X.w) X.A (richCompare .Eq (.ref a) (.ref b)) _ _ _
  refine PySem.W.cmp_K (op := .Eq) (tb := .ref C) hr.units0 fr I.ok.mod.kin J J'.type (by simp [PySem.W.notFirst]) hs hf (thn (run_fnA (A := X.A) (vs := [.ref a, .ref b]) rfl F hr hb hx I (.cons rfl (.cons rfl .nil)) q) fun w s1 hw => ?_)
  obtain ⟨z, H1, I1, rz, t, rfl, q1⟩ := hw
  obtain rfl : w = Value.bool t := rz
  exact ⟨.bl t, H1, I1, rfl, q1⟩
end
end Y

set_option Elab.async false
set_option linter.all false
set_option maxRecDepth 100000
namespace Y
open PySem L2
/-! ### what the laws of right scripts want beside -/
/-- nothing but the object at a is otherwise -/
def But (a : Addr) (H H' : Hp) : Prop := ∀ b o, H b = some o → b ≠ a → H' b = some o
theorem But.refl (a : Addr) (H : Hp) : But a H H := fun _ _ e _ => e
theorem But.trans {a : Addr} {H H1 H2 : Hp} (h : But a H H1) (k : But a H1 H2) : But a H H2 := fun b o e n => k b o (h b o e n) n
theorem But.of {a : Addr} {H H' : Hp} (h : Same H H') : But a H H' := fun b o e _ => h b o e
theorem But.at_ {a b : Addr} {H H' : Hp} {o : HO} (h : But a H H') (e : H b = some o) (n : b ≠ a) : H' b = some o := h b o e n
theorem But.free {a b : Addr} {H H' : Hp} (h : But a H H') (n : H' b = none) (na : b ≠ a) : H b = none := by
  cases e : H b with
  | none => rfl
  | some o =>
    rw [h b o e na] at n
    cases n
theorem Same.none_of {H H' : Hp} (e : Same H H') {p : Addr} (h : H' p = none) : H p = none := by
  cases q : H p with
  | none => rfl
  | some o =>
    rw [e _ _ q] at h
    cases h
theorem Same.new {H : Hp} {p : Addr} {o : HO} (n : H p = none) : Same H (upd H p o) := fun _ _ e => lk_new e n
/-- a new object, changed -/
theorem Same.upd_new {H H' : Hp} {p : Addr} {o : HO} (s : Same H H') (n : H p = none) : Same H (upd H' p o) := fun b u e => lk_ne (s b u e) (ne_of_none e n)
theorem But.upd_new {a : Addr} {H H' : Hp} {p : Addr} {o : HO} (s : But a H H') (n : H p = none) : But a H (upd H' p o) := fun b u e na => lk_ne (s b u e na) (ne_of_none e n)
theorem dp_kt {K : PySem.W.Frag} {H : Hp} {a : Addr} {xs : List V} {its : List Value} {ds : List PyData} {d : Option Addr} {n : Nat} {sl : Array (Option Value)} (h : K.lookup a = some ⟨.type "tuple", d, .seq its.toArray n, sl⟩) (hl : its.length ≤ 1000)
    (hv : Vals xs its) (hd : DpAll K H xs ds) : Dp K H (.ref a) (.tuple ds) :=
  .tup (.inr ⟨_, _, n, h, rfl, rfl, by rw [List.size_toArray]; exact Nat.le_trans hl (by decide), by simpa using hv⟩) hd
theorem Dp.tupS {K : PySem.W.Frag} {H : Hp} {v : V} {ds : List PyData} (h : Dp K H v (.tuple ds)) : ∃ a xs, v = .ref a ∧ SqT K H a xs ∧ DpAll K H xs ds := by
  cases h with
  | tup h1 h2 => exact ⟨_, _, rfl, h1, h2⟩
theorem DpAll.length {K : PySem.W.Frag} {H : Hp} : ∀ {xs : List V} {ds : List PyData}, DpAll K H xs ds → xs.length = ds.length
  | _, _, .nil => rfl
  | _, _, .cons _ t => congrArg Nat.succ (DpAll.length t)
section
variable {X : Cx} (K : PySem.W.Frag)
theorem cr_maxk (hc : X.calm = true) (h : X.K = K := by rfl) : CallR X (.builtin "max") (rMax K) := by subst h; exact cr_max hc
theorem cr_mink (hc : X.calm = true) (h : X.K = K := by rfl) : CallR X (.builtin "min") (rMin K) := by subst h; exact cr_min hc
/-- l.count(y), data -/
def rCntD (K : PySem.W.Frag) : V → List V → Hp → VK → Prop := fun x vs H Q => ∃ p ds d y, x = .ref p ∧ vs = [y] ∧ Dp K H (.ref p) (.list ds) ∧ Dp K H y d ∧ SeqAt.shaped (.list ds) = true ∧ SeqAt.shaped d = true ∧ Q (.int ((ds.countP fun z => PyData.eqv z d : Nat) : Int)) H
theorem mt_cntDk (hu : X.A.units + 65 < cLine) (h : X.K = K := by rfl) : MtR X "list.count" (rCntD K) := by
  subst h
  intro pins s σ H x xs v us Q I rx rxs h
  obtain ⟨p, ds, d, y, rfl, rfl, h1, h2, s1, s2, q⟩ := h
  cases rx
  obtain ⟨u, rfl, ru⟩ := rxs.one
  cases h1 with
  | lst hs ha =>
    obtain ⟨its, rv, ⟨o, n, ho, hc, hdn, hd⟩, hlen⟩ := I.list hs
    obtain ⟨as, r1⟩ := Dp.readsAll I ds _ its ha rv
    obtain ⟨bs, r2⟩ := Dp.reads I d y u h2 ru
    have c1 := SeqAt.canLay_of_shaped s1
    have c2 := SeqAt.canLay_of_shaped s2
    have c1' : PyData.canLayAll0 ds = true := by simpa [PyData.canLay0] using c1
    have dd := SeqAt.depth_of_shaped s2
    refine SeqAt.count_list_data (xs := ds) (d := d) (vs := its.toArray) ⟨o, ho, hc, n, hd⟩ (by simpa using r1) r2 (PyData.plainAll_of_canLay0 _ c1') (PyData.plain_of_canLay0 _ c2) ?_ ⟨.int _, H, I.tok _, ⟨_, rfl⟩, q⟩
    have := Nat.min_le_right (PyData.depthAll ds) d.depth
    omega
end
def rInsert : V → List V → Hp → VK → Prop := fun x vs H Q => ∃ (l : Addr) (xs : List V) (i : Int) (y : V), x = .ref l ∧ vs = [.int i, y] ∧ H l = some (.lst xs) ∧ xs.length < sizeLine ∧ 0 ≤ i ∧ i < 2 ^ 63 ∧ Q .non (upd H l (.lst (xs.take i.toNat ++ [y] ++ xs.drop i.toNat)))
theorem mt_insertk {X : Cx} : MtR X "list.insert" rInsert := mt_insert
section
variable {K : PySem.W.Frag} {σ : St} {H : Hp} {Q : VK} {a b p : Addr} {xs ys : List V} {x y v : V} {i : Int} {lo hi : Option Int} {Qs : St → Hp → Prop} {t : TG} {tg : TGs} {n : Nat} {nx : St → Hp → Prop}
theorem k_insert (h : H a = some (.lst xs)) (hl : xs.length < 100000) (h0 : 0 ≤ i) (h1 : i < 2 ^ 62) (q : Q .non (upd H a (.lst (xs.take i.toNat ++ [y] ++ xs.drop i.toNat)))) : fBM2 rInsert (.ref a) Q [.int i, y] H :=
  ⟨a, xs, i, y, rfl, rfl, h, Nat.lt_of_lt_of_le hl (by decide), h0, by omega, q⟩
theorem k_count {ds : List PyData} {d : PyData} (h1 : Dp K H (.ref a) (.list ds)) (h2 : Dp K H y d) (s1 : SeqAt.shaped (.list ds) = true) (s2 : SeqAt.shaped d = true) (q : Q (.int ((ds.countP fun z => PyData.eqv z d : Nat) : Int)) H) : fBM2 (rCntD K) (.ref a) Q [y] H :=
  ⟨a, ds, d, y, rfl, rfl, h1, h2, s1, s2, q⟩
theorem k_max1 {ns : List Int} (h : SqL K H a (ns.map V.int)) (hl : 0 < ns.length) (q : ∀ m, m ∈ ns → (∀ y, y ∈ ns → y ≤ m) → Q (.int m) H) : fCB (rMax K) Q [.ref a] H := ⟨a, ns, rfl, h, hl, q⟩
theorem k_min1 {ns : List Int} (h : SqL K H a (ns.map V.int)) (hl : 0 < ns.length) (q : ∀ m, m ∈ ns → (∀ y, y ∈ ns → m ≤ y) → Q (.int m) H) : fCB (rMin K) Q [.ref a] H := ⟨a, ns, rfl, h, hl, q⟩
theorem k_slL (h : SqL K H a xs) (q : ∀ p, H p = none → Q (.ref p) (upd H p (.lst (cutV xs lo hi)))) : rSlU K (.ref a) lo hi H Q := .inr ⟨a, xs, rfl, h, q⟩
theorem cutV_all (h : HT.sIx xs.length 0 lo = 0 ∧ HT.sIx xs.length xs.length hi = xs.length) : cutV xs lo hi = xs := by
  unfold cutV
  rw [h.1, h.2]
  simp
theorem k_slT (h : SqT K H a xs) (q : ∀ (p : Addr) (H' : Hp), Same H H' → SqT K H' p (cutV xs lo hi) → Q (.ref p) H') : rSlU K (.ref a) lo hi H Q :=
  .inl ⟨a, xs, rfl, h, fun e => q a H (Same.refl H) (by rw [cutV_all e]; exact h), fun _ p n => q p _ (fun c o e => lk_new e n) (SqT.of upd_same)⟩
theorem k_catL (h1 : H a = some (.lst xs)) (h2 : H b = some (.lst ys)) (hl : xs.length + ys.length ≤ 100000) (q : ∀ p, H p = none → Q (.ref p) (upd H p (.lst (xs ++ ys)))) : fOp2 (rAddU K) (.ref a) Q (.ref b) H :=
  .inr ⟨a, b, xs, ys, rfl, rfl, h1, h2, Nat.le_trans hl (by decide), q⟩
theorem k_unp (h : SqT K H p xs) (hn : xs.length = n) (q : tg xs σ H Qs) : gTup K n tg (.ref p) σ H Qs := ⟨p, xs, rfl, h, hn, q⟩
theorem e_gcons : gCons t tg (x :: xs) σ H Qs = t x σ H (fun σ1 H1 => tg xs σ1 H1 Qs) := propext ⟨fun ⟨v, r, e, q⟩ => by cases e; exact q, fun q => ⟨x, xs, rfl, q⟩⟩
theorem e_gnil : gNil [] σ H Qs = Qs σ H := propext ⟨fun q => q.2, fun q => ⟨rfl, q⟩⟩
theorem e_asgT : fAsg (gTup K n tg) σ nx v H = gTup K n tg v σ H nx := rfl
theorem e_callD {sp : Sp} {d : V} {ds : List V} {E : XK} {vs : List V} : fCall sp (d :: ds) E Q vs H = sp (vs ++ (d :: ds)) H Q E := rfl
end
/-- a cut of any list -/
def cutG {α : Type} (xs : List α) (lo hi : Option Int) : List α := (xs.drop (HT.sIx xs.length 0 lo)).take (HT.sIx xs.length xs.length hi - HT.sIx xs.length 0 lo)
theorem cutV_eq (xs : List V) (lo hi : Option Int) : cutV xs lo hi = cutG xs lo hi := rfl
theorem cutG_to {α : Type} (xs : List α) (k : Nat) : cutG xs none (some (k : Int)) = xs.take k := by
  unfold cutG
  rw [HT.sIx_none, HT.sIx_nat, List.drop_zero, Nat.sub_zero]
  by_cases h : k ≤ xs.length
  · rw [Nat.min_eq_left h]
  · rw [Nat.min_eq_right (by omega), List.take_of_length_le (Nat.le_refl _), List.take_of_length_le (by omega)]
theorem cutG_from {α : Type} (xs : List α) (k : Nat) : cutG xs (some (k : Int)) none = xs.drop k := by
  unfold cutG
  rw [HT.sIx_none, HT.sIx_nat]
  by_cases h : k ≤ xs.length
  · rw [Nat.min_eq_left h, List.take_of_length_le (by rw [List.length_drop]; omega)]
  · rw [Nat.min_eq_right (by omega), Nat.sub_self, List.take_zero, List.drop_of_length_le (by omega)]
theorem cutG_mem {α : Type} {xs : List α} {lo hi : Option Int} {x : α} (h : x ∈ cutG xs lo hi) : x ∈ xs := List.mem_of_mem_drop (List.mem_of_mem_take h)
theorem Paired.take {α β : Type} {F : α → β → Prop} : ∀ {xs : List α} {ys : List β} (n : Nat), Paired F xs ys → Paired F (xs.take n) (ys.take n)
  | _, _, 0, _ => by simpa using Paired.nil
  | _, _, n + 1, .nil => by simpa using Paired.nil
  | _, _, n + 1, .cons h t => by simpa using Paired.cons h (Paired.take n t)
theorem Paired.drop {α β : Type} {F : α → β → Prop} : ∀ {xs : List α} {ys : List β} (n : Nat), Paired F xs ys → Paired F (xs.drop n) (ys.drop n)
  | _, _, 0, h => by simpa using h
  | _, _, n + 1, .nil => by simpa using Paired.nil
  | _, _, n + 1, .cons h t => by simpa using Paired.drop n t
theorem Paired.cut {α β : Type} {F : α → β → Prop} {xs : List α} {ys : List β} {lo hi : Option Int} (h : Paired F xs ys) : Paired F (cutG xs lo hi) (cutG ys lo hi) := by
  have e := Paired.length h
  unfold cutG
  rw [e]
  exact Paired.take _ (Paired.drop _ h)
/-! ### errors -/
def fMkErr (fl : Str) (C : Addr) (Q : XK) : VL := fun vs H1 => ∃ v, vs = [v] ∧ ∀ d, H1 d = none → Q (.ref C) (some d) (upd H1 d (.xd [(fl, v)]))
theorem e_raise {fl : Str} {C : Addr} {W : WX} {ta : TA} {D : Ends} {σ : St} {H : Hp} : tRaiseErr fl C W ta D σ H = ta σ H (fMkErr fl C fun c d H' => W c d σ H') := rfl
theorem e_mkErr {fl : Str} {C : Addr} {Q : XK} {v : V} {H : Hp} : fMkErr fl C Q [v] H = ∀ d, H d = none → Q (.ref C) (some d) (upd H d (.xd [(fl, v)])) :=
  propext ⟨fun ⟨w, e, q⟩ => by cases e; exact q, fun q => ⟨v, rfl, q⟩⟩
theorem k_isErr {K : PySem.W.Frag} {D a dd : Addr} {fs : List (Str × V)} {c : V} {cv : Value} {b : Bool} {H : Hp} {Q : VK} (h : H dd = some (.xd fs)) (hcv : ∀ u, RelV c u → u = cv) (hk : PySem.W.kitOne K (.ref D) cv = some b) (q : Q (.bl b) H) : fCB (rIsErr K D a (.ref D) (some dd)) Q [.ref a, c] H :=
  ⟨c, cv, b, dd, fs, rfl, h, rfl, rfl, hcv, hk, q⟩
theorem b_ValueError : bootBuiltins "ValueError" = some (.type "ValueError") := by decide +kernel
theorem e_asg1 {g : TG} {σ : St} {nx : St → Hp → Prop} {v : V} {H : Hp} : fAsg g σ nx v H = g v σ H nx := rfl
theorem e_opS {r : St → R2} {ta tb : TE} {σ : St} {H : Hp} {Q : VK} : tOpS r ta tb σ H Q = tOp (r σ) ta tb σ H Q := rfl
def fFldErr (fl : Str) (C a : Addr) (cls : Value) (d : Option Addr) (Q : VK) : VK := fun x H1 => x = .ref a ∧ cls = .ref C ∧ ∃ (dd : Addr) (v : V), d = some dd ∧ H1 dd = some (.xd [(fl, v)]) ∧ Q v H1
theorem e_fldErr {fl : Str} {C a : Addr} {cls : Value} {d : Option Addr} {te : TE} {σ : St} {H : Hp} {Q : VK} : tFldErr fl C a cls d te σ H Q = te σ H (fFldErr fl C a cls d Q) := rfl
theorem k_fldErr {fl : Str} {C a dd : Addr} {v : V} {H : Hp} {Q : VK} (h : H dd = some (.xd [(fl, v)])) (q : Q v H) : fFldErr fl C a (.ref C) (some dd) Q (.ref a) H := ⟨rfl, rfl, dd, v, rfl, h, q⟩
theorem k_we {K : PySem.W.Frag} {c cls : Value} {i : Nat} {ts : Addr → Value → Option Addr → TS} {Wout : WX} {D : Ends} {σ : St} {d : Option Addr} {H : Hp} (h : PySem.W.exmOne K cls c = some true)
    (q : ∀ a, H a = none → ts a cls d { nx := fun σ' H' => D.nx (σ'.set i none) H', rt := D.rt, bk := fun σ' H' => D.bk (σ'.set i none) H', ct := fun σ' H' => D.ct (σ'.set i none) H' } (σ.set i (some (.ref a))) H) : WE (wAs K c i ts Wout D) σ cls d H :=
  ⟨true, h, fun _ => q, fun z => nomatch z⟩
theorem k_catT {K : PySem.W.Frag} {H : Hp} {a b : Addr} {xs ys : List V} {Q : VK} (h1 : SqT K H a xs) (h2 : SqT K H b ys) (hl : xs.length + ys.length ≤ 100000) (q : ∀ (r : Addr) (H' : Hp), Same H H' → SqT K H' r (xs ++ ys) → Q (.ref r) H') : fOp2 (rAddU K) (.ref a) Q (.ref b) H := by
  refine .inl ⟨a, b, xs, ys, rfl, rfl, h1, h2, Nat.le_trans hl (by decide), fun e => ?_, fun _ e => ?_, fun _ _ p n => ?_⟩
  · subst e
    exact q b H (Same.refl H) h2
  · subst e
    rw [List.append_nil] at q
    exact q a H (Same.refl H) h1
  · exact q p _ (fun c o e => lk_new e n) (SqT.of upd_same)
/-- a def with defaults, from which nothing is raised -/
theorem FunD_ok {P : Program} {w : World} {K : PySem.W.Frag} {mg : Str → Option Value} {base : Heap} {x qual : Str} {params : Arguments} {body : List Stmt} {scope : Scope} {dvs : List V} {kws : List (Str × V)} {f : Addr} {fd : FuncData} {N ps : List Str} {k : Nat} {sp : Sp}
    (F : FunD K x qual params body scope dvs kws f fd) (S : FnScope N ps scope) (len : ∀ vs H Q E, sp vs H Q E → vs.length = ps.length)
    (hbody : ∀ (cdv : Value) (A : Around) (outer : List Env) (s : Shared) (H : Hp) (vs : List V) (Q : VK) (E : XK), Room k (A.deeper (PyProof.Rows.envOfC qual scope s.heap.objs.size f cdv)) → sp vs H Q E →
      ∃ t, PSs (cxOf CX0 P w K mg base N qual scope f cdv A outer s H E).nox body t ∧ t { nx := fun _ H' => Q .non H', rt := Q } (start N vs) H) : FnOk P w K mg base CX0 (k + 1) f fd ps sp :=
  F.ok S len fun cdv A outer s H vs Q E hr h => by
    obtain ⟨t, h1, q⟩ := hbody cdv A outer s H vs Q E hr h
    exact ⟨t, h1.nox, q⟩
/-! ### facts carried from an older heap -/
section
variable {K : PySem.W.Frag} {H H' : Hp} {p a b : Addr} {o u : HO} {xs : List V}
theorem Same.get (s : Same H H') (h : H p = some o) : H' p = some o := s _ _ h
theorem But.get (s : But a H H') (h : H p = some o) (n : p ≠ a) : H' p = some o := s _ _ h n
theorem lk_new2 (n : H p = none) (h : H a = some o) : upd H p u a = some o := lk_new h n
theorem lk_ne2 (n : a ≠ p) (h : H a = some o) : upd H p u a = some o := lk_ne h n
theorem But.get2 (s : But a H H') (n : p ≠ a) (h : H p = some o) : H' p = some o := s _ _ h n
theorem sqL_new2 (n : H p = none) (h : SqL K H a xs) : SqL K (upd H p o) a xs := sqL_new h n
theorem sqT_new2 (n : H p = none) (h : SqT K H a xs) : SqT K (upd H p o) a xs := sqT_new h n
theorem ne_new (n : H p = none) (h : H b = some o) : b ≠ p := ne_of_none h n
theorem ne_new' (n : H p = none) (h : H b = some o) : p ≠ b := (ne_of_none h n).symm
theorem Same.link {H1 : Hp} (k : Same H1 H') (s : Same H H1) : Same H H' := s.trans k
theorem Same.linkN {H1 : Hp} (n : H1 p = none) (s : Same H H1) : Same H (upd H1 p o) := s.trans (Same.new n)
theorem But.link {H1 : Hp} (k : But a H1 H') (s : But a H H1) : But a H H' := But.trans s k
theorem But.linkS {H1 : Hp} (k : Same H1 H') (s : But a H H1) : But a H H' := But.trans s (But.of k)
theorem But.linkN {H1 : Hp} (n : H1 p = none) (s : But a H H1) : But a H (upd H1 p o) := But.trans s (But.of (Same.new n))
theorem But.linkA {H1 : Hp} (s : But a H H1) : But a H (upd H1 a o) := fun b u e n => lk_ne (s b u e n) n
/-- the object at p, which was not there at first, is changed -/
theorem Same.linkU {H1 : Hp} (n : H p = none) (s : Same H H1) : Same H (upd H1 p o) := Same.upd_new s n
theorem But.linkU {H1 : Hp} (n : H p = none) (s : But a H H1) : But a H (upd H1 p o) := But.upd_new s n
theorem sqL_link {H1 : Hp} (k : Same H1 H') (s : SqL K H1 a xs) : SqL K H' a xs := sqL_same k s
theorem sqT_link {H1 : Hp} (k : Same H1 H') (s : SqT K H1 a xs) : SqT K H' a xs := by
  rcases s with (h | ⟨o, h⟩) | h
  · exact .inl (.inl (k _ _ h))
  · exact .inl (.inr ⟨o, k _ _ h⟩)
  · exact .inr h
end
/-! ### [k for k in .. if ..] -/
theorem filter_range_succ (p : Nat → Bool) (n : Nat) : (List.range (n + 1)).filter p = (List.range n).filter p ++ (if p n then [n] else []) := by
  rw [List.range_succ, List.filter_append]
  congr 1
  simp [List.filter]
  split <;> simp_all
theorem k_lcFil {J : It} {n j : Nat} {G : Hp → Prop} {Yd : Nat → Hp → V → Hp → Prop} {tt : TT} {σ : St} {H : Hp} {Q : VK} (w : Walk J n G Yd) (f : Nat → V) (p : Nat → Bool) (hn : n ≤ 10000) (hj : j < σ.length) (hG : ∀ H', Same H H' → G H')
    (hY : ∀ i H1 x H2, i < n → G H1 → Yd i H1 x H2 → H2 = H1 ∧ x = f i) (ht : ∀ i H1 (Qb : Bool → Hp → Prop), i < n → Same H H1 → (∀ H2, Same H1 H2 → Qb (p i) H2) → tt (σ.set j (some (f i))) H1 Qb)
    (q : ∀ l H', H l = none → Same H H' → H' l = some (.lst (((List.range n).filter p).map f)) → Q (.ref l) H') : fLc (gName j) tt (tVar j) [j] σ Q J H := by
  refine k_lc w fun l nl => ⟨fun i H' => Same H H' ∧ H' l = some (.lst (((List.range i).filter p).map f)), ⟨Same.new nl, upd_same⟩, fun i H' _ h => hG H' h.1, ?_, fun H' h => q l H' nl h.1 h.2⟩
  rintro i x H1 H2 hi ⟨s1, h1⟩ y
  obtain ⟨rfl, rfl⟩ := hY i H1 x H2 hi (hG _ s1) y
  have ew : ∀ v : Option V, ((wipe σ [j]).set j v) = σ.set j v := fun v => by
    show (σ.set j none).set j v = _
    rw [List.set_set]
  show (fun σ2 H2 => wipe σ2 [j] = wipe σ [j] ∧ tt σ2 H2 _) ((wipe σ [j]).set j (some (f i))) H2
  rw [ew]
  refine ⟨?_, ht i H2 _ hi s1 fun H3 s3 => ?_⟩
  · show (σ.set j (some (f i))).set j none = σ.set j none
    rw [List.set_set]
  · have h3 := s3 _ _ h1
    have hlen : (((List.range i).filter p).map f).length ≤ i := by
      rw [List.length_map]
      have := List.length_filter_le p (List.range i)
      rwa [List.length_range] at this
    show if p i = true then _ else _
    split
    · rename_i hp
      show tVar j (σ.set j (some (f i))) H3 _
      refine ⟨f i, by rw [List.getElem?_set_self hj], ?_⟩
      refine k_acc h3 (by omega) ⟨Same.upd_new (s1.trans s3) nl, ?_⟩
      rw [upd_same, filter_range_succ, if_pos hp, List.map_append]
      rfl
    · rename_i hp
      refine ⟨s1.trans s3, ?_⟩
      rw [filter_range_succ, if_neg hp, List.append_nil]
      exact h3
/-! ### not in -/
def rNotInT (K : PySem.W.Frag) : R2 := fun x y H Q => ∃ d ds, Dp K H x d ∧ Dp K H y (.tuple ds) ∧ SeqAt.shaped d = true ∧ SeqAt.shaped (.tuple ds) = true ∧ Q (.bl (!ds.any fun z => PyData.eqv z d)) H
theorem op_notInT {X : Cx} (hu : X.A.units + 65 < cLine) : OpR X (compareOp .NotIn) (rNotInT X.K) := by
  intro pins s σ H x y v u Q I rx ry h
  obtain ⟨d, ds, hd, he, sd, se, q⟩ := h
  obtain ⟨as, r1⟩ := Dp.reads I d x v hd rx
  obtain ⟨bs, r2⟩ := Dp.reads I (.tuple ds) y u he ry
  exact SeqAt.notIn_tuple_reads r2 r1 (SeqAt.canLay_of_shaped se) (SeqAt.canLay_of_shaped sd) (PyProof.Rows.room_in_shaped sd hu) ⟨.bl _, H, I, rfl, q⟩
def rNotInU (K : PySem.W.Frag) : R2 := fun x y H Q => rNotInT K x y H Q ∨ rNotInD K x y H Q
theorem op_notInU {X : Cx} (hu : X.A.units + 65 < cLine) : OpR X (compareOp .NotIn) (rNotInU X.K) := by
  intro pins s σ H x y v u Q I rx ry h
  rcases h with h | h
  · exact op_notInT hu pins s σ H _ _ v u Q I rx ry h
  · exact op_notInD hu pins s σ H _ _ v u Q I rx ry h
theorem op_notInUk {X : Cx} (K : PySem.W.Frag) (hu : X.A.units + 65 < cLine) (h : X.K = K := by rfl) : OpR X (compareOp .NotIn) (rNotInU K) := by subst h; exact op_notInU hu
theorem k_ninT {K : PySem.W.Frag} {H : Hp} {Q : VK} {x y : V} {d : PyData} {ds : List PyData} (h1 : Dp K H x d) (h2 : Dp K H y (.tuple ds)) (s1 : SeqAt.shaped d = true) (s2 : SeqAt.shaped (.tuple ds) = true) (q : Q (.bl (!ds.any fun z => PyData.eqv z d)) H) : fOp2 (rNotInU K) x Q y H :=
  .inl ⟨d, ds, h1, h2, s1, s2, q⟩
theorem k_ninL {K : PySem.W.Frag} {H : Hp} {Q : VK} {x y : V} {d : PyData} {ds : List PyData} (h1 : Dp K H x d) (h2 : Dp K H y (.list ds)) (s1 : SeqAt.shaped d = true) (s2 : SeqAt.shaped (.list ds) = true) (q : Q (.bl (!ds.any fun z => PyData.eqv z d)) H) : fOp2 (rNotInU K) x Q y H :=
  .inr ⟨d, ds, h1, h2, s1, s2, q⟩
/-! ### s.join(x) -/
def fM1 (r : V → List V → Hp → VK → Prop) (te : TE) (σ : St) (Q : VK) : VK := fun x H1 => (∃ a, x = .str a) ∧ te σ H1 fun y H2 => r x [y] H2 Q
def fM1b (r : V → List V → Hp → VK → Prop) (x : V) (Q : VK) : VK := fun y H2 => r x [y] H2 Q
theorem e_m1 {r : V → List V → Hp → VK → Prop} {to te : TE} {σ : St} {H : Hp} {Q : VK} : tM1 r to te σ H Q = to σ H (fM1 r te σ Q) := rfl
theorem e_m1a {r : V → List V → Hp → VK → Prop} {te : TE} {σ : St} {H : Hp} {Q : VK} {a : Str} : fM1 r te σ Q (.str a) H = te σ H (fM1b r (.str a) Q) := propext ⟨fun h => h.2, fun h => ⟨⟨a, rfl⟩, h⟩⟩
theorem e_m1b {r : V → List V → Hp → VK → Prop} {H : Hp} {Q : VK} {x y : V} : fM1b r x Q y H = r x [y] H Q := rfl
def rJoin (K : PySem.W.Frag) : V → List V → Hp → VK → Prop := fun x xs H Q => ∃ a p, ∃ ys : List Str, x = .str a ∧ xs = [.ref p] ∧ (SqL K H p (ys.map V.str) ∨ SqT K H p (ys.map V.str)) ∧ (ys.map (·.length)).sum + ys.length * a.length ≤ 16777216 ∧ Q (.str (Txt.join a ys)) H
theorem pe_joink {X : Cx} (K : PySem.W.Frag) {o e : Expr} {to te : TE} {apos pos : Pos} (ho : PE X o to) (he : PE X e te) (h : X.K = K := by rfl) (hbase : attributeBase o "join" X.env (eval o X.env) = eval o X.env := by rfl) (hline : (apos.endLine == pos.line) = true := by rfl)
    (hs : starEach [e] X.env = [(false, eval e X.env)] := by rfl) : PE X (.Call (.Attribute o "join" apos) [e] [] pos) (tM1 (rJoin K) to te) := by
  subst h
  exact pe_join ho he hs hbase hline
theorem k_join {K : PySem.W.Frag} {H : Hp} {Q : VK} {a : Str} {p : Addr} {ys : List Str} (h : SqL K H p (ys.map V.str) ∨ SqT K H p (ys.map V.str)) (hl : (ys.map (·.length)).sum + ys.length * a.length ≤ 16777216) (q : Q (.str (Txt.join a ys)) H) : rJoin K (.str a) [.ref p] H Q :=
  ⟨a, p, ys, rfl, rfl, h, hl, q⟩
end Y

set_option Elab.async false
set_option linter.all false
set_option maxRecDepth 100000
namespace Y
open PySem L2
/-- tuples are as they were -/
def SameT (H H' : Hp) : Prop := ∀ b xs, (H b = some (.tup xs) → H' b = some (.tup xs)) ∧ ∀ o, H b = some (.frz o (.tup xs)) → H' b = some (.frz o (.tup xs))
theorem SameT.refl (H : Hp) : SameT H H := fun _ _ => ⟨id, fun _ => id⟩
theorem SameT.trans {H H1 H2 : Hp} (a : SameT H H1) (b : SameT H1 H2) : SameT H H2 := fun c xs => ⟨fun h => (b c xs).1 ((a c xs).1 h), fun o h => (b c xs).2 o ((a c xs).2 o h)⟩
theorem SameT.new {H : Hp} {p : Addr} {o : HO} (h : H p = none) : SameT H (upd H p o) := fun c xs => ⟨fun e => by rw [upd_ne (ne_of_none e h)]; exact e, fun _ e => by rw [upd_ne (ne_of_none e h)]; exact e⟩
theorem SameT.lst {H : Hp} {p : Addr} {o : HO} {xs : List V} (h : H p = some (.lst xs)) : SameT H (upd H p o) := fun c ys =>
  ⟨fun e => by rw [upd_ne (fun z => by subst z; rw [h] at e; cases e)]; exact e, fun _ e => by rw [upd_ne (fun z => by subst z; rw [h] at e; cases e)]; exact e⟩
theorem SameT.ins {H : Hp} {p C dx : Addr} {o : HO} {fs : List (Str × V)} (h : H p = some (.ins C dx fs)) : SameT H (upd H p o) := fun c ys =>
  ⟨fun e => by rw [upd_ne (fun z => by subst z; rw [h] at e; cases e)]; exact e, fun _ e => by rw [upd_ne (fun z => by subst z; rw [h] at e; cases e)]; exact e⟩
theorem SameT.of {H H' : Hp} (e : Same H H') : SameT H H' := fun b xs => ⟨fun h => e b _ h, fun o h => e b _ h⟩
theorem SameT.but {H H' : Hp} {a : Addr} {xs : List V} (h : H a = some (.lst xs)) (k : ∀ b o, H b = some o → b ≠ a → H' b = some o) : SameT H H' := fun b ys =>
  ⟨fun e => k b _ e fun z => (by rw [z, h] at e; cases e), fun _ e => k b _ e fun z => (by rw [z, h] at e; cases e)⟩
theorem sqT_mono {K : PySem.W.Frag} {H H' : Hp} {a : Addr} {xs : List V} (e : SameT H H') (h : SqT K H a xs) : SqT K H' a xs := by
  rcases h with (h | ⟨o, h⟩) | h
  · exact .inl (.inl ((e _ _).1 h))
  · exact .inl (.inr ⟨o, (e _ _).2 _ h⟩)
  · exact .inr h
/-- steps: tuples of texts; a row: a tuple of steps -/
def Steps (K : PySem.W.Frag) (H : Hp) (xs : List V) (ws : List (List Str)) : Prop := Paired (fun (x : V) (w : List Str) => ∃ a, x = .ref a ∧ SqT K H a (w.map V.str)) xs ws
def Row (K : PySem.W.Frag) (H : Hp) (r : Addr) (ws : List (List Str)) : Prop := ∃ xs, SqT K H r xs ∧ Steps K H xs ws
theorem Steps.mono {K : PySem.W.Frag} {H H' : Hp} {xs : List V} {ws : List (List Str)} (e : SameT H H') (h : Steps K H xs ws) : Steps K H' xs ws := Paired.mapP h fun _ _ ⟨a, h1, h2⟩ => ⟨a, h1, sqT_mono e h2⟩
theorem Row.mono {K : PySem.W.Frag} {H H' : Hp} {r : Addr} {ws : List (List Str)} (e : SameT H H') : Row K H r ws → Row K H' r ws := fun ⟨xs, h1, h2⟩ => ⟨xs, sqT_mono e h1, h2.mono e⟩
theorem Steps.append {K : PySem.W.Frag} {H : Hp} : ∀ {xs ys : List V} {ws vs : List (List Str)}, Steps K H xs ws → Steps K H ys vs → Steps K H (xs ++ ys) (ws ++ vs)
  | _, _, _, _, .nil, h => h
  | _, _, _, _, .cons a t, h => .cons a (Steps.append t h)
def menu12 : List (List Str) := [["make", "all"], ["make", "standing"], ["drop"], ["start", "new"], ["start", "all"], ["start", "free"], ["label", "new"], ["label", "all"], ["label", "free"], ["tie", "new"], ["tie", "all"], ["tie", "free"]]
def steps12 : List (List Str) := [["make", "all"], ["make", "standing"], ["start", "new"], ["start", "all"], ["start", "free"], ["label", "new"], ["label", "all"], ["label", "free"], ["tie", "new"], ["tie", "all"], ["tie", "free"], ["drop"]]
theorem sqT_K2 {K : PySem.W.Frag} {H : Hp} {a : Addr} {x y : Str} {t u : Tok} {d : Option Addr} {n : Nat} {sl : Array (Option Value)} (h : K.lookup a = some ⟨.type "tuple", d, .seq #[.str x t, .str y u] n, sl⟩) : SqT K H a (([x, y] : List Str).map V.str) :=
  .inr ⟨_, _, n, h, rfl, rfl, (by decide : 2 ≤ sizeLine), .cons ⟨t, rfl⟩ (.cons ⟨u, rfl⟩ .nil)⟩
theorem sqT_K1 {K : PySem.W.Frag} {H : Hp} {a : Addr} {x : Str} {t : Tok} {d : Option Addr} {n : Nat} {sl : Array (Option Value)} (h : K.lookup a = some ⟨.type "tuple", d, .seq #[.str x t] n, sl⟩) : SqT K H a (([x] : List Str).map V.str) :=
  .inr ⟨_, _, n, h, rfl, rfl, (by decide : 1 ≤ sizeLine), .cons ⟨t, rfl⟩ .nil⟩
theorem steps_row {K : PySem.W.Frag} {H : Hp} {a : Addr} {xs : List Addr} {ws : List (List Str)} (h : ∃ (o : Obj), K.lookup a = some o ∧ o.cls = .type "tuple" ∧ ∃ n, o.data = .seq (xs.map Value.ref).toArray n) (hl : xs.length ≤ 1000)
    (hs : Steps K H (xs.map V.ref) ws) : Row K H a ws := by
  obtain ⟨o, h1, h2, n, h3⟩ := h
  refine ⟨_, .inr ⟨o, _, n, h1, h2, h3, ?_, ?_⟩, hs⟩
  · simp only [List.size_toArray, List.length_map]
    exact Nat.le_trans hl (by decide)
  · have : ∀ l : List Addr, Vals (l.map V.ref) (l.map Value.ref) := fun l => by
      induction l with
      | nil => exact .nil
      | cons a l ih => exact .cons rfl ih
    simpa using this xs
theorem Steps.at_ {K : PySem.W.Frag} {H : Hp} : ∀ {xs : List V} {ws : List (List Str)} {j : Nat}, Steps K H xs ws → j < ws.length → ∃ a w, xs[j]? = some (.ref a) ∧ ws[j]? = some w ∧ SqT K H a (w.map V.str)
  | _, _, _, .nil, h => absurd h (Nat.not_lt_zero _)
  | _, _, 0, .cons ⟨a, e, s⟩ _, _ => ⟨a, _, by rw [e]; rfl, rfl, s⟩
  | _, _, j + 1, .cons _ t, h => by
    obtain ⟨a, w, h1, h2, h3⟩ := Steps.at_ (j := j) t (Nat.lt_of_succ_lt_succ h)
    exact ⟨a, w, by simpa using h1, by simpa using h2, h3⟩
def stepD (w : List Str) : PyData := .tuple (w.map PyData.str)
theorem dpa_strs {K : PySem.W.Frag} {H : Hp} : ∀ {w : List Str}, DpAll K H (w.map V.str) (w.map PyData.str)
  | [] => .nil
  | _ :: _ => .cons (.str _) dpa_strs
theorem dp_step {K : PySem.W.Frag} {H : Hp} {a : Addr} {w : List Str} (h : SqT K H a (w.map V.str)) : Dp K H (.ref a) (stepD w) := .tup h dpa_strs
theorem Steps.dpa {K : PySem.W.Frag} {H : Hp} : ∀ {xs : List V} {ws : List (List Str)}, Steps K H xs ws → DpAll K H xs (ws.map stepD)
  | _, _, .nil => .nil
  | _, _, .cons ⟨a, e, s⟩ t => by
    subst e
    exact .cons (dp_step s) (Steps.dpa t)
theorem Row.dp {K : PySem.W.Frag} {H : Hp} {r : Addr} {ws : List (List Str)} : Row K H r ws → Dp K H (.ref r) (.tuple (ws.map stepD)) := fun ⟨_, h1, h2⟩ => .tup h1 h2.dpa
theorem step_shaped : ∀ w ∈ menu12, SeqAt.shaped (stepD w) = true ∧ (steps12.map stepD).any (fun z => PyData.eqv z (stepD w)) = true := by decide +kernel
theorem steps12_shaped : SeqAt.shaped (.tuple (steps12.map stepD)) = true := by decide +kernel

theorem Row.of_dp {K : PySem.W.Frag} {H : Hp} {r : Addr} {ws : List (List Str)} (h : Dp K H (.ref r) (.tuple (ws.map stepD))) : Row K H r ws := by
  obtain ⟨a, xs, e, h1, h2⟩ := Dp.tupS h
  cases e
  refine ⟨xs, h1, ?_⟩
  clear h h1
  induction ws generalizing xs with
  | nil =>
    cases h2
    exact .nil
  | cons w ws ih =>
    cases h2 with
    | cons hd tl =>
      refine .cons ?_ (ih _ tl)
      obtain ⟨b, ys, rfl, g1, g2⟩ := Dp.tupS hd
      refine ⟨b, rfl, ?_⟩
      have e : ys = w.map V.str := by
        clear g1 hd
        induction w generalizing ys with
        | nil =>
          cases g2
          rfl
        | cons z w ih2 =>
          cases g2 with
          | cons gh gt =>
            cases gh
            rw [ih2 _ gt]
            rfl
      rw [← e]
      exact g1
theorem Steps.cut {K : PySem.W.Frag} {H : Hp} {xs : List V} {ws : List (List Str)} {lo hi : Option Int} (h : Steps K H xs ws) : Steps K H (cutG xs lo hi) (cutG ws lo hi) := Paired.cut h
theorem Steps.take {K : PySem.W.Frag} {H : Hp} {xs : List V} {ws : List (List Str)} (n : Nat) (h : Steps K H xs ws) : Steps K H (xs.take n) (ws.take n) := Paired.take n h
theorem Steps.drop {K : PySem.W.Frag} {H : Hp} {xs : List V} {ws : List (List Str)} (n : Nat) (h : Steps K H xs ws) : Steps K H (xs.drop n) (ws.drop n) := Paired.drop n h
theorem Steps.len {K : PySem.W.Frag} {H : Hp} {xs : List V} {ws : List (List Str)} (h : Steps K H xs ws) : xs.length = ws.length := Paired.length h
theorem Steps.one {K : PySem.W.Frag} {H : Hp} {a : Addr} {w : List Str} (h : SqT K H a (w.map V.str)) : Steps K H [.ref a] [w] := .cons ⟨a, rfl, h⟩ .nil

def topS (i : Nat) : Stmt := PySem.Challenge.pw_yearturned_k10_script_texts.main.body.getD i (.Pass ⟨0, 0, 0, 0⟩)
abbrev s_is_integer : Stmt := (topS 5)
abbrev N_is_integer : List Str := ["value", "low", "high"]
theorem sc_is_integer : FnScope N_is_integer ["value", "low", "high"] (defScope s_is_integer) := ⟨rfl, rfl, rfl, by decide +kernel, rfl, by decide +kernel, by decide +kernel⟩
abbrev s_is_step : Stmt := (topS 9)
abbrev N_is_step : List Str := ["value", "word"]
theorem sc_is_step : FnScope N_is_step ["value"] (defScope s_is_step) := ⟨rfl, rfl, rfl, by decide +kernel, rfl, by decide +kernel, by decide +kernel⟩
abbrev s_Script___init__ : Stmt := (inClass (topS 10) 0)
abbrev N_Script___init__ : List Str := ["self", "steps", "index", "step"]
theorem sc_Script___init__ : FnScope N_Script___init__ ["self", "steps"] (defScope s_Script___init__) := ⟨rfl, rfl, rfl, by decide +kernel, rfl, by decide +kernel, by decide +kernel⟩
abbrev s_Script___len__ : Stmt := (inClass (topS 10) 1)
abbrev N_Script___len__ : List Str := ["self"]
theorem sc_Script___len__ : FnScope N_Script___len__ ["self"] (defScope s_Script___len__) := ⟨rfl, rfl, rfl, by decide +kernel, rfl, by decide +kernel, by decide +kernel⟩
abbrev s_Script___add__ : Stmt := (inClass (topS 10) 6)
abbrev N_Script___add__ : List Str := ["self", "other"]
theorem sc_Script___add__ : FnScope N_Script___add__ ["self", "other"] (defScope s_Script___add__) := ⟨rfl, rfl, rfl, by decide +kernel, rfl, by decide +kernel, by decide +kernel⟩
abbrev s_Script_steps : Stmt := (inClass (topS 10) 7)
abbrev N_Script_steps : List Str := ["self"]
theorem sc_Script_steps : FnScope N_Script_steps ["self"] (defScope s_Script_steps) := ⟨rfl, rfl, rfl, by decide +kernel, rfl, by decide +kernel, by decide +kernel⟩
abbrev s_Script_without : Stmt := (inClass (topS 10) 8)
abbrev N_Script_without : List Str := ["self", "index", "steps"]
theorem sc_Script_without : FnScope N_Script_without ["self", "index"] (defScope s_Script_without) := ⟨rfl, rfl, rfl, by decide +kernel, rfl, by decide +kernel, by decide +kernel⟩
abbrev s_Script__has : Stmt := (inClass (topS 10) 10)
abbrev N_Script__has : List Str := ["self", "index"]
theorem sc_Script__has : FnScope N_Script__has ["self", "index"] (defScope s_Script__has) := ⟨rfl, rfl, rfl, by decide +kernel, rfl, by decide +kernel, by decide +kernel⟩
abbrev s_script_text : Stmt := (topS 13)
abbrev N_script_text : List Str := ["script", "step"]
theorem sc_script_text : FnScope N_script_text ["script"] (defScope s_script_text) := ⟨rfl, rfl, rfl, by decide +kernel, rfl, by decide +kernel, by decide +kernel⟩
abbrev s_step_text : Stmt := (topS 14)
abbrev N_step_text : List Str := ["step"]
theorem sc_step_text : FnScope N_step_text ["step"] (defScope s_step_text) := ⟨rfl, rfl, rfl, by decide +kernel, rfl, by decide +kernel, by decide +kernel⟩
abbrev s__law_well : Stmt := (topS 16)
abbrev N__law_well : List Str := ["script", "k", "cell", "deep"]
theorem sc__law_well : FnScope N__law_well ["script", "k"] (defScope s__law_well) := ⟨rfl, rfl, rfl, by decide +kernel, rfl, by decide +kernel, by decide +kernel⟩
abbrev s__law_draw : Stmt := (topS 17)
abbrev N__law_draw : List Str := ["well", "many", "found", "turn", "mixed"]
theorem sc__law_draw : FnScope N__law_draw ["well", "many"] (defScope s__law_draw) := ⟨rfl, rfl, rfl, by decide +kernel, rfl, by decide +kernel, by decide +kernel⟩
abbrev s__law_menu : Stmt := (topS 18)
abbrev N__law_menu : List Str := ["found", "word"]
theorem sc__law_menu : FnScope N__law_menu [] (defScope s__law_menu) := ⟨rfl, rfl, rfl, by decide +kernel, rfl, by decide +kernel, by decide +kernel⟩
abbrev s__law_row : Stmt := (topS 19)
abbrev N__law_row : List Str := ["well", "most", "menu", "few", "found", "turn"]
theorem sc__law_row : FnScope N__law_row ["well", "most"] (defScope s__law_row) := ⟨rfl, rfl, rfl, by decide +kernel, rfl, by decide +kernel, by decide +kernel⟩
abbrev s__law_same : Stmt := (topS 20)
abbrev N__law_same : List Str := ["actual", "expected", "k"]
theorem sc__law_same : FnScope N__law_same ["actual", "expected"] (defScope s__law_same) := ⟨rfl, rfl, rfl, by decide +kernel, rfl, by decide +kernel, by decide +kernel⟩
abbrev s__law_script_text : Stmt := (topS 21)
abbrev N__law_script_text : List Str := ["row", "step"]
theorem sc__law_script_text : FnScope N__law_script_text ["row"] (defScope s__law_script_text) := ⟨rfl, rfl, rfl, by decide +kernel, rfl, by decide +kernel, by decide +kernel⟩
abbrev s__law_texted : Stmt := (topS 22)
abbrev N__law_texted : List Str := ["work", "row"]
theorem sc__law_texted : FnScope N__law_texted ["work", "row"] (defScope s__law_texted) := ⟨rfl, rfl, rfl, by decide +kernel, rfl, by decide +kernel, by decide +kernel⟩
abbrev s_law : Stmt := (topS 23)
abbrev N_law : List Str := ["script", "held", "k", "well", "row", "more", "work", "spot"]
theorem sc_law : FnScope N_law ["script"] (defScope s_law) := ⟨rfl, rfl, rfl, by decide +kernel, rfl, by decide +kernel, by decide +kernel⟩
/-- what the top has written -/
structure Txt (P : Program) (K : PySem.W.Frag) (mg : Str → Option Value) where
  a_STEPS : Addr
  dp_STEPS : ∀ H, Dp K H (.ref a_STEPS) (.tuple [(.tuple [(.str "make"), (.str "all")]), (.tuple [(.str "make"), (.str "standing")]), (.tuple [(.str "start"), (.str "new")]), (.tuple [(.str "start"), (.str "all")]), (.tuple [(.str "start"), (.str "free")]), (.tuple [(.str "label"), (.str "new")]), (.tuple [(.str "label"), (.str "all")]), (.tuple [(.str "label"), (.str "free")]), (.tuple [(.str "tie"), (.str "new")]), (.tuple [(.str "tie"), (.str "all")]), (.tuple [(.str "tie"), (.str "free")]), (.tuple [(.str "drop")])])
  a_Script : Addr
  m_Script : mg "Script" = some (.ref a_Script)
  cl_Script : Cls K a_Script
  na_Script__steps : NoAttr K a_Script "_steps"
  f_is_integer : Addr
  d_is_integer : FuncData
  F_is_integer : Fun K "is_integer" "is_integer" s_is_integer f_is_integer d_is_integer
  b_is_integer : Binds K d_is_integer ["value", "low", "high"] []
  m_is_integer : mg "is_integer" = some (.ref f_is_integer)
  f_is_step : Addr
  d_is_step : FuncData
  F_is_step : Fun K "is_step" "is_step" s_is_step f_is_step d_is_step
  b_is_step : Binds K d_is_step ["value"] []
  m_is_step : mg "is_step" = some (.ref f_is_step)
  f_Script___init__ : Addr
  d_Script___init__ : FuncData
  F_Script___init__ : Fun K "__init__" "Script.__init__" s_Script___init__ f_Script___init__ d_Script___init__
  b_Script___init__ : Binds K d_Script___init__ ["self", "steps"] []
  M_Script : Mk K a_Script f_Script___init__
  f_Script___len__ : Addr
  d_Script___len__ : FuncData
  F_Script___len__ : Fun K "__len__" "Script.__len__" s_Script___len__ f_Script___len__ d_Script___len__
  b_Script___len__ : Binds K d_Script___len__ ["self"] []
  me_Script___len__ : Meth K a_Script "__len__" f_Script___len__
  f_Script___add__ : Addr
  d_Script___add__ : FuncData
  F_Script___add__ : Fun K "__add__" "Script.__add__" s_Script___add__ f_Script___add__ d_Script___add__
  b_Script___add__ : Binds K d_Script___add__ ["self", "other"] []
  me_Script___add__ : Meth K a_Script "__add__" f_Script___add__
  sf_Script : PySem.W.selfFirst K a_Script = true
  f_Script_steps : Addr
  d_Script_steps : FuncData
  F_Script_steps : Fun K "steps" "Script.steps" s_Script_steps f_Script_steps d_Script_steps
  b_Script_steps : Binds K d_Script_steps ["self"] []
  me_Script_steps : Meth K a_Script "steps" f_Script_steps
  f_Script_without : Addr
  d_Script_without : FuncData
  F_Script_without : Fun K "without" "Script.without" s_Script_without f_Script_without d_Script_without
  b_Script_without : Binds K d_Script_without ["self", "index"] []
  me_Script_without : Meth K a_Script "without" f_Script_without
  f_Script__has : Addr
  d_Script__has : FuncData
  F_Script__has : Fun K "_has" "Script._has" s_Script__has f_Script__has d_Script__has
  b_Script__has : Binds K d_Script__has ["self", "index"] []
  me_Script__has : Meth K a_Script "_has" f_Script__has
  f_script_text : Addr
  d_script_text : FuncData
  F_script_text : Fun K "script_text" "script_text" s_script_text f_script_text d_script_text
  b_script_text : Binds K d_script_text ["script"] []
  m_script_text : mg "script_text" = some (.ref f_script_text)
  f_step_text : Addr
  d_step_text : FuncData
  F_step_text : Fun K "step_text" "step_text" s_step_text f_step_text d_step_text
  b_step_text : Binds K d_step_text ["step"] []
  m_step_text : mg "step_text" = some (.ref f_step_text)
  f__law_well : Addr
  d__law_well : FuncData
  F__law_well : Fun K "_law_well" "_law_well" s__law_well f__law_well d__law_well
  b__law_well : Binds K d__law_well ["script", "k"] []
  m__law_well : mg "_law_well" = some (.ref f__law_well)
  f__law_draw : Addr
  d__law_draw : FuncData
  F__law_draw : Fun K "_law_draw" "_law_draw" s__law_draw f__law_draw d__law_draw
  b__law_draw : Binds K d__law_draw ["well", "many"] []
  m__law_draw : mg "_law_draw" = some (.ref f__law_draw)
  f__law_menu : Addr
  d__law_menu : FuncData
  F__law_menu : Fun K "_law_menu" "_law_menu" s__law_menu f__law_menu d__law_menu
  b__law_menu : Binds K d__law_menu [] []
  m__law_menu : mg "_law_menu" = some (.ref f__law_menu)
  f__law_row : Addr
  d__law_row : FuncData
  F__law_row : Fun K "_law_row" "_law_row" s__law_row f__law_row d__law_row
  b__law_row : Binds K d__law_row ["well", "most"] []
  m__law_row : mg "_law_row" = some (.ref f__law_row)
  f__law_same : Addr
  d__law_same : FuncData
  F__law_same : Fun K "_law_same" "_law_same" s__law_same f__law_same d__law_same
  b__law_same : Binds K d__law_same ["actual", "expected"] []
  m__law_same : mg "_law_same" = some (.ref f__law_same)
  f__law_script_text : Addr
  d__law_script_text : FuncData
  F__law_script_text : Fun K "_law_script_text" "_law_script_text" s__law_script_text f__law_script_text d__law_script_text
  b__law_script_text : Binds K d__law_script_text ["row"] []
  m__law_script_text : mg "_law_script_text" = some (.ref f__law_script_text)
  f__law_texted : Addr
  d__law_texted : FuncData
  F__law_texted : Fun K "_law_texted" "_law_texted" s__law_texted f__law_texted d__law_texted
  b__law_texted : Binds K d__law_texted ["work", "row"] []
  m__law_texted : mg "_law_texted" = some (.ref f__law_texted)
  f_law : Addr
  d_law : FuncData
  F_law : Fun K "law" "law" s_law f_law d_law
  b_law : Binds K d_law ["script"] []
  m_law : mg "law" = some (.ref f_law)
  a_NoStep : Addr
  f_NoStep : Addr
  ec_NoStep : ExcC K a_NoStep
  er_NoStep : PySem.ErrX.ErrTxt P K mg "NoStep" "index" "there is no step at this index" a_NoStep f_NoStep
  m_MOST_STEPS : ∃ t, mg "MOST_STEPS" = some (.int 12 t)
  m_NO_STEPS : ∃ t, mg "NO_STEPS" = some (.str "nothing" t)
  m_STEPS : mg "STEPS" = some (.ref a_STEPS)
  m_all : mg "all" = none
  m_bool : mg "bool" = none
  m_enumerate : mg "enumerate" = none
  m_int : mg "int" = none
  m_isinstance : mg "isinstance" = none
  m_len : mg "len" = none
  m_list : mg "list" = none
  m_max : mg "max" = none
  m_range : mg "range" = none
  m_str : mg "str" = none
  m_tuple : mg "tuple" = none
  ty_Script : ∀ (H : Hp) (a dx : Addr) (fs : List (Str × V)), H a = some (.ins a_Script dx fs) → TyX K H (.ref a) (.ref a_Script)
end Y


set_option Elab.async false
set_option linter.all false
set_option maxRecDepth 100000
namespace Y
open PySem L2
local macro_rules | `(tactic| walk_at "ne") => `(tactic| first
  | with_reducible assumption
  | ((with_reducible apply Ne.symm); (focus with_reducible assumption))
  | ((with_reducible apply ne_new); (focus with_reducible assumption); (focus walk_at "hp"))
  | ((with_reducible apply ne_new'); (focus with_reducible assumption); (focus walk_at "hp")))
local macro_rules | `(tactic| walk_at "hp1") => `(tactic| first
  | ((with_reducible apply lk_new2); (focus with_reducible assumption))
  | ((with_reducible apply lk_ne2); (focus walk_at "ne"))
  | ((with_reducible apply Same.get); (focus with_reducible assumption))
  | ((with_reducible apply But.get2); (focus with_reducible assumption); (focus walk_at "ne")))
local macro_rules | `(tactic| walk_at "hp") => `(tactic| first
  | with_reducible assumption
  | with_reducible exact upd_same
  | ((walk_at "hp1"); (walk_at "hp")))
local macro_rules | `(tactic| walk_at "sm1") => `(tactic| first
  | ((with_reducible apply Same.linkN); (focus with_reducible assumption))
  | ((with_reducible apply Same.linkU); (focus with_reducible assumption))
  | ((with_reducible apply Same.link); (focus with_reducible assumption)))
local macro_rules | `(tactic| walk_at "sm") => `(tactic| first
  | with_reducible assumption
  | with_reducible exact Same.refl _
  | ((walk_at "sm1"); (walk_at "sm")))
local macro_rules | `(tactic| walk_at "bt1") => `(tactic| first
  | ((with_reducible apply But.linkN); (focus with_reducible assumption))
  | ((with_reducible apply But.linkU); (focus with_reducible assumption))
  | (with_reducible apply But.linkA)
  | ((with_reducible apply But.link); (focus with_reducible assumption))
  | ((with_reducible apply But.linkS); (focus with_reducible assumption)))
local macro_rules | `(tactic| walk_at "bt") => `(tactic| first
  | with_reducible assumption
  | with_reducible exact But.refl _ _
  | ((walk_at "bt1"); (walk_at "bt")))
local macro_rules | `(tactic| walk_at "rs") => `(tactic| simp only [e_C, e_var0, e_varS, e_op, e_op1, e_un, e_fld, e_tup, e_lst, e_cons, e_cons1, e_cons2, e_nil, e_call, e_call1, e_CB, e_meth, e_make, e_B, e_test, e_B1, e_if, e_if1, e_ifS, e_ifS1, e_and, e_andc, e_or, e_orc, e_not, e_not1, e_andV, e_andVc, e_orV, e_orVc, e_notV, e_notV1, e_seq, e_next, e_break, e_cont, e_drop, e_drop1, e_ret, e_retN, e_asg, e_name, e_part, e_part1, e_noPart, e_sl, e_sl1, e_sl2, e_sl3, o_add_int, o_I0, o_un, c_int, c_intB, c_abs, c_max, c_min, k_isN, k_notN, k_isB, k_notB, e_sub, e_sub1, cx_K, cx_noxK, e_for, e_rng1, e_rng2, e_seqI, e_enumT, e_enum, e_gname, e_lc, e_lcT, e_yes, e_bm, e_par, e_par1, e_par3, e_par31, e_chain, e_chain1, e_chain2, e_chain3, e_sfld, e_sfld1, List.set, ite_true, ite_false, eq_self, Bool.false_eq_true, decide_eq_true_eq, L2.start, List.map, List.length_cons, List.length_nil, List.replicate, Nat.add_one_sub_one, Nat.sub_self, List.nil_append, List.cons_append, Int.reduceToNat, Int.reducePow, Int.reduceMul, Int.reduceAdd, Int.reduceSub, Int.reduceNeg, Int.reduceLT, Int.reduceLE, Int.reduceEq, Bool.not_false, Bool.not_true, L2.wipe, e_never, e_m1, e_m1a, e_m1b, e_asgT, e_gcons, e_gnil, e_callD, e_opS, e_raise, e_mkErr, e_fldErr, decide_true, decide_false, not_true_eq_false, not_false_eq_true, reduceCtorEq])
local macro_rules | `(tactic| walk_at "sd") => `(tactic| first
  | assumption
  | decide
  | omega
  | (dsimp only; omega)
  | exact wide_div (b := 450) (by omega) (by omega) (by decide) (by decide)
  | exact mulX (a := 450) (b := 450) (by omega) (by omega) (by decide) (by decide) (by decide)
  | exact powW (b := 450) (by omega) (by omega) (by decide) (by decide))
local macro_rules | `(tactic| walk_at "sl") => `(tactic| first | omega | (simp only [List.length_cons, List.length_nil, List.length_append]; omega))
local macro_rules | `(tactic| walk_at "sqL1") => `(tactic| first
  | ((with_reducible apply sqL_new2); (focus with_reducible assumption))
  | ((with_reducible apply sqL_link); (focus with_reducible assumption)))
local macro_rules | `(tactic| walk_at "sqL") => `(tactic| first
  | with_reducible assumption
  | ((with_reducible apply SqL.of); focus walk_at "hp")
  | ((walk_at "sqL1"); (walk_at "sqL")))
local macro_rules | `(tactic| walk_at "sqT1") => `(tactic| first
  | ((with_reducible apply sqT_new2); (focus with_reducible assumption))
  | ((with_reducible apply sqT_link); (focus with_reducible assumption)))
local macro_rules | `(tactic| walk_at "sqT") => `(tactic| first
  | with_reducible assumption
  | ((with_reducible apply SqT.of); focus walk_at "hp")
  | ((walk_at "sqT1"); (walk_at "sqT")))
local macro_rules | `(tactic| walk_at "kt") => `(tactic| first
  | with_reducible exact kt_self
  | with_reducible exact kt_int_bool
  | with_reducible exact kt_int_str
  | with_reducible exact kt_int_list
  | with_reducible exact kt_int_tuple
  | with_reducible exact kt_bool_int
  | with_reducible exact kt_bool_str
  | with_reducible exact kt_bool_list
  | with_reducible exact kt_bool_tuple
  | with_reducible exact kt_str_int
  | with_reducible exact kt_str_bool
  | with_reducible exact kt_str_list
  | with_reducible exact kt_str_tuple
  | with_reducible exact kt_non_int
  | with_reducible exact kt_non_bool
  | with_reducible exact kt_non_str
  | with_reducible exact kt_non_list
  | with_reducible exact kt_non_tuple
  | with_reducible exact kt_tuple_int
  | with_reducible exact kt_tuple_bool
  | with_reducible exact kt_tuple_str
  | with_reducible exact kt_tuple_list
  | with_reducible exact kt_list_int
  | with_reducible exact kt_list_bool
  | with_reducible exact kt_list_str
  | with_reducible exact kt_list_tuple
  | with_reducible exact kt_dict_int
  | with_reducible exact kt_dict_bool
  | with_reducible exact kt_dict_str
  | with_reducible exact kt_dict_list
  | with_reducible exact kt_dict_tuple)
local macro_rules | `(tactic| walk_at "tyx") => `(tactic| first
  | with_reducible exact .base (.int _)
  | with_reducible exact .base (.str _)
  | with_reducible exact .base (.bl _)
  | with_reducible exact .base .non
  | ((with_reducible apply tyx_tup); focus walk_at "sqT")
  | ((with_reducible apply tyx_lst); focus walk_at "sqL")
  | ((with_reducible apply TyX.base); (focus ((with_reducible apply TyOf.dK); focus walk_at "hp"))))
local macro_rules | `(tactic| walk_at "isi") => `(tactic| first
  | ((with_reducible apply k_isi); (focus (with_reducible exact (ClsV.ty _))); (focus (walk_at "tyx")); (focus (walk_at "kt")))
  | ((with_reducible apply k_isiT); (focus (walk_at "hp")); (focus (with_reducible exact (.cons (.ty _) (.cons (.ty _) .nil)))); (focus (walk_at "tyx")); (focus (first | with_reducible exact ka_tuple | with_reducible exact ka_list | ((with_reducible apply ka_no); (focus walk_at "kt"); (focus walk_at "kt"))))))
local macro_rules | `(tactic| walk_at "lk") => `(tactic| rfl)
local macro_rules | `(tactic| walk_at "rd1") => `(tactic| first
  | walk_at "rs"
  | ((with_reducible apply k_ixL); (focus (walk_at "sqL")); (focus rfl))
  | ((with_reducible apply k_ixT); (focus (walk_at "sqT")); (focus rfl))
  | ((with_reducible apply k_fld); (focus (walk_at "hp")); (focus (assumption)); (focus (assumption)); (focus (walk_at "lk")))
  | ((with_reducible apply k_sfld); (focus (walk_at "hp")); (focus (assumption)); (focus (assumption)); (focus (walk_at "sl")))
  | ((with_reducible apply k_meth); (focus (walk_at "hp")); (focus (walk_at "lk")))
  | ((with_reducible apply k_I); (focus (walk_at "sd")))
  | ((with_reducible apply k_unp); (focus (walk_at "sqT")); (focus rfl))
  | ((with_reducible apply k_mul); (focus (walk_at "sd")))
  | ((with_reducible apply k_setL); (focus (walk_at "hp")); (focus rfl))
  | ((with_reducible apply k_bmL); (focus (walk_at "hp")))
  | ((with_reducible apply k_append); (focus (walk_at "hp")); (focus (walk_at "sd")))
  | ((with_reducible apply k_extend); (focus (walk_at "hp")); (focus (walk_at "hp")); (focus (walk_at "sl")))
  | ((with_reducible apply k_tup); (focus (walk_at "sl")); intro _ _)
  | ((with_reducible apply k_lst); (focus (walk_at "sl")); intro _ _)
  | ((with_reducible apply k_lenS); (focus ((with_reducible apply Or.inl); walk_at "sqL")))
  | ((with_reducible apply k_lenS); (focus ((with_reducible apply Or.inr); walk_at "sqT")))
  | ((with_reducible apply k_seqL); (focus (walk_at "sqL")))
  | ((with_reducible apply k_seqT); (focus (walk_at "sqT")))
  | ((with_reducible apply k_enumT); (focus (walk_at "sqT")))
  | walk_at "isi"
  | ((with_reducible apply k_tupOfL); (focus (walk_at "sqL")); intro _ _)
  | ((with_reducible apply k_tupOfT); (focus (walk_at "sqT")))
  | ((with_reducible apply k_listOf); (focus ((with_reducible apply Or.inl); walk_at "sqL")); intro _ _)
  | ((with_reducible apply k_listOf); (focus ((with_reducible apply Or.inr); walk_at "sqT")); intro _ _)
  | (with_reducible apply k_eq_int)
  | (with_reducible apply k_ne_int)
  | (with_reducible apply k_eq_str)
  | (with_reducible apply k_ne_str)
  | (with_reducible apply k_eq_bl)
  | (with_reducible apply k_ne_bl))
local macro_rules | `(tactic| walk_at "rd") => `(tactic| repeat walk_at "rd1")

/-- a well at a: what is left of the cell, the stirring, the turns (at most n) -/
def WellAt (H : Hp) (a : Addr) (n : Nat) : Prop := ∃ x y z : Int, H a = some (.lst [.int x, .int y, .int z]) ∧ 0 ≤ y ∧ y < 2 ^ 200 ∧ 0 ≤ z ∧ z ≤ n
def spDraw : Sp := fun vs H Q _ => ∃ (a : Addr) (many : Int) (n : Nat), vs = [.ref a, .int many] ∧ WellAt H a n ∧ n ≤ 1000000 ∧ 0 < many ∧ many < 2 ^ 250 ∧
  ∀ (k : Int) (H' : Hp), 0 ≤ k → k < many → WellAt H' a (n + 1) → (∀ b o, H b = some o → b ≠ a → H' b = some o) → Q (.int k) H'
section
variable {P : Program} {w : World} {K : PySem.W.Frag} {mg : Str → Option Value} {base : Heap}
theorem ok__law_draw (T : Txt P K mg) : FnOk P w K mg base CX0 1 T.f__law_draw T.d__law_draw ["well", "many"] spDraw := by
  refine T.F__law_draw.ok sc__law_draw (fun vs H Q E h => ?_) (fun cdv A outer s H vs Q E hr h => ?_)
  · obtain ⟨a, m, n, rfl, _⟩ := h
    rfl
  · obtain ⟨a, many, n, rfl, ⟨x, y, z, ha, hy0, hy1, hz0, hz1⟩, hn, hm0, hm1, k⟩ := h
    refine ⟨_, (pss_cons (ps_if (pt_cmpR op_gt (pe_ix (ix_seqk K) (pv 0) pe_int (fun _ _ => rfl)) pe_int (nomark _)) (pss_cons (ps_set (i := 2) sc__law_draw.nd rfl (Or.inl rfl) (pe_op op_mod (pe_callTy call_int1 (by rfl) T.m_int b_int (pa_cons (pe_ix (ix_seqk K) (pv 0) pe_int (fun _ _ => rfl)) pa_nil)) (pv 1)))
  (pss_cons (ps_asg (pe_op op_fdivW (pe_ix (ix_seqk K) (pv 0) pe_int (fun _ _ => rfl)) (pv 1)) (pg_sub (pv 0) pe_int set_list))
  (pss_one (ps_ret (pv 2))))) pss_nil)
  (pss_cons (ps_set (i := 3) sc__law_draw.nd rfl (Or.inl rfl) (pe_op (op_addUk K) (pe_ix (ix_seqk K) (pv 0) pe_int (fun _ _ => rfl)) pe_int))
  (pss_cons (ps_asg (pv 3) (pg_sub (pv 0) pe_int set_list))
  (pss_cons (ps_set (i := 4) sc__law_draw.nd rfl (Or.inl rfl) (pe_op op_mod (pe_callTy call_int1 (by rfl) T.m_int b_int (pa_cons (pe_op (op_addUk K) (pe_op op_powW (pe_op (op_addUk K) (pe_ix (ix_seqk K) (pv 0) pe_int (fun _ _ => rfl)) (pe_op op_mulU pe_int (pv 3))) pe_int) (pe_op op_mulU pe_int (pv 3))) pa_nil)) (pe_op (op_addUk K) (pe_op op_powW pe_int pe_int) pe_int)))
  (pss_cons (ps_set (i := 4) sc__law_draw.nd rfl (Or.inl rfl) (pe_op op_mod (pe_callTy call_int1 (by rfl) T.m_int b_int (pa_cons (pe_op op_powW (pe_op (op_addUk K) (pv 4) (pe_op op_mulU pe_int (pv 3))) pe_int) pa_nil)) (pe_op (op_addUk K) (pe_op op_powW pe_int pe_int) pe_int)))
  (pss_one (ps_ret (pe_op op_mod (pe_callTy call_int1 (by rfl) T.m_int b_int (pa_cons (pe_op op_fdivW (pv 4) (pe_op op_powW pe_int pe_int)) pa_nil)) (pv 1))))))))), ?_⟩
    walk_at "rd"
    refine ite2 (fun hx => ?_) (fun hx => ?_)
    · walk_at "rd"
      exact k _ _ (Int.emod_nonneg _ (by omega)) (Int.emod_lt_of_pos _ hm0) ⟨_, _, _, upd_same, hy0, hy1, hz0, by omega⟩ fun b o e hb => by rw [upd_ne hb]; exact e
    · walk_at "rd"
      refine k _ _ (Int.emod_nonneg _ (by omega)) (Int.emod_lt_of_pos _ hm0) ⟨_, _, _, upd_same, hy0, hy1, by omega, by omega⟩ fun b o e hb => by rw [upd_ne hb]; exact e
end
end Y


set_option Elab.async false
set_option linter.all false
set_option maxRecDepth 100000
namespace Y
open PySem L2
local macro_rules | `(tactic| walk_at "ne") => `(tactic| first
  | with_reducible assumption
  | ((with_reducible apply Ne.symm); (focus with_reducible assumption))
  | ((with_reducible apply ne_new); (focus with_reducible assumption); (focus walk_at "hp"))
  | ((with_reducible apply ne_new'); (focus with_reducible assumption); (focus walk_at "hp")))
local macro_rules | `(tactic| walk_at "hp1") => `(tactic| first
  | ((with_reducible apply lk_new2); (focus with_reducible assumption))
  | ((with_reducible apply lk_ne2); (focus walk_at "ne"))
  | ((with_reducible apply Same.get); (focus with_reducible assumption))
  | ((with_reducible apply But.get2); (focus with_reducible assumption); (focus walk_at "ne")))
local macro_rules | `(tactic| walk_at "hp") => `(tactic| first
  | with_reducible assumption
  | with_reducible exact upd_same
  | ((walk_at "hp1"); (walk_at "hp")))
local macro_rules | `(tactic| walk_at "sm1") => `(tactic| first
  | ((with_reducible apply Same.linkN); (focus with_reducible assumption))
  | ((with_reducible apply Same.linkU); (focus with_reducible assumption))
  | ((with_reducible apply Same.link); (focus with_reducible assumption)))
local macro_rules | `(tactic| walk_at "sm") => `(tactic| first
  | with_reducible assumption
  | with_reducible exact Same.refl _
  | ((walk_at "sm1"); (walk_at "sm")))
local macro_rules | `(tactic| walk_at "bt1") => `(tactic| first
  | ((with_reducible apply But.linkN); (focus with_reducible assumption))
  | ((with_reducible apply But.linkU); (focus with_reducible assumption))
  | (with_reducible apply But.linkA)
  | ((with_reducible apply But.link); (focus with_reducible assumption))
  | ((with_reducible apply But.linkS); (focus with_reducible assumption)))
local macro_rules | `(tactic| walk_at "bt") => `(tactic| first
  | with_reducible assumption
  | with_reducible exact But.refl _ _
  | ((walk_at "bt1"); (walk_at "bt")))
local macro_rules | `(tactic| walk_at "rs") => `(tactic| simp only [e_C, e_var0, e_varS, e_op, e_op1, e_un, e_fld, e_tup, e_lst, e_cons, e_cons1, e_cons2, e_nil, e_call, e_call1, e_CB, e_meth, e_make, e_B, e_test, e_B1, e_if, e_if1, e_ifS, e_ifS1, e_and, e_andc, e_or, e_orc, e_not, e_not1, e_andV, e_andVc, e_orV, e_orVc, e_notV, e_notV1, e_seq, e_next, e_break, e_cont, e_drop, e_drop1, e_ret, e_retN, e_asg, e_name, e_part, e_part1, e_noPart, e_sl, e_sl1, e_sl2, e_sl3, o_add_int, o_I0, o_un, c_int, c_intB, c_abs, c_max, c_min, k_isN, k_notN, k_isB, k_notB, e_sub, e_sub1, cx_K, cx_noxK, e_for, e_rng1, e_rng2, e_seqI, e_enumT, e_enum, e_gname, e_lc, e_lcT, e_yes, e_bm, e_par, e_par1, e_par3, e_par31, e_chain, e_chain1, e_chain2, e_chain3, e_sfld, e_sfld1, List.set, ite_true, ite_false, eq_self, Bool.false_eq_true, decide_eq_true_eq, L2.start, List.map, List.length_cons, List.length_nil, List.replicate, Nat.add_one_sub_one, Nat.sub_self, List.nil_append, List.cons_append, Int.reduceToNat, Int.reducePow, Int.reduceMul, Int.reduceAdd, Int.reduceSub, Int.reduceNeg, Int.reduceLT, Int.reduceLE, Int.reduceEq, Bool.not_false, Bool.not_true, L2.wipe, e_never, e_m1, e_m1a, e_m1b, e_asgT, e_gcons, e_gnil, e_callD, e_opS, e_raise, e_mkErr, e_fldErr, decide_true, decide_false, not_true_eq_false, not_false_eq_true, reduceCtorEq])
local macro_rules | `(tactic| walk_at "sd") => `(tactic| first
  | assumption
  | decide
  | omega
  | (dsimp only; omega)
  | exact wide_div (b := 450) (by omega) (by omega) (by decide) (by decide)
  | exact mulX (a := 450) (b := 450) (by omega) (by omega) (by decide) (by decide) (by decide)
  | exact powW (b := 450) (by omega) (by omega) (by decide) (by decide))
local macro_rules | `(tactic| walk_at "sl") => `(tactic| first | omega | (simp only [List.length_cons, List.length_nil, List.length_append]; omega))
local macro_rules | `(tactic| walk_at "sqL1") => `(tactic| first
  | ((with_reducible apply sqL_new2); (focus with_reducible assumption))
  | ((with_reducible apply sqL_link); (focus with_reducible assumption)))
local macro_rules | `(tactic| walk_at "sqL") => `(tactic| first
  | with_reducible assumption
  | ((with_reducible apply SqL.of); focus walk_at "hp")
  | ((walk_at "sqL1"); (walk_at "sqL")))
local macro_rules | `(tactic| walk_at "sqT1") => `(tactic| first
  | ((with_reducible apply sqT_new2); (focus with_reducible assumption))
  | ((with_reducible apply sqT_link); (focus with_reducible assumption)))
local macro_rules | `(tactic| walk_at "sqT") => `(tactic| first
  | with_reducible assumption
  | ((with_reducible apply SqT.of); focus walk_at "hp")
  | ((walk_at "sqT1"); (walk_at "sqT")))
local macro_rules | `(tactic| walk_at "kt") => `(tactic| first
  | with_reducible exact kt_self
  | with_reducible exact kt_int_bool
  | with_reducible exact kt_int_str
  | with_reducible exact kt_int_list
  | with_reducible exact kt_int_tuple
  | with_reducible exact kt_bool_int
  | with_reducible exact kt_bool_str
  | with_reducible exact kt_bool_list
  | with_reducible exact kt_bool_tuple
  | with_reducible exact kt_str_int
  | with_reducible exact kt_str_bool
  | with_reducible exact kt_str_list
  | with_reducible exact kt_str_tuple
  | with_reducible exact kt_non_int
  | with_reducible exact kt_non_bool
  | with_reducible exact kt_non_str
  | with_reducible exact kt_non_list
  | with_reducible exact kt_non_tuple
  | with_reducible exact kt_tuple_int
  | with_reducible exact kt_tuple_bool
  | with_reducible exact kt_tuple_str
  | with_reducible exact kt_tuple_list
  | with_reducible exact kt_list_int
  | with_reducible exact kt_list_bool
  | with_reducible exact kt_list_str
  | with_reducible exact kt_list_tuple
  | with_reducible exact kt_dict_int
  | with_reducible exact kt_dict_bool
  | with_reducible exact kt_dict_str
  | with_reducible exact kt_dict_list
  | with_reducible exact kt_dict_tuple)
local macro_rules | `(tactic| walk_at "tyx") => `(tactic| first
  | with_reducible exact .base (.int _)
  | with_reducible exact .base (.str _)
  | with_reducible exact .base (.bl _)
  | with_reducible exact .base .non
  | ((with_reducible apply tyx_tup); focus walk_at "sqT")
  | ((with_reducible apply tyx_lst); focus walk_at "sqL")
  | ((with_reducible apply TyX.base); (focus ((with_reducible apply TyOf.dK); focus walk_at "hp"))))
local macro_rules | `(tactic| walk_at "isi") => `(tactic| first
  | ((with_reducible apply k_isi); (focus (with_reducible exact (ClsV.ty _))); (focus (walk_at "tyx")); (focus (walk_at "kt")))
  | ((with_reducible apply k_isiT); (focus (walk_at "hp")); (focus (with_reducible exact (.cons (.ty _) (.cons (.ty _) .nil)))); (focus (walk_at "tyx")); (focus (first | with_reducible exact ka_tuple | with_reducible exact ka_list | ((with_reducible apply ka_no); (focus walk_at "kt"); (focus walk_at "kt"))))))
local macro_rules | `(tactic| walk_at "lk") => `(tactic| rfl)
local macro_rules | `(tactic| walk_at "rd1") => `(tactic| first
  | walk_at "rs"
  | ((with_reducible apply k_ixL); (focus (walk_at "sqL")); (focus rfl))
  | ((with_reducible apply k_ixT); (focus (walk_at "sqT")); (focus rfl))
  | ((with_reducible apply k_fld); (focus (walk_at "hp")); (focus (assumption)); (focus (assumption)); (focus (walk_at "lk")))
  | ((with_reducible apply k_sfld); (focus (walk_at "hp")); (focus (assumption)); (focus (assumption)); (focus (walk_at "sl")))
  | ((with_reducible apply k_meth); (focus (walk_at "hp")); (focus (walk_at "lk")))
  | ((with_reducible apply k_I); (focus (walk_at "sd")))
  | ((with_reducible apply k_unp); (focus (walk_at "sqT")); (focus rfl))
  | ((with_reducible apply k_mul); (focus (walk_at "sd")))
  | ((with_reducible apply k_setL); (focus (walk_at "hp")); (focus rfl))
  | ((with_reducible apply k_bmL); (focus (walk_at "hp")))
  | ((with_reducible apply k_append); (focus (walk_at "hp")); (focus (walk_at "sd")))
  | ((with_reducible apply k_extend); (focus (walk_at "hp")); (focus (walk_at "hp")); (focus (walk_at "sl")))
  | ((with_reducible apply k_tup); (focus (walk_at "sl")); intro _ _)
  | ((with_reducible apply k_lst); (focus (walk_at "sl")); intro _ _)
  | ((with_reducible apply k_lenS); (focus ((with_reducible apply Or.inl); walk_at "sqL")))
  | ((with_reducible apply k_lenS); (focus ((with_reducible apply Or.inr); walk_at "sqT")))
  | ((with_reducible apply k_seqL); (focus (walk_at "sqL")))
  | ((with_reducible apply k_seqT); (focus (walk_at "sqT")))
  | ((with_reducible apply k_enumT); (focus (walk_at "sqT")))
  | walk_at "isi"
  | ((with_reducible apply k_tupOfL); (focus (walk_at "sqL")); intro _ _)
  | ((with_reducible apply k_tupOfT); (focus (walk_at "sqT")))
  | ((with_reducible apply k_listOf); (focus ((with_reducible apply Or.inl); walk_at "sqL")); intro _ _)
  | ((with_reducible apply k_listOf); (focus ((with_reducible apply Or.inr); walk_at "sqT")); intro _ _)
  | (with_reducible apply k_eq_int)
  | (with_reducible apply k_ne_int)
  | (with_reducible apply k_eq_str)
  | (with_reducible apply k_ne_str)
  | (with_reducible apply k_eq_bl)
  | (with_reducible apply k_ne_bl))
local macro_rules | `(tactic| walk_at "rd") => `(tactic| repeat walk_at "rd1")

theorem WellAt.sameT {H H' : Hp} {a : Addr} {n : Nat} (h : WellAt H a n) (k : ∀ b o, H b = some o → b ≠ a → H' b = some o) : SameT H H' := by
  obtain ⟨x, y, z, e, _⟩ := h
  exact SameT.but e k
theorem WellAt.same {H H' : Hp} {a : Addr} {n : Nat} (h : WellAt H a n) (k : Same H H') : WellAt H' a n := by
  obtain ⟨x, y, z, e, r⟩ := h
  exact ⟨x, y, z, k _ _ e, r⟩
theorem WellAt.ne {H : Hp} {a p : Addr} {n : Nat} (h : WellAt H a n) (k : H p = none) : p ≠ a := by
  obtain ⟨x, y, z, e, r⟩ := h
  exact (ne_of_none e k).symm
theorem WellAt.new {H : Hp} {a p : Addr} {n : Nat} {o : HO} (h : WellAt H a n) (k : H p = none) : WellAt (upd H p o) a n := by
  obtain ⟨x, y, z, e, r⟩ := h
  exact ⟨x, y, z, lk_new e k, r⟩
theorem WellAt.lst {H : Hp} {a p : Addr} {n : Nat} {o : HO} (h : WellAt H a n) (k : a ≠ p) : WellAt (upd H p o) a n := by
  obtain ⟨x, y, z, e, r⟩ := h
  exact ⟨x, y, z, lk_ne e k, r⟩
theorem WellAt.le {H : Hp} {a : Addr} {n m : Nat} (h : WellAt H a n) (k : n ≤ m) : WellAt H a m := by
  obtain ⟨x, y, z, e, r1, r2, r3, r4⟩ := h
  exact ⟨x, y, z, e, r1, r2, r3, by omega⟩
theorem menu_len : ∀ w ∈ menu12, w.length ≤ 2 := by decide
def spMenu (K : PySem.W.Frag) : Sp := fun vs H Q _ => vs = [] ∧ ∀ (p : Addr) (xs : List V) (H' : Hp), H p = none → Same H H' → H' p = some (.lst xs) → Steps K H' xs menu12 → Q (.ref p) H'
def spWell (K : PySem.W.Frag) : Sp := fun vs H Q _ => ∃ (a : Addr) (ns : List Int) (k : Nat), vs = [.ref a, .int k] ∧ SqL K H a (ns.map V.int) ∧ (∀ z ∈ ns, Builtin.Int.intBits z ≤ 1048576) ∧ ns.length ≤ 63 ∧ k < 1000 ∧ ∀ (p : Addr) (H' : Hp), H p = none → Same H H' → WellAt H' p 0 → Q (.ref p) H'
set_option maxHeartbeats 2000000
section
variable {P : Program} {w : World} {K : PySem.W.Frag} {mg : Str → Option Value} {base : Heap}
theorem ok__law_menu (T : Txt P K mg) : FnOk P w K mg base CX0 1 T.f__law_menu T.d__law_menu [] (spMenu K) := by
  refine T.F__law_menu.ok sc__law_menu (fun vs H Q E h => ?_) (fun cdv A outer s H vs Q E hr h => ?_)
  · obtain ⟨rfl, _⟩ := h
    rfl
  · obtain ⟨rfl, k⟩ := h
    refine ⟨_, (pss_cons (ps_set (i := 0) sc__law_menu.nd rfl (Or.inl rfl) (pe_lst (pa_cons (pe_tup (pa_cons pe_str (pa_cons pe_str pa_nil))) (pa_cons (pe_tup (pa_cons pe_str (pa_cons pe_str pa_nil))) (pa_cons (pe_tup (pa_cons pe_str pa_nil)) pa_nil)))))
  (pss_cons (ps_for PassesOwn.never rfl (pi_seqk K (pe_lst (pa_cons pe_str (pa_cons pe_str (pa_cons pe_str pa_nil))))) (pg_name (i := 1) sc__law_menu.nd rfl (Or.inl rfl))
  (pss_one (ps_expr (pe_bm PySem.F.plainAttrs_list PySem.F.slot_list_extend PySem.F.type_list_extend mt_extend (pv 0) (pa_cons (pe_lst (pa_cons (pe_tup (pa_cons (pv 1) (pa_cons pe_str pa_nil))) (pa_cons (pe_tup (pa_cons (pv 1) (pa_cons pe_str pa_nil))) (pa_cons (pe_tup (pa_cons (pv 1) (pa_cons pe_str pa_nil))) pa_nil)))) pa_nil)))))
  (pss_one (ps_ret (pv 0))))), ?_⟩
    walk_at "rd"
    rename_i p1 n1 p2 n2 p3 n3 l nl q nq
    have s0 : Same H (upd (upd (upd H p1 (.tup [.str "make", .str "all"])) p2 (.tup [.str "make", .str "standing"])) p3 (.tup [.str "drop"])) := fun b o e => lk_new (lk_new (lk_new e n1) n2) n3
    have hl : H l = none := s0.free nl
    refine k_for walk_list (fun i σ H' => ∃ (xs : List V) (v : Option V), σ = [some (.ref l), v] ∧ Same H H' ∧ q ≠ l ∧ H' q = some (.lst [.str "start", .str "label", .str "tie"]) ∧ H' l = some (.lst xs) ∧ Steps K H' xs (menu12.take (3 + 3 * i)))
      ⟨_, none, rfl, fun b o e => lk_new (lk_new (s0 b o e) nl) nq, (ne_of_none upd_same nq).symm, upd_same, lk_new upd_same nq, ?_⟩ (fun i σ H' _ ⟨_, _, _, _, _, h, _⟩ => SqL.of h) ?_ ?_
    · show Steps K _ [.ref p1, .ref p2, .ref p3] [["make", "all"], ["make", "standing"], ["drop"]]
      exact .cons ⟨_, rfl, SqT.of (show _ = some (HO.tup [.str "make", .str "all"]) by walk_at "hp")⟩ (.cons ⟨_, rfl, SqT.of (show _ = some (HO.tup [.str "make", .str "standing"]) by walk_at "hp")⟩
        (.cons ⟨_, rfl, SqT.of (show _ = some (HO.tup [.str "drop"]) by walk_at "hp")⟩ .nil))
    · rintro i x σ H1 H2 hi ⟨xs, v, rfl, s1, hql, hq, hL, hS⟩ ⟨rfl, hx⟩
      have hlen : xs.length ≤ 12 := by
        have e := Paired.length hS
        rw [e, List.length_take]
        exact Nat.le_trans (Nat.min_le_right _ _) (by decide)
      obtain ⟨wd, rfl, hw⟩ : ∃ wd : Str, x = .str wd ∧ menu12.take (3 + 3 * (i + 1)) = menu12.take (3 + 3 * i) ++ [[wd, "new"], [wd, "all"], [wd, "free"]] := by
        match i, hi, hx with
        | 0, _, hx => exact ⟨"start", (Option.some.inj hx).symm, rfl⟩
        | 1, _, hx => exact ⟨"label", (Option.some.inj hx).symm, rfl⟩
        | 2, _, hx => exact ⟨"tie", (Option.some.inj hx).symm, rfl⟩
      walk_at "rd"
      rename_i p1 n1 p2 n2 p3 n3 p4 n4
      have e1 : Same H2 (upd (upd (upd (upd H2 p1 (.tup [.str wd, .str "new"])) p2 (.tup [.str wd, .str "all"])) p3 (.tup [.str wd, .str "free"])) p4 (.lst [.ref p1, .ref p2, .ref p3])) :=
        fun b o e => lk_new (lk_new (lk_new (lk_new e n1) n2) n3) n4
      have hL' := e1 _ _ hL
      refine ⟨_, _, rfl, fun b o e => lk_ne (e1 b o (s1 b o e)) (ne_of_none e hl), hql, lk_ne (e1 _ _ hq) hql, upd_same, ?_⟩
      · rw [hw]
        refine Steps.append ((hS.mono (SameT.of e1)).mono (SameT.lst hL')) ?_
        exact .cons ⟨_, rfl, sqT_mono (SameT.lst hL') (SqT.of (show _ = some (HO.tup [.str wd, .str "new"]) by walk_at "hp"))⟩ (.cons ⟨_, rfl, sqT_mono (SameT.lst hL') (SqT.of (show _ = some (HO.tup [.str wd, .str "all"]) by walk_at "hp"))⟩
          (.cons ⟨_, rfl, sqT_mono (SameT.lst hL') (SqT.of (show _ = some (HO.tup [.str wd, .str "free"]) by walk_at "hp"))⟩ .nil))
    · rintro σ H1 ⟨xs, v, rfl, s1, hql, hq, hL, hS⟩
      walk_at "rd"
      exact k l xs H1 hl s1 hL hS
theorem ok__law_well (T : Txt P K mg) : FnOk P w K mg base CX0 1 T.f__law_well T.d__law_well ["script", "k"] (spWell K) := by
  refine T.F__law_well.ok sc__law_well (fun vs H Q E h => ?_) (fun cdv A outer s H vs Q E hr h => ?_)
  · obtain ⟨a, ns, k, rfl, _⟩ := h
    rfl
  · obtain ⟨a, ns, k, rfl, ha, hb, hl, hk, q⟩ := h
    refine ⟨_, (pss_cons (ps_set (i := 2) sc__law_well.nd rfl (Or.inl rfl) pe_int)
  (pss_cons (ps_if (pt_cmpR op_lt (pv 1) (pe_callB (call_lenUk K) (by rfl) T.m_len b_len (pa_cons (pv 0) pa_nil)) (nomark _)) (pss_one (ps_set (i := 2) sc__law_well.nd rfl (Or.inl rfl) (pe_callTy call_int1 (by rfl) T.m_int b_int (pa_cons (pe_ix (ix_seqk K) (pv 0) (pv 1) (fun _ _ => rfl)) pa_nil)))) pss_nil)
  (pss_cons (ps_set (i := 3) sc__law_well.nd rfl (Or.inl rfl) (pe_op op_mulU pe_int (pv 2)))
  (pss_cons (ps_if (pt_cmpR op_lt (pv 2) pe_int (nomark _)) (pss_one (ps_set (i := 3) sc__law_well.nd rfl (Or.inl rfl) (pe_op op_sub (pe_op op_mulU (pe_un un_neg pe_int) (pv 2)) pe_int))) pss_nil)
  (pss_one (ps_ret (pe_lst (pa_cons (pe_callB (call_max2 rfl) (by rfl) T.m_max b_max (pa_cons pe_int (pa_cons (pe_op op_sub (pv 3) (pe_op op_powW pe_int pe_int)) pa_nil))) (pa_cons (pe_op (op_addUk K) (pe_op op_mod (pe_callTy call_int1 (by rfl) T.m_int b_int (pa_cons (pv 3) pa_nil)) (pe_op (op_addUk K) (pe_op op_powW pe_int pe_int) pe_int)) (pe_op op_mulU pe_int (pv 1))) (pa_cons pe_int pa_nil)))))))))), ?_⟩
    walk_at "rd"
    have b2 : Builtin.Int.intBits 2 ≤ 2 := by decide
    have bn : Builtin.Int.intBits (-2) ≤ 2 := by decide
    -- what follows the first if, for any cell
    have key : ∀ cell : Int, Builtin.Int.intBits cell ≤ 1048576 → CMulX 2 cell ∧ CMulX (-2) cell := fun cell hc => by
      unfold CMulX
      omega
    refine ite2 (fun hlt => ?_) (fun hge => ?_)
    · rw [List.length_map] at hlt
      have hk' : k < ns.length := by omega
      obtain ⟨z, hz⟩ : ∃ z, ns[k]? = some z := ⟨ns[k], List.getElem?_eq_getElem hk'⟩
      obtain ⟨m1, m2⟩ := key z (hb z (List.mem_of_getElem? hz))
      refine k_ixL ha (at_of (j := k) rfl (by rw [List.getElem?_map, hz]; rfl)) ?_
      walk_at "rd"
      refine ite2 (fun hneg => ?_) (fun hpos => ?_)
      all_goals
        walk_at "rd"
        rename_i p np
        exact q p _ np (fun b o e => lk_new e np) ⟨_, _, _, upd_same, by omega, by omega, by decide, by decide⟩
    · obtain ⟨m1, m2⟩ := key 0 (by decide)
      walk_at "rd"
      rename_i p np
      exact q p _ np (fun b o e => lk_new e np) ⟨_, _, _, upd_same, by omega, by omega, by decide, by decide⟩
end
end Y


set_option Elab.async false
set_option linter.all false
set_option maxRecDepth 100000
namespace Y
open PySem L2
local macro_rules | `(tactic| walk_at "ne") => `(tactic| first
  | with_reducible assumption
  | ((with_reducible apply Ne.symm); (focus with_reducible assumption))
  | ((with_reducible apply ne_new); (focus with_reducible assumption); (focus walk_at "hp"))
  | ((with_reducible apply ne_new'); (focus with_reducible assumption); (focus walk_at "hp")))
local macro_rules | `(tactic| walk_at "hp1") => `(tactic| first
  | ((with_reducible apply lk_new2); (focus with_reducible assumption))
  | ((with_reducible apply lk_ne2); (focus walk_at "ne"))
  | ((with_reducible apply Same.get); (focus with_reducible assumption))
  | ((with_reducible apply But.get2); (focus with_reducible assumption); (focus walk_at "ne")))
local macro_rules | `(tactic| walk_at "hp") => `(tactic| first
  | with_reducible assumption
  | with_reducible exact upd_same
  | ((walk_at "hp1"); (walk_at "hp")))
local macro_rules | `(tactic| walk_at "sm1") => `(tactic| first
  | ((with_reducible apply Same.linkN); (focus with_reducible assumption))
  | ((with_reducible apply Same.linkU); (focus with_reducible assumption))
  | ((with_reducible apply Same.link); (focus with_reducible assumption)))
local macro_rules | `(tactic| walk_at "sm") => `(tactic| first
  | with_reducible assumption
  | with_reducible exact Same.refl _
  | ((walk_at "sm1"); (walk_at "sm")))
local macro_rules | `(tactic| walk_at "bt1") => `(tactic| first
  | ((with_reducible apply But.linkN); (focus with_reducible assumption))
  | ((with_reducible apply But.linkU); (focus with_reducible assumption))
  | (with_reducible apply But.linkA)
  | ((with_reducible apply But.link); (focus with_reducible assumption))
  | ((with_reducible apply But.linkS); (focus with_reducible assumption)))
local macro_rules | `(tactic| walk_at "bt") => `(tactic| first
  | with_reducible assumption
  | with_reducible exact But.refl _ _
  | ((walk_at "bt1"); (walk_at "bt")))
local macro_rules | `(tactic| walk_at "rs") => `(tactic| simp only [e_C, e_var0, e_varS, e_op, e_op1, e_un, e_fld, e_tup, e_lst, e_cons, e_cons1, e_cons2, e_nil, e_call, e_call1, e_CB, e_meth, e_make, e_B, e_test, e_B1, e_if, e_if1, e_ifS, e_ifS1, e_and, e_andc, e_or, e_orc, e_not, e_not1, e_andV, e_andVc, e_orV, e_orVc, e_notV, e_notV1, e_seq, e_next, e_break, e_cont, e_drop, e_drop1, e_ret, e_retN, e_asg, e_name, e_part, e_part1, e_noPart, e_sl, e_sl1, e_sl2, e_sl3, o_add_int, o_I0, o_un, c_int, c_intB, c_abs, c_max, c_min, k_isN, k_notN, k_isB, k_notB, e_sub, e_sub1, cx_K, cx_noxK, e_for, e_rng1, e_rng2, e_seqI, e_enumT, e_enum, e_gname, e_lc, e_lcT, e_yes, e_bm, e_par, e_par1, e_par3, e_par31, e_chain, e_chain1, e_chain2, e_chain3, e_sfld, e_sfld1, List.set, ite_true, ite_false, eq_self, Bool.false_eq_true, decide_eq_true_eq, L2.start, List.map, List.length_cons, List.length_nil, List.replicate, Nat.add_one_sub_one, Nat.sub_self, List.nil_append, List.cons_append, Int.reduceToNat, Int.reducePow, Int.reduceMul, Int.reduceAdd, Int.reduceSub, Int.reduceNeg, Int.reduceLT, Int.reduceLE, Int.reduceEq, Bool.not_false, Bool.not_true, L2.wipe, e_never, e_m1, e_m1a, e_m1b, e_asgT, e_gcons, e_gnil, e_callD, e_opS, e_raise, e_mkErr, e_fldErr, decide_true, decide_false, not_true_eq_false, not_false_eq_true, reduceCtorEq])
local macro_rules | `(tactic| walk_at "sd") => `(tactic| first
  | assumption
  | decide
  | omega
  | (dsimp only; omega)
  | exact wide_div (b := 450) (by omega) (by omega) (by decide) (by decide)
  | exact mulX (a := 450) (b := 450) (by omega) (by omega) (by decide) (by decide) (by decide)
  | exact powW (b := 450) (by omega) (by omega) (by decide) (by decide))
local macro_rules | `(tactic| walk_at "sl") => `(tactic| first | omega | (simp only [List.length_cons, List.length_nil, List.length_append]; omega))
local macro_rules | `(tactic| walk_at "sqL1") => `(tactic| first
  | ((with_reducible apply sqL_new2); (focus with_reducible assumption))
  | ((with_reducible apply sqL_link); (focus with_reducible assumption)))
local macro_rules | `(tactic| walk_at "sqL") => `(tactic| first
  | with_reducible assumption
  | ((with_reducible apply SqL.of); focus walk_at "hp")
  | ((walk_at "sqL1"); (walk_at "sqL")))
local macro_rules | `(tactic| walk_at "sqT1") => `(tactic| first
  | ((with_reducible apply sqT_new2); (focus with_reducible assumption))
  | ((with_reducible apply sqT_link); (focus with_reducible assumption)))
local macro_rules | `(tactic| walk_at "sqT") => `(tactic| first
  | with_reducible assumption
  | ((with_reducible apply SqT.of); focus walk_at "hp")
  | ((walk_at "sqT1"); (walk_at "sqT")))
local macro_rules | `(tactic| walk_at "kt") => `(tactic| first
  | with_reducible exact kt_self
  | with_reducible exact kt_int_bool
  | with_reducible exact kt_int_str
  | with_reducible exact kt_int_list
  | with_reducible exact kt_int_tuple
  | with_reducible exact kt_bool_int
  | with_reducible exact kt_bool_str
  | with_reducible exact kt_bool_list
  | with_reducible exact kt_bool_tuple
  | with_reducible exact kt_str_int
  | with_reducible exact kt_str_bool
  | with_reducible exact kt_str_list
  | with_reducible exact kt_str_tuple
  | with_reducible exact kt_non_int
  | with_reducible exact kt_non_bool
  | with_reducible exact kt_non_str
  | with_reducible exact kt_non_list
  | with_reducible exact kt_non_tuple
  | with_reducible exact kt_tuple_int
  | with_reducible exact kt_tuple_bool
  | with_reducible exact kt_tuple_str
  | with_reducible exact kt_tuple_list
  | with_reducible exact kt_list_int
  | with_reducible exact kt_list_bool
  | with_reducible exact kt_list_str
  | with_reducible exact kt_list_tuple
  | with_reducible exact kt_dict_int
  | with_reducible exact kt_dict_bool
  | with_reducible exact kt_dict_str
  | with_reducible exact kt_dict_list
  | with_reducible exact kt_dict_tuple)
local macro_rules | `(tactic| walk_at "tyx") => `(tactic| first
  | with_reducible exact .base (.int _)
  | with_reducible exact .base (.str _)
  | with_reducible exact .base (.bl _)
  | with_reducible exact .base .non
  | ((with_reducible apply tyx_tup); focus walk_at "sqT")
  | ((with_reducible apply tyx_lst); focus walk_at "sqL")
  | ((with_reducible apply TyX.base); (focus ((with_reducible apply TyOf.dK); focus walk_at "hp"))))
local macro_rules | `(tactic| walk_at "isi") => `(tactic| first
  | ((with_reducible apply k_isi); (focus (with_reducible exact (ClsV.ty _))); (focus (walk_at "tyx")); (focus (walk_at "kt")))
  | ((with_reducible apply k_isiT); (focus (walk_at "hp")); (focus (with_reducible exact (.cons (.ty _) (.cons (.ty _) .nil)))); (focus (walk_at "tyx")); (focus (first | with_reducible exact ka_tuple | with_reducible exact ka_list | ((with_reducible apply ka_no); (focus walk_at "kt"); (focus walk_at "kt"))))))
local macro_rules | `(tactic| walk_at "lk") => `(tactic| rfl)
local macro_rules | `(tactic| walk_at "rd1") => `(tactic| first
  | walk_at "rs"
  | ((with_reducible apply k_ixL); (focus (walk_at "sqL")); (focus rfl))
  | ((with_reducible apply k_ixT); (focus (walk_at "sqT")); (focus rfl))
  | ((with_reducible apply k_fld); (focus (walk_at "hp")); (focus (assumption)); (focus (assumption)); (focus (walk_at "lk")))
  | ((with_reducible apply k_sfld); (focus (walk_at "hp")); (focus (assumption)); (focus (assumption)); (focus (walk_at "sl")))
  | ((with_reducible apply k_meth); (focus (walk_at "hp")); (focus (walk_at "lk")))
  | ((with_reducible apply k_I); (focus (walk_at "sd")))
  | ((with_reducible apply k_unp); (focus (walk_at "sqT")); (focus rfl))
  | ((with_reducible apply k_mul); (focus (walk_at "sd")))
  | ((with_reducible apply k_setL); (focus (walk_at "hp")); (focus rfl))
  | ((with_reducible apply k_bmL); (focus (walk_at "hp")))
  | ((with_reducible apply k_append); (focus (walk_at "hp")); (focus (walk_at "sd")))
  | ((with_reducible apply k_extend); (focus (walk_at "hp")); (focus (walk_at "hp")); (focus (walk_at "sl")))
  | ((with_reducible apply k_tup); (focus (walk_at "sl")); intro _ _)
  | ((with_reducible apply k_lst); (focus (walk_at "sl")); intro _ _)
  | ((with_reducible apply k_lenS); (focus ((with_reducible apply Or.inl); walk_at "sqL")))
  | ((with_reducible apply k_lenS); (focus ((with_reducible apply Or.inr); walk_at "sqT")))
  | ((with_reducible apply k_seqL); (focus (walk_at "sqL")))
  | ((with_reducible apply k_seqT); (focus (walk_at "sqT")))
  | ((with_reducible apply k_enumT); (focus (walk_at "sqT")))
  | walk_at "isi"
  | ((with_reducible apply k_tupOfL); (focus (walk_at "sqL")); intro _ _)
  | ((with_reducible apply k_tupOfT); (focus (walk_at "sqT")))
  | ((with_reducible apply k_listOf); (focus ((with_reducible apply Or.inl); walk_at "sqL")); intro _ _)
  | ((with_reducible apply k_listOf); (focus ((with_reducible apply Or.inr); walk_at "sqT")); intro _ _)
  | (with_reducible apply k_eq_int)
  | (with_reducible apply k_ne_int)
  | (with_reducible apply k_eq_str)
  | (with_reducible apply k_ne_str)
  | (with_reducible apply k_eq_bl)
  | (with_reducible apply k_ne_bl))
local macro_rules | `(tactic| walk_at "rd") => `(tactic| repeat walk_at "rd1")

/-- value is an integer from low to high -/
def spInt : Sp := fun vs H Q _ => ∃ i lo hi : Int, vs = [.int i, .int lo, .int hi] ∧ Q (.bl (decide (lo ≤ i) && decide (i ≤ hi))) H
def spStepT (K : PySem.W.Frag) : Sp := fun vs H Q _ => ∃ (a : Addr) (x : List Str), vs = [.ref a] ∧ SqT K H a (x.map V.str) ∧ x ∈ menu12 ∧ ∀ H', Same H H' → Q (.bl true) H'
def sf (l : Addr) : List (Str × V) := [("_steps", .ref l)]
theorem sf_at (l : Addr) : (sf l).lookup ("_steps" : Str) = some (.ref l) := by
  unfold sf
  simp [List.lookup]
theorem sf_no (l : Addr) {m : Str} (h : ¬ m = "_steps") : (sf l).lookup m = none := by
  have q : (m == ("_steps" : Str)) = false := by simpa using h
  unfold sf
  simp [List.lookup, q]
local macro_rules | `(tactic| walk_at "lk") => `(tactic| first
  | exact sf_at _
  | exact sf_no _ (by decide +kernel))
/-- a Script of the steps ws stands at p -/
structure ScrAt (K : PySem.W.Frag) (C : Addr) (H : Hp) (p : Addr) (ws : List (List Str)) : Prop where
  ex : ∃ (dx l : Addr) (xs : List V), H p = some (.ins C dx (sf l)) ∧ H l = some (.lst xs) ∧ Steps K H xs ws
  len : ws.length ≤ 12
  menu : ∀ x ∈ ws, x ∈ menu12
theorem ScrAt.same {K : PySem.W.Frag} {C p : Addr} {H H' : Hp} {ws : List (List Str)} (h : ScrAt K C H p ws) (e : Same H H') : ScrAt K C H' p ws := by
  obtain ⟨⟨dx, l, xs, h1, h2, h3⟩, h4, h5⟩ := h
  exact ⟨⟨dx, l, xs, e _ _ h1, e _ _ h2, h3.mono (SameT.of e)⟩, h4, h5⟩
/-- the same, its list named -/
def ScrL (K : PySem.W.Frag) (C : Addr) (H : Hp) (p l : Addr) (ws : List (List Str)) : Prop := ∃ (dx : Addr) (xs : List V), H p = some (.ins C dx (sf l)) ∧ H l = some (.lst xs) ∧ Steps K H xs ws ∧ ws.length ≤ 12 ∧ ∀ x ∈ ws, x ∈ menu12
theorem ScrL.at_ {K : PySem.W.Frag} {C p l : Addr} {H : Hp} {ws : List (List Str)} : ScrL K C H p l ws → ScrAt K C H p ws := fun ⟨dx, xs, h1, h2, h3, h4, h5⟩ => ⟨⟨dx, l, xs, h1, h2, h3⟩, h4, h5⟩
theorem ScrL.same {K : PySem.W.Frag} {C p l : Addr} {H H' : Hp} {ws : List (List Str)} (e : Same H H') : ScrL K C H p l ws → ScrL K C H' p l ws := fun ⟨dx, xs, h1, h2, h3, h4, h5⟩ => ⟨dx, xs, e _ _ h1, e _ _ h2, h3.mono (SameT.of e), h4, h5⟩
def spInit (K : PySem.W.Frag) (C CE : Addr) : Sp := fun vs H Q E => ∃ (p r dx : Addr) (ws : List (List Str)), vs = [.ref p, .ref r] ∧ H p = some (.ins C dx []) ∧ Row K H r ws ∧ ws.length ≤ 1000 ∧ (∀ x ∈ ws, x ∈ menu12) ∧
  (ws.length ≤ 12 → ∀ (H' : Hp) (l : Addr), H l = none → ScrL K C H' p l ws → (∀ b o, H b = some o → b ≠ p → H' b = some o) → Q .non H') ∧
  (12 < ws.length → ∀ (H' : Hp) (d : Addr), Same H H' → H' d = none → E (.ref CE) (some d) (upd H' d (.xd [("index", .int 12)])))
def spAdd (K : PySem.W.Frag) (C CE : Addr) : Sp := fun vs H Q E => ∃ (p q : Addr) (ws us : List (List Str)), vs = [.ref p, .ref q] ∧ ScrAt K C H p ws ∧ ScrAt K C H q us ∧
  (ws.length + us.length ≤ 12 → ∀ (x l : Addr) (H' : Hp), H x = none → H l = none → Same H H' → ScrL K C H' x l (ws ++ us) → Q (.ref x) H') ∧
  (12 < ws.length + us.length → ∀ (H' : Hp) (d : Addr), Same H H' → H' d = none → E (.ref CE) (some d) (upd H' d (.xd [("index", .int 12)])))
def spSLen (K : PySem.W.Frag) (C : Addr) : Sp := fun vs H Q _ => ∃ (p : Addr) (ws : List (List Str)), vs = [.ref p] ∧ ScrAt K C H p ws ∧ Q (.int (ws.length : Nat)) H
def spSteps (K : PySem.W.Frag) (C : Addr) : Sp := fun vs H Q _ => ∃ (p : Addr) (ws : List (List Str)), vs = [.ref p] ∧ ScrAt K C H p ws ∧ ∀ (r : Addr) (H' : Hp), H r = none → Same H H' → Row K H' r ws → Q (.ref r) H'
def spHas (K : PySem.W.Frag) (C : Addr) : Sp := fun vs H Q _ => ∃ (p : Addr) (i : Int) (ws : List (List Str)), vs = [.ref p, .int i] ∧ ScrAt K C H p ws ∧ Q (.bl (decide (0 ≤ i) && decide (i ≤ (ws.length : Int) - 1))) H
def spWithout (K : PySem.W.Frag) (C : Addr) : Sp := fun vs H Q _ => ∃ (p : Addr) (i : Nat) (ws : List (List Str)), vs = [.ref p, .int i] ∧ ScrAt K C H p ws ∧ i < ws.length ∧
  ∀ (x l : Addr) (H' : Hp), H x = none → H l = none → Same H H' → ScrL K C H' x l (ws.take i ++ ws.drop (i + 1)) → Q (.ref x) H'
def spWith (K : PySem.W.Frag) (C : Addr) : Sp := fun vs H Q _ => ∃ (p s : Addr) (i : Nat) (y : List Str) (ws : List (List Str)), vs = [.ref p, .int i, .ref s] ∧ ScrAt K C H p ws ∧ SqT K H s (y.map V.str) ∧ y ∈ menu12 ∧ i ≤ ws.length ∧ ws.length < 12 ∧
  ∀ (x l : Addr) (H' : Hp), H x = none → H l = none → Same H H' → ScrL K C H' x l (ws.take i ++ [y] ++ ws.drop i) → Q (.ref x) H'
def spRow (K : PySem.W.Frag) : Sp := fun vs H Q _ => ∃ (a : Addr) (most n : Nat), vs = [.ref a, .int most] ∧ WellAt H a n ∧ n + most ≤ 900000 ∧ most ≤ 100 ∧
  ∀ (r : Addr) (ws : List (List Str)) (H' : Hp), Row K H' r ws → ws.length ≤ most → (∀ x ∈ ws, x ∈ menu12) → WellAt H' a (n + most + 2) → (∀ b o, H b = some o → b ≠ a → H' b = some o) → Q (.ref r) H'
set_option maxHeartbeats 2000000
section
variable {P : Program} {w : World} {K : PySem.W.Frag} {mg : Str → Option Value} {base : Heap}
theorem ok__law_row (T : Txt P K mg) : FnOk P w K mg base CX0 2 T.f__law_row T.d__law_row ["well", "most"] (spRow K) := by
  refine T.F__law_row.ok sc__law_row (fun vs H Q E h => ?_) (fun cdv A outer s H vs Q E hr h => ?_)
  · obtain ⟨a, m, n, rfl, _⟩ := h
    rfl
  · obtain ⟨a, m, n, rfl, hw, hn, hm, k⟩ := h
    refine ⟨_, (pss_cons (ps_par3 (i := 2) (j := 3) (l := 4) rfl sc__law_row.nd rfl rfl rfl (by decide) (by decide) (by decide) rfl rfl rfl (pa_cons (pe_call0 (ok__law_menu T) (hr.mono (by decide)) (by rfl) T.m__law_menu T.F__law_menu.kp T.b__law_menu .nil pass0) (pa_cons (pe_op (op_addUk K) pe_int (pe_call (ok__law_draw T) (hr.mono (by decide)) (by rfl) T.m__law_draw T.F__law_draw.kp T.b__law_draw .nil pass0 (pa_cons (pv 0) (pa_cons pe_int pa_nil)))) (pa_cons (pe_lst pa_nil) pa_nil))) (by rfl))
  (pss_cons (ps_for PassesOwn.never rfl (pi_range1 (by rfl) T.m_range (pa_cons (pe_call (ok__law_draw T) (hr.mono (by decide)) (by rfl) T.m__law_draw T.F__law_draw.kp T.b__law_draw .nil pass0 (pa_cons (pv 0) (pa_cons (pe_op (op_addUk K) (pv 1) pe_int) pa_nil))) pa_nil)) (pg_name (i := 5) sc__law_row.nd rfl (Or.inl rfl))
  (pss_one (ps_expr (pe_bm PySem.F.plainAttrs_list PySem.F.slot_list_append PySem.F.type_list_append mt_append (pv 4) (pa_cons (pe_ix (ix_seqk K) (pv 2) (pe_op op_mod (pe_callTy call_int1 (by rfl) T.m_int b_int (pa_cons (pe_op op_mulU (pe_call (ok__law_draw T) (hr.mono (by decide)) (by rfl) T.m__law_draw T.F__law_draw.kp T.b__law_draw .nil pass0 (pa_cons (pv 0) (pa_cons (pv 3) pa_nil))) pe_int) pa_nil)) pe_int) (fun _ _ => rfl)) pa_nil)))))
  (pss_one (ps_ret (pe_callTy (call_tuple_ofk K) (by rfl) T.m_tuple b_tuple (pa_cons (pv 4) pa_nil)))))), ?_⟩
    walk_at "rd"
    refine ⟨rfl, fun mp xs H1 nm s1 hx hS => ?_⟩
    have hma : mp ≠ a := hw.ne nm
    walk_at "rd"
    refine ⟨a, 12, n, rfl, hw.same s1, by omega, by omega, by omega, fun d H2 d0 d1 w2 k2 => ?_⟩
    have hx2 := k2 mp _ hx hma
    have hS2 := hS.mono ((hw.same s1).sameT k2)
    walk_at "rd"
    rename_i fp nf
    have hfa : fp ≠ a := w2.ne nf
    refine ⟨a, _, n + 1, rfl, w2.new nf, by omega, by omega, by omega, fun c H3 c0 c1 w3 k3 => ?_⟩
    walk_at "rd"
    refine k_rng1 (by omega) (by omega) ?_
    have hl12 : xs.length = 12 := Paired.length hS
    have nfH : H fp = none := by
      cases e : H fp with
      | none => rfl
      | some o =>
        have q := k2 _ _ (s1 _ _ e) hfa
        rw [nf] at q
        cases q
    have f2 : ∀ b o, H b = some o → b ≠ a → H3 b = some o := fun b o e hb => k3 b o (lk_new (k2 b o (s1 b o e) hb) nf) hb
    refine k_for walk_range (fun i σ H' => ∃ (ys : List V) (ws : List (List Str)) (v : Option V), σ = [some (.ref a), some (.int m), some (.ref mp), some (.int (1 + d)), some (.ref fp), v] ∧ H' mp = some (.lst xs) ∧ Steps K H' xs menu12 ∧
        H' fp = some (.lst ys) ∧ Steps K H' ys ws ∧ ws.length = i ∧ (∀ x ∈ ws, x ∈ menu12) ∧ WellAt H' a (n + 2 + i) ∧ ∀ b o, H b = some o → b ≠ a → H' b = some o)
      ⟨[], [], none, rfl, k3 _ _ (lk_new hx2 nf) hma, (hS2.mono (SameT.new nf)).mono ((w2.new nf).sameT k3), k3 _ _ upd_same hfa, .nil, rfl, fun x z => absurd z List.not_mem_nil, w3, f2⟩ (fun _ _ _ _ _ => True.intro) ?_ ?_
    · rintro i x σ H4 H5 hi ⟨ys, ws, v, rfl, hm4, hS4, hf4, hW4, hl4, ha4, w4, f4⟩ ⟨rfl, rfl⟩
      have hi' : i < m + 1 := by omega
      walk_at "rd"
      refine ⟨a, _, n + 2 + i, rfl, w4, by omega, by omega, by omega, fun e H6 e0 e1 w6 k6 => ?_⟩
      have hm6 := k6 _ _ hm4 hma
      walk_at "rd"
      have hj : (e * 5 % 12).toNat < 12 := by omega
      obtain ⟨b, wd, hb1, hb2, hb3⟩ := Steps.at_ (j := (e * 5 % 12).toNat) (hS4.mono (w4.sameT k6)) hj
      refine k_ixL (SqL.of hm6) (at_of (j := (e * 5 % 12).toNat) (by omega) hb1) ?_
      have hf6 := k6 _ _ hf4 hfa
      have hly : ys.length = i := (Paired.length hW4).trans hl4
      walk_at "rd"
      have hmf : mp ≠ fp := (ne_of_none hx2 nf)
      refine ⟨_, ws ++ [wd], _, rfl, lk_ne hm6 hmf, (hS4.mono (w4.sameT k6)).mono (SameT.lst hf6), upd_same, Steps.append ((hW4.mono (w4.sameT k6)).mono (SameT.lst hf6)) (.cons ⟨b, rfl, sqT_mono (SameT.lst hf6) hb3⟩ .nil), by rw [List.length_append, hl4]; rfl, ?_, ?_, ?_⟩
      · intro x hx
        rcases List.mem_append.mp hx with h | h
        · exact ha4 x h
        · rw [List.mem_singleton.mp h]
          exact List.mem_of_getElem? hb2
      · exact w6.lst hfa.symm
      · intro b o hb hba
        exact lk_ne (k6 b o (f4 b o hb hba) hba) (ne_of_none hb nfH)
    · rintro σ H4 ⟨ys, ws, v, rfl, hm4, hS4, hf4, hW4, hl4, ha4, w4, f4⟩
      walk_at "rd"
      rename_i p np
      have hc : c.toNat ≤ m := by omega
      refine k p ws _ ⟨ys, SqT.of upd_same, hW4.mono (SameT.new np)⟩ (by omega) ha4 ((w4.new np).le (by omega)) fun b o e hb => lk_new (f4 b o e hb) np
theorem ok_is_integer (T : Txt P K mg) : FnOk P w K mg base CX0 1 T.f_is_integer T.d_is_integer ["value", "low", "high"] spInt := by
  refine T.F_is_integer.ok sc_is_integer (fun vs H Q E h => ?_) (fun cdv A outer s H vs Q E hr h => ?_)
  · obtain ⟨i, lo, hi, rfl, _⟩ := h
    rfl
  · obtain ⟨i, lo, hi, rfl, k⟩ := h
    refine ⟨_, (pss_one (ps_ret (pe_and (pe_callB (call_isiUk K) (by rfl) T.m_isinstance b_isinstance (pa_cons (pv 0) (pa_cons (pe_bty (by rfl) T.m_int b_int) pa_nil))) (pe_and (pe_not (pe_callB (call_isiUk K) (by rfl) T.m_isinstance b_isinstance (pa_cons (pv 0) (pa_cons (pe_bty (by rfl) T.m_bool b_bool) pa_nil)))) (pe_one (pe_chain op_le op_le (pv 1) (pv 0) (pv 2))))))), ?_⟩
    walk_at "rd"
    refine ite2 (fun h => ?_) (fun h => ?_)
    · rw [decide_eq_true h, Bool.true_and] at k
      exact k
    · rw [decide_eq_false h, Bool.false_and] at k
      exact k
theorem ok_is_step (T : Txt P K mg) : FnOk P w K mg base CX0 1 T.f_is_step T.d_is_step ["value"] (spStepT K) := by
  refine T.F_is_step.ok sc_is_step (fun vs H Q E h => ?_) (fun cdv A outer s H vs Q E hr h => ?_)
  · obtain ⟨a, x, rfl, _⟩ := h
    rfl
  · obtain ⟨a, x, rfl, ha, hx, k⟩ := h
    refine ⟨_, (pss_one (ps_ret (pe_and (pe_callB (call_isiUk K) (by rfl) T.m_isinstance b_isinstance (pa_cons (pv 0) (pa_cons (pe_bty (by rfl) T.m_tuple b_tuple) pa_nil))) (pe_and (pe_callB (cr_allk K rfl) (by rfl) T.m_all b_all (pa_cons (pe_lc (own := [("word", 1)]) (g := (gName 1)) (tt := tYes) rfl sc_is_step.nd (pi_seqk K (pv 0)) (blkOk_by (own := [("word", 1)]) (N := N_is_step) (sc := defScope s_is_step) (by decide +kernel)) (fun _ _ _ _ _ => (pg_name (i := 1) sc_is_step.nd rfl (Or.inl rfl))) (fun _ _ _ _ _ => pts_nil) (fun _ _ _ _ _ => (pe_callB (call_isiUk K) (by rfl) T.m_isinstance b_isinstance (pa_cons (pv 1) (pa_cons (pe_bty (by rfl) T.m_str b_str) pa_nil))))) pa_nil)) (pe_one (pe_cmpR (op_inUk K (hu65 hr)) (pv 0) (pe_glob (by rfl) T.m_STEPS (show RelV (.ref _) (.ref _) from rfl)) (by rfl))))))), ?_⟩
    walk_at "rd"
    refine k_lc (walk_tup (xs := x.map V.str)) fun l nl => ⟨fun i H' => Same H H' ∧ H' l = some (.lst ((List.replicate i true).map V.bl)), ⟨fun b o e => lk_new e nl, upd_same⟩, fun i H' _ h => sqT_mono (SameT.of h.1) ha, ?_, ?_⟩
    · rintro i y H1 H2 hi ⟨s1, h1⟩ ⟨rfl, hy⟩
      obtain ⟨z, rfl⟩ : ∃ z, y = V.str z := by
        rw [List.getElem?_map] at hy
        cases e : x[i]? with
        | none =>
          rw [e] at hy
          cases hy
        | some z =>
          rw [e] at hy
          exact ⟨z, (Option.some.inj hy).symm⟩
      have hxl : x.length ≤ 2 := menu_len x hx
      have hi2 : i < 2 := by
        rw [List.length_map] at hi
        omega
      walk_at "rs"
      refine ⟨trivial, ?_⟩
      walk_at "rd"
      refine k_acc h1 (by rw [List.length_map, List.length_replicate]; omega) ⟨fun b o e => lk_ne (s1 b o e) (ne_of_none e nl), ?_⟩
      rw [upd_same, List.map_replicate, ← List.replicate_succ, List.replicate_succ']
    · rintro H1 ⟨s1, h1⟩
      walk_at "rd"
      refine k_all (SqL.of h1) ?_
      have e : (List.replicate (x.map V.str).length true).all id = true := by simp
      rw [e]
      walk_at "rd"
      obtain ⟨h3, h4⟩ := step_shaped x hx
      refine k_inT (dp_step (sqT_mono (SameT.of s1) ha)) (show Dp K H1 (.ref T.a_STEPS) (.tuple (steps12.map stepD)) from T.dp_STEPS H1) h3 steps12_shaped ?_
      rw [h4]
      exact k H1 s1
theorem menu_lay : ∀ x ∈ menu12, (stepD x).canLay0 = true ∧ (stepD x).depth ≤ 2 := by decide +kernel
theorem lay_all : ∀ {ws : List (List Str)}, (∀ x ∈ ws, x ∈ menu12) → PyData.canLayAll0 (ws.map stepD) = true ∧ PyData.depthAll (ws.map stepD) ≤ 2
  | [], _ => ⟨by simp [PyData.canLayAll0], by simp [PyData.depthAll]⟩
  | x :: ws, h => by
    obtain ⟨h1, h2⟩ := lay_all (ws := ws) fun y hy => h y (List.mem_cons_of_mem _ hy)
    obtain ⟨h3, h4⟩ := menu_lay x (h x List.mem_cons_self)
    refine ⟨by simp [PyData.canLayAll0, h1, h3], ?_⟩
    simp only [List.map_cons, PyData.depthAll]
    omega
theorem steps_shaped {ws : List (List Str)} (h : ∀ x ∈ ws, x ∈ menu12) : SeqAt.shaped (.list (ws.map stepD)) = true ∧ SeqAt.shaped (.tuple (ws.map stepD)) = true := by
  obtain ⟨h1, h2⟩ := lay_all h
  have d1 : PyData.depth (.list (ws.map stepD)) ≤ 64 := by
    simp only [PyData.depth]
    omega
  have d2 : PyData.depth (.tuple (ws.map stepD)) ≤ 64 := by
    simp only [PyData.depth]
    omega
  exact ⟨by unfold SeqAt.shaped; rw [Bool.and_eq_true]; exact ⟨by simp only [PyData.canLay0]; exact h1, decide_eq_true d1⟩, by unfold SeqAt.shaped; rw [Bool.and_eq_true]; exact ⟨by simp only [PyData.canLay0]; exact h1, decide_eq_true d2⟩⟩
theorem ok_Script___init__ (T : Txt P K mg) : FnOk P w K mg base (L2.CX P w) 2 T.f_Script___init__ T.d_Script___init__ ["self", "steps"] (spInit K T.a_Script T.a_NoStep) := by
  refine T.F_Script___init__.okX sc_Script___init__ (fun vs H Q E h => ?_) (fun cdv A outer s H vs Q E hr h => ?_)
  · obtain ⟨p, r, dx, ws, rfl, _⟩ := h
    rfl
  · obtain ⟨p, r, dx, ws, rfl, hp, ⟨xs, hr1, hr2⟩, hl, hm, k, kE⟩ := h
    refine ⟨_, (pss_cons (ps_if (pt_not (pt_val (pe_callB (call_isiUk K) (by rfl) T.m_isinstance b_isinstance (pa_cons (pv 1) (pa_cons (pe_bty (by rfl) T.m_tuple b_tuple) pa_nil))))) (pss_one (ps_raiseErr rfl T.er_NoStep (by simp) hr (takes_of rfl rfl rfl rfl) (pa_cons pe_int pa_nil) (by rfl) (by decide))) pss_nil)
  (pss_cons (ps_for (passes_of rfl) rfl (pi_enumT (by rfl) T.m_enumerate (pa_cons (pv 1) pa_nil)) (pg_tup (n := 2) rfl (pgs_cons (pg_name (i := 2) sc_Script___init__.nd rfl (Or.inl rfl)) (pgs_cons (pg_name (i := 3) sc_Script___init__.nd rfl (Or.inl rfl)) pgs_nil)))
  (pss_one (ps_if (PW.pt (pw_or (pt_cmpR op_ge (pv 2) (pe_gint (by rfl) T.m_MOST_STEPS) (nomark _)) (pw_or1 (pt_not (pt_val (pe_call (ok_is_step T) (hr.mono (by decide)) (by rfl) T.m_is_step T.F_is_step.kp T.b_is_step .nil pass0 (pa_cons (pv 3) pa_nil))))))) (pss_one (ps_raiseErr rfl T.er_NoStep (by simp) hr (takes_of rfl rfl rfl rfl) (pa_cons (pv 2) pa_nil) (by rfl) (by decide))) pss_nil)))
  (pss_one (ps_fld (pv 0) (pe_callTy (call_list_ofk K) (by rfl) T.m_list b_list (pa_cons (pv 1) pa_nil)) rfl)))), ?_⟩
    have c1 := T.cl_Script
    have c2 := T.na_Script__steps
    walk_at "rd"
    have hlen : xs.length = ws.length := Paired.length hr2
    refine k_for walk_enumT (fun i σ H' => i ≤ 12 ∧ ∃ v1 v2 : Option V, σ = [some (.ref p), some (.ref r), v1, v2] ∧ Same H H') ⟨by omega, none, none, rfl, Same.refl H⟩ (fun i σ H' _ ⟨_, _, _, _, e⟩ => sqT_mono (SameT.of e) hr1) ?_ ?_
    · rintro i x σ H1 H2 hi ⟨h12, v1, v2, rfl, s1⟩ ⟨q, x0, x1, rfl, nq, rfl, e0, e1⟩
      cases e0
      obtain ⟨b, wd, hb1, hb2, hb3⟩ := Steps.at_ (j := i) hr2 (by omega)
      have e1' : xs[i]? = some x1 := e1
      rw [hb1] at e1'
      cases e1'
      refine k_pair upd_same ?_
      have s2 : Same H (upd H1 q (.tup [.int (i : Nat), .ref b])) := fun c o e => lk_new (s1 c o e) nq
      by_cases h13 : i = 12
      · subst h13
        walk_at "rd"
        exact fun d hd => kE (by omega) _ d s2 hd
      · have hi12 : ¬ (12 : Int) ≤ (i : Int) := by omega
        walk_at "rd"
        simp only [if_neg hi12]
        walk_at "rd"
        refine ⟨b, wd, rfl, sqT_mono (SameT.of s2) hb3, hm _ (List.mem_of_getElem? hb2), fun H3 s3 => ?_⟩
        walk_at "rd"
        exact ⟨by omega, _, _, rfl, fun c o e => s3 c o (s2 c o e)⟩
    · rintro σ H1 ⟨h12, v1, v2, rfl, s1⟩
      have hr3 := sqT_mono (SameT.of s1) hr1
      have hp1 := s1 _ _ hp
      walk_at "rd"
      rename_i l nl
      have npl : p ≠ l := ne_of_none hp1 nl
      have nlH : H l = none := by
        cases e : H l with
        | none => rfl
        | some o =>
          rw [s1 _ _ e] at nl
          cases nl
      refine k (by omega) _ l nlH ⟨dx, xs, upd_same, lk_ne upd_same npl.symm, ?_, by omega, hm⟩ fun b o e hb => lk_ne (lk_new (s1 b o e) nl) hb
      exact ((hr2.mono (SameT.of s1)).mono (SameT.new nl)).mono (SameT.ins (lk_new hp1 nl))
theorem ok_Script___len__ (T : Txt P K mg) : FnOk P w K mg base CX0 1 T.f_Script___len__ T.d_Script___len__ ["self"] (spSLen K T.a_Script) := by
  refine T.F_Script___len__.ok sc_Script___len__ (fun vs H Q E h => ?_) (fun cdv A outer s H vs Q E hr h => ?_)
  · obtain ⟨p, ws, rfl, _⟩ := h
    rfl
  · obtain ⟨p, ws, rfl, ⟨⟨dx, l, xs, h1, h2, h3⟩, h4, h5⟩, k⟩ := h
    refine ⟨_, (pss_one (ps_ret (pe_callB (call_lenUk K) (by rfl) T.m_len b_len (pa_cons (pe_fldk K (pv 0) rfl) pa_nil)))), ?_⟩
    have c1 := T.cl_Script
    have c2 := T.na_Script__steps
    walk_at "rd"
    rw [← Paired.length h3] at k
    exact k
theorem ok_Script_steps (T : Txt P K mg) : FnOk P w K mg base CX0 1 T.f_Script_steps T.d_Script_steps ["self"] (spSteps K T.a_Script) := by
  refine T.F_Script_steps.ok sc_Script_steps (fun vs H Q E h => ?_) (fun cdv A outer s H vs Q E hr h => ?_)
  · obtain ⟨p, ws, rfl, _⟩ := h
    rfl
  · obtain ⟨p, ws, rfl, ⟨⟨dx, l, xs, h1, h2, h3⟩, h4, h5⟩, k⟩ := h
    refine ⟨_, (pss_one (ps_ret (pe_callTy (call_tuple_ofk K) (by rfl) T.m_tuple b_tuple (pa_cons (pe_fldk K (pv 0) rfl) pa_nil)))), ?_⟩
    have c1 := T.cl_Script
    have c2 := T.na_Script__steps
    walk_at "rd"
    rename_i r nr
    exact k r _ nr (fun b o e => lk_new e nr) ⟨xs, SqT.of upd_same, h3.mono (SameT.new nr)⟩
theorem ok_Script__has (T : Txt P K mg) : FnOk P w K mg base CX0 2 T.f_Script__has T.d_Script__has ["self", "index"] (spHas K T.a_Script) := by
  refine T.F_Script__has.ok sc_Script__has (fun vs H Q E h => ?_) (fun cdv A outer s H vs Q E hr h => ?_)
  · obtain ⟨p, i, ws, rfl, _⟩ := h
    rfl
  · obtain ⟨p, i, ws, rfl, ⟨⟨dx, l, xs, h1, h2, h3⟩, h4, h5⟩, k⟩ := h
    refine ⟨_, (pss_one (ps_ret (pe_call (ok_is_integer T) (hr.mono (by decide)) (by rfl) T.m_is_integer T.F_is_integer.kp T.b_is_integer .nil pass0 (pa_cons (pv 1) (pa_cons pe_int (pa_cons (pe_op op_sub (pe_callB (call_lenUk K) (by rfl) T.m_len b_len (pa_cons (pe_fldk K (pv 0) rfl) pa_nil)) pe_int) pa_nil)))))), ?_⟩
    have c1 := T.cl_Script
    have c2 := T.na_Script__steps
    walk_at "rd"
    rw [← Paired.length h3] at k
    exact ⟨i, 0, _, rfl, k⟩
theorem ok_Script___add__ (T : Txt P K mg) : FnOk P w K mg base (L2.CX P w) 4 T.f_Script___add__ T.d_Script___add__ ["self", "other"] (spAdd K T.a_Script T.a_NoStep) := by
  refine T.F_Script___add__.okX sc_Script___add__ (fun vs H Q E h => ?_) (fun cdv A outer s H vs Q E hr h => ?_)
  · obtain ⟨p, q, ws, us, rfl, _⟩ := h
    rfl
  · obtain ⟨p, q, ws, us, rfl, S1, S2, k, kE⟩ := h
    refine ⟨_, (pss_cons (ps_if (pt_not (pt_val (pe_callB (call_isiUk K) (by rfl) T.m_isinstance b_isinstance (pa_cons (pv 1) (pa_cons (pe_glob (by rfl) T.m_Script (show RelV (.ref _) (.ref _) from rfl)) pa_nil))))) (pss_one ps_never) pss_nil)
  (pss_one (ps_ret (pe_make T.M_Script (ok_Script___init__ T) (hr.mono (by decide)) (by rfl) T.m_Script T.b_Script___init__ .nil (passes_call (takes_of rfl rfl rfl rfl) (fun _ _ _ _ z => z)) (pa_cons (pe_op (op_addUk K) (pe_meth0 (pv 0) T.cl_Script T.me_Script_steps (ok_Script_steps T) (hr.mono (by decide)) T.b_Script_steps .nil pass0) (pe_meth0 (pv 1) T.cl_Script T.me_Script_steps (ok_Script_steps T) (hr.mono (by decide)) T.b_Script_steps .nil pass0)) pa_nil))))), ?_⟩
    have c1 := T.cl_Script
    have c2 := T.na_Script__steps
    walk_at "rd"
    obtain ⟨⟨dx, l, xs, h1, h2, h3⟩, h4, h5⟩ := id S1
    obtain ⟨⟨dy, m, ys, g1, g2, g3⟩, g4, g5⟩ := id S2
    refine k_isi (ClsV.own _) (T.ty_Script _ _ _ _ g1) kt_self ?_
    walk_at "rd"
    refine ⟨p, ws, rfl, S1, fun a H1 na s1 R1 => ?_⟩
    have g1' := s1 _ _ g1
    walk_at "rd"
    refine ⟨q, us, rfl, S2.same s1, fun b H2 nb s2 R2 => ?_⟩
    have R1' := R1.mono (SameT.of s2)
    obtain ⟨zs, z1, z2⟩ := id R1'
    obtain ⟨vs, v1, v2⟩ := id R2
    have e1 : zs.length = ws.length := Paired.length z2
    have e2 : vs.length = us.length := Paired.length v2
    have s12 : Same H H2 := fun c o e => s2 c o (s1 c o e)
    refine k_catT z1 v1 (by omega) fun r H3 s3 R3 => ?_
    have s13 : Same H H3 := fun c o e => s3 c o (s12 c o e)
    have RR : Row K H3 r (ws ++ us) := ⟨_, R3, (z2.mono (SameT.of s3)).append (v2.mono (SameT.of s3))⟩
    walk_at "rd"
    intro y dz ny nd nyd
    have sm : Same H3 (upd (upd H3 dz (.own y)) y (.ins T.a_Script dz [])) := fun b o e => lk_ne (lk_new e nd) (ne_of_none e ny)
    have nyH : H y = none := Same.none_of s13 ny
    refine ⟨y, r, dz, ws ++ us, rfl, upd_same, RR.mono (SameT.of sm), by rw [List.length_append]; omega, fun x hx => ?_, fun hl H4 lz nl L4 f4 => ⟨rfl, ?_⟩, fun hl H4 d s4 nd4 => ?_⟩
    · rcases List.mem_append.mp hx with h | h
      · exact h5 x h
      · exact g5 x h
    · rw [List.length_append] at hl
      exact k hl y lz H4 nyH (Same.none_of s13 (Same.none_of sm nl)) (fun b o e => f4 b o (sm b o (s13 b o e)) (ne_of_none (s13 b o e) ny)) L4
    · rw [List.length_append] at hl
      exact kE hl H4 d (fun b o e => s4 b o (sm b o (s13 b o e))) nd4
theorem ok_Script_without (T : Txt P K mg) : FnOk P w K mg base (L2.CX P w) 4 T.f_Script_without T.d_Script_without ["self", "index"] (spWithout K T.a_Script) := by
  refine T.F_Script_without.okX sc_Script_without (fun vs H Q E h => ?_) (fun cdv A outer s H vs Q E hr h => ?_)
  · obtain ⟨p, i, ws, rfl, _⟩ := h
    rfl
  · obtain ⟨p, i, ws, rfl, S, hi, k⟩ := h
    refine ⟨_, (pss_cons (ps_if (pt_not (pt_val (pe_meth (pv 0) T.cl_Script T.me_Script__has (ok_Script__has T) (hr.mono (by decide)) T.b_Script__has .nil pass0 (pa_cons (pv 1) pa_nil)))) (pss_one (ps_raiseErr rfl T.er_NoStep (by simp) hr (takes_of rfl rfl rfl rfl) (pa_cons (pv 1) pa_nil) (by rfl) (by decide))) pss_nil)
  (pss_cons (ps_set (i := 2) sc_Script_without.nd rfl (Or.inl rfl) (pe_meth0 (pv 0) T.cl_Script T.me_Script_steps (ok_Script_steps T) (hr.mono (by decide)) T.b_Script_steps .nil pass0))
  (pss_one (ps_ret (pe_make T.M_Script (ok_Script___init__ T) (hr.mono (by decide)) (by rfl) T.m_Script T.b_Script___init__ .nil (passes_call (takes_of rfl rfl rfl rfl) (fun _ _ _ _ z => z)) (pa_cons (pe_op (op_addUk K) (pe_slice (sl_Uk K) (pv 2) po_none (po_some (pv 1))) (pe_slice (sl_Uk K) (pv 2) (po_some (pe_op (op_addUk K) (pv 1) pe_int)) po_none)) pa_nil)))))), ?_⟩
    have c1 := T.cl_Script
    have c2 := T.na_Script__steps
    obtain ⟨⟨dx, l, xs, h1, h2, h3⟩, h4, h5⟩ := id S
    walk_at "rd"
    refine ⟨p, i, ws, rfl, S, ?_⟩
    have e : (decide ((0 : Int) ≤ i) && decide ((i : Int) ≤ (ws.length : Int) - 1)) = true := by
      rw [decide_eq_true (by omega), decide_eq_true (by omega)]
      rfl
    rw [e]
    walk_at "rd"
    refine ⟨p, ws, rfl, S, fun a H1 na s1 R1 => ?_⟩
    obtain ⟨ys, y1, y2⟩ := id R1
    have e1 : ys.length = ws.length := y2.len
    walk_at "rd"
    refine k_slT y1 fun b H2 s2 b1 => ?_
    rw [cutV_eq, cutG_to] at b1
    have y3 := sqT_mono (SameT.of s2) y1
    walk_at "rd"
    refine k_slT y3 fun c H3 s3 b2 => ?_
    have ei : (i : Int) + 1 = ((i + 1 : Nat) : Int) := by omega
    rw [ei, cutV_eq, cutG_from] at b2
    refine k_catT (sqT_mono (SameT.of s3) b1) b2 (by rw [List.length_take, List.length_drop]; omega) fun r H4 s4 r1 => ?_
    have s14 : Same H1 H4 := fun b o e => s4 b o (s3 b o (s2 b o e))
    have s04 : Same H H4 := fun b o e => s14 b o (s1 b o e)
    have RR : Row K H4 r (ws.take i ++ ws.drop (i + 1)) := ⟨_, r1, ((y2.take i).append (y2.drop (i + 1))).mono (SameT.of s14)⟩
    walk_at "rd"
    intro y dz ny nd nyd
    have sm : Same H4 (upd (upd H4 dz (.own y)) y (.ins T.a_Script dz [])) := fun b o e => lk_ne (lk_new e nd) (ne_of_none e ny)
    have hl' : (ws.take i ++ ws.drop (i + 1)).length ≤ 12 := by
      rw [List.length_append, List.length_take, List.length_drop]
      omega
    refine ⟨y, r, dz, _, rfl, upd_same, RR.mono (SameT.of sm), by omega, fun x hx => ?_, fun hl H5 lz nl L4 f4 => ⟨rfl, ?_⟩, fun hl => absurd hl (by omega)⟩
    · rcases List.mem_append.mp hx with h | h
      · exact h5 x (List.mem_of_mem_take h)
      · exact h5 x (List.mem_of_mem_drop h)
    · exact k y lz H5 (Same.none_of s04 ny) (Same.none_of s04 (Same.none_of sm nl)) (fun b o e => f4 b o (sm b o (s04 b o e)) (ne_of_none (s04 b o e) ny)) L4
end
end Y


set_option Elab.async false
set_option linter.all false
set_option maxRecDepth 100000
namespace Y
open PySem L2
local macro_rules | `(tactic| walk_at "ne") => `(tactic| first
  | with_reducible assumption
  | ((with_reducible apply Ne.symm); (focus with_reducible assumption))
  | ((with_reducible apply ne_new); (focus with_reducible assumption); (focus walk_at "hp"))
  | ((with_reducible apply ne_new'); (focus with_reducible assumption); (focus walk_at "hp")))
local macro_rules | `(tactic| walk_at "hp1") => `(tactic| first
  | ((with_reducible apply lk_new2); (focus with_reducible assumption))
  | ((with_reducible apply lk_ne2); (focus walk_at "ne"))
  | ((with_reducible apply Same.get); (focus with_reducible assumption))
  | ((with_reducible apply But.get2); (focus with_reducible assumption); (focus walk_at "ne")))
local macro_rules | `(tactic| walk_at "hp") => `(tactic| first
  | with_reducible assumption
  | with_reducible exact upd_same
  | ((walk_at "hp1"); (walk_at "hp")))
local macro_rules | `(tactic| walk_at "sm1") => `(tactic| first
  | ((with_reducible apply Same.linkN); (focus with_reducible assumption))
  | ((with_reducible apply Same.linkU); (focus with_reducible assumption))
  | ((with_reducible apply Same.link); (focus with_reducible assumption)))
local macro_rules | `(tactic| walk_at "sm") => `(tactic| first
  | with_reducible assumption
  | with_reducible exact Same.refl _
  | ((walk_at "sm1"); (walk_at "sm")))
local macro_rules | `(tactic| walk_at "bt1") => `(tactic| first
  | ((with_reducible apply But.linkN); (focus with_reducible assumption))
  | ((with_reducible apply But.linkU); (focus with_reducible assumption))
  | (with_reducible apply But.linkA)
  | ((with_reducible apply But.link); (focus with_reducible assumption))
  | ((with_reducible apply But.linkS); (focus with_reducible assumption)))
local macro_rules | `(tactic| walk_at "bt") => `(tactic| first
  | with_reducible assumption
  | with_reducible exact But.refl _ _
  | ((walk_at "bt1"); (walk_at "bt")))
local macro_rules | `(tactic| walk_at "rs") => `(tactic| simp only [e_C, e_var0, e_varS, e_op, e_op1, e_un, e_fld, e_tup, e_lst, e_cons, e_cons1, e_cons2, e_nil, e_call, e_call1, e_CB, e_meth, e_make, e_B, e_test, e_B1, e_if, e_if1, e_ifS, e_ifS1, e_and, e_andc, e_or, e_orc, e_not, e_not1, e_andV, e_andVc, e_orV, e_orVc, e_notV, e_notV1, e_seq, e_next, e_break, e_cont, e_drop, e_drop1, e_ret, e_retN, e_asg, e_name, e_part, e_part1, e_noPart, e_sl, e_sl1, e_sl2, e_sl3, o_add_int, o_I0, o_un, c_int, c_intB, c_abs, c_max, c_min, k_isN, k_notN, k_isB, k_notB, e_sub, e_sub1, cx_K, cx_noxK, e_for, e_rng1, e_rng2, e_seqI, e_enumT, e_enum, e_gname, e_lc, e_lcT, e_yes, e_bm, e_par, e_par1, e_par3, e_par31, e_chain, e_chain1, e_chain2, e_chain3, e_sfld, e_sfld1, List.set, ite_true, ite_false, eq_self, Bool.false_eq_true, decide_eq_true_eq, L2.start, List.map, List.length_cons, List.length_nil, List.replicate, Nat.add_one_sub_one, Nat.sub_self, List.nil_append, List.cons_append, Int.reduceToNat, Int.reducePow, Int.reduceMul, Int.reduceAdd, Int.reduceSub, Int.reduceNeg, Int.reduceLT, Int.reduceLE, Int.reduceEq, Bool.not_false, Bool.not_true, L2.wipe, e_never, e_m1, e_m1a, e_m1b, e_asgT, e_gcons, e_gnil, e_callD, e_opS, e_raise, e_mkErr, e_fldErr, decide_true, decide_false, not_true_eq_false, not_false_eq_true, reduceCtorEq])
local macro_rules | `(tactic| walk_at "sd") => `(tactic| first
  | assumption
  | decide
  | omega
  | (dsimp only; omega)
  | exact wide_div (b := 450) (by omega) (by omega) (by decide) (by decide)
  | exact mulX (a := 450) (b := 450) (by omega) (by omega) (by decide) (by decide) (by decide)
  | exact powW (b := 450) (by omega) (by omega) (by decide) (by decide))
local macro_rules | `(tactic| walk_at "sl") => `(tactic| first | omega | (simp only [List.length_cons, List.length_nil, List.length_append]; omega))
local macro_rules | `(tactic| walk_at "sqL1") => `(tactic| first
  | ((with_reducible apply sqL_new2); (focus with_reducible assumption))
  | ((with_reducible apply sqL_link); (focus with_reducible assumption)))
local macro_rules | `(tactic| walk_at "sqL") => `(tactic| first
  | with_reducible assumption
  | ((with_reducible apply SqL.of); focus walk_at "hp")
  | ((walk_at "sqL1"); (walk_at "sqL")))
local macro_rules | `(tactic| walk_at "sqT1") => `(tactic| first
  | ((with_reducible apply sqT_new2); (focus with_reducible assumption))
  | ((with_reducible apply sqT_link); (focus with_reducible assumption)))
local macro_rules | `(tactic| walk_at "sqT") => `(tactic| first
  | with_reducible assumption
  | ((with_reducible apply SqT.of); focus walk_at "hp")
  | ((walk_at "sqT1"); (walk_at "sqT")))
local macro_rules | `(tactic| walk_at "kt") => `(tactic| first
  | with_reducible exact kt_self
  | with_reducible exact kt_int_bool
  | with_reducible exact kt_int_str
  | with_reducible exact kt_int_list
  | with_reducible exact kt_int_tuple
  | with_reducible exact kt_bool_int
  | with_reducible exact kt_bool_str
  | with_reducible exact kt_bool_list
  | with_reducible exact kt_bool_tuple
  | with_reducible exact kt_str_int
  | with_reducible exact kt_str_bool
  | with_reducible exact kt_str_list
  | with_reducible exact kt_str_tuple
  | with_reducible exact kt_non_int
  | with_reducible exact kt_non_bool
  | with_reducible exact kt_non_str
  | with_reducible exact kt_non_list
  | with_reducible exact kt_non_tuple
  | with_reducible exact kt_tuple_int
  | with_reducible exact kt_tuple_bool
  | with_reducible exact kt_tuple_str
  | with_reducible exact kt_tuple_list
  | with_reducible exact kt_list_int
  | with_reducible exact kt_list_bool
  | with_reducible exact kt_list_str
  | with_reducible exact kt_list_tuple
  | with_reducible exact kt_dict_int
  | with_reducible exact kt_dict_bool
  | with_reducible exact kt_dict_str
  | with_reducible exact kt_dict_list
  | with_reducible exact kt_dict_tuple)
local macro_rules | `(tactic| walk_at "tyx") => `(tactic| first
  | with_reducible exact .base (.int _)
  | with_reducible exact .base (.str _)
  | with_reducible exact .base (.bl _)
  | with_reducible exact .base .non
  | ((with_reducible apply tyx_tup); focus walk_at "sqT")
  | ((with_reducible apply tyx_lst); focus walk_at "sqL")
  | ((with_reducible apply TyX.base); (focus ((with_reducible apply TyOf.dK); focus walk_at "hp"))))
local macro_rules | `(tactic| walk_at "isi") => `(tactic| first
  | ((with_reducible apply k_isi); (focus (with_reducible exact (ClsV.ty _))); (focus (walk_at "tyx")); (focus (walk_at "kt")))
  | ((with_reducible apply k_isiT); (focus (walk_at "hp")); (focus (with_reducible exact (.cons (.ty _) (.cons (.ty _) .nil)))); (focus (walk_at "tyx")); (focus (first | with_reducible exact ka_tuple | with_reducible exact ka_list | ((with_reducible apply ka_no); (focus walk_at "kt"); (focus walk_at "kt"))))))
local macro_rules | `(tactic| walk_at "lk") => `(tactic| rfl)
local macro_rules | `(tactic| walk_at "rd1") => `(tactic| first
  | walk_at "rs"
  | ((with_reducible apply k_ixL); (focus (walk_at "sqL")); (focus rfl))
  | ((with_reducible apply k_ixT); (focus (walk_at "sqT")); (focus rfl))
  | ((with_reducible apply k_fld); (focus (walk_at "hp")); (focus (assumption)); (focus (assumption)); (focus (walk_at "lk")))
  | ((with_reducible apply k_sfld); (focus (walk_at "hp")); (focus (assumption)); (focus (assumption)); (focus (walk_at "sl")))
  | ((with_reducible apply k_meth); (focus (walk_at "hp")); (focus (walk_at "lk")))
  | ((with_reducible apply k_I); (focus (walk_at "sd")))
  | ((with_reducible apply k_unp); (focus (walk_at "sqT")); (focus rfl))
  | ((with_reducible apply k_mul); (focus (walk_at "sd")))
  | ((with_reducible apply k_setL); (focus (walk_at "hp")); (focus rfl))
  | ((with_reducible apply k_bmL); (focus (walk_at "hp")))
  | ((with_reducible apply k_append); (focus (walk_at "hp")); (focus (walk_at "sd")))
  | ((with_reducible apply k_extend); (focus (walk_at "hp")); (focus (walk_at "hp")); (focus (walk_at "sl")))
  | ((with_reducible apply k_tup); (focus (walk_at "sl")); intro _ _)
  | ((with_reducible apply k_lst); (focus (walk_at "sl")); intro _ _)
  | ((with_reducible apply k_lenS); (focus ((with_reducible apply Or.inl); walk_at "sqL")))
  | ((with_reducible apply k_lenS); (focus ((with_reducible apply Or.inr); walk_at "sqT")))
  | ((with_reducible apply k_seqL); (focus (walk_at "sqL")))
  | ((with_reducible apply k_seqT); (focus (walk_at "sqT")))
  | ((with_reducible apply k_enumT); (focus (walk_at "sqT")))
  | walk_at "isi"
  | ((with_reducible apply k_tupOfL); (focus (walk_at "sqL")); intro _ _)
  | ((with_reducible apply k_tupOfT); (focus (walk_at "sqT")))
  | ((with_reducible apply k_listOf); (focus ((with_reducible apply Or.inl); walk_at "sqL")); intro _ _)
  | ((with_reducible apply k_listOf); (focus ((with_reducible apply Or.inr); walk_at "sqT")); intro _ _)
  | (with_reducible apply k_eq_int)
  | (with_reducible apply k_ne_int)
  | (with_reducible apply k_eq_str)
  | (with_reducible apply k_ne_str)
  | (with_reducible apply k_eq_bl)
  | (with_reducible apply k_ne_bl))
local macro_rules | `(tactic| walk_at "rd") => `(tactic| repeat walk_at "rd1")

local macro_rules | `(tactic| walk_at "lk") => `(tactic| first
  | exact sf_at _
  | exact sf_no _ (by decide +kernel))
/-- the same data twice: ints, texts, tuples of such, at most n deep -/
inductive TDat (K : PySem.W.Frag) (H : Hp) : Nat → V → V → Prop where
  | int (n : Nat) (i : Int) : TDat K H n (.int i) (.int i)
  | str (n : Nat) (i : Str) : TDat K H n (.str i) (.str i)
  | tup {n : Nat} {a b : Addr} {xs ys : List V} (h1 : SqT K H a xs) (h2 : SqT K H b ys) (hl : xs.length = ys.length) (hz : ys.length ≤ 1000) (h : ∀ (i : Nat) x y, xs[i]? = some x → ys[i]? = some y → TDat K H n x y) : TDat K H (n + 1) (.ref a) (.ref b)
theorem TDat.mono {K : PySem.W.Frag} {H H' : Hp} (e : SameT H H') : ∀ {n : Nat} {x y : V}, TDat K H n x y → TDat K H' n x y
  | _, _, _, .int n i => .int n i
  | _, _, _, .str n i => .str n i
  | _, _, _, .tup h1 h2 hl hz h => .tup (sqT_mono e h1) (sqT_mono e h2) hl hz fun i x y hx hy => TDat.mono e (h i x y hx hy)
theorem tdat_step {n : Nat} {K : PySem.W.Frag} {H : Hp} {a b : Addr} {w : List Str} (h1 : SqT K H a (w.map V.str)) (h2 : SqT K H b (w.map V.str)) (hl : w.length ≤ 1000) : TDat K H (n + 1) (.ref a) (.ref b) :=
  .tup h1 h2 rfl (by rw [List.length_map]; exact hl) fun i x y hx hy => by
    rw [hx] at hy
    cases hy
    rw [List.getElem?_map] at hx
    cases e : w[i]? with
    | none =>
      rw [e] at hx
      cases hx
    | some z =>
      rw [e] at hx
      cases hx
      exact .str _ _
theorem tdat_row {K : PySem.W.Frag} {H : Hp} {a b : Addr} {ws : List (List Str)} (h1 : Row K H a ws) (h2 : Row K H b ws) (hl : ws.length ≤ 1000) (hm : ∀ x ∈ ws, x ∈ menu12) : TDat K H 2 (.ref a) (.ref b) := by
  obtain ⟨xs, a1, a2⟩ := h1
  obtain ⟨ys, b1, b2⟩ := h2
  have e1 : xs.length = ws.length := Paired.length a2
  have e2 : ys.length = ws.length := Paired.length b2
  refine .tup a1 b1 (by omega) (by omega) fun i x y hx hy => ?_
  have hi : i < ws.length := by
    have := (List.getElem?_eq_some_iff.mp hx).1
    omega
  obtain ⟨c, w, c1, c2, c3⟩ := Steps.at_ (j := i) a2 hi
  obtain ⟨d, w', d1, d2, d3⟩ := Steps.at_ (j := i) b2 hi
  rw [c2] at d2
  cases d2
  rw [c1] at hx
  rw [d1] at hy
  cases hx
  cases hy
  exact tdat_step c3 d3 (Nat.le_trans (menu_len w (hm w (List.mem_of_getElem? c2))) (by decide))
theorem menu_eqv : ∀ x ∈ menu12, PyData.eqv (stepD x) (stepD x) = true := by decide +kernel
theorem any_self {x : List Str} {ws : List (List Str)} (hm : x ∈ menu12) (h : x ∈ ws) : ((ws.map stepD).any fun z => PyData.eqv z (stepD x)) = true :=
  List.any_eq_true.mpr ⟨stepD x, List.mem_map.mpr ⟨x, h, rfl⟩, menu_eqv x hm⟩
def spSame (K : PySem.W.Frag) (n : Nat) : Sp := fun vs H Q _ => ∃ x y, vs = [x, y] ∧ TDat K H n x y ∧ ∀ H', Same H H' → Q (.bl true) H'
set_option maxHeartbeats 4000000
section
variable {P : Program} {w : World} {K : PySem.W.Frag} {mg : Str → Option Value} {base : Heap}
theorem same_step (T : Txt P K mg) {n : Nat} {sp' : Sp} (G : FnOk P w K mg base CX0 n T.f__law_same T.d__law_same ["actual", "expected"] sp')
    (hG : ∀ (m : Nat) (H : Hp) (x y : V) (Q : VK) (E : XK), n = m + 1 → TDat K H m x y → (∀ H', Same H H' → Q (.bl true) H') → sp' [x, y] H Q E) :
    FnOk P w K mg base CX0 (n + 1) T.f__law_same T.d__law_same ["actual", "expected"] (spSame K n) := by
  refine T.F__law_same.ok sc__law_same (fun vs H Q E h => ?_) (fun cdv A outer s H vs Q E hr h => ?_)
  · obtain ⟨x, y, rfl, _⟩ := h
    rfl
  · obtain ⟨x, y, rfl, h, k⟩ := h
    refine ⟨_, (pss_cons (ps_if (pt_val (pe_callB (call_isiUk K) (by rfl) T.m_isinstance b_isinstance (pa_cons (pv 1) (pa_cons (pe_tup (pa_cons (pe_bty (by rfl) T.m_list b_list) (pa_cons (pe_bty (by rfl) T.m_tuple b_tuple) pa_nil))) pa_nil)))) (pss_cons (ps_if (pt_cmpR (op_neUk K (hu65 hr)) (pe_callB (call_isiUk K) (by rfl) T.m_isinstance b_isinstance (pa_cons (pv 0) (pa_cons (pe_bty (by rfl) T.m_list b_list) pa_nil))) (pe_callB (call_isiUk K) (by rfl) T.m_isinstance b_isinstance (pa_cons (pv 1) (pa_cons (pe_bty (by rfl) T.m_list b_list) pa_nil))) (nomark _)) (pss_one (ps_ret pe_bl)) pss_nil)
  (pss_cons (ps_if (PW.pt (pw_or (pt_cmpR (op_neUk K (hu65 hr)) (pe_callB (call_isiUk K) (by rfl) T.m_isinstance b_isinstance (pa_cons (pv 0) (pa_cons (pe_bty (by rfl) T.m_tuple b_tuple) pa_nil))) (pe_callB (call_isiUk K) (by rfl) T.m_isinstance b_isinstance (pa_cons (pv 1) (pa_cons (pe_bty (by rfl) T.m_tuple b_tuple) pa_nil))) (nomark _)) (pw_or1 (pt_cmpR (op_neUk K (hu65 hr)) (pe_callB (call_lenUk K) (by rfl) T.m_len b_len (pa_cons (pv 0) pa_nil)) (pe_callB (call_lenUk K) (by rfl) T.m_len b_len (pa_cons (pv 1) pa_nil)) (nomark _))))) (pss_one (ps_ret pe_bl)) pss_nil)
  (pss_cons (ps_for PassesOwn.never rfl (pi_range1 (by rfl) T.m_range (pa_cons (pe_callB (call_lenUk K) (by rfl) T.m_len b_len (pa_cons (pv 1) pa_nil)) pa_nil)) (pg_name (i := 2) sc__law_same.nd rfl (Or.inl rfl))
  (pss_one (ps_if (pt_not (pt_val (pe_call G hr (by rfl) T.m__law_same T.F__law_same.kp T.b__law_same .nil pass0 (pa_cons (pe_ix (ix_seqk K) (pv 0) (pv 2) (fun _ _ => rfl)) (pa_cons (pe_ix (ix_seqk K) (pv 1) (pv 2) (fun _ _ => rfl)) pa_nil))))) (pss_one (ps_ret pe_bl)) pss_nil)))
  (pss_one (ps_ret pe_bl))))) pss_nil)
  (pss_cons (ps_if (pt_val (pe_callB (call_isiUk K) (by rfl) T.m_isinstance b_isinstance (pa_cons (pv 1) (pa_cons (pe_bty (by rfl) T.m_str b_str) pa_nil)))) (pss_one (ps_ret (pe_and (pe_callB (call_isiUk K) (by rfl) T.m_isinstance b_isinstance (pa_cons (pv 0) (pa_cons (pe_bty (by rfl) T.m_str b_str) pa_nil))) (pe_one (pe_cmpR (op_eqUk K (hu65 hr)) (pv 0) (pv 1) (nomark _)))))) pss_nil)
  (pss_cons (ps_if (pt_val (pe_callB (call_isiUk K) (by rfl) T.m_isinstance b_isinstance (pa_cons (pv 1) (pa_cons (pe_bty (by rfl) T.m_bool b_bool) pa_nil)))) (pss_one (ps_ret (pe_and (pe_callB (call_isiUk K) (by rfl) T.m_isinstance b_isinstance (pa_cons (pv 0) (pa_cons (pe_bty (by rfl) T.m_bool b_bool) pa_nil))) (pe_one (pe_cmpR (op_eqUk K (hu65 hr)) (pv 0) (pv 1) (nomark _)))))) pss_nil)
  (pss_one (ps_ret (pe_and (pe_callB (call_isiUk K) (by rfl) T.m_isinstance b_isinstance (pa_cons (pv 0) (pa_cons (pe_bty (by rfl) T.m_int b_int) pa_nil))) (pe_and (pe_not (pe_callB (call_isiUk K) (by rfl) T.m_isinstance b_isinstance (pa_cons (pv 0) (pa_cons (pe_bty (by rfl) T.m_bool b_bool) pa_nil)))) (pe_one (pe_cmpR (op_eqUk K (hu65 hr)) (pv 0) (pv 1) (nomark _)))))))))), ?_⟩
    cases h with
    | int n i =>
      walk_at "rd"
      rename_i p np
      exact k _ (fun b o e => lk_new e np)
    | str n i =>
      walk_at "rd"
      rename_i p np
      exact k _ (fun b o e => lk_new e np)
    | @tup m a b xs ys h1 h2 hl hz hd =>
      walk_at "rd"
      have e1 : (!decide ((xs.length : Int) = (ys.length : Int))) = false := by
        rw [hl]
        simp
      rw [e1]
      simp only [Bool.false_eq_true, if_false]
      walk_at "rd"
      refine k_rng1 (by omega) (by omega) ?_
      refine k_for walk_range (fun i σ H' => ∃ v : Option V, σ = [some (.ref a), some (.ref b), v] ∧ Same H H') ⟨none, rfl, fun c o e => lk_new e (by assumption)⟩ (fun _ _ _ _ _ => True.intro) ?_ ?_
      · rintro i x σ H1 H2 hi ⟨v, rfl, s1⟩ ⟨rfl, rfl⟩
        have hi' : i < ys.length := by omega
        have g1 := sqT_mono (SameT.of s1) h1
        have g2 := sqT_mono (SameT.of s1) h2
        have x1 := List.getElem?_eq_getElem (l := xs) (i := i) (by omega)
        have x2 := List.getElem?_eq_getElem hi'
        walk_at "rd"
        refine k_ixT g1 (at_of (j := i) (by omega) x1) ?_
        walk_at "rd"
        refine k_ixT g2 (at_of (j := i) (by omega) x2) ?_
        walk_at "rd"
        refine hG m _ _ _ _ _ rfl ((hd i _ _ x1 x2).mono (SameT.of s1)) fun H3 s3 => ?_
        walk_at "rd"
        exact ⟨_, rfl, fun c o e => s3 c o (s1 c o e)⟩
      · rintro σ H1 ⟨v, rfl, s1⟩
        walk_at "rd"
        exact k _ s1
theorem ok__law_same (T : Txt P K mg) : ∀ n : Nat, FnOk P w K mg base CX0 (n + 1) T.f__law_same T.d__law_same ["actual", "expected"] (spSame K n)
  | 0 => same_step T (sp' := fun _ _ _ _ => False) ⟨fun _ _ _ _ h => h.elim, fun _ _ _ _ _ _ _ _ _ _ _ _ _ h => h.elim⟩ fun _ _ _ _ _ _ e => nomatch e
  | n + 1 => same_step T (ok__law_same T n) fun m H x y Q E e h k => ⟨x, y, rfl, by cases e; exact h, k⟩
end
end Y


set_option Elab.async false
set_option linter.all false
set_option maxRecDepth 100000
namespace Y
open PySem L2
local macro_rules | `(tactic| walk_at "ne") => `(tactic| first
  | with_reducible assumption
  | ((with_reducible apply Ne.symm); (focus with_reducible assumption))
  | ((with_reducible apply ne_new); (focus with_reducible assumption); (focus walk_at "hp"))
  | ((with_reducible apply ne_new'); (focus with_reducible assumption); (focus walk_at "hp")))
local macro_rules | `(tactic| walk_at "hp1") => `(tactic| first
  | ((with_reducible apply lk_new2); (focus with_reducible assumption))
  | ((with_reducible apply lk_ne2); (focus walk_at "ne"))
  | ((with_reducible apply Same.get); (focus with_reducible assumption))
  | ((with_reducible apply But.get2); (focus with_reducible assumption); (focus walk_at "ne")))
local macro_rules | `(tactic| walk_at "hp") => `(tactic| first
  | with_reducible assumption
  | with_reducible exact upd_same
  | ((walk_at "hp1"); (walk_at "hp")))
local macro_rules | `(tactic| walk_at "sm1") => `(tactic| first
  | ((with_reducible apply Same.linkN); (focus with_reducible assumption))
  | ((with_reducible apply Same.linkU); (focus with_reducible assumption))
  | ((with_reducible apply Same.link); (focus with_reducible assumption)))
local macro_rules | `(tactic| walk_at "sm") => `(tactic| first
  | with_reducible assumption
  | with_reducible exact Same.refl _
  | ((walk_at "sm1"); (walk_at "sm")))
local macro_rules | `(tactic| walk_at "bt1") => `(tactic| first
  | ((with_reducible apply But.linkN); (focus with_reducible assumption))
  | ((with_reducible apply But.linkU); (focus with_reducible assumption))
  | (with_reducible apply But.linkA)
  | ((with_reducible apply But.link); (focus with_reducible assumption))
  | ((with_reducible apply But.linkS); (focus with_reducible assumption)))
local macro_rules | `(tactic| walk_at "bt") => `(tactic| first
  | with_reducible assumption
  | with_reducible exact But.refl _ _
  | ((walk_at "bt1"); (walk_at "bt")))
local macro_rules | `(tactic| walk_at "rs") => `(tactic| simp only [e_C, e_var0, e_varS, e_op, e_op1, e_un, e_fld, e_tup, e_lst, e_cons, e_cons1, e_cons2, e_nil, e_call, e_call1, e_CB, e_meth, e_make, e_B, e_test, e_B1, e_if, e_if1, e_ifS, e_ifS1, e_and, e_andc, e_or, e_orc, e_not, e_not1, e_andV, e_andVc, e_orV, e_orVc, e_notV, e_notV1, e_seq, e_next, e_break, e_cont, e_drop, e_drop1, e_ret, e_retN, e_asg, e_name, e_part, e_part1, e_noPart, e_sl, e_sl1, e_sl2, e_sl3, o_add_int, o_I0, o_un, c_int, c_intB, c_abs, c_max, c_min, k_isN, k_notN, k_isB, k_notB, e_sub, e_sub1, cx_K, cx_noxK, e_for, e_rng1, e_rng2, e_seqI, e_enumT, e_enum, e_gname, e_lc, e_lcT, e_yes, e_bm, e_par, e_par1, e_par3, e_par31, e_chain, e_chain1, e_chain2, e_chain3, e_sfld, e_sfld1, List.set, ite_true, ite_false, eq_self, Bool.false_eq_true, decide_eq_true_eq, L2.start, List.map, List.length_cons, List.length_nil, List.replicate, Nat.add_one_sub_one, Nat.sub_self, List.nil_append, List.cons_append, Int.reduceToNat, Int.reducePow, Int.reduceMul, Int.reduceAdd, Int.reduceSub, Int.reduceNeg, Int.reduceLT, Int.reduceLE, Int.reduceEq, Bool.not_false, Bool.not_true, L2.wipe, e_never, e_m1, e_m1a, e_m1b, e_asgT, e_gcons, e_gnil, e_callD, e_opS, e_raise, e_mkErr, e_fldErr, decide_true, decide_false, not_true_eq_false, not_false_eq_true, reduceCtorEq])
local macro_rules | `(tactic| walk_at "sd") => `(tactic| first
  | assumption
  | decide
  | omega
  | (dsimp only; omega)
  | exact wide_div (b := 450) (by omega) (by omega) (by decide) (by decide)
  | exact mulX (a := 450) (b := 450) (by omega) (by omega) (by decide) (by decide) (by decide)
  | exact powW (b := 450) (by omega) (by omega) (by decide) (by decide))
local macro_rules | `(tactic| walk_at "sl") => `(tactic| first | omega | (simp only [List.length_cons, List.length_nil, List.length_append]; omega))
local macro_rules | `(tactic| walk_at "sqL1") => `(tactic| first
  | ((with_reducible apply sqL_new2); (focus with_reducible assumption))
  | ((with_reducible apply sqL_link); (focus with_reducible assumption)))
local macro_rules | `(tactic| walk_at "sqL") => `(tactic| first
  | with_reducible assumption
  | ((with_reducible apply SqL.of); focus walk_at "hp")
  | ((walk_at "sqL1"); (walk_at "sqL")))
local macro_rules | `(tactic| walk_at "sqT1") => `(tactic| first
  | ((with_reducible apply sqT_new2); (focus with_reducible assumption))
  | ((with_reducible apply sqT_link); (focus with_reducible assumption)))
local macro_rules | `(tactic| walk_at "sqT") => `(tactic| first
  | with_reducible assumption
  | ((with_reducible apply SqT.of); focus walk_at "hp")
  | ((walk_at "sqT1"); (walk_at "sqT")))
local macro_rules | `(tactic| walk_at "kt") => `(tactic| first
  | with_reducible exact kt_self
  | with_reducible exact kt_int_bool
  | with_reducible exact kt_int_str
  | with_reducible exact kt_int_list
  | with_reducible exact kt_int_tuple
  | with_reducible exact kt_bool_int
  | with_reducible exact kt_bool_str
  | with_reducible exact kt_bool_list
  | with_reducible exact kt_bool_tuple
  | with_reducible exact kt_str_int
  | with_reducible exact kt_str_bool
  | with_reducible exact kt_str_list
  | with_reducible exact kt_str_tuple
  | with_reducible exact kt_non_int
  | with_reducible exact kt_non_bool
  | with_reducible exact kt_non_str
  | with_reducible exact kt_non_list
  | with_reducible exact kt_non_tuple
  | with_reducible exact kt_tuple_int
  | with_reducible exact kt_tuple_bool
  | with_reducible exact kt_tuple_str
  | with_reducible exact kt_tuple_list
  | with_reducible exact kt_list_int
  | with_reducible exact kt_list_bool
  | with_reducible exact kt_list_str
  | with_reducible exact kt_list_tuple
  | with_reducible exact kt_dict_int
  | with_reducible exact kt_dict_bool
  | with_reducible exact kt_dict_str
  | with_reducible exact kt_dict_list
  | with_reducible exact kt_dict_tuple)
local macro_rules | `(tactic| walk_at "tyx") => `(tactic| first
  | with_reducible exact .base (.int _)
  | with_reducible exact .base (.str _)
  | with_reducible exact .base (.bl _)
  | with_reducible exact .base .non
  | ((with_reducible apply tyx_tup); focus walk_at "sqT")
  | ((with_reducible apply tyx_lst); focus walk_at "sqL")
  | ((with_reducible apply TyX.base); (focus ((with_reducible apply TyOf.dK); focus walk_at "hp"))))
local macro_rules | `(tactic| walk_at "isi") => `(tactic| first
  | ((with_reducible apply k_isi); (focus (with_reducible exact (ClsV.ty _))); (focus (walk_at "tyx")); (focus (walk_at "kt")))
  | ((with_reducible apply k_isiT); (focus (walk_at "hp")); (focus (with_reducible exact (.cons (.ty _) (.cons (.ty _) .nil)))); (focus (walk_at "tyx")); (focus (first | with_reducible exact ka_tuple | with_reducible exact ka_list | ((with_reducible apply ka_no); (focus walk_at "kt"); (focus walk_at "kt"))))))
local macro_rules | `(tactic| walk_at "lk") => `(tactic| rfl)
local macro_rules | `(tactic| walk_at "rd1") => `(tactic| first
  | walk_at "rs"
  | ((with_reducible apply k_ixL); (focus (walk_at "sqL")); (focus rfl))
  | ((with_reducible apply k_ixT); (focus (walk_at "sqT")); (focus rfl))
  | ((with_reducible apply k_fld); (focus (walk_at "hp")); (focus (assumption)); (focus (assumption)); (focus (walk_at "lk")))
  | ((with_reducible apply k_sfld); (focus (walk_at "hp")); (focus (assumption)); (focus (assumption)); (focus (walk_at "sl")))
  | ((with_reducible apply k_meth); (focus (walk_at "hp")); (focus (walk_at "lk")))
  | ((with_reducible apply k_I); (focus (walk_at "sd")))
  | ((with_reducible apply k_unp); (focus (walk_at "sqT")); (focus rfl))
  | ((with_reducible apply k_mul); (focus (walk_at "sd")))
  | ((with_reducible apply k_setL); (focus (walk_at "hp")); (focus rfl))
  | ((with_reducible apply k_bmL); (focus (walk_at "hp")))
  | ((with_reducible apply k_append); (focus (walk_at "hp")); (focus (walk_at "sd")))
  | ((with_reducible apply k_extend); (focus (walk_at "hp")); (focus (walk_at "hp")); (focus (walk_at "sl")))
  | ((with_reducible apply k_tup); (focus (walk_at "sl")); intro _ _)
  | ((with_reducible apply k_lst); (focus (walk_at "sl")); intro _ _)
  | ((with_reducible apply k_lenS); (focus ((with_reducible apply Or.inl); walk_at "sqL")))
  | ((with_reducible apply k_lenS); (focus ((with_reducible apply Or.inr); walk_at "sqT")))
  | ((with_reducible apply k_seqL); (focus (walk_at "sqL")))
  | ((with_reducible apply k_seqT); (focus (walk_at "sqT")))
  | ((with_reducible apply k_enumT); (focus (walk_at "sqT")))
  | walk_at "isi"
  | ((with_reducible apply k_tupOfL); (focus (walk_at "sqL")); intro _ _)
  | ((with_reducible apply k_tupOfT); (focus (walk_at "sqT")))
  | ((with_reducible apply k_listOf); (focus ((with_reducible apply Or.inl); walk_at "sqL")); intro _ _)
  | ((with_reducible apply k_listOf); (focus ((with_reducible apply Or.inr); walk_at "sqT")); intro _ _)
  | (with_reducible apply k_eq_int)
  | (with_reducible apply k_ne_int)
  | (with_reducible apply k_eq_str)
  | (with_reducible apply k_ne_str)
  | (with_reducible apply k_eq_bl)
  | (with_reducible apply k_ne_bl))
local macro_rules | `(tactic| walk_at "rd") => `(tactic| repeat walk_at "rd1")

local macro_rules | `(tactic| walk_at "lk") => `(tactic| first
  | exact sf_at _
  | exact sf_no _ (by decide +kernel))
def stepText (w : List Str) : Str := Txt.join " " w
def textOf (ws : List (List Str)) : Str := if ws = [] then "nothing" else Txt.join ", " (ws.map stepText)
theorem menu_text : ∀ w ∈ menu12, (w.map (·.length)).sum + w.length * 1 ≤ 100 ∧ (stepText w).length ≤ 20 := by decide +kernel
theorem texts_len : ∀ (ws : List (List Str)), (∀ x ∈ ws, x ∈ menu12) → ((ws.map stepText).map (·.length)).sum ≤ 20 * ws.length
  | [], _ => Nat.le_refl _
  | w :: ws, h => by
    have h1 := (menu_text w (h w List.mem_cons_self)).2
    have h2 := texts_len ws fun x hx => h x (List.mem_cons_of_mem _ hx)
    simp only [List.map_cons, List.sum_cons, List.length_cons]
    omega
def spStepText (K : PySem.W.Frag) : Sp := fun vs H Q _ => ∃ (a : Addr) (x : List Str), vs = [.ref a] ∧ SqT K H a (x.map V.str) ∧ x ∈ menu12 ∧ Q (.str (stepText x)) H
def spText (K : PySem.W.Frag) (C : Addr) : Sp := fun vs H Q _ => ∃ (p : Addr) (ws : List (List Str)), vs = [.ref p] ∧ ScrAt K C H p ws ∧ ∀ H', Same H H' → Q (.str (textOf ws)) H'
def spTextR (K : PySem.W.Frag) : Sp := fun vs H Q _ => ∃ (r : Addr) (ws : List (List Str)), vs = [.ref r] ∧ Row K H r ws ∧ ws.length ≤ 100 ∧ (∀ x ∈ ws, x ∈ menu12) ∧ ∀ H', Same H H' → Q (.str (textOf ws)) H'
theorem textOf_cons {ws : List (List Str)} (h : ws ≠ []) : textOf ws = Txt.join ", " (ws.map stepText) := by
  unfold textOf
  rw [if_neg h]
set_option maxHeartbeats 4000000
section
variable {P : Program} {w : World} {K : PySem.W.Frag} {mg : Str → Option Value} {base : Heap}
theorem ok_step_text (T : Txt P K mg) : FnOk P w K mg base CX0 1 T.f_step_text T.d_step_text ["step"] (spStepText K) := by
  refine T.F_step_text.ok sc_step_text (fun vs H Q E h => ?_) (fun cdv A outer s H vs Q E hr h => ?_)
  · obtain ⟨a, x, rfl, _⟩ := h
    rfl
  · obtain ⟨a, x, rfl, ha, hx, k⟩ := h
    refine ⟨_, (pss_one (ps_ret (pe_joink K pe_str (pv 0)))), ?_⟩
    walk_at "rd"
    refine k_join (.inr ha) ?_ k
    have h := (menu_text x hx).1
    have e : (Str.ofString " ").length = 1 := by decide
    rw [e]
    omega
theorem ok_script_text (T : Txt P K mg) : FnOk P w K mg base CX0 3 T.f_script_text T.d_script_text ["script"] (spText K T.a_Script) := by
  refine T.F_script_text.ok sc_script_text (fun vs H Q E h => ?_) (fun cdv A outer s H vs Q E hr h => ?_)
  · obtain ⟨p, ws, rfl, _⟩ := h
    rfl
  · obtain ⟨p, ws, rfl, S, k⟩ := h
    refine ⟨_, (pss_cons (ps_if (pt_cmpR (op_eqUk K (hu65 hr)) (pe_callB (call_lenO T.me_Script___len__.at_ T.me_Script___len__.fn (ok_Script___len__ T) (hr.mono (by decide)) T.b_Script___len__ pass0) (by rfl) T.m_len b_len (pa_cons (pv 0) pa_nil)) pe_int (nomark _)) (pss_one (ps_ret (pe_gstr (by rfl) T.m_NO_STEPS))) pss_nil)
  (pss_one (ps_ret (pe_joink K pe_str (pe_lc (own := [("step", 1)]) (g := (gName 1)) (tt := tYes) rfl sc_script_text.nd (pi_seqk K (pe_meth0 (pv 0) T.cl_Script T.me_Script_steps (ok_Script_steps T) (hr.mono (by decide)) T.b_Script_steps .nil pass0)) (blkOk_by (own := [("step", 1)]) (N := N_script_text) (sc := defScope s_script_text) (by decide +kernel)) (fun _ _ _ _ _ => (pg_name (i := 1) sc_script_text.nd rfl (Or.inl rfl))) (fun _ _ _ _ _ => pts_nil) (fun _ _ _ _ _ => (pe_call (ok_step_text T) (hr.mono (by decide)) (by rfl) T.m_step_text T.F_step_text.kp T.b_step_text .nil pass0 (pa_cons (pv 1) pa_nil)))))))), ?_⟩
    have c1 := T.cl_Script
    obtain ⟨⟨dx, l, xs, h1, h2, h3⟩, h4, h5⟩ := id S
    walk_at "rd"
    refine ⟨p, dx, _, rfl, h1, p, ws, rfl, S, ws.length, rfl, by omega, ?_⟩
    walk_at "rd"
    refine ite2 (fun h0 => ?_) (fun h0 => ?_)
    · have e : ws = [] := List.eq_nil_of_length_eq_zero (by omega)
      subst e
      walk_at "rd"
      exact k H (Same.refl H)
    · have hne : ws ≠ [] := fun e => h0 (by rw [e]; rfl)
      rw [textOf_cons hne] at k
      walk_at "rd"
      refine ⟨p, ws, rfl, S, fun r H1 nr s1 ⟨ys, y1, y2⟩ => ?_⟩
      have ey := y2.len
      walk_at "rd"
      refine k_lc walk_tup fun D nD => ⟨fun i H' => Same H1 H' ∧ H' D = some (.lst (((ws.take i).map stepText).map V.str)), ⟨Same.new nD, upd_same⟩, fun i H' _ h => sqT_mono (SameT.of h.1) y1, ?_, ?_⟩
      · rintro i y H2 H3 hi ⟨s2, hD⟩ ⟨rfl, hy⟩
        obtain ⟨b, wd, hb1, hb2, hb3⟩ := Steps.at_ (j := i) (y2.mono (SameT.of s2)) (by omega)
        rw [hb1] at hy
        cases hy
        walk_at "rs"
        refine ⟨trivial, ?_⟩
        walk_at "rd"
        refine ⟨b, wd, rfl, hb3, h5 wd (List.mem_of_getElem? hb2), ?_⟩
        refine k_acc hD (by rw [List.length_map, List.length_map, List.length_take]; omega) ⟨Same.upd_new s2 nD, ?_⟩
        rw [upd_same, List.take_add_one, hb2]
        simp
      · rintro H2 ⟨s2, hD⟩
        rw [ey, List.take_length] at hD
        walk_at "rd"
        refine k_join (.inl (SqL.of hD)) ?_ (k H2 (by walk_at "sm"))
        have hl := texts_len ws h5
        have e : (Str.ofString ", ").length = 2 := by decide
        rw [e, List.length_map]
        omega
theorem ok__law_script_text (T : Txt P K mg) : FnOk P w K mg base CX0 1 T.f__law_script_text T.d__law_script_text ["row"] (spTextR K) := by
  refine T.F__law_script_text.ok sc__law_script_text (fun vs H Q E h => ?_) (fun cdv A outer s H vs Q E hr h => ?_)
  · obtain ⟨r, ws, rfl, _⟩ := h
    rfl
  · obtain ⟨r, ws, rfl, R, hl, hm, k⟩ := h
    refine ⟨_, (pss_one (ps_ret (pe_ifExp (pt_cmpR (op_neUk K (hu65 hr)) (pv 0) (pe_tup pa_nil) (nomark _)) (pe_joink K pe_str (pe_lc (own := [("step", 1)]) (g := (gName 1)) (tt := tYes) rfl sc__law_script_text.nd (pi_seqk K (pv 0)) (blkOk_by (own := [("step", 1)]) (N := N__law_script_text) (sc := defScope s__law_script_text) (by decide +kernel)) (fun _ _ _ _ _ => (pg_name (i := 1) sc__law_script_text.nd rfl (Or.inl rfl))) (fun _ _ _ _ _ => pts_nil) (fun _ _ _ _ _ => (pe_joink K pe_str (pe_callTy (call_list_ofk K) (by rfl) T.m_list b_list (pa_cons (pv 1) pa_nil)))))) pe_str))), ?_⟩
    obtain ⟨ys, y1, y2⟩ := id R
    have ey := y2.len
    walk_at "rd"
    refine k_ne_D (R.mono (SameT.of (Same.new (by assumption)))).dp (.tup (SqT.of upd_same) .nil) (steps_shaped hm).2 (by decide) ?_
    have e0 : PyData.eqv (.tuple (ws.map stepD)) (.tuple []) = decide (ws = []) := by
      cases ws with
      | nil => rfl
      | cons a b => simp [PyData.eqv, PyData.eqvAll]
    rw [e0]
    by_cases hne : ws = []
    · subst hne
      walk_at "rd"
      exact k _ (by walk_at "sm")
    · rw [textOf_cons hne] at k
      rw [decide_eq_false hne]
      rename_i t nt
      have st : Same H (upd H t (.tup [])) := Same.new nt
      walk_at "rd"
      refine k_lc walk_tup fun D nD => ⟨fun i H' => Same H H' ∧ H' D = some (.lst (((ws.take i).map stepText).map V.str)), ⟨st.trans (Same.new nD), upd_same⟩, fun i H' _ h => sqT_mono (SameT.of h.1) y1, ?_, ?_⟩
      · rintro i y H2 H3 hi ⟨s2, hD⟩ ⟨rfl, hy⟩
        obtain ⟨b, wd, hb1, hb2, hb3⟩ := Steps.at_ (j := i) (y2.mono (SameT.of s2)) (by omega)
        rw [hb1] at hy
        cases hy
        have hm1 := menu_text wd (hm wd (List.mem_of_getElem? hb2))
        walk_at "rs"
        refine ⟨trivial, ?_⟩
        walk_at "rd"
        rename_i c nc
        refine k_join (.inl (SqL.of upd_same)) ?_ ?_
        · have e : (Str.ofString " ").length = 1 := by decide
          rw [e]
          omega
        · refine k_acc (lk_new hD nc) (by rw [List.length_map, List.length_map, List.length_take]; omega) ⟨Same.upd_new (s2.trans (Same.new nc)) (Same.none_of st nD), ?_⟩
          rw [upd_same, List.take_add_one, hb2]
          simp [stepText]
      · rintro H2 ⟨s2, hD⟩
        rw [ey, List.take_length] at hD
        walk_at "rd"
        refine k_join (.inl (SqL.of hD)) ?_ (k H2 (by walk_at "sm"))
        have hl := texts_len ws hm
        have e : (Str.ofString ", ").length = 2 := by decide
        rw [e, List.length_map]
        omega
def spTexted (K : PySem.W.Frag) (C : Addr) : Sp := fun vs H Q _ => ∃ (p r : Addr) (ws : List (List Str)), vs = [.ref p, .ref r] ∧ ScrAt K C H p ws ∧ Row K H r ws ∧ ∀ H', Same H H' → Q (.bl true) H'
theorem ok__law_texted (T : Txt P K mg) : FnOk P w K mg base CX0 4 T.f__law_texted T.d__law_texted ["work", "row"] (spTexted K T.a_Script) := by
  refine T.F__law_texted.ok sc__law_texted (fun vs H Q E h => ?_) (fun cdv A outer s H vs Q E hr h => ?_)
  · obtain ⟨p, r, ws, rfl, _⟩ := h
    rfl
  · obtain ⟨p, r, ws, rfl, S, R, k⟩ := h
    refine ⟨_, (pss_one (ps_ret (pe_and (pe_call (ok__law_same T 2) (hr.mono (by decide)) (by rfl) T.m__law_same T.F__law_same.kp T.b__law_same .nil pass0 (pa_cons (pe_call (ok_script_text T) (hr.mono (by decide)) (by rfl) T.m_script_text T.F_script_text.kp T.b_script_text .nil pass0 (pa_cons (pv 0) pa_nil)) (pa_cons (pe_call (ok__law_script_text T) (hr.mono (by decide)) (by rfl) T.m__law_script_text T.F__law_script_text.kp T.b__law_script_text .nil pass0 (pa_cons (pv 1) pa_nil)) pa_nil))) (pe_one (pe_call (ok__law_same T 2) (hr.mono (by decide)) (by rfl) T.m__law_same T.F__law_same.kp T.b__law_same .nil pass0 (pa_cons (pe_meth0 (pv 0) T.cl_Script T.me_Script_steps (ok_Script_steps T) (hr.mono (by decide)) T.b_Script_steps .nil pass0) (pa_cons (pv 1) pa_nil))))))), ?_⟩
    have c1 := T.cl_Script
    obtain ⟨⟨dx, l, xs, h1, h2, h3⟩, h4, h5⟩ := id S
    walk_at "rd"
    refine ⟨p, ws, rfl, S, fun H1 s1 => ?_⟩
    walk_at "rd"
    refine ⟨r, ws, rfl, R.mono (SameT.of s1), by omega, h5, fun H2 s2 => ?_⟩
    walk_at "rd"
    refine ⟨_, _, rfl, .str _ _, fun H3 s3 => ?_⟩
    walk_at "rd"
    refine ⟨p, ws, rfl, S.same (s1.trans (s2.trans s3)), fun q H4 nq s4 R4 => ?_⟩
    walk_at "rd"
    exact ⟨_, _, rfl, tdat_row R4 (R.mono (SameT.of (s1.trans (s2.trans (s3.trans s4))))) (by omega) h5, fun H5 s5 => k _ (by walk_at "sm")⟩
end
end Y


set_option Elab.async false
set_option linter.all false
set_option maxRecDepth 100000
namespace Y
open PySem L2
local macro_rules | `(tactic| walk_at "ne") => `(tactic| first
  | with_reducible assumption
  | ((with_reducible apply Ne.symm); (focus with_reducible assumption))
  | ((with_reducible apply ne_new); (focus with_reducible assumption); (focus walk_at "hp"))
  | ((with_reducible apply ne_new'); (focus with_reducible assumption); (focus walk_at "hp")))
local macro_rules | `(tactic| walk_at "hp1") => `(tactic| first
  | ((with_reducible apply lk_new2); (focus with_reducible assumption))
  | ((with_reducible apply lk_ne2); (focus walk_at "ne"))
  | ((with_reducible apply Same.get); (focus with_reducible assumption))
  | ((with_reducible apply But.get2); (focus with_reducible assumption); (focus walk_at "ne")))
local macro_rules | `(tactic| walk_at "hp") => `(tactic| first
  | with_reducible assumption
  | with_reducible exact upd_same
  | ((walk_at "hp1"); (walk_at "hp")))
local macro_rules | `(tactic| walk_at "sm1") => `(tactic| first
  | ((with_reducible apply Same.linkN); (focus with_reducible assumption))
  | ((with_reducible apply Same.linkU); (focus with_reducible assumption))
  | ((with_reducible apply Same.link); (focus with_reducible assumption)))
local macro_rules | `(tactic| walk_at "sm") => `(tactic| first
  | with_reducible assumption
  | with_reducible exact Same.refl _
  | ((walk_at "sm1"); (walk_at "sm")))
local macro_rules | `(tactic| walk_at "bt1") => `(tactic| first
  | ((with_reducible apply But.linkN); (focus with_reducible assumption))
  | ((with_reducible apply But.linkU); (focus with_reducible assumption))
  | (with_reducible apply But.linkA)
  | ((with_reducible apply But.link); (focus with_reducible assumption))
  | ((with_reducible apply But.linkS); (focus with_reducible assumption)))
local macro_rules | `(tactic| walk_at "bt") => `(tactic| first
  | with_reducible assumption
  | with_reducible exact But.refl _ _
  | ((walk_at "bt1"); (walk_at "bt")))
local macro_rules | `(tactic| walk_at "rs") => `(tactic| simp only [e_C, e_var0, e_varS, e_op, e_op1, e_un, e_fld, e_tup, e_lst, e_cons, e_cons1, e_cons2, e_nil, e_call, e_call1, e_CB, e_meth, e_make, e_B, e_test, e_B1, e_if, e_if1, e_ifS, e_ifS1, e_and, e_andc, e_or, e_orc, e_not, e_not1, e_andV, e_andVc, e_orV, e_orVc, e_notV, e_notV1, e_seq, e_next, e_break, e_cont, e_drop, e_drop1, e_ret, e_retN, e_asg, e_name, e_part, e_part1, e_noPart, e_sl, e_sl1, e_sl2, e_sl3, o_add_int, o_I0, o_un, c_int, c_intB, c_abs, c_max, c_min, k_isN, k_notN, k_isB, k_notB, e_sub, e_sub1, cx_K, cx_noxK, e_for, e_rng1, e_rng2, e_seqI, e_enumT, e_enum, e_gname, e_lc, e_lcT, e_yes, e_bm, e_par, e_par1, e_par3, e_par31, e_chain, e_chain1, e_chain2, e_chain3, e_sfld, e_sfld1, List.set, ite_true, ite_false, eq_self, Bool.false_eq_true, decide_eq_true_eq, L2.start, List.map, List.length_cons, List.length_nil, List.replicate, Nat.add_one_sub_one, Nat.sub_self, List.nil_append, List.cons_append, Int.reduceToNat, Int.reducePow, Int.reduceMul, Int.reduceAdd, Int.reduceSub, Int.reduceNeg, Int.reduceLT, Int.reduceLE, Int.reduceEq, Bool.not_false, Bool.not_true, L2.wipe, e_never, e_m1, e_m1a, e_m1b, e_asgT, e_gcons, e_gnil, e_callD, e_opS, e_raise, e_mkErr, e_fldErr, decide_true, decide_false, not_true_eq_false, not_false_eq_true, reduceCtorEq])
local macro_rules | `(tactic| walk_at "sd") => `(tactic| first
  | assumption
  | decide
  | omega
  | (dsimp only; omega)
  | exact wide_div (b := 450) (by omega) (by omega) (by decide) (by decide)
  | exact mulX (a := 450) (b := 450) (by omega) (by omega) (by decide) (by decide) (by decide)
  | exact powW (b := 450) (by omega) (by omega) (by decide) (by decide))
local macro_rules | `(tactic| walk_at "sl") => `(tactic| first | omega | (simp only [List.length_cons, List.length_nil, List.length_append]; omega))
local macro_rules | `(tactic| walk_at "sqL1") => `(tactic| first
  | ((with_reducible apply sqL_new2); (focus with_reducible assumption))
  | ((with_reducible apply sqL_link); (focus with_reducible assumption)))
local macro_rules | `(tactic| walk_at "sqL") => `(tactic| first
  | with_reducible assumption
  | ((with_reducible apply SqL.of); focus walk_at "hp")
  | ((walk_at "sqL1"); (walk_at "sqL")))
local macro_rules | `(tactic| walk_at "sqT1") => `(tactic| first
  | ((with_reducible apply sqT_new2); (focus with_reducible assumption))
  | ((with_reducible apply sqT_link); (focus with_reducible assumption)))
local macro_rules | `(tactic| walk_at "sqT") => `(tactic| first
  | with_reducible assumption
  | ((with_reducible apply SqT.of); focus walk_at "hp")
  | ((walk_at "sqT1"); (walk_at "sqT")))
local macro_rules | `(tactic| walk_at "kt") => `(tactic| first
  | with_reducible exact kt_self
  | with_reducible exact kt_int_bool
  | with_reducible exact kt_int_str
  | with_reducible exact kt_int_list
  | with_reducible exact kt_int_tuple
  | with_reducible exact kt_bool_int
  | with_reducible exact kt_bool_str
  | with_reducible exact kt_bool_list
  | with_reducible exact kt_bool_tuple
  | with_reducible exact kt_str_int
  | with_reducible exact kt_str_bool
  | with_reducible exact kt_str_list
  | with_reducible exact kt_str_tuple
  | with_reducible exact kt_non_int
  | with_reducible exact kt_non_bool
  | with_reducible exact kt_non_str
  | with_reducible exact kt_non_list
  | with_reducible exact kt_non_tuple
  | with_reducible exact kt_tuple_int
  | with_reducible exact kt_tuple_bool
  | with_reducible exact kt_tuple_str
  | with_reducible exact kt_tuple_list
  | with_reducible exact kt_list_int
  | with_reducible exact kt_list_bool
  | with_reducible exact kt_list_str
  | with_reducible exact kt_list_tuple
  | with_reducible exact kt_dict_int
  | with_reducible exact kt_dict_bool
  | with_reducible exact kt_dict_str
  | with_reducible exact kt_dict_list
  | with_reducible exact kt_dict_tuple)
local macro_rules | `(tactic| walk_at "tyx") => `(tactic| first
  | with_reducible exact .base (.int _)
  | with_reducible exact .base (.str _)
  | with_reducible exact .base (.bl _)
  | with_reducible exact .base .non
  | ((with_reducible apply tyx_tup); focus walk_at "sqT")
  | ((with_reducible apply tyx_lst); focus walk_at "sqL")
  | ((with_reducible apply TyX.base); (focus ((with_reducible apply TyOf.dK); focus walk_at "hp"))))
local macro_rules | `(tactic| walk_at "isi") => `(tactic| first
  | ((with_reducible apply k_isi); (focus (with_reducible exact (ClsV.ty _))); (focus (walk_at "tyx")); (focus (walk_at "kt")))
  | ((with_reducible apply k_isiT); (focus (walk_at "hp")); (focus (with_reducible exact (.cons (.ty _) (.cons (.ty _) .nil)))); (focus (walk_at "tyx")); (focus (first | with_reducible exact ka_tuple | with_reducible exact ka_list | ((with_reducible apply ka_no); (focus walk_at "kt"); (focus walk_at "kt"))))))
local macro_rules | `(tactic| walk_at "lk") => `(tactic| rfl)
local macro_rules | `(tactic| walk_at "rd1") => `(tactic| first
  | walk_at "rs"
  | ((with_reducible apply k_ixL); (focus (walk_at "sqL")); (focus rfl))
  | ((with_reducible apply k_ixT); (focus (walk_at "sqT")); (focus rfl))
  | ((with_reducible apply k_fld); (focus (walk_at "hp")); (focus (assumption)); (focus (assumption)); (focus (walk_at "lk")))
  | ((with_reducible apply k_sfld); (focus (walk_at "hp")); (focus (assumption)); (focus (assumption)); (focus (walk_at "sl")))
  | ((with_reducible apply k_meth); (focus (walk_at "hp")); (focus (walk_at "lk")))
  | ((with_reducible apply k_I); (focus (walk_at "sd")))
  | ((with_reducible apply k_unp); (focus (walk_at "sqT")); (focus rfl))
  | ((with_reducible apply k_mul); (focus (walk_at "sd")))
  | ((with_reducible apply k_setL); (focus (walk_at "hp")); (focus rfl))
  | ((with_reducible apply k_bmL); (focus (walk_at "hp")))
  | ((with_reducible apply k_append); (focus (walk_at "hp")); (focus (walk_at "sd")))
  | ((with_reducible apply k_extend); (focus (walk_at "hp")); (focus (walk_at "hp")); (focus (walk_at "sl")))
  | ((with_reducible apply k_tup); (focus (walk_at "sl")); intro _ _)
  | ((with_reducible apply k_lst); (focus (walk_at "sl")); intro _ _)
  | ((with_reducible apply k_lenS); (focus ((with_reducible apply Or.inl); walk_at "sqL")))
  | ((with_reducible apply k_lenS); (focus ((with_reducible apply Or.inr); walk_at "sqT")))
  | ((with_reducible apply k_seqL); (focus (walk_at "sqL")))
  | ((with_reducible apply k_seqT); (focus (walk_at "sqT")))
  | ((with_reducible apply k_enumT); (focus (walk_at "sqT")))
  | walk_at "isi"
  | ((with_reducible apply k_tupOfL); (focus (walk_at "sqL")); intro _ _)
  | ((with_reducible apply k_tupOfT); (focus (walk_at "sqT")))
  | ((with_reducible apply k_listOf); (focus ((with_reducible apply Or.inl); walk_at "sqL")); intro _ _)
  | ((with_reducible apply k_listOf); (focus ((with_reducible apply Or.inr); walk_at "sqT")); intro _ _)
  | (with_reducible apply k_eq_int)
  | (with_reducible apply k_ne_int)
  | (with_reducible apply k_eq_str)
  | (with_reducible apply k_ne_str)
  | (with_reducible apply k_eq_bl)
  | (with_reducible apply k_ne_bl))
local macro_rules | `(tactic| walk_at "rd") => `(tactic| repeat walk_at "rd1")

/-- what held holds: a script and its row -/
def HeldAt (K : PySem.W.Frag) (C hl : Addr) (H : Hp) (v : V) : Prop := ∃ (t p l r : Addr) (ws : List (List Str)), v = .ref t ∧ SqT K H t [.ref p, .ref r] ∧ ScrL K C H p l ws ∧ l ≠ hl ∧ Row K H r ws
theorem HeldAt.same {K : PySem.W.Frag} {C hl : Addr} {H H' : Hp} {v : V} (e : Same H H') : HeldAt K C hl H v → HeldAt K C hl H' v :=
  fun ⟨t, p, l, r, ws, h1, h2, h3, h4, h5⟩ => ⟨t, p, l, r, ws, h1, sqT_mono (SameT.of e) h2, h3.same e, h4, h5.mono (SameT.of e)⟩
theorem HeldAt.lst {K : PySem.W.Frag} {C hl : Addr} {H : Hp} {v : V} {xs ys : List V} (e : H hl = some (.lst xs)) : HeldAt K C hl H v → HeldAt K C hl (upd H hl (.lst ys)) v := by
  rintro ⟨t, p, l, r, ws, h1, h2, ⟨dx, zs, g1, g2, g3, g4, g5⟩, h4, h5⟩
  refine ⟨t, p, l, r, ws, h1, sqT_mono (SameT.lst e) h2, ⟨dx, zs, lk_ne g1 ?_, lk_ne g2 h4, g3.mono (SameT.lst e), g4, g5⟩, h4, h5.mono (SameT.lst e)⟩
  rintro rfl
  rw [e] at g1
  cases g1
theorem ScrL.lst {K : PySem.W.Frag} {C hl p l : Addr} {H : Hp} {ws : List (List Str)} {xs ys : List V} (e : H hl = some (.lst xs)) (n : l ≠ hl) : ScrL K C H p l ws → ScrL K C (upd H hl (.lst ys)) p l ws := by
  rintro ⟨dx, zs, g1, g2, g3, g4, g5⟩
  refine ⟨dx, zs, lk_ne g1 ?_, lk_ne g2 n, g3.mono (SameT.lst e), g4, g5⟩
  rintro rfl
  rw [e] at g1
  cases g1

theorem Same.but {p : Addr} {H H1 H2 : Hp} (s : Same H H1) (b : But p H1 H2) (n : H p = none) : Same H H2 := fun c o e => b c o (s c o e) (ne_of_none e n)
def spLaw (K : PySem.W.Frag) : Sp := fun vs H Q _ => ∃ (a : Addr) (ns : List Int), vs = [.ref a] ∧ SqL K H a (ns.map V.int) ∧ ns.length ≤ 63 ∧ (∀ z ∈ ns, Builtin.Int.intBits z ≤ 1048576) ∧ ∀ H', Q (.bl true) H'

theorem k_newScr {K : PySem.W.Frag} {C CE r : Addr} {ws : List (List Str)} {E : XK} {H : Hp} {Q : VK} (R : Row K H r ws) (hl : ws.length ≤ 12) (hm : ∀ x ∈ ws, x ∈ menu12)
    (k : ∀ (x l : Addr) (H' : Hp), H x = none → H l = none → Same H H' → ScrL K C H' x l ws → Q (.ref x) H') : fMake C (spInit K C CE) [] E Q [.ref r] H := by
  intro y dz ny nd nyd
  have sm : Same H (upd (upd H dz (.own y)) y (.ins C dz [])) := fun b o e => lk_ne (lk_new e nd) (ne_of_none e ny)
  refine ⟨y, r, dz, ws, rfl, upd_same, R.mono (SameT.of sm), by omega, hm, fun _ H5 lz nl L4 f4 => ⟨rfl, ?_⟩, fun h => absurd h (by omega)⟩
  exact k y lz H5 ny (Same.none_of sm nl) (fun b o e => f4 b o (sm b o e) (ne_of_none e ny)) L4
theorem k_sumL {K : PySem.W.Frag} {C CE p q l m : Addr} {ws us : List (List Str)} {E : XK} {H : Hp} {Q : VK} (S1 : ScrL K C H p l ws) (S2 : ScrL K C H q m us) (hl : ws.length + us.length ≤ 12)
    (k : ∀ (x n : Addr) (H' : Hp), H x = none → H n = none → Same H H' → ScrL K C H' x n (ws ++ us) → Q (.ref x) H') : fOp2 (rAddO C (spAdd K C CE) E) (.ref p) Q (.ref q) H := by
  obtain ⟨dx, a, h1, _⟩ := id S1
  obtain ⟨dy, b, g1, _⟩ := id S2
  exact ⟨p, q, dx, dy, _, _, rfl, rfl, h1, g1, p, q, ws, us, rfl, S1.at_, S2.at_, fun _ x n H' nx nl s L => k x n H' nx nl s L, fun h => absurd h (by omega)⟩

set_option maxHeartbeats 4000000
section
variable {P : Program} {w : World} {K : PySem.W.Frag} {mg : Str → Option Value} {base : Heap}
theorem ok_law (T : Txt P K mg) : FnOk P w K mg base CX0 7 T.f_law T.d_law ["script"] (spLaw K) := by
  refine T.F_law.ok sc_law (fun vs H Q E h => ?_) (fun cdv A outer s H vs Q E hr h => ?_)
  · obtain ⟨a, ns, rfl, _⟩ := h
    rfl
  · obtain ⟨a, ns, rfl, ha, hl, hb, k⟩ := h
    refine ⟨_, (pss_cons (ps_set (i := 1) sc_law.nd rfl (Or.inl rfl) (pe_lst pa_nil))
  (pss_cons (ps_for PassesOwn.never rfl (pi_range1 (by rfl) T.m_range (pa_cons (pe_callB (call_max2 rfl) (by rfl) T.m_max b_max (pa_cons pe_int (pa_cons (pe_callB (call_lenUk K) (by rfl) T.m_len b_len (pa_cons (pv 0) pa_nil)) pa_nil))) pa_nil)) (pg_name (i := 2) sc_law.nd rfl (Or.inl rfl))
  (pss_cons (ps_set (i := 3) sc_law.nd rfl (Or.inl rfl) (pe_call (ok__law_well T) (hr.mono (by decide)) (by rfl) T.m__law_well T.F__law_well.kp T.b__law_well .nil pass0 (pa_cons (pv 0) (pa_cons (pv 2) pa_nil))))
  (pss_cons (ps_par (i := 4) (j := 5) rfl sc_law.nd rfl rfl (by decide) rfl rfl (pa_cons (pe_call (ok__law_row T) (hr.mono (by decide)) (by rfl) T.m__law_row T.F__law_row.kp T.b__law_row .nil pass0 (pa_cons (pv 3) (pa_cons pe_int pa_nil))) (pa_cons (pe_call (ok__law_row T) (hr.mono (by decide)) (by rfl) T.m__law_row T.F__law_row.kp T.b__law_row .nil pass0 (pa_cons (pv 3) (pa_cons pe_int pa_nil))) pa_nil)) (by rfl))
  (pss_cons (ps_set (i := 6) sc_law.nd rfl (Or.inl rfl) (pe_make T.M_Script (ok_Script___init__ T) (hr.mono (by decide)) (by rfl) T.m_Script T.b_Script___init__ .nil passX0 (pa_cons (pv 4) pa_nil)))
  (pss_cons (ps_expr (pe_bm PySem.F.plainAttrs_list PySem.F.slot_list_append PySem.F.type_list_append mt_append (pv 1) (pa_cons (pe_tup (pa_cons (pv 6) (pa_cons (pv 4) pa_nil))) pa_nil)))
  (pss_cons (ps_if (PW.pt (pw_or (pt_not (pt_val (pe_call (ok__law_texted T) (hr.mono (by decide)) (by rfl) T.m__law_texted T.F__law_texted.kp T.b__law_texted .nil pass0 (pa_cons (pv 6) (pa_cons (pv 4) pa_nil))))) (pw_or1 (pt_not (pt_val (pe_call (ok__law_texted T) (hr.mono (by decide)) (by rfl) T.m__law_texted T.F__law_texted.kp T.b__law_texted .nil pass0 (pa_cons (pv 6) (pa_cons (pv 4) pa_nil)))))))) (pss_one (ps_ret pe_bl)) pss_nil)
  (pss_cons (ps_if (PW.pt (pw_and (pt_cmpR op_lt (pe_op (op_addUk K) (pe_callB (call_lenUk K) (by rfl) T.m_len b_len (pa_cons (pv 4) pa_nil)) (pe_callB (call_lenUk K) (by rfl) T.m_len b_len (pa_cons (pv 5) pa_nil))) pe_int (nomark _)) (pw_and1 (pt_not (pt_val (pe_call (ok__law_texted T) (hr.mono (by decide)) (by rfl) T.m__law_texted T.F__law_texted.kp T.b__law_texted .nil pass0 (pa_cons (pe_op (op_addO T.me_Script___add__.at_ T.me_Script___add__.fn T.sf_Script (ok_Script___add__ T) (hr.mono (by decide)) T.b_Script___add__ passX0) (pv 6) (pe_make T.M_Script (ok_Script___init__ T) (hr.mono (by decide)) (by rfl) T.m_Script T.b_Script___init__ .nil passX0 (pa_cons (pv 5) pa_nil))) (pa_cons (pe_op (op_addUk K) (pv 4) (pv 5)) pa_nil)))))))) (pss_one (ps_ret pe_bl)) pss_nil)
  (pss_one (ps_for PassesOwn.never rfl (pi_range1 (by rfl) T.m_range (pa_cons (pe_callB (call_lenUk K) (by rfl) T.m_len b_len (pa_cons (pv 4) pa_nil)) pa_nil)) (pg_name (i := 7) sc_law.nd rfl (Or.inl rfl))
  (pss_one (ps_if (pt_not (pt_val (pe_call (ok__law_texted T) (hr.mono (by decide)) (by rfl) T.m__law_texted T.F__law_texted.kp T.b__law_texted .nil pass0 (pa_cons (pe_meth (pv 6) T.cl_Script T.me_Script_without (ok_Script_without T) (hr.mono (by decide)) T.b_Script_without .nil passX0 (pa_cons (pv 7) pa_nil)) (pa_cons (pe_op (op_addUk K) (pe_slice (sl_Uk K) (pv 4) po_none (po_some (pv 7))) (pe_slice (sl_Uk K) (pv 4) (po_some (pe_op (op_addUk K) (pv 7) pe_int)) po_none)) pa_nil))))) (pss_one (ps_ret pe_bl)) pss_nil)))))))))))
  (pss_cons (ps_for PassesOwn.never rfl (pi_range1 (by rfl) T.m_range (pa_cons (pe_callB (call_lenUk K) (by rfl) T.m_len b_len (pa_cons (pv 1) pa_nil)) pa_nil)) (pg_name (i := 2) sc_law.nd rfl (Or.inl rfl))
  (pss_cons (ps_asg (pe_ix (ix_seqk K) (pv 1) (pe_op op_sub (pe_op op_sub (pe_callB (call_lenUk K) (by rfl) T.m_len b_len (pa_cons (pv 1) pa_nil)) pe_int) (pv 2)) (fun _ _ => rfl)) (pg_tup (n := 2) rfl (pgs_cons (pg_name (i := 6) sc_law.nd rfl (Or.inl rfl)) (pgs_cons (pg_name (i := 4) sc_law.nd rfl (Or.inl rfl)) pgs_nil))))
  (pss_one (ps_if (pt_not (pt_val (pe_call (ok__law_texted T) (hr.mono (by decide)) (by rfl) T.m__law_texted T.F__law_texted.kp T.b__law_texted .nil pass0 (pa_cons (pv 6) (pa_cons (pv 4) pa_nil))))) (pss_one (ps_ret pe_bl)) pss_nil))))
  (pss_one (ps_ret pe_bl))))), ?_⟩
    have c1 := T.cl_Script
    walk_at "rd"
    rename_i hd nhd
    have hN : (if ((List.map V.int ns).length : Int) > 1 then ((List.map V.int ns).length : Int) else 1) = ((max 1 ns.length : Nat) : Int) := by
      rw [List.length_map]
      split <;> omega
    rw [hN]
    refine k_rng1 (by omega) (by omega) ?_
    rw [Int.toNat_natCast]
    refine k_for walk_range (fun i σ H' => ∃ (hs : List V) (v2 v3 v4 v5 v6 v7 : Option V), σ = [some (.ref a), some (.ref hd), v2, v3, v4, v5, v6, v7] ∧ Same H H' ∧ H' hd = some (.lst hs) ∧ hs.length = i ∧ ∀ v ∈ hs, HeldAt K T.a_Script hd H' v)
      ⟨[], _, _, _, _, _, _, rfl, Same.new nhd, upd_same, rfl, fun v hv => absurd hv List.not_mem_nil⟩ (fun _ _ _ _ _ => True.intro) ?_ ?_
    · rintro i x σ H1 H2 hi ⟨hs, v2, v3, v4, v5, v6, v7, rfl, s1, hh, hlen, hall⟩ ⟨rfl, rfl⟩
      have hi' : i < 64 := by omega
      walk_at "rd"
      refine ⟨a, ns, i, by simp, sqL_same s1 ha, hb, hl, by omega, fun p H3 np s3 W3 => ?_⟩
      walk_at "rd"
      refine ⟨p, 12, 0, rfl, W3, by omega, by omega, fun r ws H4 R4 hl4 hm4 W4 b4 => ?_⟩
      have b4' : But p H3 H4 := b4
      have s4 : Same H2 H4 := Same.but s3 b4' np
      walk_at "rd"
      refine ⟨p, 3, _, rfl, W4, by omega, by omega, fun t us H5 R5 hl5 hm5 W5 b5 => ?_⟩
      have b5' : But p H4 H5 := b5
      have s5 : Same H2 H5 := Same.but s4 b5' np
      have R5' : Row K H5 r ws := R4.mono (W4.sameT b5)
      walk_at "rd"
      refine k_newScr R5' (by omega) hm4 fun x l H6 nx nl s6 L6 => ?_
      have hh6 : H6 hd = some (.lst hs) := s6 _ _ (s5 _ _ hh)
      have lh : l ≠ hd := ne_new' nl (s5 _ _ hh)
      walk_at "rd"
      rename_i tt ntt
      -- behind the append
      have e6 : Same H6 (upd H6 tt (.tup [.ref x, .ref r])) := Same.new ntt
      have hh7 := e6 _ _ hh6
      have s27 : Same H (upd (upd H6 tt (.tup [.ref x, .ref r])) hd (.lst (hs ++ [.ref tt]))) := Same.upd_new (s1.trans (s5.trans (s6.trans e6))) nhd
      have L7 : ScrL K T.a_Script (upd (upd H6 tt (.tup [.ref x, .ref r])) hd (.lst (hs ++ [.ref tt]))) x l ws := (L6.same e6).lst hh7 lh
      have R7 : Row K (upd (upd H6 tt (.tup [.ref x, .ref r])) hd (.lst (hs ++ [.ref tt]))) r ws := ((R5'.mono (SameT.of s6)).mono (SameT.of e6)).mono (SameT.lst hh7)
      have M7 : Row K (upd (upd H6 tt (.tup [.ref x, .ref r])) hd (.lst (hs ++ [.ref tt]))) t us := ((R5.mono (SameT.of s6)).mono (SameT.of e6)).mono (SameT.lst hh7)
      have hl7 : (upd (upd H6 tt (.tup [.ref x, .ref r])) hd (.lst (hs ++ [.ref tt]))) hd = some (.lst (hs ++ [.ref tt])) := upd_same
      have all7 : ∀ v ∈ hs ++ [V.ref tt], HeldAt K T.a_Script hd (upd (upd H6 tt (.tup [.ref x, .ref r])) hd (.lst (hs ++ [.ref tt]))) v := fun v hv => by
        refine HeldAt.lst (xs := hs) hh7 ?_
        rcases List.mem_append.mp hv with h | h
        · exact (hall v h).same (s5.trans (s6.trans e6))
        · rw [List.mem_singleton.mp h]
          exact ⟨tt, x, l, r, ws, rfl, SqT.of upd_same, L6.same e6, lh, (R5'.mono (SameT.of s6)).mono (SameT.of e6)⟩
      revert s27 L7 R7 M7 hl7 all7
      generalize upd (upd H6 tt (.tup [.ref x, .ref r])) hd (.lst (hs ++ [.ref tt])) = H7
      intro s27 L7 R7 M7 hl7 all7
      walk_at "rd"
      refine ⟨x, r, ws, rfl, L7.at_, R7, fun H8 s8 => ?_⟩
      walk_at "rd"
      refine ⟨x, r, ws, rfl, (L7.same s8).at_, R7.mono (SameT.of s8), fun H9 s9 => ?_⟩
      obtain ⟨zs, z1, z2⟩ := R7.mono (SameT.of (s8.trans s9))
      obtain ⟨ys, y1, y2⟩ := M7.mono (SameT.of (s8.trans s9))
      have ez := z2.len
      have ey := y2.len
      walk_at "rd"
      have loopEnd : True := trivial
      refine ite2 (fun h13 => ?_) (fun h13 => ?_)
      · refine k_newScr ⟨ys, y1, y2⟩ (by omega) hm5 fun y m H10 ny nm s10 L10 => ?_
        refine k_sumL (L7.same (s8.trans (s9.trans s10))) L10 (by omega) fun z n H11 nz nn s11 LZ => ?_
        walk_at "rd"
        refine k_catT (by walk_at "sqT") (by walk_at "sqT") (by omega) fun q H12 s12 q1 => ?_
        have RR : Row K H12 q (ws ++ us) := ⟨_, q1, (z2.mono (SameT.of (s10.trans (s11.trans s12)))).append (y2.mono (SameT.of (s10.trans (s11.trans s12))))⟩
        walk_at "rd"
        refine ⟨z, q, _, rfl, (LZ.same s12).at_, RR, fun H13 s13 => ?_⟩
        walk_at "rd"
        refine k_rng1 (by omega) (by omega) ?_
        refine k_for walk_range (fun j σ H' => ∃ v7 : Option V, σ = [some (.ref a), some (.ref hd), some (.int (0 + (i : Int))), some (.ref p), some (.ref r), some (.ref t), some (.ref x), v7] ∧ Same H7 H') ⟨_, rfl, by walk_at "sm"⟩ (fun _ _ _ _ _ => True.intro) ?_ ?_
        · rintro j x σ Ha Hb hj ⟨v7, rfl, sa⟩ ⟨rfl, rfl⟩
          have hj' : j < ws.length := by omega
          have La := L7.same sa
          obtain ⟨dx', xs', hx', _⟩ := id La
          walk_at "rd"
          refine ⟨_, j, ws, by simp, La.at_, hj', fun y m Hc ny nm sc Lc => ?_⟩
          obtain ⟨zs3, z3, z4⟩ := R7.mono (SameT.of (sa.trans sc))
          have ez3 := z4.len
          walk_at "rd"
          refine k_slT z3 fun b Hd sd b1 => ?_
          have ej : (0 : Int) + (j : Int) = ((j : Nat) : Int) := by omega
          rw [ej, cutV_eq, cutG_to] at b1
          walk_at "rd"
          refine k_slT (sqT_mono (SameT.of sd) z3) fun c He se b2 => ?_
          have ej2 : (0 : Int) + (j : Int) + 1 = ((j + 1 : Nat) : Int) := by omega
          rw [ej2, cutV_eq, cutG_from] at b2
          refine k_catT (sqT_mono (SameT.of se) b1) b2 (by rw [List.length_take, List.length_drop]; omega) fun q Hf sf q1 => ?_
          have RR : Row K Hf q (ws.take j ++ ws.drop (j + 1)) := ⟨_, q1, ((z4.take j).append (z4.drop (j + 1))).mono (SameT.of (sd.trans (se.trans sf)))⟩
          walk_at "rd"
          refine ⟨y, q, _, rfl, (Lc.same (sd.trans (se.trans sf))).at_, RR, fun Hg sg => ?_⟩
          walk_at "rd"
          exact ⟨_, rfl, by walk_at "sm"⟩
        · rintro σ Ha ⟨v7, rfl, sa⟩
          exact ⟨_, _, _, _, _, _, _, rfl, s27.trans sa, sa _ _ hl7, by rw [List.length_append, hlen]; rfl, fun v hv => (all7 v hv).same sa⟩
      · walk_at "rd"
        refine k_rng1 (by omega) (by omega) ?_
        refine k_for walk_range (fun j σ H' => ∃ v7 : Option V, σ = [some (.ref a), some (.ref hd), some (.int (0 + (i : Int))), some (.ref p), some (.ref r), some (.ref t), some (.ref x), v7] ∧ Same H7 H') ⟨_, rfl, by walk_at "sm"⟩ (fun _ _ _ _ _ => True.intro) ?_ ?_
        · rintro j x σ Ha Hb hj ⟨v7, rfl, sa⟩ ⟨rfl, rfl⟩
          have hj' : j < ws.length := by omega
          have La := L7.same sa
          obtain ⟨dx', xs', hx', _⟩ := id La
          walk_at "rd"
          refine ⟨_, j, ws, by simp, La.at_, hj', fun y m Hc ny nm sc Lc => ?_⟩
          obtain ⟨zs3, z3, z4⟩ := R7.mono (SameT.of (sa.trans sc))
          have ez3 := z4.len
          walk_at "rd"
          refine k_slT z3 fun b Hd sd b1 => ?_
          have ej : (0 : Int) + (j : Int) = ((j : Nat) : Int) := by omega
          rw [ej, cutV_eq, cutG_to] at b1
          walk_at "rd"
          refine k_slT (sqT_mono (SameT.of sd) z3) fun c He se b2 => ?_
          have ej2 : (0 : Int) + (j : Int) + 1 = ((j + 1 : Nat) : Int) := by omega
          rw [ej2, cutV_eq, cutG_from] at b2
          refine k_catT (sqT_mono (SameT.of se) b1) b2 (by rw [List.length_take, List.length_drop]; omega) fun q Hf sf q1 => ?_
          have RR : Row K Hf q (ws.take j ++ ws.drop (j + 1)) := ⟨_, q1, ((z4.take j).append (z4.drop (j + 1))).mono (SameT.of (sd.trans (se.trans sf)))⟩
          walk_at "rd"
          refine ⟨y, q, _, rfl, (Lc.same (sd.trans (se.trans sf))).at_, RR, fun Hg sg => ?_⟩
          walk_at "rd"
          exact ⟨_, rfl, by walk_at "sm"⟩
        · rintro σ Ha ⟨v7, rfl, sa⟩
          exact ⟨_, _, _, _, _, _, _, rfl, s27.trans sa, sa _ _ hl7, by rw [List.length_append, hlen]; rfl, fun v hv => (all7 v hv).same sa⟩
    · rintro σ H1 ⟨hs, v2, v3, v4, v5, v6, v7, rfl, s1, hh, hlen, hall⟩
      walk_at "rd"
      refine k_rng1 (by omega) (by omega) ?_
      refine k_for walk_range (fun j σ H' => ∃ v2 v3 v4 v5 v6 v7 : Option V, σ = [some (.ref a), some (.ref hd), v2, v3, v4, v5, v6, v7] ∧ Same H1 H') ⟨_, _, _, _, _, _, rfl, Same.refl _⟩ (fun _ _ _ _ _ => True.intro) ?_ ?_
      · rintro j x σ H2 H3 hj ⟨v2, v3, v4, v5, v6, v7, rfl, s2⟩ ⟨rfl, rfl⟩
        have hj' : j < hs.length := by omega
        walk_at "rd"
        have hg : hs[hs.length - 1 - j]? = some hs[hs.length - 1 - j] := List.getElem?_eq_getElem (by omega)
        refine k_ixL (by walk_at "sqL") (at_of (j := hs.length - 1 - j) (by omega) hg) ?_
        obtain ⟨t, p, l, r, ws, e, g1, g2, g3, g4⟩ := (hall _ (List.mem_of_getElem? hg)).same s2
        rw [e]
        walk_at "rd"
        refine ⟨p, r, ws, rfl, g2.at_, g4, fun H4 s4 => ?_⟩
        walk_at "rd"
        exact ⟨_, _, _, _, _, _, rfl, s2.trans s4⟩
      · rintro σ H2 ⟨v2, v3, v4, v5, v6, v7, rfl, s2⟩
        walk_at "rd"
        exact k _
end
end Y


set_option Elab.async false
set_option linter.all false
set_option maxRecDepth 100000
set_option maxHeartbeats 4000000
namespace Y
open PySem L2
theorem all_mk {l : PySem.W.OpenLaw} {w : World} {K : PySem.W.Frag} {h : Heap} {mg : Str → Option Value} {fa a_Script a_STEPS b_STEPS_0 b_STEPS_1 b_STEPS_2 b_STEPS_3 b_STEPS_4 b_STEPS_5 b_STEPS_6 b_STEPS_7 b_STEPS_8 b_STEPS_9 b_STEPS_10 b_STEPS_11 f_is_integer f_is_step f_Script___init__ f_Script___len__ f_Script___add__ f_Script_steps f_Script_without f_Script__has f_script_text f_step_text f__law_well f__law_draw f__law_menu f__law_row f__law_same f__law_script_text f__law_texted f_law a_NoStep f_NoStep t_NoStep N_NoStep cda_NoStep cc_NoStep : Addr} (X : K.In h) (G : h.Ns mainGlobals mg) (hfa : mg "law" = some (.ref fa))
    {od_is_integer an_is_integer od_is_step an_is_step od_Script___init__ an_Script___init__ od_Script___len__ an_Script___len__ od_Script___add__ an_Script___add__ od_Script_steps an_Script_steps od_Script_without an_Script_without od_Script__has an_Script__has od_script_text an_script_text od_step_text an_step_text od__law_well an__law_well od__law_draw an__law_draw od__law_menu an__law_menu od__law_row an__law_row od__law_same an__law_same od__law_script_text an__law_script_text od__law_texted an__law_texted od_law an_law : Option Addr} {sl_is_integer sl_is_step sl_Script___init__ sl_Script___len__ sl_Script___add__ sl_Script_steps sl_Script_without sl_Script__has sl_script_text sl_step_text sl__law_well sl__law_draw sl__law_menu sl__law_row sl__law_same sl__law_script_text sl__law_texted sl_law : Array (Option Value)}
    {oc_is_integer kV_is_integer dc_is_integer pm_is_integer cd_is_integer ct_is_integer oc_is_step kV_is_step dc_is_step pm_is_step cd_is_step ct_is_step oc_Script___init__ kV_Script___init__ dc_Script___init__ pm_Script___init__ cd_Script___init__ ct_Script___init__ oc_Script___len__ kV_Script___len__ dc_Script___len__ pm_Script___len__ cd_Script___len__ ct_Script___len__ oc_Script___add__ kV_Script___add__ dc_Script___add__ pm_Script___add__ cd_Script___add__ ct_Script___add__ oc_Script_steps kV_Script_steps dc_Script_steps pm_Script_steps cd_Script_steps ct_Script_steps oc_Script_without kV_Script_without dc_Script_without pm_Script_without cd_Script_without ct_Script_without oc_Script__has kV_Script__has dc_Script__has pm_Script__has cd_Script__has ct_Script__has oc_script_text kV_script_text dc_script_text pm_script_text cd_script_text ct_script_text oc_step_text kV_step_text dc_step_text pm_step_text cd_step_text ct_step_text oc__law_well kV__law_well dc__law_well pm__law_well cd__law_well ct__law_well oc__law_draw kV__law_draw dc__law_draw pm__law_draw cd__law_draw ct__law_draw oc__law_menu kV__law_menu dc__law_menu pm__law_menu cd__law_menu ct__law_menu oc__law_row kV__law_row dc__law_row pm__law_row cd__law_row ct__law_row oc__law_same kV__law_same dc__law_same pm__law_same cd__law_same ct__law_same oc__law_script_text kV__law_script_text dc__law_script_text pm__law_script_text cd__law_script_text ct__law_script_text oc__law_texted kV__law_texted dc__law_texted pm__law_texted cd__law_texted ct__law_texted oc_law kV_law dc_law pm_law cd_law ct_law : Value} {tk_STEPS_0_0 tk_STEPS_0_1 tk_STEPS_1_0 tk_STEPS_1_1 tk_STEPS_2_0 tk_STEPS_2_1 tk_STEPS_3_0 tk_STEPS_3_1 tk_STEPS_4_0 tk_STEPS_4_1 tk_STEPS_5_0 tk_STEPS_5_1 tk_STEPS_6_0 tk_STEPS_6_1 tk_STEPS_7_0 tk_STEPS_7_1 tk_STEPS_8_0 tk_STEPS_8_1 tk_STEPS_9_0 tk_STEPS_9_1 tk_STEPS_10_0 tk_STEPS_10_1 tk_STEPS_11_0 tk_MOST_STEPS tk_NO_STEPS : Tok} {dd_STEPS : Option Addr} {nn_STEPS : Nat} {ss_STEPS : Array (Option Value)} {dd_STEPS_0 : Option Addr} {nn_STEPS_0 : Nat} {ss_STEPS_0 : Array (Option Value)} {dd_STEPS_1 : Option Addr} {nn_STEPS_1 : Nat} {ss_STEPS_1 : Array (Option Value)} {dd_STEPS_2 : Option Addr} {nn_STEPS_2 : Nat} {ss_STEPS_2 : Array (Option Value)} {dd_STEPS_3 : Option Addr} {nn_STEPS_3 : Nat} {ss_STEPS_3 : Array (Option Value)} {dd_STEPS_4 : Option Addr} {nn_STEPS_4 : Nat} {ss_STEPS_4 : Array (Option Value)} {dd_STEPS_5 : Option Addr} {nn_STEPS_5 : Nat} {ss_STEPS_5 : Array (Option Value)} {dd_STEPS_6 : Option Addr} {nn_STEPS_6 : Nat} {ss_STEPS_6 : Array (Option Value)} {dd_STEPS_7 : Option Addr} {nn_STEPS_7 : Nat} {ss_STEPS_7 : Array (Option Value)} {dd_STEPS_8 : Option Addr} {nn_STEPS_8 : Nat} {ss_STEPS_8 : Array (Option Value)} {dd_STEPS_9 : Option Addr} {nn_STEPS_9 : Nat} {ss_STEPS_9 : Array (Option Value)} {dd_STEPS_10 : Option Addr} {nn_STEPS_10 : Nat} {ss_STEPS_10 : Array (Option Value)} {dd_STEPS_11 : Option Addr} {nn_STEPS_11 : Nat} {ss_STEPS_11 : Array (Option Value)} {nm_NoStep q_NoStep file_NoStep : Str} {bs_NoStep sub_NoStep : List Value} {sn_NoStep : List Str} {ab_NoStep : Bool} {col_NoStep : Option Bool} {m0_NoStep m1_NoStep m2_NoStep m3_NoStep m5_NoStep : Option Value} {dd_NoStep od_NoStep an_NoStep cdd_NoStep cld_NoStep : Option Addr} {oc_NoStep dc_NoStep pm_NoStep ct_NoStep ccl_NoStep cl_NoStep : Value} {sl_NoStep ccs_NoStep csl_NoStep : Array (Option Value)} {vs_NoStep : Array Value} {tf_NoStep : Tok}
    (g_Script : PySem.W.nsIn K mainGlobals "Script" = some (some (.ref a_Script)))
    (pg_Script : PySem.W.plainGet K a_Script Str.empty = true)
    (hd_Script : PySem.W.hasDictIn K a_Script = true)
    (po_Script : PySem.W.plainOver K a_Script = true)
    (sa_Script : PySem.W.findIn K (.ref a_Script) "__setattr__" = some (some (.builtin "object.__setattr__")))
    (na_Script__steps : PySem.W.findIn K (.ref a_Script) "_steps" = some none)
    (g_STEPS : PySem.W.nsIn K mainGlobals "STEPS" = some (some (.ref a_STEPS)))
    (l_STEPS : K.lookup a_STEPS = some ⟨.type "tuple", dd_STEPS, .seq #[.ref b_STEPS_0, .ref b_STEPS_1, .ref b_STEPS_2, .ref b_STEPS_3, .ref b_STEPS_4, .ref b_STEPS_5, .ref b_STEPS_6, .ref b_STEPS_7, .ref b_STEPS_8, .ref b_STEPS_9, .ref b_STEPS_10, .ref b_STEPS_11] nn_STEPS, ss_STEPS⟩)
    (l_STEPS_0 : K.lookup b_STEPS_0 = some ⟨.type "tuple", dd_STEPS_0, .seq #[.str "make" tk_STEPS_0_0, .str "all" tk_STEPS_0_1] nn_STEPS_0, ss_STEPS_0⟩)
    (l_STEPS_1 : K.lookup b_STEPS_1 = some ⟨.type "tuple", dd_STEPS_1, .seq #[.str "make" tk_STEPS_1_0, .str "standing" tk_STEPS_1_1] nn_STEPS_1, ss_STEPS_1⟩)
    (l_STEPS_2 : K.lookup b_STEPS_2 = some ⟨.type "tuple", dd_STEPS_2, .seq #[.str "start" tk_STEPS_2_0, .str "new" tk_STEPS_2_1] nn_STEPS_2, ss_STEPS_2⟩)
    (l_STEPS_3 : K.lookup b_STEPS_3 = some ⟨.type "tuple", dd_STEPS_3, .seq #[.str "start" tk_STEPS_3_0, .str "all" tk_STEPS_3_1] nn_STEPS_3, ss_STEPS_3⟩)
    (l_STEPS_4 : K.lookup b_STEPS_4 = some ⟨.type "tuple", dd_STEPS_4, .seq #[.str "start" tk_STEPS_4_0, .str "free" tk_STEPS_4_1] nn_STEPS_4, ss_STEPS_4⟩)
    (l_STEPS_5 : K.lookup b_STEPS_5 = some ⟨.type "tuple", dd_STEPS_5, .seq #[.str "label" tk_STEPS_5_0, .str "new" tk_STEPS_5_1] nn_STEPS_5, ss_STEPS_5⟩)
    (l_STEPS_6 : K.lookup b_STEPS_6 = some ⟨.type "tuple", dd_STEPS_6, .seq #[.str "label" tk_STEPS_6_0, .str "all" tk_STEPS_6_1] nn_STEPS_6, ss_STEPS_6⟩)
    (l_STEPS_7 : K.lookup b_STEPS_7 = some ⟨.type "tuple", dd_STEPS_7, .seq #[.str "label" tk_STEPS_7_0, .str "free" tk_STEPS_7_1] nn_STEPS_7, ss_STEPS_7⟩)
    (l_STEPS_8 : K.lookup b_STEPS_8 = some ⟨.type "tuple", dd_STEPS_8, .seq #[.str "tie" tk_STEPS_8_0, .str "new" tk_STEPS_8_1] nn_STEPS_8, ss_STEPS_8⟩)
    (l_STEPS_9 : K.lookup b_STEPS_9 = some ⟨.type "tuple", dd_STEPS_9, .seq #[.str "tie" tk_STEPS_9_0, .str "all" tk_STEPS_9_1] nn_STEPS_9, ss_STEPS_9⟩)
    (l_STEPS_10 : K.lookup b_STEPS_10 = some ⟨.type "tuple", dd_STEPS_10, .seq #[.str "tie" tk_STEPS_10_0, .str "free" tk_STEPS_10_1] nn_STEPS_10, ss_STEPS_10⟩)
    (l_STEPS_11 : K.lookup b_STEPS_11 = some ⟨.type "tuple", dd_STEPS_11, .seq #[.str "drop" tk_STEPS_11_0] nn_STEPS_11, ss_STEPS_11⟩)
    (g_is_integer : PySem.W.nsIn K mainGlobals "is_integer" = some (some (.ref f_is_integer)))
    (l_is_integer : K.lookup f_is_integer = some ⟨oc_is_integer, od_is_integer, .func (PySem.W.fnOf "is_integer" "is_integer" (defArgs s_is_integer) (defBody s_is_integer) (defScope s_is_integer) .none kV_is_integer dc_is_integer pm_is_integer an_is_integer cd_is_integer ct_is_integer), sl_is_integer⟩)
    (c_is_integer : PySem.W.codeIn K cd_is_integer "is_integer" = true)
    (k_is_integer : PySem.W.keepIn K (.ref f_is_integer) = true)
    (g_is_step : PySem.W.nsIn K mainGlobals "is_step" = some (some (.ref f_is_step)))
    (l_is_step : K.lookup f_is_step = some ⟨oc_is_step, od_is_step, .func (PySem.W.fnOf "is_step" "is_step" (defArgs s_is_step) (defBody s_is_step) (defScope s_is_step) .none kV_is_step dc_is_step pm_is_step an_is_step cd_is_step ct_is_step), sl_is_step⟩)
    (c_is_step : PySem.W.codeIn K cd_is_step "is_step" = true)
    (k_is_step : PySem.W.keepIn K (.ref f_is_step) = true)
    (fi_Script___init__ : PySem.W.findIn K (.ref a_Script) "__init__" = some (some (.ref f_Script___init__)))
    (isf_Script___init__ : PySem.W.isFn K (.ref f_Script___init__) = true)
    (l_Script___init__ : K.lookup f_Script___init__ = some ⟨oc_Script___init__, od_Script___init__, .func (PySem.W.fnOf "__init__" "Script.__init__" (defArgs s_Script___init__) (defBody s_Script___init__) (defScope s_Script___init__) .none kV_Script___init__ dc_Script___init__ pm_Script___init__ an_Script___init__ cd_Script___init__ ct_Script___init__), sl_Script___init__⟩)
    (c_Script___init__ : PySem.W.codeIn K cd_Script___init__ "Script.__init__" = true)
    (k_Script___init__ : PySem.W.keepIn K (.ref f_Script___init__) = true)
    (mk_Script : PySem.W.makesIn K a_Script = true)
    (kc_Script : PySem.W.keepIn K (.ref a_Script) = true)
    (fi_Script___len__ : PySem.W.findIn K (.ref a_Script) "__len__" = some (some (.ref f_Script___len__)))
    (isf_Script___len__ : PySem.W.isFn K (.ref f_Script___len__) = true)
    (l_Script___len__ : K.lookup f_Script___len__ = some ⟨oc_Script___len__, od_Script___len__, .func (PySem.W.fnOf "__len__" "Script.__len__" (defArgs s_Script___len__) (defBody s_Script___len__) (defScope s_Script___len__) .none kV_Script___len__ dc_Script___len__ pm_Script___len__ an_Script___len__ cd_Script___len__ ct_Script___len__), sl_Script___len__⟩)
    (c_Script___len__ : PySem.W.codeIn K cd_Script___len__ "Script.__len__" = true)
    (k_Script___len__ : PySem.W.keepIn K (.ref f_Script___len__) = true)
    (fi_Script___add__ : PySem.W.findIn K (.ref a_Script) "__add__" = some (some (.ref f_Script___add__)))
    (isf_Script___add__ : PySem.W.isFn K (.ref f_Script___add__) = true)
    (l_Script___add__ : K.lookup f_Script___add__ = some ⟨oc_Script___add__, od_Script___add__, .func (PySem.W.fnOf "__add__" "Script.__add__" (defArgs s_Script___add__) (defBody s_Script___add__) (defScope s_Script___add__) .none kV_Script___add__ dc_Script___add__ pm_Script___add__ an_Script___add__ cd_Script___add__ ct_Script___add__), sl_Script___add__⟩)
    (c_Script___add__ : PySem.W.codeIn K cd_Script___add__ "Script.__add__" = true)
    (k_Script___add__ : PySem.W.keepIn K (.ref f_Script___add__) = true)
    (sf_Script : PySem.W.selfFirst K a_Script = true)
    (fi_Script_steps : PySem.W.findIn K (.ref a_Script) "steps" = some (some (.ref f_Script_steps)))
    (isf_Script_steps : PySem.W.isFn K (.ref f_Script_steps) = true)
    (l_Script_steps : K.lookup f_Script_steps = some ⟨oc_Script_steps, od_Script_steps, .func (PySem.W.fnOf "steps" "Script.steps" (defArgs s_Script_steps) (defBody s_Script_steps) (defScope s_Script_steps) .none kV_Script_steps dc_Script_steps pm_Script_steps an_Script_steps cd_Script_steps ct_Script_steps), sl_Script_steps⟩)
    (c_Script_steps : PySem.W.codeIn K cd_Script_steps "Script.steps" = true)
    (k_Script_steps : PySem.W.keepIn K (.ref f_Script_steps) = true)
    (fi_Script_without : PySem.W.findIn K (.ref a_Script) "without" = some (some (.ref f_Script_without)))
    (isf_Script_without : PySem.W.isFn K (.ref f_Script_without) = true)
    (l_Script_without : K.lookup f_Script_without = some ⟨oc_Script_without, od_Script_without, .func (PySem.W.fnOf "without" "Script.without" (defArgs s_Script_without) (defBody s_Script_without) (defScope s_Script_without) .none kV_Script_without dc_Script_without pm_Script_without an_Script_without cd_Script_without ct_Script_without), sl_Script_without⟩)
    (c_Script_without : PySem.W.codeIn K cd_Script_without "Script.without" = true)
    (k_Script_without : PySem.W.keepIn K (.ref f_Script_without) = true)
    (fi_Script__has : PySem.W.findIn K (.ref a_Script) "_has" = some (some (.ref f_Script__has)))
    (isf_Script__has : PySem.W.isFn K (.ref f_Script__has) = true)
    (l_Script__has : K.lookup f_Script__has = some ⟨oc_Script__has, od_Script__has, .func (PySem.W.fnOf "_has" "Script._has" (defArgs s_Script__has) (defBody s_Script__has) (defScope s_Script__has) .none kV_Script__has dc_Script__has pm_Script__has an_Script__has cd_Script__has ct_Script__has), sl_Script__has⟩)
    (c_Script__has : PySem.W.codeIn K cd_Script__has "Script._has" = true)
    (k_Script__has : PySem.W.keepIn K (.ref f_Script__has) = true)
    (g_script_text : PySem.W.nsIn K mainGlobals "script_text" = some (some (.ref f_script_text)))
    (l_script_text : K.lookup f_script_text = some ⟨oc_script_text, od_script_text, .func (PySem.W.fnOf "script_text" "script_text" (defArgs s_script_text) (defBody s_script_text) (defScope s_script_text) .none kV_script_text dc_script_text pm_script_text an_script_text cd_script_text ct_script_text), sl_script_text⟩)
    (c_script_text : PySem.W.codeIn K cd_script_text "script_text" = true)
    (k_script_text : PySem.W.keepIn K (.ref f_script_text) = true)
    (g_step_text : PySem.W.nsIn K mainGlobals "step_text" = some (some (.ref f_step_text)))
    (l_step_text : K.lookup f_step_text = some ⟨oc_step_text, od_step_text, .func (PySem.W.fnOf "step_text" "step_text" (defArgs s_step_text) (defBody s_step_text) (defScope s_step_text) .none kV_step_text dc_step_text pm_step_text an_step_text cd_step_text ct_step_text), sl_step_text⟩)
    (c_step_text : PySem.W.codeIn K cd_step_text "step_text" = true)
    (k_step_text : PySem.W.keepIn K (.ref f_step_text) = true)
    (g__law_well : PySem.W.nsIn K mainGlobals "_law_well" = some (some (.ref f__law_well)))
    (l__law_well : K.lookup f__law_well = some ⟨oc__law_well, od__law_well, .func (PySem.W.fnOf "_law_well" "_law_well" (defArgs s__law_well) (defBody s__law_well) (defScope s__law_well) .none kV__law_well dc__law_well pm__law_well an__law_well cd__law_well ct__law_well), sl__law_well⟩)
    (c__law_well : PySem.W.codeIn K cd__law_well "_law_well" = true)
    (k__law_well : PySem.W.keepIn K (.ref f__law_well) = true)
    (g__law_draw : PySem.W.nsIn K mainGlobals "_law_draw" = some (some (.ref f__law_draw)))
    (l__law_draw : K.lookup f__law_draw = some ⟨oc__law_draw, od__law_draw, .func (PySem.W.fnOf "_law_draw" "_law_draw" (defArgs s__law_draw) (defBody s__law_draw) (defScope s__law_draw) .none kV__law_draw dc__law_draw pm__law_draw an__law_draw cd__law_draw ct__law_draw), sl__law_draw⟩)
    (c__law_draw : PySem.W.codeIn K cd__law_draw "_law_draw" = true)
    (k__law_draw : PySem.W.keepIn K (.ref f__law_draw) = true)
    (g__law_menu : PySem.W.nsIn K mainGlobals "_law_menu" = some (some (.ref f__law_menu)))
    (l__law_menu : K.lookup f__law_menu = some ⟨oc__law_menu, od__law_menu, .func (PySem.W.fnOf "_law_menu" "_law_menu" (defArgs s__law_menu) (defBody s__law_menu) (defScope s__law_menu) .none kV__law_menu dc__law_menu pm__law_menu an__law_menu cd__law_menu ct__law_menu), sl__law_menu⟩)
    (c__law_menu : PySem.W.codeIn K cd__law_menu "_law_menu" = true)
    (k__law_menu : PySem.W.keepIn K (.ref f__law_menu) = true)
    (g__law_row : PySem.W.nsIn K mainGlobals "_law_row" = some (some (.ref f__law_row)))
    (l__law_row : K.lookup f__law_row = some ⟨oc__law_row, od__law_row, .func (PySem.W.fnOf "_law_row" "_law_row" (defArgs s__law_row) (defBody s__law_row) (defScope s__law_row) .none kV__law_row dc__law_row pm__law_row an__law_row cd__law_row ct__law_row), sl__law_row⟩)
    (c__law_row : PySem.W.codeIn K cd__law_row "_law_row" = true)
    (k__law_row : PySem.W.keepIn K (.ref f__law_row) = true)
    (g__law_same : PySem.W.nsIn K mainGlobals "_law_same" = some (some (.ref f__law_same)))
    (l__law_same : K.lookup f__law_same = some ⟨oc__law_same, od__law_same, .func (PySem.W.fnOf "_law_same" "_law_same" (defArgs s__law_same) (defBody s__law_same) (defScope s__law_same) .none kV__law_same dc__law_same pm__law_same an__law_same cd__law_same ct__law_same), sl__law_same⟩)
    (c__law_same : PySem.W.codeIn K cd__law_same "_law_same" = true)
    (k__law_same : PySem.W.keepIn K (.ref f__law_same) = true)
    (g__law_script_text : PySem.W.nsIn K mainGlobals "_law_script_text" = some (some (.ref f__law_script_text)))
    (l__law_script_text : K.lookup f__law_script_text = some ⟨oc__law_script_text, od__law_script_text, .func (PySem.W.fnOf "_law_script_text" "_law_script_text" (defArgs s__law_script_text) (defBody s__law_script_text) (defScope s__law_script_text) .none kV__law_script_text dc__law_script_text pm__law_script_text an__law_script_text cd__law_script_text ct__law_script_text), sl__law_script_text⟩)
    (c__law_script_text : PySem.W.codeIn K cd__law_script_text "_law_script_text" = true)
    (k__law_script_text : PySem.W.keepIn K (.ref f__law_script_text) = true)
    (g__law_texted : PySem.W.nsIn K mainGlobals "_law_texted" = some (some (.ref f__law_texted)))
    (l__law_texted : K.lookup f__law_texted = some ⟨oc__law_texted, od__law_texted, .func (PySem.W.fnOf "_law_texted" "_law_texted" (defArgs s__law_texted) (defBody s__law_texted) (defScope s__law_texted) .none kV__law_texted dc__law_texted pm__law_texted an__law_texted cd__law_texted ct__law_texted), sl__law_texted⟩)
    (c__law_texted : PySem.W.codeIn K cd__law_texted "_law_texted" = true)
    (k__law_texted : PySem.W.keepIn K (.ref f__law_texted) = true)
    (g_law : PySem.W.nsIn K mainGlobals "law" = some (some (.ref f_law)))
    (l_law : K.lookup f_law = some ⟨oc_law, od_law, .func (PySem.W.fnOf "law" "law" (defArgs s_law) (defBody s_law) (defScope s_law) .none kV_law dc_law pm_law an_law cd_law ct_law), sl_law⟩)
    (c_law : PySem.W.codeIn K cd_law "law" = true)
    (k_law : PySem.W.keepIn K (.ref f_law) = true)
    (g_MOST_STEPS : PySem.W.nsIn K mainGlobals "MOST_STEPS" = some (some (.int 12 tk_MOST_STEPS)))
    (g_NO_STEPS : PySem.W.nsIn K mainGlobals "NO_STEPS" = some (some (.str "nothing" tk_NO_STEPS)))
    (g_all : PySem.W.nsIn K mainGlobals "all" = some none)
    (g_bool : PySem.W.nsIn K mainGlobals "bool" = some none)
    (g_enumerate : PySem.W.nsIn K mainGlobals "enumerate" = some none)
    (g_int : PySem.W.nsIn K mainGlobals "int" = some none)
    (g_isinstance : PySem.W.nsIn K mainGlobals "isinstance" = some none)
    (g_len : PySem.W.nsIn K mainGlobals "len" = some none)
    (g_list : PySem.W.nsIn K mainGlobals "list" = some none)
    (g_max : PySem.W.nsIn K mainGlobals "max" = some none)
    (g_range : PySem.W.nsIn K mainGlobals "range" = some none)
    (g_str : PySem.W.nsIn K mainGlobals "str" = some none)
    (g_tuple : PySem.W.nsIn K mainGlobals "tuple" = some none)
    (g_super : PySem.W.nsIn K mainGlobals "super" = some none)
    (any_ : PySem.W.nsIn K cStatics "thirdparty.any" = some none)
    (top_ : (l.prog.main.scope.names.lookup ("super" : Str)).isSome = false)
    (gsn_ : PySem.W.specialIn K (.builtin "object.__class__") "__get__" = some (some (.builtin "getset_descriptor.__get__")))
    (gst_ : PySem.W.takesIn K (.builtin "object.__class__") = some true)
    (g_NoStep : PySem.W.nsIn K mainGlobals "NoStep" = some (some (.ref a_NoStep)))
    (x_NoStep : K.lookup a_NoStep = some (excClassObj nm_NoStep q_NoStep a_NoStep N_NoStep bs_NoStep [.ref t_NoStep, .type "ValueError", .type "Exception", .type "BaseException", .type "object"] true sn_NoStep sub_NoStep ab_NoStep col_NoStep dd_NoStep m0_NoStep m1_NoStep m2_NoStep m3_NoStep m5_NoStep "ValueError.__new__"))
    (sa_NoStep : PySem.W.findIn K (.ref a_NoStep) "__setattr__" = some (some (.builtin "object.__setattr__")))
    (ga_NoStep : PySem.W.findIn K (.ref a_NoStep) "__getattribute__" = some (some (.builtin "BaseException.__getattribute__")))
    (gg_NoStep : PySem.W.findIn K (.ref a_NoStep) "__getattr__" = some none)
    (nf_NoStep : PySem.W.findIn K (.ref a_NoStep) "index" = some none)
    (ic_NoStep : PySem.W.findIn K (.ref a_NoStep) "__init__" = some (some (.ref f_NoStep)))
    (ha_NoStep : PySem.W.findIn K (.ref a_NoStep) "__class__" = some (some (.builtin "object.__class__")))
    (tf__NoStep : PySem.W.typeIn K (.ref f_NoStep) = some (.type "function"))
    (kc_NoStep : PySem.W.keepIn K (.ref a_NoStep) = true)
    (ex_NoStep : PySem.W.subIn K (.ref a_NoStep) (.type "BaseException") = some true)
    (ty_NoStep : PySem.W.typeIn K (.ref a_NoStep) = some (.type "type"))
    (hd_NoStep : PySem.W.hasDictIn K a_NoStep = true)
    (ss_NoStep : PySem.W.subIn K (.ref a_NoStep) (.ref a_NoStep) = some true)
    (qi_NoStep : PySem.W.excInitIn K a_NoStep [.type "ValueError", .type "Exception", .type "BaseException", .type "object"] "ValueError.__new__" = true)
    (ve_NoStep : PySem.W.subIn K (.ref a_NoStep) (.type "ValueError") = some true)
    (mr_NoStep : PySem.W.mroIn K a_NoStep (.ref a_NoStep) = some true)
    (mo_NoStep : PySem.W.mroIn K a_NoStep (.type "object") = some true)
    (su_NoStep : PySem.W.ks_superIn K a_NoStep a_NoStep "__init__" = some (some (.builtin "ValueError.__init__")))
    (l_NoStep : K.lookup f_NoStep = some ⟨oc_NoStep, od_NoStep, .func (PySem.W.ksFn "__init__" "NoStep.__init__" (PySem.ErrX.iA "index" ⟨9, 17, 9, 21⟩ ⟨9, 23, 9, 28⟩) (PySem.ErrX.iB "index" "there is no step at this index" ⟨10, 8, 10, 13⟩ ⟨10, 8, 10, 15⟩ ⟨10, 8, 10, 24⟩ ⟨10, 25, 10, 57⟩ ⟨10, 8, 10, 58⟩ ⟨10, 8, 10, 58⟩ ⟨11, 8, 11, 12⟩ ⟨11, 8, 11, 18⟩ ⟨11, 21, 11, 26⟩ ⟨11, 8, 11, 26⟩) (PySem.ErrX.iS "index") .none .none dc_NoStep pm_NoStep an_NoStep (.ref cda_NoStep) ct_NoStep cc_NoStep), sl_NoStep⟩)
    (c_NoStep : PySem.W.codeIn K (.ref cda_NoStep) "NoStep.__init__" = true)
    (lc_NoStep : K.lookup cda_NoStep = some ⟨ccl_NoStep, cdd_NoStep, .fields vs_NoStep, ccs_NoStep⟩)
    (vv_NoStep : vs_NoStep[2]? = some (.str file_NoStep tf_NoStep))
    (ff_NoStep : ((l.prog.main.file : Str) == file_NoStep) = true)
    (cl__NoStep : K.lookup cc_NoStep = some ⟨cl_NoStep, cld_NoStep, .cell (some (.ref a_NoStep)), csl_NoStep⟩)
    (q1_Script : PySem.W.findIn K (.ref a_Script) "__class__" = some (some (.builtin "object.__class__")))
    (q2_Script : PySem.W.specialIn K (.builtin "object.__class__") "__get__" = some (some (.builtin "getset_descriptor.__get__")))
    (q3_Script : PySem.W.takesIn K (.builtin "object.__class__") = some true)
    (q4_Script : PySem.W.mroIn K a_Script (.type "object") = some true)
    : ∃ fd : FuncData, (∀ (s : Shared) (v : Value), BindsTo s fd ⟨[v], []⟩ [("script", v)]) ∧ ∀ base : Heap, K.In base → base.Ns mainGlobals mg → FnOk l.prog w K mg base CX0 7 fa fd ["script"] (spLaw K) := by
  have e := hfa.symm.trans (PySem.W.mg_of X G g_law)
  have e9 : f_law = fa := by
    cases e
    rfl
  subst e9
  have T : Nonempty (Σ' T : Txt l.prog K mg, T.f_law = f_law ∧ T.d_law = (PySem.W.fnOf "law" "law" (defArgs s_law) (defBody s_law) (defScope s_law) .none kV_law dc_law pm_law an_law cd_law ct_law)) := ⟨⟨{
    a_Script := a_Script
    m_Script := PySem.W.mg_of X G g_Script
    cl_Script := ⟨pg_Script, hd_Script, po_Script, sa_Script⟩
    na_Script__steps := na_Script__steps
    a_STEPS := a_STEPS
    dp_STEPS := fun _ => (dp_kt (xs := [.ref b_STEPS_0, .ref b_STEPS_1, .ref b_STEPS_2, .ref b_STEPS_3, .ref b_STEPS_4, .ref b_STEPS_5, .ref b_STEPS_6, .ref b_STEPS_7, .ref b_STEPS_8, .ref b_STEPS_9, .ref b_STEPS_10, .ref b_STEPS_11]) l_STEPS (by simp) (.cons rfl (.cons rfl (.cons rfl (.cons rfl (.cons rfl (.cons rfl (.cons rfl (.cons rfl (.cons rfl (.cons rfl (.cons rfl (.cons rfl .nil)))))))))))) (DpAll.cons (dp_kt (xs := [.str "make", .str "all"]) l_STEPS_0 (by simp) (.cons ⟨_, rfl⟩ (.cons ⟨_, rfl⟩ .nil)) (DpAll.cons (.str _) (DpAll.cons (.str _) DpAll.nil))) (DpAll.cons (dp_kt (xs := [.str "make", .str "standing"]) l_STEPS_1 (by simp) (.cons ⟨_, rfl⟩ (.cons ⟨_, rfl⟩ .nil)) (DpAll.cons (.str _) (DpAll.cons (.str _) DpAll.nil))) (DpAll.cons (dp_kt (xs := [.str "start", .str "new"]) l_STEPS_2 (by simp) (.cons ⟨_, rfl⟩ (.cons ⟨_, rfl⟩ .nil)) (DpAll.cons (.str _) (DpAll.cons (.str _) DpAll.nil))) (DpAll.cons (dp_kt (xs := [.str "start", .str "all"]) l_STEPS_3 (by simp) (.cons ⟨_, rfl⟩ (.cons ⟨_, rfl⟩ .nil)) (DpAll.cons (.str _) (DpAll.cons (.str _) DpAll.nil))) (DpAll.cons (dp_kt (xs := [.str "start", .str "free"]) l_STEPS_4 (by simp) (.cons ⟨_, rfl⟩ (.cons ⟨_, rfl⟩ .nil)) (DpAll.cons (.str _) (DpAll.cons (.str _) DpAll.nil))) (DpAll.cons (dp_kt (xs := [.str "label", .str "new"]) l_STEPS_5 (by simp) (.cons ⟨_, rfl⟩ (.cons ⟨_, rfl⟩ .nil)) (DpAll.cons (.str _) (DpAll.cons (.str _) DpAll.nil))) (DpAll.cons (dp_kt (xs := [.str "label", .str "all"]) l_STEPS_6 (by simp) (.cons ⟨_, rfl⟩ (.cons ⟨_, rfl⟩ .nil)) (DpAll.cons (.str _) (DpAll.cons (.str _) DpAll.nil))) (DpAll.cons (dp_kt (xs := [.str "label", .str "free"]) l_STEPS_7 (by simp) (.cons ⟨_, rfl⟩ (.cons ⟨_, rfl⟩ .nil)) (DpAll.cons (.str _) (DpAll.cons (.str _) DpAll.nil))) (DpAll.cons (dp_kt (xs := [.str "tie", .str "new"]) l_STEPS_8 (by simp) (.cons ⟨_, rfl⟩ (.cons ⟨_, rfl⟩ .nil)) (DpAll.cons (.str _) (DpAll.cons (.str _) DpAll.nil))) (DpAll.cons (dp_kt (xs := [.str "tie", .str "all"]) l_STEPS_9 (by simp) (.cons ⟨_, rfl⟩ (.cons ⟨_, rfl⟩ .nil)) (DpAll.cons (.str _) (DpAll.cons (.str _) DpAll.nil))) (DpAll.cons (dp_kt (xs := [.str "tie", .str "free"]) l_STEPS_10 (by simp) (.cons ⟨_, rfl⟩ (.cons ⟨_, rfl⟩ .nil)) (DpAll.cons (.str _) (DpAll.cons (.str _) DpAll.nil))) (DpAll.cons (dp_kt (xs := [.str "drop"]) l_STEPS_11 (by simp) (.cons ⟨_, rfl⟩ .nil) (DpAll.cons (.str _) DpAll.nil)) DpAll.nil)))))))))))))
    f_is_integer := f_is_integer
    d_is_integer := (PySem.W.fnOf "is_integer" "is_integer" (defArgs s_is_integer) (defBody s_is_integer) (defScope s_is_integer) .none kV_is_integer dc_is_integer pm_is_integer an_is_integer cd_is_integer ct_is_integer)
    F_is_integer := fun_mk (st := s_is_integer) l_is_integer c_is_integer k_is_integer
    b_is_integer := (fun_mk (st := s_is_integer) l_is_integer c_is_integer k_is_integer).binds (ps := ["value", "low", "high"]) fun _ _ _ _ _ _ us hl => match us, hl with | [_, _, _], _ => rfl
    m_is_integer := PySem.W.mg_of X G g_is_integer
    f_is_step := f_is_step
    d_is_step := (PySem.W.fnOf "is_step" "is_step" (defArgs s_is_step) (defBody s_is_step) (defScope s_is_step) .none kV_is_step dc_is_step pm_is_step an_is_step cd_is_step ct_is_step)
    F_is_step := fun_mk (st := s_is_step) l_is_step c_is_step k_is_step
    b_is_step := (fun_mk (st := s_is_step) l_is_step c_is_step k_is_step).binds (ps := ["value"]) fun _ _ _ _ _ _ us hl => match us, hl with | [_], _ => rfl
    m_is_step := PySem.W.mg_of X G g_is_step
    f_Script___init__ := f_Script___init__
    d_Script___init__ := (PySem.W.fnOf "__init__" "Script.__init__" (defArgs s_Script___init__) (defBody s_Script___init__) (defScope s_Script___init__) .none kV_Script___init__ dc_Script___init__ pm_Script___init__ an_Script___init__ cd_Script___init__ ct_Script___init__)
    F_Script___init__ := fun_mk (st := s_Script___init__) l_Script___init__ c_Script___init__ k_Script___init__
    b_Script___init__ := (fun_mk (st := s_Script___init__) l_Script___init__ c_Script___init__ k_Script___init__).binds (ps := ["self", "steps"]) fun _ _ _ _ _ _ us hl => match us, hl with | [_, _], _ => rfl
    M_Script := ⟨mk_Script, fi_Script___init__, isf_Script___init__, kc_Script⟩
    f_Script___len__ := f_Script___len__
    d_Script___len__ := (PySem.W.fnOf "__len__" "Script.__len__" (defArgs s_Script___len__) (defBody s_Script___len__) (defScope s_Script___len__) .none kV_Script___len__ dc_Script___len__ pm_Script___len__ an_Script___len__ cd_Script___len__ ct_Script___len__)
    F_Script___len__ := fun_mk (st := s_Script___len__) l_Script___len__ c_Script___len__ k_Script___len__
    b_Script___len__ := (fun_mk (st := s_Script___len__) l_Script___len__ c_Script___len__ k_Script___len__).binds (ps := ["self"]) fun _ _ _ _ _ _ us hl => match us, hl with | [_], _ => rfl
    me_Script___len__ := ⟨fi_Script___len__, isf_Script___len__, k_Script___len__⟩
    f_Script___add__ := f_Script___add__
    d_Script___add__ := (PySem.W.fnOf "__add__" "Script.__add__" (defArgs s_Script___add__) (defBody s_Script___add__) (defScope s_Script___add__) .none kV_Script___add__ dc_Script___add__ pm_Script___add__ an_Script___add__ cd_Script___add__ ct_Script___add__)
    F_Script___add__ := fun_mk (st := s_Script___add__) l_Script___add__ c_Script___add__ k_Script___add__
    b_Script___add__ := (fun_mk (st := s_Script___add__) l_Script___add__ c_Script___add__ k_Script___add__).binds (ps := ["self", "other"]) fun _ _ _ _ _ _ us hl => match us, hl with | [_, _], _ => rfl
    me_Script___add__ := ⟨fi_Script___add__, isf_Script___add__, k_Script___add__⟩
    sf_Script := sf_Script
    f_Script_steps := f_Script_steps
    d_Script_steps := (PySem.W.fnOf "steps" "Script.steps" (defArgs s_Script_steps) (defBody s_Script_steps) (defScope s_Script_steps) .none kV_Script_steps dc_Script_steps pm_Script_steps an_Script_steps cd_Script_steps ct_Script_steps)
    F_Script_steps := fun_mk (st := s_Script_steps) l_Script_steps c_Script_steps k_Script_steps
    b_Script_steps := (fun_mk (st := s_Script_steps) l_Script_steps c_Script_steps k_Script_steps).binds (ps := ["self"]) fun _ _ _ _ _ _ us hl => match us, hl with | [_], _ => rfl
    me_Script_steps := ⟨fi_Script_steps, isf_Script_steps, k_Script_steps⟩
    f_Script_without := f_Script_without
    d_Script_without := (PySem.W.fnOf "without" "Script.without" (defArgs s_Script_without) (defBody s_Script_without) (defScope s_Script_without) .none kV_Script_without dc_Script_without pm_Script_without an_Script_without cd_Script_without ct_Script_without)
    F_Script_without := fun_mk (st := s_Script_without) l_Script_without c_Script_without k_Script_without
    b_Script_without := (fun_mk (st := s_Script_without) l_Script_without c_Script_without k_Script_without).binds (ps := ["self", "index"]) fun _ _ _ _ _ _ us hl => match us, hl with | [_, _], _ => rfl
    me_Script_without := ⟨fi_Script_without, isf_Script_without, k_Script_without⟩
    f_Script__has := f_Script__has
    d_Script__has := (PySem.W.fnOf "_has" "Script._has" (defArgs s_Script__has) (defBody s_Script__has) (defScope s_Script__has) .none kV_Script__has dc_Script__has pm_Script__has an_Script__has cd_Script__has ct_Script__has)
    F_Script__has := fun_mk (st := s_Script__has) l_Script__has c_Script__has k_Script__has
    b_Script__has := (fun_mk (st := s_Script__has) l_Script__has c_Script__has k_Script__has).binds (ps := ["self", "index"]) fun _ _ _ _ _ _ us hl => match us, hl with | [_, _], _ => rfl
    me_Script__has := ⟨fi_Script__has, isf_Script__has, k_Script__has⟩
    f_script_text := f_script_text
    d_script_text := (PySem.W.fnOf "script_text" "script_text" (defArgs s_script_text) (defBody s_script_text) (defScope s_script_text) .none kV_script_text dc_script_text pm_script_text an_script_text cd_script_text ct_script_text)
    F_script_text := fun_mk (st := s_script_text) l_script_text c_script_text k_script_text
    b_script_text := (fun_mk (st := s_script_text) l_script_text c_script_text k_script_text).binds (ps := ["script"]) fun _ _ _ _ _ _ us hl => match us, hl with | [_], _ => rfl
    m_script_text := PySem.W.mg_of X G g_script_text
    f_step_text := f_step_text
    d_step_text := (PySem.W.fnOf "step_text" "step_text" (defArgs s_step_text) (defBody s_step_text) (defScope s_step_text) .none kV_step_text dc_step_text pm_step_text an_step_text cd_step_text ct_step_text)
    F_step_text := fun_mk (st := s_step_text) l_step_text c_step_text k_step_text
    b_step_text := (fun_mk (st := s_step_text) l_step_text c_step_text k_step_text).binds (ps := ["step"]) fun _ _ _ _ _ _ us hl => match us, hl with | [_], _ => rfl
    m_step_text := PySem.W.mg_of X G g_step_text
    f__law_well := f__law_well
    d__law_well := (PySem.W.fnOf "_law_well" "_law_well" (defArgs s__law_well) (defBody s__law_well) (defScope s__law_well) .none kV__law_well dc__law_well pm__law_well an__law_well cd__law_well ct__law_well)
    F__law_well := fun_mk (st := s__law_well) l__law_well c__law_well k__law_well
    b__law_well := (fun_mk (st := s__law_well) l__law_well c__law_well k__law_well).binds (ps := ["script", "k"]) fun _ _ _ _ _ _ us hl => match us, hl with | [_, _], _ => rfl
    m__law_well := PySem.W.mg_of X G g__law_well
    f__law_draw := f__law_draw
    d__law_draw := (PySem.W.fnOf "_law_draw" "_law_draw" (defArgs s__law_draw) (defBody s__law_draw) (defScope s__law_draw) .none kV__law_draw dc__law_draw pm__law_draw an__law_draw cd__law_draw ct__law_draw)
    F__law_draw := fun_mk (st := s__law_draw) l__law_draw c__law_draw k__law_draw
    b__law_draw := (fun_mk (st := s__law_draw) l__law_draw c__law_draw k__law_draw).binds (ps := ["well", "many"]) fun _ _ _ _ _ _ us hl => match us, hl with | [_, _], _ => rfl
    m__law_draw := PySem.W.mg_of X G g__law_draw
    f__law_menu := f__law_menu
    d__law_menu := (PySem.W.fnOf "_law_menu" "_law_menu" (defArgs s__law_menu) (defBody s__law_menu) (defScope s__law_menu) .none kV__law_menu dc__law_menu pm__law_menu an__law_menu cd__law_menu ct__law_menu)
    F__law_menu := fun_mk (st := s__law_menu) l__law_menu c__law_menu k__law_menu
    b__law_menu := (fun_mk (st := s__law_menu) l__law_menu c__law_menu k__law_menu).binds (ps := []) fun _ _ _ _ _ _ us hl => match us, hl with | [], _ => rfl
    m__law_menu := PySem.W.mg_of X G g__law_menu
    f__law_row := f__law_row
    d__law_row := (PySem.W.fnOf "_law_row" "_law_row" (defArgs s__law_row) (defBody s__law_row) (defScope s__law_row) .none kV__law_row dc__law_row pm__law_row an__law_row cd__law_row ct__law_row)
    F__law_row := fun_mk (st := s__law_row) l__law_row c__law_row k__law_row
    b__law_row := (fun_mk (st := s__law_row) l__law_row c__law_row k__law_row).binds (ps := ["well", "most"]) fun _ _ _ _ _ _ us hl => match us, hl with | [_, _], _ => rfl
    m__law_row := PySem.W.mg_of X G g__law_row
    f__law_same := f__law_same
    d__law_same := (PySem.W.fnOf "_law_same" "_law_same" (defArgs s__law_same) (defBody s__law_same) (defScope s__law_same) .none kV__law_same dc__law_same pm__law_same an__law_same cd__law_same ct__law_same)
    F__law_same := fun_mk (st := s__law_same) l__law_same c__law_same k__law_same
    b__law_same := (fun_mk (st := s__law_same) l__law_same c__law_same k__law_same).binds (ps := ["actual", "expected"]) fun _ _ _ _ _ _ us hl => match us, hl with | [_, _], _ => rfl
    m__law_same := PySem.W.mg_of X G g__law_same
    f__law_script_text := f__law_script_text
    d__law_script_text := (PySem.W.fnOf "_law_script_text" "_law_script_text" (defArgs s__law_script_text) (defBody s__law_script_text) (defScope s__law_script_text) .none kV__law_script_text dc__law_script_text pm__law_script_text an__law_script_text cd__law_script_text ct__law_script_text)
    F__law_script_text := fun_mk (st := s__law_script_text) l__law_script_text c__law_script_text k__law_script_text
    b__law_script_text := (fun_mk (st := s__law_script_text) l__law_script_text c__law_script_text k__law_script_text).binds (ps := ["row"]) fun _ _ _ _ _ _ us hl => match us, hl with | [_], _ => rfl
    m__law_script_text := PySem.W.mg_of X G g__law_script_text
    f__law_texted := f__law_texted
    d__law_texted := (PySem.W.fnOf "_law_texted" "_law_texted" (defArgs s__law_texted) (defBody s__law_texted) (defScope s__law_texted) .none kV__law_texted dc__law_texted pm__law_texted an__law_texted cd__law_texted ct__law_texted)
    F__law_texted := fun_mk (st := s__law_texted) l__law_texted c__law_texted k__law_texted
    b__law_texted := (fun_mk (st := s__law_texted) l__law_texted c__law_texted k__law_texted).binds (ps := ["work", "row"]) fun _ _ _ _ _ _ us hl => match us, hl with | [_, _], _ => rfl
    m__law_texted := PySem.W.mg_of X G g__law_texted
    f_law := f_law
    d_law := (PySem.W.fnOf "law" "law" (defArgs s_law) (defBody s_law) (defScope s_law) .none kV_law dc_law pm_law an_law cd_law ct_law)
    F_law := fun_mk (st := s_law) l_law c_law k_law
    b_law := (fun_mk (st := s_law) l_law c_law k_law).binds (ps := ["script"]) fun _ _ _ _ _ _ us hl => match us, hl with | [_], _ => rfl
    m_law := PySem.W.mg_of X G g_law
    m_MOST_STEPS := ⟨_, PySem.W.mg_of X G g_MOST_STEPS⟩
    m_NO_STEPS := ⟨_, PySem.W.mg_of X G g_NO_STEPS⟩
    m_STEPS := PySem.W.mg_of X G g_STEPS
    m_all := PySem.W.mg_none_of X G g_all
    m_bool := PySem.W.mg_none_of X G g_bool
    m_enumerate := PySem.W.mg_none_of X G g_enumerate
    m_int := PySem.W.mg_none_of X G g_int
    m_isinstance := PySem.W.mg_none_of X G g_isinstance
    m_len := PySem.W.mg_none_of X G g_len
    m_list := PySem.W.mg_none_of X G g_list
    m_max := PySem.W.mg_none_of X G g_max
    m_range := PySem.W.mg_none_of X G g_range
    m_str := PySem.W.mg_none_of X G g_str
    m_tuple := PySem.W.mg_none_of X G g_tuple
    a_NoStep := a_NoStep
    f_NoStep := f_NoStep
    ec_NoStep := ⟨ga_NoStep, gg_NoStep, ex_NoStep, hd_NoStep, ha_NoStep, gsn_, gst_, mo_NoStep⟩
    er_NoStep := { gC := PySem.W.mg_of X G g_NoStep, gS := PySem.W.mg_none_of X G g_super, cls := ⟨_, _, _, _, _, _, _, _, _, _, _, _, _, _, _, x_NoStep, rfl⟩, sa := sa_NoStep, ga := ga_NoStep, gg := gg_NoStep, noN := nf_NoStep, iC := ic_NoStep, tC := tf__NoStep, kC := kc_NoStep, exC := ex_NoStep, tyC := ty_NoStep, hdC := hd_NoStep, te := PySem.W.exm_ref ex_NoStep hd_NoStep ty_NoStep ss_NoStep, qI := qi_NoStep, veC := ve_NoStep, mro := mr_NoStep, sup := su_NoStep, any := any_, top := top_, fn := ⟨"NoStep.__init__", _, _, _, _, _, _, _, _, _, _, _, _, _, _, _, _, _, _, _, _, _, _, _, _, _, _, _, _, _, _, l_NoStep, c_NoStep, lc_NoStep, vv_NoStep, ff_NoStep, cl__NoStep, fun _ => _, fun _ => rfl⟩ }
    ty_Script := fun _ _ _ _ h => .base (.ins h ⟨pg_Script, hd_Script, po_Script, sa_Script⟩ q1_Script q2_Script q3_Script q4_Script)
    }, rfl, rfl⟩⟩
  obtain ⟨⟨T, e1, e2⟩⟩ := T
  refine ⟨T.d_law, ?_, fun base _ _ => ?_⟩
  · rw [e2]
    exact fun s v => .of_eq rfl
  have q : FnOk l.prog w K mg base CX0 7 T.f_law T.d_law ["script"] (spLaw K) := ok_law T
  rw [e1] at q
  exact q
theorem walk {l : PySem.W.OpenLaw} {q : Program} {loose : List Str} {XP : (Str → Option Value) → Heap → Prop} {YP : World → Heap → Prop} {d : DefRec} {K : Params → PySem.W.Frag} (hn : l.most = some 63) (hdf : d.params.defaults = [])
    (hY : ∀ (w : World) (h : Heap), YP w h → (K w.params).In h)
    (F : ∀ (w : World) (mg : Str → Option Value) (fa : Addr) (h : Heap), (K w.params).In h → h.Ns mainGlobals mg → mg d.name = some (.ref fa) →
      ∃ fd : FuncData, (∀ (s : Shared) (u : Value), BindsTo s fd ⟨[u], []⟩ [("script", u)]) ∧ ∀ base : Heap, (K w.params).In base → base.Ns mainGlobals mg → FnOk l.prog w (K w.params) mg base CX0 7 fa fd ["script"] (spLaw (K w.params))) :
    PySem.W.WalkO q loose XP YP l.row.toRowW d [] (fun f vs => PySem.call f vs) :=
  L2.walk_ofB (n := 63) (k := 7) (x := "script") (CX := fun _ => CX0) (sp := fun w => spLaw (K w.params)) hn (by decide) hdf ⟨rfl, by decide, by decide⟩ hY F (fun _ _ a ns hl hb _ hS => ⟨a, ns, rfl, hS, hl, hb, fun _ => rfl⟩) fun _ _ _ _ _ z => z
end Y
open PySem PySem.W PyProof.Rows
set_option maxRecDepth 100000 in
set_option maxHeartbeats 0 in
theorem PySem.Challenge.cw_yearturned_k10_script_texts_holds : PySem.Challenge.rw_yearturned_k10_script_texts.Holds := by
  w_on; o_law; k_head; (case hw => w_witness2)
  k_fill
  refine Y.walk (l := PySem.Challenge.rw_yearturned_k10_script_texts) rfl rfl (fun w h Y => PySem.W.kIn_of Y) ?F
  case F =>
    intro w mg fa h KX G hmg
    refine' Y.all_mk KX G hmg ?g_Script ?pg_Script ?hd_Script ?po_Script ?sa_Script ?na_Script__steps ?g_STEPS ?l_STEPS ?l_STEPS_0 ?l_STEPS_1 ?l_STEPS_2 ?l_STEPS_3 ?l_STEPS_4 ?l_STEPS_5 ?l_STEPS_6 ?l_STEPS_7 ?l_STEPS_8 ?l_STEPS_9 ?l_STEPS_10 ?l_STEPS_11 ?g_is_integer ?l_is_integer ?c_is_integer ?k_is_integer ?g_is_step ?l_is_step ?c_is_step ?k_is_step ?fi_Script___init__ ?isf_Script___init__ ?l_Script___init__ ?c_Script___init__ ?k_Script___init__ ?mk_Script ?kc_Script ?fi_Script___len__ ?isf_Script___len__ ?l_Script___len__ ?c_Script___len__ ?k_Script___len__ ?fi_Script___add__ ?isf_Script___add__ ?l_Script___add__ ?c_Script___add__ ?k_Script___add__ ?sf_Script ?fi_Script_steps ?isf_Script_steps ?l_Script_steps ?c_Script_steps ?k_Script_steps ?fi_Script_without ?isf_Script_without ?l_Script_without ?c_Script_without ?k_Script_without ?fi_Script__has ?isf_Script__has ?l_Script__has ?c_Script__has ?k_Script__has ?g_script_text ?l_script_text ?c_script_text ?k_script_text ?g_step_text ?l_step_text ?c_step_text ?k_step_text ?g__law_well ?l__law_well ?c__law_well ?k__law_well ?g__law_draw ?l__law_draw ?c__law_draw ?k__law_draw ?g__law_menu ?l__law_menu ?c__law_menu ?k__law_menu ?g__law_row ?l__law_row ?c__law_row ?k__law_row ?g__law_same ?l__law_same ?c__law_same ?k__law_same ?g__law_script_text ?l__law_script_text ?c__law_script_text ?k__law_script_text ?g__law_texted ?l__law_texted ?c__law_texted ?k__law_texted ?g_law ?l_law ?c_law ?k_law ?g_MOST_STEPS ?g_NO_STEPS ?g_all ?g_bool ?g_enumerate ?g_int ?g_isinstance ?g_len ?g_list ?g_max ?g_range ?g_str ?g_tuple ?g_super ?any_ ?top_ ?gsn_ ?gst_ ?g_NoStep ?x_NoStep ?sa_NoStep ?ga_NoStep ?gg_NoStep ?nf_NoStep ?ic_NoStep ?ha_NoStep ?tf__NoStep ?kc_NoStep ?ex_NoStep ?ty_NoStep ?hd_NoStep ?ss_NoStep ?qi_NoStep ?ve_NoStep ?mr_NoStep ?mo_NoStep ?su_NoStep ?l_NoStep ?c_NoStep ?lc_NoStep ?vv_NoStep ?ff_NoStep ?cl__NoStep ?q1_Script ?q2_Script ?q3_Script ?q4_Script
    (case g_Script => first | k_is | ks_is | rfl | decide +kernel)
    (case pg_Script => first | k_is | ks_is | rfl | decide +kernel)
    (case hd_Script => first | k_is | ks_is | rfl | decide +kernel)
    (case po_Script => first | k_is | ks_is | rfl | decide +kernel)
    (case sa_Script => first | k_is | ks_is | rfl | decide +kernel)
    (case na_Script__steps => first | k_is | ks_is | rfl | decide +kernel)
    (case g_STEPS => first | k_is | ks_is | rfl | decide +kernel)
    (case l_STEPS => first | k_is | ks_is | rfl | decide +kernel)
    (case l_STEPS_0 => first | k_is | ks_is | rfl | decide +kernel)
    (case l_STEPS_1 => first | k_is | ks_is | rfl | decide +kernel)
    (case l_STEPS_2 => first | k_is | ks_is | rfl | decide +kernel)
    (case l_STEPS_3 => first | k_is | ks_is | rfl | decide +kernel)
    (case l_STEPS_4 => first | k_is | ks_is | rfl | decide +kernel)
    (case l_STEPS_5 => first | k_is | ks_is | rfl | decide +kernel)
    (case l_STEPS_6 => first | k_is | ks_is | rfl | decide +kernel)
    (case l_STEPS_7 => first | k_is | ks_is | rfl | decide +kernel)
    (case l_STEPS_8 => first | k_is | ks_is | rfl | decide +kernel)
    (case l_STEPS_9 => first | k_is | ks_is | rfl | decide +kernel)
    (case l_STEPS_10 => first | k_is | ks_is | rfl | decide +kernel)
    (case l_STEPS_11 => first | k_is | ks_is | rfl | decide +kernel)
    (case g_is_integer => first | k_is | ks_is | rfl | decide +kernel)
    (case l_is_integer => first | k_is | ks_is | rfl | decide +kernel)
    (case c_is_integer => first | k_is | ks_is | rfl | decide +kernel)
    (case k_is_integer => first | k_is | ks_is | rfl | decide +kernel)
    (case g_is_step => first | k_is | ks_is | rfl | decide +kernel)
    (case l_is_step => first | k_is | ks_is | rfl | decide +kernel)
    (case c_is_step => first | k_is | ks_is | rfl | decide +kernel)
    (case k_is_step => first | k_is | ks_is | rfl | decide +kernel)
    (case fi_Script___init__ => first | k_is | ks_is | rfl | decide +kernel)
    (case isf_Script___init__ => first | k_is | ks_is | rfl | decide +kernel)
    (case l_Script___init__ => first | k_is | ks_is | rfl | decide +kernel)
    (case c_Script___init__ => first | k_is | ks_is | rfl | decide +kernel)
    (case k_Script___init__ => first | k_is | ks_is | rfl | decide +kernel)
    (case mk_Script => first | k_is | ks_is | rfl | decide +kernel)
    (case kc_Script => first | k_is | ks_is | rfl | decide +kernel)
    (case fi_Script___len__ => first | k_is | ks_is | rfl | decide +kernel)
    (case isf_Script___len__ => first | k_is | ks_is | rfl | decide +kernel)
    (case l_Script___len__ => first | k_is | ks_is | rfl | decide +kernel)
    (case c_Script___len__ => first | k_is | ks_is | rfl | decide +kernel)
    (case k_Script___len__ => first | k_is | ks_is | rfl | decide +kernel)
    (case fi_Script___add__ => first | k_is | ks_is | rfl | decide +kernel)
    (case isf_Script___add__ => first | k_is | ks_is | rfl | decide +kernel)
    (case l_Script___add__ => first | k_is | ks_is | rfl | decide +kernel)
    (case c_Script___add__ => first | k_is | ks_is | rfl | decide +kernel)
    (case k_Script___add__ => first | k_is | ks_is | rfl | decide +kernel)
    (case sf_Script => first | k_is | ks_is | rfl | decide +kernel)
    (case fi_Script_steps => first | k_is | ks_is | rfl | decide +kernel)
    (case isf_Script_steps => first | k_is | ks_is | rfl | decide +kernel)
    (case l_Script_steps => first | k_is | ks_is | rfl | decide +kernel)
    (case c_Script_steps => first | k_is | ks_is | rfl | decide +kernel)
    (case k_Script_steps => first | k_is | ks_is | rfl | decide +kernel)
    (case fi_Script_without => first | k_is | ks_is | rfl | decide +kernel)
    (case isf_Script_without => first | k_is | ks_is | rfl | decide +kernel)
    (case l_Script_without => first | k_is | ks_is | rfl | decide +kernel)
    (case c_Script_without => first | k_is | ks_is | rfl | decide +kernel)
    (case k_Script_without => first | k_is | ks_is | rfl | decide +kernel)
    (case fi_Script__has => first | k_is | ks_is | rfl | decide +kernel)
    (case isf_Script__has => first | k_is | ks_is | rfl | decide +kernel)
    (case l_Script__has => first | k_is | ks_is | rfl | decide +kernel)
    (case c_Script__has => first | k_is | ks_is | rfl | decide +kernel)
    (case k_Script__has => first | k_is | ks_is | rfl | decide +kernel)
    (case g_script_text => first | k_is | ks_is | rfl | decide +kernel)
    (case l_script_text => first | k_is | ks_is | rfl | decide +kernel)
    (case c_script_text => first | k_is | ks_is | rfl | decide +kernel)
    (case k_script_text => first | k_is | ks_is | rfl | decide +kernel)
    (case g_step_text => first | k_is | ks_is | rfl | decide +kernel)
    (case l_step_text => first | k_is | ks_is | rfl | decide +kernel)
    (case c_step_text => first | k_is | ks_is | rfl | decide +kernel)
    (case k_step_text => first | k_is | ks_is | rfl | decide +kernel)
    (case g__law_well => first | k_is | ks_is | rfl | decide +kernel)
    (case l__law_well => first | k_is | ks_is | rfl | decide +kernel)
    (case c__law_well => first | k_is | ks_is | rfl | decide +kernel)
    (case k__law_well => first | k_is | ks_is | rfl | decide +kernel)
    (case g__law_draw => first | k_is | ks_is | rfl | decide +kernel)
    (case l__law_draw => first | k_is | ks_is | rfl | decide +kernel)
    (case c__law_draw => first | k_is | ks_is | rfl | decide +kernel)
    (case k__law_draw => first | k_is | ks_is | rfl | decide +kernel)
    (case g__law_menu => first | k_is | ks_is | rfl | decide +kernel)
    (case l__law_menu => first | k_is | ks_is | rfl | decide +kernel)
    (case c__law_menu => first | k_is | ks_is | rfl | decide +kernel)
    (case k__law_menu => first | k_is | ks_is | rfl | decide +kernel)
    (case g__law_row => first | k_is | ks_is | rfl | decide +kernel)
    (case l__law_row => first | k_is | ks_is | rfl | decide +kernel)
    (case c__law_row => first | k_is | ks_is | rfl | decide +kernel)
    (case k__law_row => first | k_is | ks_is | rfl | decide +kernel)
    (case g__law_same => first | k_is | ks_is | rfl | decide +kernel)
    (case l__law_same => first | k_is | ks_is | rfl | decide +kernel)
    (case c__law_same => first | k_is | ks_is | rfl | decide +kernel)
    (case k__law_same => first | k_is | ks_is | rfl | decide +kernel)
    (case g__law_script_text => first | k_is | ks_is | rfl | decide +kernel)
    (case l__law_script_text => first | k_is | ks_is | rfl | decide +kernel)
    (case c__law_script_text => first | k_is | ks_is | rfl | decide +kernel)
    (case k__law_script_text => first | k_is | ks_is | rfl | decide +kernel)
    (case g__law_texted => first | k_is | ks_is | rfl | decide +kernel)
    (case l__law_texted => first | k_is | ks_is | rfl | decide +kernel)
    (case c__law_texted => first | k_is | ks_is | rfl | decide +kernel)
    (case k__law_texted => first | k_is | ks_is | rfl | decide +kernel)
    (case g_law => first | k_is | ks_is | rfl | decide +kernel)
    (case l_law => first | k_is | ks_is | rfl | decide +kernel)
    (case c_law => first | k_is | ks_is | rfl | decide +kernel)
    (case k_law => first | k_is | ks_is | rfl | decide +kernel)
    (case g_MOST_STEPS => first | k_is | ks_is | rfl | decide +kernel)
    (case g_NO_STEPS => first | k_is | ks_is | rfl | decide +kernel)
    (case g_all => first | k_is | ks_is | rfl | decide +kernel)
    (case g_bool => first | k_is | ks_is | rfl | decide +kernel)
    (case g_enumerate => first | k_is | ks_is | rfl | decide +kernel)
    (case g_int => first | k_is | ks_is | rfl | decide +kernel)
    (case g_isinstance => first | k_is | ks_is | rfl | decide +kernel)
    (case g_len => first | k_is | ks_is | rfl | decide +kernel)
    (case g_list => first | k_is | ks_is | rfl | decide +kernel)
    (case g_max => first | k_is | ks_is | rfl | decide +kernel)
    (case g_range => first | k_is | ks_is | rfl | decide +kernel)
    (case g_str => first | k_is | ks_is | rfl | decide +kernel)
    (case g_tuple => first | k_is | ks_is | rfl | decide +kernel)
    (case g_super => first | k_is | ks_is | rfl | decide +kernel)
    (case any_ => first | k_is | ks_is | rfl | decide +kernel)
    (case top_ => first | k_is | ks_is | rfl | decide +kernel)
    (case gsn_ => first | k_is | ks_is | rfl | decide +kernel)
    (case gst_ => first | k_is | ks_is | rfl | decide +kernel)
    (case g_NoStep => first | k_is | ks_is | rfl | decide +kernel)
    (case x_NoStep => first | k_is | ks_is | rfl | decide +kernel)
    (case sa_NoStep => first | k_is | ks_is | rfl | decide +kernel)
    (case ga_NoStep => first | k_is | ks_is | rfl | decide +kernel)
    (case gg_NoStep => first | k_is | ks_is | rfl | decide +kernel)
    (case nf_NoStep => first | k_is | ks_is | rfl | decide +kernel)
    (case ic_NoStep => first | k_is | ks_is | rfl | decide +kernel)
    (case ha_NoStep => first | k_is | ks_is | rfl | decide +kernel)
    (case tf__NoStep => first | k_is | ks_is | rfl | decide +kernel)
    (case kc_NoStep => first | k_is | ks_is | rfl | decide +kernel)
    (case ex_NoStep => first | k_is | ks_is | rfl | decide +kernel)
    (case ty_NoStep => first | k_is | ks_is | rfl | decide +kernel)
    (case hd_NoStep => first | k_is | ks_is | rfl | decide +kernel)
    (case ss_NoStep => first | k_is | ks_is | rfl | decide +kernel)
    (case qi_NoStep => first | k_is | ks_is | rfl | decide +kernel)
    (case ve_NoStep => first | k_is | ks_is | rfl | decide +kernel)
    (case mr_NoStep => first | k_is | ks_is | rfl | decide +kernel)
    (case mo_NoStep => first | k_is | ks_is | rfl | decide +kernel)
    (case su_NoStep => first | k_is | ks_is | rfl | decide +kernel)
    (case l_NoStep => first | k_is | ks_is | rfl | decide +kernel)
    (case c_NoStep => first | k_is | ks_is | rfl | decide +kernel)
    (case lc_NoStep => first | k_is | ks_is | rfl | decide +kernel)
    (case vv_NoStep => first | k_is | ks_is | rfl | decide +kernel)
    (case ff_NoStep => first | k_is | ks_is | rfl | decide +kernel)
    (case cl__NoStep => first | k_is | ks_is | rfl | decide +kernel)
    (case q1_Script => first | k_is | ks_is | rfl | decide +kernel)
    (case q2_Script => first | k_is | ks_is | rfl | decide +kernel)
    (case q3_Script => first | k_is | ks_is | rfl | decide +kernel)
    (case q4_Script => first | k_is | ks_is | rfl | decide +kernel)


