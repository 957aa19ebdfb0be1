import PyProof.Rows.All
import Wide.All
import OpenK.AllK
import Wide.FinOn
import HandS.ForMost
import HandS.ForExc
import HandS.Zip
import HandS.IsInst
import HandS.SortInts
import HandS.More
import KE.GoesMore
import KE.GoesZip
import HandS.SetFor
import KE.KSetDisp
import HandS.Strs
import KE.DataMinKey
import HandS.Steps
import HandS.ExcInit
import HandS.NestedK
import HandS.ExcIs
import HandS.ExcSuper
import HandS.FStr
import KE.KExcSuper
import HandS.TryMany
import HandS.ExcField
import KE.KExcIs
import HandS.WordsExc
import PyProof.FitsInt
import PyProof.StrLaws
import HandS.ExcOwn
import HandS.Style
import HandS.HotCalls
import HandS.Wide
import HandS.Conv
import HandS.Iter
import HandS.Deep
import HandS.Defaults
import HandS.MakeKw
import HandS.DictComp
import HandS.Flow
import HandS.SetKeys
import KE.KDictKeyed
import KE.KDictWalk
import HandS.TupAny
import HandS.WideBits
import HandS.TupSets
import HandS.TupLe
import HandS.Star
import HandS.Text
import HandS.RaiseMore
import KE.KUnpack
import PyProof.CollectIter
import PyProof.Rows.StrMul
import PyProof.Rows.StrSplitCount
import PyProof.Rows.StrSplitAre
import PySem.Challenge.RW_badbegins_k81_texts_that_write_no_net
set_option Elab.async false
set_option linter.all false
set_option maxRecDepth 100000
set_option maxHeartbeats 4000000
/-! own words over the hand layer: each reading is opened from its head, one step a rule -/
namespace Bk
open PySem L2
section
variable {σ : St} {H : Hp} {Q : VK} {D : Ends} {K : PySem.W.Frag}
def kTest (Q : Bool → Hp → Prop) (x : V) (H' : Hp) : Prop := ∃ k, x = .bl k ∧ Q k H'
def kIf (t u : TS) (D : Ends) (σ : St) (b : Bool) (H : Hp) : Prop := if b = true then t D σ H else u D σ H
def kIfE (t u : TE) (σ : St) (Q : VK) (b : Bool) (H : Hp) : Prop := if b = true then t σ H Q else u σ H Q
def kAnd (u : TT) (σ : St) (Q : Bool → Hp → Prop) (b : Bool) (H : Hp) : Prop := if b = true then u σ H Q else Q false H
def kOr (u : TT) (σ : St) (Q : Bool → Hp → Prop) (b : Bool) (H : Hp) : Prop := if b = true then Q true H else u σ H Q
def kAndV (u : TE) (σ : St) (Q : VK) (x : V) (H : Hp) : Prop := ∃ c, x = .bl c ∧ if c = true then u σ H Q else Q (.bl false) H
def kOrV (u : TE) (σ : St) (Q : VK) (x : V) (H : Hp) : Prop := ∃ c, x = .bl c ∧ if c = true then Q (.bl true) H else u σ H Q
def kNotV (Q : VK) (x : V) (H : Hp) : Prop := ∃ c, x = .bl c ∧ Q (.bl (!c)) H
def kChain (r' : R2) (tc : TE) (σ : St) (y : V) (Q : VK) (z : V) (H3 : Hp) : Prop := ∃ k, z = .bl k ∧ (if k = true then tc σ H3 fun w' H4 => r' y w' H4 Q else Q (.bl false) H3)
def kDGet (Q : VK) (x y : V) (H2 : Hp) : Prop := ∃ a v, x = .ref a ∧ DGet H2 a y (some v) ∧ Q v H2
def kDPut (D : Ends) (σ : St) (v x y : V) (H3 : Hp) : Prop := ∃ a H4, x = .ref a ∧ DPut H3 a y v H4 ∧ D.nx σ H4
def kTup (Q : VK) (xs : List V) (H1 : Hp) : Prop := xs.length ≤ sizeLine ∧ ∀ p, H1 p = none → Q (.ref p) (upd H1 p (.tup xs))
def kLst (Q : VK) (xs : List V) (H1 : Hp) : Prop := xs.length ≤ sizeLine ∧ ∀ p, H1 p = none → Q (.ref p) (upd H1 p (.lst xs))
def kPart (Q : Option Int → Hp → Prop) (x : V) (H : Hp) : Prop := ∃ i, x = .int i ∧ Q (some i) H

theorem r_seq {t u : TS} (h : t { D with nx := u D } σ H) : tSeq t u D σ H := h
/-- what the rest needs is said once: I -/
theorem r_cut {t u : TS} (I : L2.St → Hp → Prop) (h2 : ∀ σ H, I σ H → u D σ H) (h1 : ∀ M : L2.St → Hp → Prop, (∀ σ H, I σ H → M σ H) → t { D with nx := M } σ H) : tSeq t u D σ H := h1 (u D) h2
theorem r_cutD {t : TS} (I : L2.St → Hp → Prop) (h2 : ∀ σ H, I σ H → D.nx σ H) (h1 : ∀ M : L2.St → Hp → Prop, (∀ σ H, I σ H → M σ H) → t { D with nx := M } σ H) : t D σ H := h1 D.nx h2
theorem k_cutIf {t u : TS} {b : Bool} (I : L2.St → Hp → Prop) (h2 : ∀ σ H, I σ H → D.nx σ H) (h1 : ∀ M : L2.St → Hp → Prop, (∀ σ H, I σ H → M σ H) → kIf t u { D with nx := M } σ b H) : kIf t u D σ b H := h1 D.nx h2
theorem r_next (h : D.nx σ H) : tNext D σ H := h
theorem r_asg {te : TE} {g : TG} (h : te σ H fun x H1 => g x σ H1 D.nx) : tAsg te g D σ H := h
theorem r_drop {te : TE} (h : te σ H fun _ H1 => D.nx σ H1) : tDrop te D σ H := h
theorem r_ret {te : TE} (h : te σ H D.rt) : tRet te D σ H := h
theorem r_retN (h : D.rt .non H) : tRetN D σ H := h
theorem r_brk (h : D.bk σ H) : tBreak D σ H := h
theorem r_cont (h : D.ct σ H) : tCont D σ H := h
theorem r_ifS {c : TT} {t u : TS} (h : c σ H fun b H1 => kIf t u D σ b H1) : tIfS c t u D σ H := h
theorem r_var {i : Nat} {v : V} (e : σ[i]? = some (some v)) (h : Q v H) : tVar i σ H Q := ⟨v, e, h⟩
theorem r_C {v : V} (h : Q v H) : tC v σ H Q := h
theorem r_test {t : TE} {Q : Bool → Hp → Prop} (h : t σ H fun x H' => kTest Q x H') : tTest t σ H Q := h
theorem r_tB {t : TE} {Q : Bool → Hp → Prop} (h : t σ H fun x H' => kTest Q x H') : tB t σ H Q := h
theorem k_test {Q : Bool → Hp → Prop} {b : Bool} (h : Q b H) : kTest Q (.bl b) H := ⟨b, rfl, h⟩
theorem k_ifTF {t u : TS} {b : Bool} (h1 : b = true → t D σ H) (h2 : b = false → u D σ H) : kIf t u D σ b H := by
  unfold kIf; cases b <;> simp_all
theorem k_ifT {t u : TS} (h : t D σ H) : kIf t u D σ true H := by unfold kIf; rw [if_pos rfl]; exact h
theorem k_ifF {t u : TS} (h : u D σ H) : kIf t u D σ false H := by unfold kIf; rw [if_neg Bool.false_ne_true]; exact h
theorem k_ifT' {t u : TS} {b : Bool} (e : b = true) (h : t D σ H) : kIf t u D σ b H := by subst e; exact k_ifT h
theorem k_ifF' {t u : TS} {b : Bool} (e : b = false) (h : u D σ H) : kIf t u D σ b H := by subst e; exact k_ifF h
theorem k_ifP {t u : TS} {p : Prop} [Decidable p] (h1 : p → t D σ H) (h2 : ¬ p → u D σ H) : kIf t u D σ (decide p) H := by
  by_cases h : p
  · exact k_ifT' (decide_eq_true h) (h1 h)
  · exact k_ifF' (decide_eq_false h) (h2 h)
theorem k_ifN {t u : TS} {p : Prop} [Decidable p] (h1 : ¬ p → t D σ H) (h2 : p → u D σ H) : kIf t u D σ (!decide p) H := by
  by_cases h : p
  · exact k_ifF' (by simp [h]) (h2 h)
  · exact k_ifT' (by simp [h]) (h1 h)
theorem r_ifE {c : TT} {t u : TE} (h : c σ H fun b H1 => kIfE t u σ Q b H1) : tIf c t u σ H Q := h
theorem k_ifET {t u : TE} {b : Bool} (e : b = true) (h : t σ H Q) : kIfE t u σ Q b H := by unfold kIfE; rw [if_pos e]; exact h
theorem k_ifEF {t u : TE} {b : Bool} (e : b = false) (h : u σ H Q) : kIfE t u σ Q b H := by subst e; unfold kIfE; rw [if_neg Bool.false_ne_true]; exact h
theorem k_ifETF {t u : TE} {b : Bool} (h1 : b = true → t σ H Q) (h2 : b = false → u σ H Q) : kIfE t u σ Q b H := by
  cases b
  · exact k_ifEF rfl (h2 rfl)
  · exact k_ifET rfl (h1 rfl)
theorem r_and {t u : TT} {Q : Bool → Hp → Prop} (h : t σ H fun c H1 => kAnd u σ Q c H1) : tAnd t u σ H Q := h
theorem r_or {t u : TT} {Q : Bool → Hp → Prop} (h : t σ H fun c H1 => kOr u σ Q c H1) : tOr t u σ H Q := h
theorem k_and {u : TT} {b : Bool} {Q : Bool → Hp → Prop} (h1 : b = true → u σ H Q) (h2 : b = false → Q false H) : kAnd u σ Q b H := by unfold kAnd; cases b <;> simp_all
theorem k_or {u : TT} {b : Bool} {Q : Bool → Hp → Prop} (h1 : b = true → Q true H) (h2 : b = false → u σ H Q) : kOr u σ Q b H := by unfold kOr; cases b <;> simp_all
theorem r_not {t : TT} {Q : Bool → Hp → Prop} (h : t σ H fun c H1 => Q (!c) H1) : tNot t σ H Q := h
theorem r_andV {t u : TE} (h : t σ H fun c H1 => kAndV u σ Q c H1) : tAndV t u σ H Q := h
theorem r_orV {t u : TE} (h : t σ H fun c H1 => kOrV u σ Q c H1) : tOrV t u σ H Q := h
theorem r_notV {t : TE} (h : t σ H fun c H1 => kNotV Q c H1) : tNotV t σ H Q := h
theorem k_andV {u : TE} {b : Bool} (h1 : b = true → u σ H Q) (h2 : b = false → Q (.bl false) H) : kAndV u σ Q (.bl b) H := ⟨b, rfl, by cases b <;> simp_all⟩
theorem k_orV {u : TE} {b : Bool} (h1 : b = true → Q (.bl true) H) (h2 : b = false → u σ H Q) : kOrV u σ Q (.bl b) H := ⟨b, rfl, by cases b <;> simp_all⟩
theorem k_notV {b : Bool} (h : Q (.bl (!b)) H) : kNotV Q (.bl b) H := ⟨b, rfl, h⟩
theorem r_op {r : R2} {ta tb : TE} (h : ta σ H fun x H1 => tb σ H1 fun y H2 => r x y H2 Q) : tOp r ta tb σ H Q := h
theorem r_un {r : V → Hp → VK → Prop} {ta : TE} (h : ta σ H fun x H1 => r x H1 Q) : tUn r ta σ H Q := h
theorem r_chain {r r' : R2} {ta tb tc : TE} (h : ta σ H fun x H1 => tb σ H1 fun y H2 => r x y H2 fun z H3 => kChain r' tc σ y Q z H3) : tChain r r' ta tb tc σ H Q := h
theorem k_chain {r' : R2} {tc : TE} {y : V} {b : Bool} (h1 : b = true → tc σ H fun w' H4 => r' y w' H4 Q) (h2 : b = false → Q (.bl false) H) : kChain r' tc σ y Q (.bl b) H := ⟨b, rfl, by cases b <;> simp_all⟩
theorem k_rI {C : Int → Int → Prop} {g : Int → Int → V} {i j : Int} (hc : C i j) (h : Q (g i j) H) : rI C g (.int i) (.int j) H Q := ⟨i, j, rfl, rfl, hc, h⟩
theorem k_rI0 {g : Int → Int → V} {i j : Int} (h : Q (g i j) H) : rI0 g (.int i) (.int j) H Q := ⟨i, j, rfl, rfl, h⟩
theorem k_rU {g : Int → V} {i : Int} (h : Q (g i) H) : rU g (.int i) H Q := ⟨i, rfl, h⟩
theorem k_rEq {x y : V} (hs : scal x y = true) (h : Q (.bl (decide (x = y))) H) : rEq x y H Q := ⟨hs, h⟩
theorem k_rNe {x y : V} (hs : scal x y = true) (h : Q (.bl (!decide (x = y))) H) : rNe x y H Q := ⟨hs, h⟩
theorem k_eqI {i j : Int} (h : Q (.bl (decide (i = j))) H) : rEq (.int i) (.int j) H Q := ⟨rfl, by
  have e : decide (V.int i = V.int j) = decide (i = j) := by
    by_cases q : i = j
    · simp [q]
    · have : ¬ V.int i = V.int j := fun z => q (V.int.inj z)
      simp [q, this]
  rw [e]; exact h⟩
theorem k_neI {i j : Int} (h : Q (.bl (!decide (i = j))) H) : rNe (.int i) (.int j) H Q := ⟨rfl, by
  have e : decide (V.int i = V.int j) = decide (i = j) := by
    by_cases q : i = j
    · simp [q]
    · have : ¬ V.int i = V.int j := fun z => q (V.int.inj z)
      simp [q, this]
  rw [e]; exact h⟩
theorem r_dget {td ty : TE} (h : td σ H fun x H1 => ty σ H1 fun y H2 => kDGet Q x y H2) : tDGet td ty σ H Q := h
theorem k_dget {a : Addr} {y v : V} (g : DGet H a y (some v)) (h : Q v H) : kDGet Q (.ref a) y H := ⟨a, v, rfl, g, h⟩
theorem r_dput {td ty tv : TE} (h : tv σ H fun v H1 => td σ H1 fun x H2 => ty σ H2 fun y H3 => kDPut D σ v x y H3) : sDPut td ty tv D σ H := h
theorem k_dput {a : Addr} {y v : V} {H4 : Hp} (g : DPut H a y v H4) (h : D.nx σ H4) : kDPut D σ v (.ref a) y H := ⟨a, H4, rfl, g, h⟩
theorem r_nil {Q : List V → Hp → Prop} (h : Q [] H) : tNil σ H Q := h
theorem r_cons {ta : TE} {tr : TA} {Q : List V → Hp → Prop} (h : ta σ H fun x H1 => tr σ H1 fun xs H2 => Q (x :: xs) H2) : tCons ta tr σ H Q := h
theorem r_tup {t : TA} (h : t σ H fun xs H1 => kTup Q xs H1) : tTup t σ H Q := h
theorem r_lst {t : TA} (h : t σ H fun xs H1 => kLst Q xs H1) : tLst t σ H Q := h
theorem k_tup {xs : List V} (hl : xs.length ≤ sizeLine) (h : ∀ p, H p = none → Q (.ref p) (upd H p (.tup xs))) : kTup Q xs H := ⟨hl, h⟩
theorem k_lst {xs : List V} (hl : xs.length ≤ sizeLine) (h : ∀ p, H p = none → Q (.ref p) (upd H p (.lst xs))) : kLst Q xs H := ⟨hl, h⟩
theorem r_call {sp : Sp} {dvs : List V} {E : XK} {t : TA} (h : t σ H fun vs H1 => sp (vs ++ dvs) H1 Q E) : tCall sp dvs E t σ H Q := h
theorem r_CB {r : List V → Hp → VK → Prop} {t : TA} (h : t σ H fun vs H1 => r vs H1 Q) : tCB r t σ H Q := h
theorem r_sl {r : V → Option Int → Option Int → Hp → VK → Prop} {te : TE} {tl th : TO} (h : te σ H fun x H1 => tl σ H1 fun l H2 => th σ H2 fun u H3 => r x l u H3 Q) : tSl r te tl th σ H Q := h
theorem r_noPart {Q : Option Int → Hp → Prop} (h : Q none H) : tNoPart σ H Q := h
theorem r_part {t : TE} {Q : Option Int → Hp → Prop} (h : t σ H fun x H1 => kPart Q x H1) : tPart t σ H Q := h
theorem k_part {i : Int} {Q : Option Int → Hp → Prop} (h : Q (some i) H) : kPart Q (.int i) H := ⟨i, rfl, h⟩
theorem r_name {i : Nat} {v : V} {σ' : St} {Q : St → Hp → Prop} (e : σ.set i (some v) = σ') (h : Q σ' H) : gName i v σ H Q := by subst e; exact h
theorem r_sub {to ti : TE} {t : TSet} {v : V} {Q : St → Hp → Prop} (h : to σ H fun o H1 => ti σ H1 fun i H2 => t o i v H2 fun H3 => Q σ H3) : gSub to ti t v σ H Q := h
theorem k_setL {p : Addr} {xs : List V} {k : Int} {j : Nat} {v : V} {Q : Hp → Prop} (hp : H p = some (.lst xs)) (hj : ixN xs.length k = some j) (h : Q (upd H p (.lst (xs.set j v)))) : rSetL (.ref p) (.int k) v H Q := ⟨p, xs, k, j, rfl, rfl, hp, hj, h⟩
theorem k_ixL {p : Addr} {xs : List V} {i : Int} {v : V} (hp : SqL K H p xs) (hi : atI xs i = some v) (h : Q v H) : rIxL K (.ref p) (.int i) H Q := ⟨p, xs, i, v, rfl, rfl, hp, hi, h⟩
theorem k_ixT {p : Addr} {xs : List V} {i : Int} {v : V} (hp : SqT K H p xs) (hi : atI xs i = some v) (h : Q v H) : rIxT K (.ref p) (.int i) H Q := ⟨p, xs, i, v, rfl, rfl, hp, hi, h⟩
theorem k_slL {p : Addr} {xs : List V} {lo hi : Option Int} (hp : SqL K H p xs) (h : ∀ q, H q = none → Q (.ref q) (upd H q (.lst (cutV xs lo hi)))) : rSlL K (.ref p) lo hi H Q := ⟨p, xs, rfl, hp, h⟩
theorem r_BM {T : String} {r : V → List V → Hp → VK → Prop} {to : TE} {t : TA} (h : to σ H fun x H1 => tyV K T x H1 ∧ t σ H1 fun xs H2 => r x xs H2 Q) : tBM K T r to t σ H Q := h
theorem r_BM0 {T : String} {r : V → List V → Hp → VK → Prop} {to : TE} (h : to σ H fun x H1 => tyV K T x H1 ∧ r x [] H1 Q) : tBM0 K T r to σ H Q := h
def kTupG (K : PySem.W.Frag) (n : Nat) (t : TGs) (v : V) (σ : L2.St) (H : Hp) (Q : L2.St → Hp → Prop) : Prop := ∃ a xs, v = .ref a ∧ SqT K H a xs ∧ xs.length = n ∧ t xs σ H Q
theorem r_tupG {n : Nat} {t : TGs} {v : V} {Q : L2.St → Hp → Prop} (h : kTupG K n t v σ H Q) : gTup K n t v σ H Q := h
theorem k_tupG {n : Nat} {t : TGs} {a : Addr} {xs : List V} {Q : L2.St → Hp → Prop} (h : SqT K H a xs) (hl : xs.length = n) (q : t xs σ H Q) : kTupG K n t (.ref a) σ H Q := ⟨a, xs, rfl, h, hl, q⟩
theorem k_gCons {t : TG} {u : TGs} {v : V} {r : List V} {Q : L2.St → Hp → Prop} (q : t v σ H fun σ' H' => u r σ' H' Q) : gCons t u (v :: r) σ H Q := ⟨v, r, rfl, q⟩
theorem k_gNil {Q : L2.St → Hp → Prop} (q : Q σ H) : gNil [] σ H Q := ⟨rfl, q⟩
theorem ty_list {p : Addr} {xs : List V} (h : SqL K H p xs) : tyV K "list" (.ref p) H := .inl ⟨rfl, xs, h⟩
theorem k_append {l : Addr} {xs : List V} {y : V} (hl : H l = some (.lst xs)) (hz : xs.length < sizeLine) (h : Q .non (upd H l (.lst (xs ++ [y])))) : rAppend (.ref l) [y] H Q := ⟨l, xs, y, rfl, rfl, hl, hz, h⟩
end
end Bk

namespace Bk
open PySem PySem.Spec PyProof.Rows L2
/-! ### defs of the text -/
section
variable {P : Program} {w : World} {K : PySem.W.Frag} {mg : Str → Option Value} {base : Heap}
/-- a def of the text stands at its name -/
structure DefAt (K : PySem.W.Frag) (mg : Str → Option Value) (x : Str) (st : Stmt) : Prop where
  ex : ∃ f fd, Fun K x x st f fd ∧ mg x = some (.ref f)
/-- .. and keeps a promise -/
structure DefOk (P : Program) (w : World) (K : PySem.W.Frag) (mg : Str → Option Value) (base : Heap) (CX : CXT) (k : Nat) (x : Str) (ps : List Str) (sp : Sp) : Prop where
  ex : ∃ f fd, FnOk P w K mg base CX k f fd ps sp ∧ mg x = some (.ref f) ∧ PySem.W.keepIn K (.ref f) = true ∧ Binds K fd ps []
theorem DefAt.ok {x : Str} {st : Stmt} {N ps : List Str} {k : Nat} {sp : Sp} (T : DefAt K mg x st) (S : FnScope N ps (defScope st))
    (hb : ∀ (kV doc pm : Value) (an : Option Addr) (cdv ct : Value) (us : List Value), us.length = ps.length → bindArgs (PySem.W.fnOf x x (defArgs st) (defBody st) (defScope st) .none kV doc pm an cdv ct) ⟨us, []⟩ = pure (ps.zip us))
    (len : ∀ vs H Q E, sp vs H Q E → vs.length = ps.length)
    (hbody : ∀ (f : Addr) (cdv : Value) (A : Around) (outer : List Env) (s : Shared) (H : Hp) (vs : List V) (Q : VK) (E : XK), Room k (A.deeper (envOfC x (defScope st) s.heap.objs.size f cdv)) → PySem.W.codeIn K cdv x = true → sp vs H Q E →
      ∃ t, PSs (cxOf CX0 P w K mg base N x (defScope st) f cdv A outer s H E).nox (defBody st) t ∧ t { nx := fun _ H' => Q .non H', rt := Q } (start N vs) H) : DefOk P w K mg base CX0 (k + 1) x ps sp := by
  obtain ⟨f, fd, F, hm⟩ := T.ex
  refine ⟨f, fd, ?_, hm, F.kp, F.binds hb⟩
  obtain ⟨oc, od, kV, doc, pm, an, cdv, ct, osl, rfl, lk, hcd⟩ := F.ex
  refine fn_of lk hcd S len fun A outer s H vs Q E hr hsp => ?_
  obtain ⟨t, h, q⟩ := hbody f cdv A outer s H vs Q E hr hcd hsp
  exact ⟨t, h.nox, q⟩
theorem defAt_mk {h : Heap} {x : Str} {st : Stmt} {f : Addr} {oc : Value} {od an : Option Addr} {osl : Array (Option Value)} {kV doc pm cdv ct : Value} (X : K.In h) (G : h.Ns mainGlobals mg)
    (a : PySem.W.nsIn K mainGlobals x = some (some (.ref f))) (l : K.lookup f = some ⟨oc, od, .func (PySem.W.fnOf x x (defArgs st) (defBody st) (defScope st) .none kV doc pm an cdv ct), osl⟩)
    (c : PySem.W.codeIn K cdv x = true) (k : PySem.W.keepIn K (.ref f) = true) : DefAt K mg x st := ⟨f, _, fun_mk l c k, PySem.W.mg_of X G a⟩
/-- built-in names are as they were -/
structure Bl (mg : Str → Option Value) : Prop where
  len : mg "len" = none
  range : mg "range" = none
  list : mg "list" = none
  tuple : mg "tuple" = none
  isinstance : mg "isinstance" = none
  zip : mg "zip" = none
  enumerate : mg "enumerate" = none
  sorted : mg "sorted" = none
  set : mg "set" = none
  all : mg "all" = none
  any : mg "any" = none
  min : mg "min" = none
  max : mg "max" = none
  int : mg "int" = none
  bool : mg "bool" = none
  str : mg "str" = none
  dict : mg "dict" = none
  sum : mg "sum" = none
  ValueError : mg "ValueError" = none
end
section
variable {X : Cx} {CX : CXT} {k : Nat} {ps : List Str} {sp : Sp} {E : XK} {x : Str} {p pos : Pos} {e : Expr} {es : List Expr} {t : TA}
theorem pe_callD (F : DefOk X.prog X.w X.K X.mg X.base CX k x ps sp) (hr : Room k X.A) (hg : Gl X x) (hx : Passes CX X E) (ha : PA X (e :: es) t) (hdb : (x == ("__debug__" : Str)) = false := by decide)
    (he : starEach (e :: es) X.env = (false, eval e X.env) :: starEach es X.env := by rfl) (hpl : (backTo pos (starEach es X.env)).any (·.1) = false := by rfl) : PE X (.Call (.Name x p) (e :: es) [] pos) (tCall sp [] E t) := by
  obtain ⟨f, fd, F, hm, hk, hb⟩ := F.ex
  exact pe_call F hr hg hm hk hb .nil hx ha hdb he hpl
theorem pe_callD0 (F : DefOk X.prog X.w X.K X.mg X.base CX k x ps sp) (hr : Room k X.A) (hg : Gl X x) (hx : Passes CX X E) (hdb : (x == ("__debug__" : Str)) = false := by decide) : PE X (.Call (.Name x p) [] [] pos) (tCall sp [] E tNil) := by
  obtain ⟨f, fd, F, hm, hk, hb⟩ := F.ex
  exact pe_call0 F hr hg hm hk hb .nil hx hdb
end

/-! ### the heap: what a walk keeps -/
theorem ixN_0 {n : Nat} (h : 0 < n) : ixN n 0 = some 0 := by unfold ixN; rw [if_pos (by omega), if_pos (by omega)]; rfl
theorem _root_.L2.Same.new {H : Hp} {p : Addr} {o : HO} (h : H p = none) : Same H (upd H p o) := fun b u e => by rw [upd_ne (ne_of_none e h)]; exact e
theorem _root_.L2.Same.newer {H H' : Hp} {p : Addr} {o : HO} (s : Same H H') (h : H' p = none) : Same H (upd H' p o) := s.trans (L2.Same.new h)
/-- H0 does not know p: it may change -/
theorem _root_.L2.Same.mut {H H' : Hp} {p : Addr} {o : HO} (s : Same H H') (h : H p = none) : Same H (upd H' p o) := fun b u e => by rw [upd_ne (ne_of_none e h)]; exact s b u e
theorem _root_.L2.Same.tup {K : PySem.W.Frag} {H H' : Hp} {a : Addr} {xs : List V} (e : Same H H') (h : SqT K H a xs) : SqT K H' a xs := by
  rcases h with (h | ⟨o, h⟩) | h
  · exact .inl (.inl (e _ _ h))
  · exact .inl (.inr ⟨o, e _ _ h⟩)
  · exact .inr h
theorem sql_lst {K : PySem.W.Frag} {H : Hp} {a : Addr} {xs : List V} (h : H a = some (.lst xs)) : SqL K H a xs := .inl (.inl h)
theorem sqt_tup {K : PySem.W.Frag} {H : Hp} {a : Addr} {xs : List V} (h : H a = some (.tup xs)) : SqT K H a xs := .inl (.inl h)
/-- == of a list of ints with [] -/
theorem dp_ints {K : PySem.W.Frag} {H : Hp} : ∀ ns : List Int, DpAll K H (ns.map V.int) (ns.map PyData.int)
  | [] => .nil
  | n :: r => .cons (.int n) (dp_ints r)

/-! ### the feed: a dict with the cells left, the turn, the seed -/
def feedKvs (c : Addr) (t s : Int) : List (Key × V) := [(Sum.inr ("cells" : Str), .ref c), (Sum.inr ("turn" : Str), .int t), (Sum.inr ("seed" : Str), .int s)]
theorem nk1 : ¬ (("cells" : Str) = "turn") := by decide +kernel
theorem nk2 : ¬ (("cells" : Str) = "seed") := by decide +kernel
theorem nk3 : ¬ (("turn" : Str) = "seed") := by decide +kernel
theorem feed_cells (c : Addr) (t s : Int) : valV (feedKvs c t s) (Sum.inr ("cells" : Str)) = some (.ref c) := by unfold feedKvs; rw [valV_pos rfl]
theorem feed_turn (c : Addr) (t s : Int) : valV (feedKvs c t s) (Sum.inr ("turn" : Str)) = some (.int t) := by
  unfold feedKvs; rw [valV_neg (fun q => nk1 (Sum.inr.inj q)), valV_pos rfl]
theorem feed_seed (c : Addr) (t s : Int) : valV (feedKvs c t s) (Sum.inr ("seed" : Str)) = some (.int s) := by
  unfold feedKvs; rw [valV_neg (fun q => nk2 (Sum.inr.inj q)), valV_neg (fun q => nk3 (Sum.inr.inj q)), valV_pos rfl]
theorem ki1 : ¬ ((Sum.inr ("cells" : Str) : Key) = Sum.inr ("turn" : Str)) := fun q => nk1 (Sum.inr.inj q)
theorem ki2 : ¬ ((Sum.inr ("cells" : Str) : Key) = Sum.inr ("seed" : Str)) := fun q => nk2 (Sum.inr.inj q)
theorem ki3 : ¬ ((Sum.inr ("turn" : Str) : Key) = Sum.inr ("seed" : Str)) := fun q => nk3 (Sum.inr.inj q)
theorem put_turn (c : Addr) (t s t' : Int) : putK (feedKvs c t s) (Sum.inr ("turn" : Str)) (.int t') = feedKvs c t' s := by
  simp [putK, feedKvs, ki1, Ne.symm ki1, ki2, Ne.symm ki2, ki3, Ne.symm ki3, nk1, nk2, nk3, Ne.symm nk1, Ne.symm nk2, Ne.symm nk3]
theorem put_seed (c : Addr) (t s s' : Int) : putK (feedKvs c t s) (Sum.inr ("seed" : Str)) (.int s') = feedKvs c t s' := by
  simp [putK, feedKvs, ki1, Ne.symm ki1, ki2, Ne.symm ki2, ki3, Ne.symm ki3, nk1, nk2, nk3, Ne.symm nk1, Ne.symm nk2, Ne.symm nk3]
theorem put_cells (c c' : Addr) (t s : Int) : putK (feedKvs c t s) (Sum.inr ("cells" : Str)) (.ref c') = feedKvs c' t s := by
  simp [putK, feedKvs, ki1, Ne.symm ki1, ki2, Ne.symm ki2, ki3, Ne.symm ki3, nk1, nk2, nk3, Ne.symm nk1, Ne.symm nk2, Ne.symm nk3]
/-- the feed stands at d, apart from all that G tells; G stands -/
structure FeedAt (G H : Hp) (d : Addr) : Prop where
  same : Same G H
  d0 : G d = none
  ex : ∃ (c : Addr) (t s : Int) (ns : List Int), G c = none ∧ H d = some (.dK (feedKvs c t s)) ∧ H c = some (.lst (ns.map V.int)) ∧ 0 ≤ s ∧ s < 1000000007 ∧ ns.length ≤ 63
theorem FeedAt.more {G H H' : Hp} {d : Addr} (F : FeedAt G H d) (s : Same H H') : FeedAt G H' d := by
  obtain ⟨c, t, z, ns, h1, h2, h3, h4⟩ := F.ex
  exact ⟨F.same.trans s, F.d0, c, t, z, ns, h1, s _ _ h2, s _ _ h3, h4⟩
/-- a new object is laid and told -/
theorem FeedAt.new {G H : Hp} {d p : Addr} {o : HO} (F : FeedAt G H d) (h : H p = none) : FeedAt (upd G p o) (upd H p o) d := by
  obtain ⟨c, t, z, ns, h1, h2, h3, h4⟩ := F.ex
  have nd : d ≠ p := ne_of_none h2 h
  have nc : c ≠ p := ne_of_none h3 h
  refine ⟨fun b u e => ?_, by rw [upd_ne nd]; exact F.d0, c, t, z, ns, by rw [upd_ne nc]; exact h1, by rw [upd_ne nd]; exact h2, by rw [upd_ne nc]; exact h3, h4⟩
  by_cases q : b = p
  · subst q; rw [upd_same] at e; cases e; exact upd_same
  · rw [upd_ne q] at e; rw [upd_ne q]; exact F.same b u e
/-- an object of G is changed -/
theorem FeedAt.set {G H : Hp} {d p : Addr} {o u : HO} (F : FeedAt G H d) (h : G p = some u) : FeedAt (upd G p o) (upd H p o) d := by
  obtain ⟨c, t, z, ns, h1, h2, h3, h4⟩ := F.ex
  have nd : d ≠ p := (ne_of_none h F.d0).symm
  have nc : c ≠ p := (ne_of_none h h1).symm
  refine ⟨fun b u e => ?_, by rw [upd_ne nd]; exact F.d0, c, t, z, ns, by rw [upd_ne nc]; exact h1, by rw [upd_ne nd]; exact h2, by rw [upd_ne nc]; exact h3, h4⟩
  by_cases q : b = p
  · subst q; rw [upd_same] at e; cases e; exact upd_same
  · rw [upd_ne q] at e; rw [upd_ne q]; exact F.same b u e
/-- an object that H tells and the feed is not, is told by G too -/
theorem FeedAt.tell {G H H' : Hp} {d p : Addr} {o : HO} (F : FeedAt G H d) (s : Same H H') (h : H p = none) (h' : H' p = some o) : FeedAt (upd G p o) H' d := by
  obtain ⟨c, t, z, ns, h1, h2, h3, h4⟩ := F.ex
  have nd : d ≠ p := ne_of_none h2 h
  have nc : c ≠ p := ne_of_none h3 h
  refine ⟨fun b u e => ?_, by rw [upd_ne nd]; exact F.d0, c, t, z, ns, by rw [upd_ne nc]; exact h1, s _ _ h2, s _ _ h3, h4⟩
  by_cases q : b = p
  · subst q; rw [upd_same] at e; cases e; exact h'
  · rw [upd_ne q] at e; exact s _ _ (F.same b u e)
theorem FeedAt.less {G G' H : Hp} {d : Addr} (F : FeedAt G H d) (s : Same G' G) : FeedAt G' H d := by
  obtain ⟨c, t, z, ns, h1, h4⟩ := F.ex
  exact ⟨s.trans F.same, s.free F.d0, c, t, z, ns, s.free h1, h4⟩
def spTake : Sp := fun vs H Q _ => ∃ (G : Hp) (d : Addr) (many : Int), vs = [.ref d, .int many] ∧ FeedAt G H d ∧ 0 < many ∧ many < 1073741824 ∧ ∀ (r : Int) (H' : Hp), 0 ≤ r → r < many → FeedAt G H' d → Q (.int r) H'
def spFeed (K : PySem.W.Frag) : Sp := fun vs H Q _ => ∃ (a : Addr) (ns : List Int), vs = [.ref a] ∧ SqL K H a (ns.map V.int) ∧ ∀ (d : Addr) (H' : Hp), H d = none → FeedAt H H' d → Q (.ref d) H'

theorem dg_cells {H : Hp} {d c : Addr} {t s : Int} (h : H d = some (.dK (feedKvs c t s))) : DGet H d (.str ("cells" : Str)) (some (.ref c)) := by
  rw [← feed_cells c t s]; exact DGet.k (k := Sum.inr ("cells" : Str)) h
theorem dg_turn {H : Hp} {d c : Addr} {t s : Int} (h : H d = some (.dK (feedKvs c t s))) : DGet H d (.str ("turn" : Str)) (some (.int t)) := by
  rw [← feed_turn c t s]; exact DGet.k (k := Sum.inr ("turn" : Str)) h
theorem dg_seed {H : Hp} {d c : Addr} {t s : Int} (h : H d = some (.dK (feedKvs c t s))) : DGet H d (.str ("seed" : Str)) (some (.int s)) := by
  rw [← feed_seed c t s]; exact DGet.k (k := Sum.inr ("seed" : Str)) h
theorem feed_len (c : Addr) (t s : Int) : (feedKvs c t s).length < sizeLine := by rw [sizeLine_eq]; show 3 < 16777216; decide
theorem dp_turn {H : Hp} {d c : Addr} {t s t' : Int} (h : H d = some (.dK (feedKvs c t s))) : DPut H d (.str ("turn" : Str)) (.int t') (upd H d (.dK (feedKvs c t' s))) := by
  rw [← put_turn c t s t']; exact DPut.k (k := Sum.inr ("turn" : Str)) h (feed_len c t s)
theorem dp_seed {H : Hp} {d c : Addr} {t s s' : Int} (h : H d = some (.dK (feedKvs c t s))) : DPut H d (.str ("seed" : Str)) (.int s') (upd H d (.dK (feedKvs c t s'))) := by
  rw [← put_seed c t s s']; exact DPut.k (k := Sum.inr ("seed" : Str)) h (feed_len c t s)
theorem dp_cells {H : Hp} {d c c' : Addr} {t s : Int} (h : H d = some (.dK (feedKvs c t s))) : DPut H d (.str ("cells" : Str)) (.ref c') (upd H d (.dK (feedKvs c' t s))) := by
  rw [← put_cells c c' t s]; exact DPut.k (k := Sum.inr ("cells" : Str)) h (feed_len c t s)
structure FeedX (G H : Hp) (d c : Addr) (t s : Int) (ns : List Int) : Prop where
  same : Same G H
  d0 : G d = none
  c0 : G c = none
  hd : H d = some (.dK (feedKvs c t s))
  hc : H c = some (.lst (ns.map V.int))
theorem FeedX.ne {G H : Hp} {d c : Addr} {t s : Int} {ns : List Int} (F : FeedX G H d c t s ns) : d ≠ c := ne_of F.hd F.hc (by intro z; cases z)
theorem FeedX.put {G H : Hp} {d c : Addr} {t s : Int} {ns : List Int} (F : FeedX G H d c t s ns) (t' s' : Int) : FeedX G (upd H d (.dK (feedKvs c t' s'))) d c t' s' ns :=
  ⟨F.same.mut F.d0, F.d0, F.c0, upd_same, by rw [upd_ne F.ne.symm]; exact F.hc⟩
theorem FeedX.lst {G H : Hp} {d c : Addr} {t s : Int} {ns : List Int} (F : FeedX G H d c t s ns) (ns' : List Int) : FeedX G (upd H c (.lst (ns'.map V.int))) d c t s ns' :=
  ⟨F.same.mut F.c0, F.d0, F.c0, by rw [upd_ne F.ne]; exact F.hd, upd_same⟩
theorem FeedX.cut {G H : Hp} {d c p : Addr} {t s : Int} {ns : List Int} (F : FeedX G H d c t s ns) (h : H p = none) (ns' : List Int) : FeedX G (upd (upd H p (.lst (ns'.map V.int))) d (.dK (feedKvs p t s))) d p t s ns' := by
  have ndp : d ≠ p := ne_of_none F.hd h
  exact ⟨(F.same.newer h).mut F.d0, F.d0, F.same.free h, upd_same, by rw [upd_ne ndp.symm, upd_same]⟩
theorem FeedX.at {G H : Hp} {d c : Addr} {t s : Int} {ns : List Int} (F : FeedX G H d c t s ns) (h1 : 0 ≤ s) (h2 : s < 1000000007) (h3 : ns.length ≤ 63) : FeedAt G H d := ⟨F.same, F.d0, c, t, s, ns, F.c0, F.hd, F.hc, h1, h2, h3⟩
theorem FeedAt.x {G H : Hp} {d : Addr} (F : FeedAt G H d) : ∃ c t s ns, FeedX G H d c t s ns ∧ 0 ≤ s ∧ s < 1000000007 ∧ ns.length ≤ 63 := by
  obtain ⟨c, t, s, ns, h1, h2, h3, h4, h5, h6⟩ := F.ex
  exact ⟨c, t, s, ns, ⟨F.same, F.d0, h1, h2, h3⟩, h4, h5, h6⟩
theorem k_neD {K : PySem.W.Frag} {H : Hp} {Q : VK} {x y : V} {d e : PyData} (h1 : Dp K H x d) (h2 : Dp K H y e) (s1 : SeqAt.shaped d = true) (s2 : SeqAt.shaped e = true) (h : Q (.bl (!PyData.eqv d e)) H) : rNeD K x y H Q := ⟨d, e, h1, h2, s1, s2, h⟩
theorem k_eqD {K : PySem.W.Frag} {H : Hp} {Q : VK} {x y : V} {d e : PyData} (h1 : Dp K H x d) (h2 : Dp K H y e) (s1 : SeqAt.shaped d = true) (s2 : SeqAt.shaped e = true) (h : Q (.bl (PyData.eqv d e)) H) : rEqD K x y H Q := ⟨d, e, h1, h2, s1, s2, h⟩
theorem sh_intsA : ∀ ns : List Int, PyData.canLayAll0 (ns.map PyData.int) = true ∧ PyData.depthAll (ns.map PyData.int) = 0
  | [] => ⟨rfl, rfl⟩
  | n :: r => by
    obtain ⟨h1, h2⟩ := sh_intsA r
    constructor
    · simp [PyData.canLayAll0, PyData.canLay0, h1]
    · simp [PyData.depthAll, PyData.depth, h2]
theorem sh_ints (ns : List Int) : SeqAt.shaped (PyData.list (ns.map PyData.int)) = true := by
  obtain ⟨h1, h2⟩ := sh_intsA ns
  simp [SeqAt.shaped, PyData.canLay0, PyData.depth, h1, h2]
/-- a list of ints against [] -/
theorem k_neNil {K : PySem.W.Frag} {H : Hp} {Q : VK} {p q : Addr} {ns : List Int} (h1 : H p = some (.lst (ns.map V.int))) (h2 : H q = some (.lst [])) (h : Q (.bl (!decide (ns = []))) H) : rNeD K (.ref p) (.ref q) H Q := by
  refine k_neD (d := .list (ns.map PyData.int)) (e := .list []) (.lst (sql_lst h1) (dp_ints ns)) (.lst (sql_lst h2) .nil) ?_ ?_ ?_
  · exact sh_ints ns
  · rfl
  · cases ns with
    | nil => exact h
    | cons a r => exact h

theorem cut_tl (ns : List Int) : cutV (ns.map V.int) (some 1) none = (ns.drop 1).map V.int := by
  unfold cutV
  rw [show HT.sIx (ns.map V.int).length 0 (some 1) = min 1 (ns.map V.int).length from HT.sIx_nat _ 0 1, HT.sIx_none]
  cases ns with
  | nil => rfl
  | cons x r => simp [Nat.min_def]; rw [← List.map_take]; congr 1; exact List.take_length
theorem atI_0 {x : V} {r : List V} : atI (x :: r) 0 = some x := by
  unfold atI; rw [ixN_0 (by simp)]; rfl
end Bk
/-! zip and enumerate over lists and tuples alike: kd = true is a tuple -/
namespace Bk
open PySem PySem.Spec PyProof.Rows L2
open AutoSeq1 (wpAny_loadPart')

def SqK (K : PySem.W.Frag) (kd : Bool) (H : Hp) (a : Addr) (xs : List V) : Prop := match kd with
  | true => SqT K H a xs
  | false => SqL K H a xs
def itN (kd : Bool) : String := match kd with
  | true => "tuple_iterator"
  | false => "list_iterator"
def IsK (kd : Bool) (h : Heap) (a : Addr) (its : Array Value) : Prop := match kd with
  | true => h.IsTuple a its
  | false => h.IsList a its
def IterK (kd : Bool) (h : Heap) (it a : Addr) (i : Nat) : Prop := match kd with
  | true => h.IsTupleIter it a i
  | false => h.IsListIter it a i
theorem SqK.get {X : Cx} {pins : List (Addr × Obj)} {σ : L2.St} {H : Hp} {s : Shared} {kd : Bool} {a : Addr} {xs : List V} (I : Inv X pins σ H s) (q : SqK X.K kd H a xs) : ∃ its : List Value, Vals xs its ∧ IsK kd s.heap a its.toArray ∧ a < s.heap.objs.size := by
  cases kd with
  | true =>
    obtain ⟨its, rv, p, _⟩ := I.tuple q
    exact ⟨its, rv, p, let ⟨_, e, _⟩ := p; Heap.lt_size e⟩
  | false =>
    obtain ⟨its, rv, p, _⟩ := I.list q
    exact ⟨its, rv, p.isList, p.lt⟩
theorem SqK.inj {X : Cx} {pins : List (Addr × Obj)} {σ : L2.St} {H : Hp} {s : Shared} {kd : Bool} {a : Addr} {xs ys : List V} (I : Inv X pins σ H s) (p : SqK X.K kd H a xs) (q : SqK X.K kd H a ys) : xs = ys := by
  cases kd with
  | true => exact I.tuple_inj p q
  | false => exact I.list_inj p q
theorem IterK.at' {kd : Bool} {h h' : Heap} {it a : Addr} {i : Nat} (t : IterK kd h it a i) (k : ∀ o, h.get? it = some o → h'.get? it = some o) : IterK kd h' it a i := by
  cases kd with
  | true => exact Heap.IsTupleIter.at (show h.IsTupleIter it a i from t) k
  | false => exact Heap.IsListIter.at (show h.IsListIter it a i from t) k
theorem IterK.ob {kd : Bool} {h : Heap} {it a : Addr} {i : Nat} (t : IterK kd h it a i) : ∃ o, h.get? it = some o ∧ ∀ v, o.data ≠ .cell v := by
  cases kd with
  | true =>
    obtain ⟨o, e, _, d⟩ := (show h.IsTupleIter it a i from t)
    exact ⟨o, e, fun v q => by rw [d] at q; cases q⟩
  | false =>
    obtain ⟨o, e, _, d⟩ := (show h.IsListIter it a i from t)
    exact ⟨o, e, fun v q => by rw [d] at q; cases q⟩
theorem IsK.at' {kd : Bool} {h h' : Heap} {a : Addr} {its : Array Value} (t : IsK kd h a its) (k : ∀ o, h.get? a = some o → h'.get? a = some o) : IsK kd h' a its := by
  cases kd with
  | true => exact Heap.IsTuple.at (show h.IsTuple a its from t) k
  | false => exact Heap.IsList.at (show h.IsList a its from t) k
theorem drawsK {prog : Program} {w : World} {A : Around} (hh : A.handled = none) (kd : Bool) (it l : Addr) (hne : l ≠ it) (its : Array Value) :
    Draws prog w A it [it, l] its.size (fun i v => its[i]? = some v) (fun i h => IterK kd h it l i ∧ IsK kd h l its) := by
  cases kd with
  | true => exact Draws.tuple hh it l hne its
  | false => exact Draws.list hh it l hne its

/-! ### zip -/
def ItzK (K : PySem.W.Frag) (k1 k2 : Bool) (a b : Addr) : It where
  go := fun i H => ∃ (xs ys : List V) (x y : V), SqK K k1 H a xs ∧ SqK K k2 H b ys ∧ xs[i]? = some x ∧ ys[i]? = some y
  yld := fun i H v H' => ∃ T x y, v = .ref T ∧ H T = none ∧ H' = upd H T (.tup [x, y]) ∧ (∀ xs, SqK K k1 H a xs → xs[i]? = some x) ∧ ∀ ys, SqK K k2 H b ys → ys[i]? = some y
  stop := fun i H => ∃ xs ys : List V, SqK K k1 H a xs ∧ SqK K k2 H b ys ∧ i ≤ xs.length ∧ i ≤ ys.length ∧ (i = xs.length ∨ i = ys.length)
structure ZSep (z TI TO i1 i2 a b : Addr) : Prop where
  sep : ZipSep2 z TI TO i1 i2 [i1, a] [i2, b]
  n1 : a ≠ i1
  n2 : b ≠ i2
theorem zsep_new (n a b : Nat) (ha : a < n) (hb : b < n) : ZSep (n + 4) (n + 2) (n + 3) n (n + 1) a b := by
  refine ⟨?_, Nat.ne_of_lt ha, Nat.ne_of_lt (Nat.lt_succ_of_lt hb)⟩
  constructor <;> simp only [List.mem_cons, List.not_mem_nil, or_false, not_or, true_or, ne_eq] <;> (try constructor) <;> (intro q; have q' : (_ : Nat) = _ := q; omega)
theorem turn_zipK {P : Program} {w : World} {K : PySem.W.Frag} {k1 k2 : Bool} {elts : List Expr} {kk : Nat} {tpos : Pos} {a b z TI TO i1 i2 : Addr} (D : ZSep z TI TO i1 i2 a b) :
    Turn P w K (.Tuple elts kk tpos) (ItzK K k1 k2 a b) [z, TI, TO, i1, i2] z
      (fun i h => IsZip h z TI TO .none ∧ IsTupOf2 h TI (.ref i1) (.ref i2) ∧ (∃ x y, IsTupOf2 h TO x y) ∧ IterK k1 h i1 a i ∧ IterK k2 h i2 b i) := by
  have S := D.sep
  have five : ∀ c, c ∈ [z, TI, TO, i1, i2] → c = z ∨ c = TI ∨ c = TO ∨ c = i1 ∨ c = i2 := fun c hc => by simpa using hc
  constructor
  · simp
  · rintro i h ⟨hz, hTI, ⟨x, y, hTO⟩, h1, h2⟩ c hc
    rcases five c hc with rfl | rfl | rfl | rfl | rfl
    · exact ⟨_, hz, fun v q => nomatch q⟩
    · exact ⟨_, hTI, fun v q => nomatch q⟩
    · exact ⟨_, hTO, fun v q => nomatch q⟩
    · exact h1.ob
    · exact h2.ob
  · rintro i h h' ⟨hz, hTI, ⟨x, y, hTO⟩, h1, h2⟩ k
    exact ⟨k z (by simp) _ hz, k TI (by simp) _ hTI, ⟨x, y, k TO (by simp) _ hTO⟩, h1.at' (k i1 (by simp)), h2.at' (k i2 (by simp))⟩
  · intro X hP hw hK hc i pins s σ H E I hf st hg
    subst hP hw hK
    obtain ⟨hz, hTI, ⟨x0, y0, hTO⟩, h1, h2⟩ := st
    obtain ⟨xs, ys, x, y, qx, qy, ex, ey⟩ := hg
    obtain ⟨us, rx, p1, _⟩ := qx.get I
    obtain ⟨ws, ry, p2, _⟩ := qy.get I
    obtain ⟨u, hu, ru⟩ := rx.get ex
    obtain ⟨v, hv, rv⟩ := ry.get ey
    have hd : X.A.in1.handled = none := I.ok.hd hc
    have lx : i < us.toArray.size := by
      rw [List.size_toArray]; exact (List.getElem?_eq_some_iff.mp hu).1
    have ly : i < ws.toArray.size := by
      rw [List.size_toArray]; exact (List.getElem?_eq_some_iff.mp hv).1
    have zlt := Heap.lt_size hz
    refine wpAny_pyNext_zipD2_item S (drawsK hd k1 i1 a D.n1 us.toArray) (drawsK hd k2 i2 b D.n2 ws.toArray) hz hTI hTO ⟨h1, p1⟩ ⟨h2, p2⟩ lx ly ?_
    intro u' v' h' tk eu ev z' TO' st1 st2 hT hsz hk
    have eu' : u' = u := by
      have q : us[i]? = some u' := by simpa using eu
      rw [hu] at q; exact (Option.some.inj q).symm
    have ev' : v' = v := by
      have q : ws[i]? = some v' := by simpa using ev
      rw [hv] at q; exact (Option.some.inj q).symm
    subst eu' ev'
    refine ⟨_, rfl, wpAny_letOwnedTupleGo_zip (s := { s with heap := h', toks := tk }) z' fun h2' z2 sb => ?_⟩
    have far : ∀ c, c ≠ z → h2'.get? c = h'.get? c := fun c q => sb.2 c q
    have hTn : s.heap.objs.size ≠ z := Nat.ne_of_gt zlt
    have pair : h2'.get? s.heap.objs.size = some { cls := .type "tuple", data := .seq #[u', v'] } := (far _ hTn).trans hT
    have stays : ∀ c o, c ∉ [z, TI, TO, i1, i2] → s.heap.get? c = some o → h2'.get? c = some o := fun c o hb q => by
      have nz : c ≠ z := fun e => hb (by simp [e])
      rw [far c nz]
      exact hk c o nz (fun e => hb (by simp [e])) (fun e => hb (by simp [e])) (fun e => hb (by simp [e])) q
    have made : ObjOk X.prog X.w (upd H s.heap.objs.size (.tup [x, y])) h2' s.heap.objs.size (.tup [x, y]) := by
      refine ⟨?_, [u', v'], .cons ru (.cons rv .nil), _, pair, rfl, _, rfl⟩
      show 2 ≤ sizeLine
      decide
    have J := I.turnedNew (t' := tk) (ch := [z, TI, TO, i1, i2]) stays hf (Nat.le_refl _) made
    refine ⟨.ref s.heap.objs.size, _, J, rfl, ⟨_, x, y, rfl, I.hok.fresh (Nat.le_refl _), rfl, ?_, ?_⟩, ⟨z2, ?_, ⟨u', v', ?_⟩, ?_, ?_⟩, ?_⟩
    · intro l hl; rw [hl.inj I qx]; exact ex
    · intro l hl; rw [hl.inj I qy]; exact ey
    · exact (far _ S.TIz).trans (hk _ _ S.TIz S.TITO S.TIi1 S.TIi2 hTI)
    · exact (far _ S.TOz).trans TO'
    · exact st1.1.at' fun o q => (far _ S.zi1.symm).trans q
    · exact st2.1.at' fun o q => (far _ S.zi2.symm).trans q
    · intro c hcm
      have clt : c < s.heap.objs.size := by
        rcases five c hcm with rfl | rfl | rfl | rfl | rfl
        · exact zlt
        · exact Heap.lt_size hTI
        · exact Heap.lt_size hTO
        · obtain ⟨_, e, _⟩ := h1.ob; exact Heap.lt_size e
        · obtain ⟨_, e, _⟩ := h2.ob; exact Heap.lt_size e
      rw [upd_ne (Nat.ne_of_lt clt)]
      exact (hf c hcm).1
  · intro X hP hw hK hc i pins s σ H E I hf st hg
    subst hP hw hK
    obtain ⟨hz, hTI, ⟨x0, y0, hTO⟩, h1, h2⟩ := st
    obtain ⟨xs, ys, qx, qy, le1, le2, hend⟩ := hg
    obtain ⟨us, rx, p1, _⟩ := qx.get I
    obtain ⟨ws, ry, p2, _⟩ := qy.get I
    have hd : X.A.in1.handled = none := I.ok.hd hc
    have l1 : us.toArray.size = xs.length := by rw [List.size_toArray]; exact rx.length.symm
    have l2 : ws.toArray.size = ys.length := by rw [List.size_toArray]; exact ry.length.symm
    refine wpAny_pyNext_zipD2_end S (drawsK hd k1 i1 a D.n1 us.toArray) (drawsK hd k2 i2 b D.n2 ws.toArray) hz hTI hTO ⟨h1, p1⟩ ⟨h2, p2⟩ (by omega) (by omega) (by omega) ?_
    intro h' tk hk
    refine ⟨rfl, I.turnedL (t' := tk) (ch := [z, TI, TO, i1, i2]) ?_ hf⟩
    intro c o hb q
    exact hk c o (fun e => hb (by simp [e])) (fun e => hb (by simp [e])) (fun e => hb (by simp [e])) (fun e => hb (by simp [e])) q
  · intro A i s Q E st h
    exact wpAny_pyIter_zip st.1 h

/-! zip(..) made: an iterator of each, a pair of both, a pair to hand out, the zip -/
abbrev zK1 (k1 : Bool) (h : Heap) (a : Addr) : Heap := h.push { cls := .type (itN k1), data := .fields #[.ref a, .int 0 0] }
abbrev zK2 (k1 k2 : Bool) (h : Heap) (a b : Addr) : Heap := Heap.push (zK1 k1 h a) { cls := .type (itN k2), data := .fields #[.ref b, .int 0 0] }
abbrev zK3 (k1 k2 : Bool) (h : Heap) (a b : Addr) : Heap := Heap.push (zK2 k1 k2 h a b) { cls := .type "tuple", data := .seq #[.ref h.objs.size, .ref (zK1 k1 h a).objs.size] }
abbrev zK4 (k1 k2 : Bool) (h : Heap) (a b : Addr) : Heap := Heap.push (zK3 k1 k2 h a b) { cls := .type "tuple", data := .seq #[.none, .none] }
abbrev zK5 (k1 k2 : Bool) (h : Heap) (a b : Addr) : Heap := Heap.push (zK4 k1 k2 h a b) { cls := .type "zip", data := .fields #[.none, .bool false, .bool false, .ref (zK2 k1 k2 h a b).objs.size, .ref (zK3 k1 k2 h a b).objs.size] }
theorem IsK.push' {kd : Bool} {h : Heap} {a : Addr} {its : Array Value} (t : IsK kd h a its) (o : Obj) : IsK kd (h.push o) a its := t.at' fun _ e => Heap.get?_push_of_some _ e
theorem pyIterK {prog : Program} {w : World} {A : Around} {E : Value → Shared → Prop} {s : Shared} {kd : Bool} {a : Addr} {its : Array Value} {Q : Value → Shared → Prop} (t : IsK kd s.heap a its)
    (h : Q (.ref s.heap.objs.size) { s with heap := s.heap.push { cls := .type (itN kd), data := .fields #[.ref a, .int 0 0] } }) : wpAny (model prog w) A (pyIter (.ref a)) Q E s := by
  cases kd with
  | true => exact wpAny_pyIter_tuple (show s.heap.IsTuple a its from t) h
  | false => exact wpAny_pyIter_list (show s.heap.IsList a its from t) h
theorem meets_zipK (k1 k2 : Bool) (a b : Addr) (xs ys : Array Value) :
    Meets (Builtin.«zip.__new__» ⟨[.type "zip", .ref a, .ref b], []⟩) (fun _ R s => IsK k1 s.heap a xs ∧ IsK k2 s.heap b ys ∧
      R (.ok (.ret (.ref (zK4 k1 k2 s.heap a b).objs.size))) { s with heap := zK5 k1 k2 s.heap a b }) :=
  .of_wp fun prog w A R s h => by
    obtain ⟨hp, g, d, tk, os⟩ := s
    obtain ⟨h1, h2, h⟩ := h
    have hsub := sub_zip
    have p1 : IsK k1 (Shared.heap ⟨hp, g, d, tk, os⟩) a xs := h1
    have p2 : IsK k2 (Shared.heap ⟨hp.push { cls := .type (itN k1), data := .fields #[.ref a, .int 0 0] }, g, d, tk, os⟩) b ys := IsK.push' h2 _
    wp_walk using pyIterK p1, pyIterK p2
    exact ⟨_, rfl, h⟩
theorem iterK_new {kd : Bool} {h : Heap} {it a : Addr} (e : h.get? it = some { cls := .type (itN kd), data := .fields #[.ref a, .int 0 0] }) : IterK kd h it a 0 := by
  cases kd with
  | true => exact ⟨_, e, rfl, rfl⟩
  | false => exact ⟨_, e, rfl, rfl⟩
theorem call_zipK {prog : Program} {w : World} {A : Around} {E : Value → Shared → Prop} {s : Shared} {k1 k2 : Bool} {a b : Addr} {xs ys : Array Value} {Q : Value → Shared → Prop} (h1 : IsK k1 s.heap a xs) (h2 : IsK k2 s.heap b ys)
    (h : ∀ h', IsZip h' (s.heap.objs.size + 4) (s.heap.objs.size + 2) (s.heap.objs.size + 3) .none → IsTupOf2 h' (s.heap.objs.size + 2) (.ref s.heap.objs.size) (.ref (s.heap.objs.size + 1)) →
      IsTupOf2 h' (s.heap.objs.size + 3) .none .none → IterK k1 h' s.heap.objs.size a 0 → IterK k2 h' (s.heap.objs.size + 1) b 0 →
      (∀ c o, s.heap.get? c = some o → h'.get? c = some o) → Q (.ref (s.heap.objs.size + 4)) { s with heap := h' }) :
    wpAny (model prog w) A (call (.type "zip") [.ref a, .ref b]) Q E s := by
  refine callType_new F.called_zip (by decide) (F.typeCall_zip_2 _ _) (F.newCall_zip_2 _ _) (fun obj => F.args_object_init_3 obj _ _) F.entry_zip_new (meets_zipK k1 k2 a b xs ys) ⟨h1, h2, ?_⟩
  have e1 : (zK1 k1 s.heap a).objs.size = s.heap.objs.size + 1 := by rw [Heap.size_push]
  have e2 : (zK2 k1 k2 s.heap a b).objs.size = s.heap.objs.size + 2 := by rw [Heap.size_push, e1]
  have e3 : (zK3 k1 k2 s.heap a b).objs.size = s.heap.objs.size + 3 := by rw [Heap.size_push, e2]
  have e4 : (zK4 k1 k2 s.heap a b).objs.size = s.heap.objs.size + 4 := by rw [Heap.size_push, e3]
  have o5 : (zK5 k1 k2 s.heap a b).get? (zK4 k1 k2 s.heap a b).objs.size = some _ := Heap.get?_push_size _ rfl
  have o4 : (zK5 k1 k2 s.heap a b).get? (zK3 k1 k2 s.heap a b).objs.size = some _ := Heap.get?_push_of_some _ (Heap.get?_push_size _ rfl)
  have o3 : (zK5 k1 k2 s.heap a b).get? (zK2 k1 k2 s.heap a b).objs.size = some _ := Heap.get?_push_of_some _ (Heap.get?_push_of_some _ (Heap.get?_push_size _ rfl))
  have o2 : (zK5 k1 k2 s.heap a b).get? (zK1 k1 s.heap a).objs.size = some _ := Heap.get?_push_of_some _ (Heap.get?_push_of_some _ (Heap.get?_push_of_some _ (Heap.get?_push_size _ rfl)))
  have o1 : (zK5 k1 k2 s.heap a b).get? s.heap.objs.size = some _ := Heap.get?_push_of_some _ (Heap.get?_push_of_some _ (Heap.get?_push_of_some _ (Heap.get?_push_of_some _ (Heap.get?_push_size _ rfl))))
  show _ ∧ _
  rw [e2, e3, e4] at o5
  rw [e3] at o4
  rw [e1, e2] at o3
  rw [e1] at o2
  rw [e4]
  refine ⟨⟨_, o5, rfl⟩, h _ o5 o3 o4 (iterK_new o1) (iterK_new o2) ?_⟩
  intro c o x
  iterate 5 refine Heap.get?_push_of_some _ ?_
  exact x
def iZipK (K : PySem.W.Frag) (k1 k2 : Bool) (ta : TA) : TI := fun σ H R => ta σ H fun vs H1 => ∃ a b xs ys, vs = [.ref a, .ref b] ∧ SqK K k1 H1 a xs ∧ SqK K k2 H1 b ys ∧ R (ItzK K k1 k2 a b) H1
theorem pi_zipK (k1 k2 : Bool) {X : Cx} {e e2 : Expr} {ta : TA} {p pos tpos : Pos} {elts : List Expr} {kk : Nat} (hg : Gl X "zip") (hm : X.mg "zip" = none) (ha : PA X [e, e2] ta)
    (hs : starEach [e, e2] X.env = (false, eval e X.env) :: starEach [e2] X.env := by rfl) (hpl : (backTo pos (starEach [e2] X.env)).any (·.1) = false := by rfl) :
    PI X (.Tuple elts kk tpos) (.Call (.Name "zip" p) [e, e2] [] pos) (iZipK X.K k1 k2 ta) := by
  refine ⟨fun pins s σ H R I h => ?_⟩
  refine Call_ (ld_blt I hg hm PyProof.Rows.boot_zip (PyProof.Rows.callWith_type1 (thn (ha.run pos pins s σ H _ I h) ?_) hs hpl))
  rintro us s1 ⟨vs, H1, J, r, a, b, xs, ys, rfl, qx, qy, q⟩
  cases r with
  | cons ra r =>
    cases r with
    | cons rb r =>
      cases r
      cases ra
      cases rb
      obtain ⟨its, rx, p1, la⟩ := qx.get J
      obtain ⟨jts, ry, p2, lb⟩ := qy.get J
      refine call_zipK p1 p2 fun h' hz hTI hTO i1 i2 hk => wpAny_pyIter_zip hz ?_
      have J2 : Inv X pins σ H1 { s1 with heap := h' } := J.kept (t' := s1.toks) hk
      refine ⟨s1.heap.objs.size + 4, [s1.heap.objs.size + 4, s1.heap.objs.size + 2, s1.heap.objs.size + 3, s1.heap.objs.size, s1.heap.objs.size + 1], _, _, H1, rfl, J2, turn_zipK (zsep_new s1.heap.objs.size a b la lb), ⟨hz, hTI, ⟨_, _, hTO⟩, i1, i2⟩, ?_, q⟩
      intro c hc
      have ge : s1.heap.objs.size ≤ c := by
        simp only [List.mem_cons, List.not_mem_nil, or_false] at hc
        rcases hc with rfl | rfl | rfl | rfl | rfl
        all_goals first | exact Nat.le_add_right _ _ | exact Nat.le_refl _
      exact J.fpOk ge (J.hok.fresh ge)
/-- a loop over zip of two that are as long -/
theorem k_forZ {K : PySem.W.Frag} {k1 k2 : Bool} {a b : Addr} {xs ys : List V} {g : TG} {tb : TS} {D : Ends} {σ : L2.St} {H : Hp} (hl : xs.length = ys.length) (Pv : Nat → L2.St → Hp → Prop) (h0 : Pv 0 σ H) (hq : ∀ i σ H, Pv i σ H → SqK K k1 H a xs ∧ SqK K k2 H b ys)
    (hs : ∀ (i : Nat) (x y : V) (T : Addr) (σ : L2.St) (H : Hp), xs[i]? = some x → ys[i]? = some y → Pv i σ H → H T = none → g (.ref T) σ (upd H T (.tup [x, y])) fun σ2 H2 => tb { D with nx := Pv (i + 1), ct := Pv (i + 1), bk := D.nx } σ2 H2)
    (hd : ∀ σ H, Pv xs.length σ H → D.nx σ H) :
    ∃ W : Nat → Nat → L2.St → Hp → Prop, (∃ m, W 0 m σ H) ∧ ∀ i m σ H, W i m σ H →
      ((ItzK K k1 k2 a b).stop i H ∧ D.nx σ H) ∨ ((ItzK K k1 k2 a b).go i H ∧ ∃ N : L2.St → Hp → Prop, (∀ σ' H', N σ' H' → ∃ m', m' < m ∧ W (i + 1) m' σ' H') ∧ ∀ v H', (ItzK K k1 k2 a b).yld i H v H' → g v σ H' fun σ2 H2 => tb { D with nx := N, ct := N, bk := D.nx } σ2 H2) := by
  refine ⟨fun i m σ H => m + i = xs.length ∧ Pv i σ H, ⟨xs.length, by omega, h0⟩, ?_⟩
  rintro i m σ H ⟨em, p⟩
  obtain ⟨qx, qy⟩ := hq i σ H p
  by_cases lt : i < xs.length
  · have ex := List.getElem?_eq_getElem lt
    have ey := List.getElem?_eq_getElem (l := ys) (i := i) (by omega)
    refine .inr ⟨⟨xs, ys, _, _, qx, qy, ex, ey⟩, Pv (i + 1), fun σ' H' p' => ⟨m - 1, by omega, by omega, p'⟩, ?_⟩
    rintro v H' ⟨T, x, y, rfl, hT, rfl, f1, f2⟩
    exact hs i x y T σ H (f1 xs qx) (f2 ys qy) p hT
  · have e : i = xs.length := by omega
    subst e
    exact .inl ⟨⟨xs, ys, qx, qy, Nat.le_refl _, by omega, .inl rfl⟩, hd σ H p⟩

/-! ### enumerate -/
def IteK (K : PySem.W.Frag) (kd : Bool) (a : Addr) : It where
  go := fun i H => ∃ (xs : List V) (x : V), SqK K kd H a xs ∧ xs[i]? = some x
  yld := fun i H v H' => ∃ T x, v = .ref T ∧ H T = none ∧ H' = upd H T (.tup [.int (i : Nat), x]) ∧ ∀ xs, SqK K kd H a xs → xs[i]? = some x
  stop := fun i H => ∃ xs : List V, SqK K kd H a xs ∧ i = xs.length
theorem turn_enumK {P : Program} {w : World} {K : PySem.W.Frag} {kd : Bool} {elts : List Expr} {kk : Nat} {tpos : Pos} {a e it : Addr} (nit : a ≠ it) (nei : e ≠ it) (nea : e ≠ a) :
    Turn P w K (.Tuple elts kk tpos) (IteK K kd a) [e, it] e (fun i h => (∃ old, IsEnum h e it ((i : Nat) : Int) old) ∧ IterK kd h it a i) := by
  have two : ∀ c, c ∈ [e, it] → c = e ∨ c = it := fun c hc => by simpa using hc
  have nef : e ∉ [it, a] := by simp [nei, nea]
  constructor
  · simp
  · rintro i h ⟨⟨old, he⟩, hi⟩ c hc
    rcases two c hc with rfl | rfl
    · exact ⟨_, he, fun v q => nomatch q⟩
    · exact hi.ob
  · rintro i h h' ⟨⟨old, he⟩, hi⟩ k
    exact ⟨⟨old, k e (by simp) _ he⟩, hi.at' (k it (by simp))⟩
  · intro X hP hw hK hc i pins s σ H E I hf st hg
    subst hP hw hK
    obtain ⟨⟨old, he⟩, hi⟩ := st
    obtain ⟨xs, x, qx, ex⟩ := hg
    obtain ⟨us, rx, p1, _⟩ := qx.get I
    obtain ⟨u, hu, ru⟩ := rx.get ex
    have hd : X.A.in1.handled = none := I.ok.hd hc
    have lx : i < us.toArray.size := by rw [List.size_toArray]; exact (List.getElem?_eq_some_iff.mp hu).1
    have elt := Heap.lt_size he
    refine wpAny_pyNext_enum_itemD (drawsK hd kd it a nit us.toArray) he ⟨hi, p1⟩ lx nei nef ?_
    intro u' h' tk eu he' st' hT hsz hk
    have eu' : u' = u := by
      have q : us[i]? = some u' := by simpa using eu
      rw [hu] at q; exact (Option.some.inj q).symm
    subst eu'
    refine ⟨_, rfl, wpAny_letOwnedTupleGo_enum (s := { s with heap := h', toks := tk + 1 }) he' fun h2' he2 sb => ?_⟩
    have far : ∀ c, c ≠ e → h2'.get? c = h'.get? c := fun c q => sb.2 c q
    have pair : h2'.get? s.heap.objs.size = some { cls := .type "tuple", data := .seq #[.int i tk, u'] } := (far _ (Nat.ne_of_gt elt)).trans hT
    have stays : ∀ c o, c ∉ [e, it] → s.heap.get? c = some o → h2'.get? c = some o := fun c o hb q => by
      have nz : c ≠ e := fun z => hb (by simp [z])
      rw [far c nz]
      exact hk c o nz (fun z => hb (by simp [z])) q
    have made : ObjOk X.prog X.w (upd H s.heap.objs.size (.tup [.int (i : Nat), x])) h2' s.heap.objs.size (.tup [.int (i : Nat), x]) := by
      refine ⟨?_, [.int i tk, u'], .cons ⟨_, rfl⟩ (.cons ru .nil), _, pair, rfl, _, rfl⟩
      show 2 ≤ sizeLine
      decide
    have J := I.turnedNew (t' := tk + 1) (ch := [e, it]) stays hf (Nat.le_refl _) made
    refine ⟨.ref s.heap.objs.size, _, J, rfl, ⟨_, x, rfl, I.hok.fresh (Nat.le_refl _), rfl, ?_⟩, ⟨⟨u', ?_⟩, ?_⟩, ?_⟩
    · intro l hl; rw [hl.inj I qx]; exact ex
    · have e1 : ((i + 1 : Nat) : Int) = (i : Int) + 1 := by omega
      rw [e1]; exact he2
    · exact st'.1.at' fun o q => (far _ nei.symm).trans q
    · intro c hcm
      have clt : c < s.heap.objs.size := by
        rcases two c hcm with rfl | rfl
        · exact elt
        · obtain ⟨_, z, _⟩ := hi.ob; exact Heap.lt_size z
      rw [upd_ne (Nat.ne_of_lt clt)]
      exact (hf c hcm).1
  · intro X hP hw hK hc i pins s σ H E I hf st hg
    subst hP hw hK
    obtain ⟨⟨old, he⟩, hi⟩ := st
    obtain ⟨xs, qx, el⟩ := hg
    obtain ⟨us, rx, p1, _⟩ := qx.get I
    have hd : X.A.in1.handled = none := I.ok.hd hc
    have l1 : us.toArray.size = i := by rw [List.size_toArray, el]; exact rx.length.symm
    subst l1
    obtain ⟨f0, f1, f2, f3, f4, f5⟩ := hf it (by simp)
    exact wpAny_pyNext_enum_endD (drawsK hd kd it a nit us.toArray) he ⟨hi, p1⟩ fun h' eb => ⟨rfl, I.turned (t' := s.toks) (fun c o hb q => eb c o hb q) f0 f1 f3 f4 f5⟩
  · rintro A i s Q E ⟨⟨_, he⟩, _⟩ h
    exact wpAny_pyIter_enum he h
abbrev eK1 (kd : Bool) (h : Heap) (a : Addr) : Heap := h.push { cls := .type (itN kd), data := .fields #[.ref a, .int 0 0] }
abbrev eK2 (kd : Bool) (h : Heap) (a : Addr) : Heap := Heap.push (eK1 kd h a) { cls := .type "enumerate", data := .fields #[.none, .bool false, .ref h.objs.size, rawInt 0, .none, .none] }
theorem meets_enumT (l : Addr) (items : Array Value) (n : Nat) (dct : Option Addr) (sl : Array (Option Value)) :
    Meets (Builtin.«enumerate.__new__» ⟨[.type "enumerate", .ref l], []⟩) (fun _ R s => s.heap.get? l = some { cls := .type "tuple", dict := dct, data := .seq items n, slots := sl } ∧
      R (.ok (.ret (.ref (eK1 true s.heap l).objs.size))) { s with heap := eK2 true s.heap l }) :=
  .of_wp fun prog w A R s h => by
    obtain ⟨hp, g, d, tk, os⟩ := s
    obtain ⟨hl, h⟩ := h
    have hsub := sub_enumerate
    have hL : Heap.IsTuple (Shared.heap ⟨hp, g, d, tk, os⟩) l items := ⟨_, hl, rfl, n, rfl⟩
    wp_walk using wpAny_loadPart' hl
    refine wpAny_stack_any fun st => wpAny_pure ?_
    split
    · rename_i c _ _ _ _ _
      cases (c == Value.type "enumerate") <;> (wp_walk using wpAny_loadPart' hl, wpAny_pyIter_tuple hL) <;> exact ⟨_, rfl, h⟩
    · wp_walk using wpAny_loadPart' hl, wpAny_pyIter_tuple hL
      exact ⟨_, rfl, h⟩
theorem call_enumK {prog : Program} {w : World} {A : Around} {E : Value → Shared → Prop} {s : Shared} {kd : Bool} {l : Addr} {items : Array Value} {Q : Value → Shared → Prop} (hL : IsK kd s.heap l items)
    (h : ∀ h', IsEnum h' (s.heap.objs.size + 1) s.heap.objs.size 0 .none → IterK kd h' s.heap.objs.size l 0 → (∀ b o, s.heap.get? b = some o → h'.get? b = some o) → Q (.ref (s.heap.objs.size + 1)) { s with heap := h' }) :
    wpAny (model prog w) A (call (.type "enumerate") [.ref l]) Q E s := by
  cases kd with
  | false => exact call_enumerate_list (show s.heap.IsList l items from hL) fun h' he hi _ hk => h h' he hi hk
  | true =>
    obtain ⟨⟨c, dct, dt, sl⟩, hl, hc, n, hd⟩ := (show s.heap.IsTuple l items from hL)
    obtain rfl : c = .type "tuple" := hc
    obtain rfl : dt = .seq items n := hd
    refine callType_new F.called_enumerate (by decide) (F.typeCall_enumerate_1 _) (F.newCall_enumerate_1 _) (fun obj => F.args_object_init_2 obj _) F.entry_enumerate_new (meets_enumT l items n dct sl) ⟨hl, ?_⟩
    have e1 : (eK1 true s.heap l).objs.size = s.heap.objs.size + 1 := by rw [Heap.size_push]
    have o2 : (eK2 true s.heap l).get? (eK1 true s.heap l).objs.size = some _ := Heap.get?_push_size _ rfl
    have o1 : (eK2 true s.heap l).get? s.heap.objs.size = some _ := Heap.get?_push_of_some _ (Heap.get?_push_size _ rfl)
    show _ ∧ _
    rw [e1] at o2
    rw [e1]
    refine ⟨⟨_, o2, rfl⟩, h _ o2 (iterK_new (kd := true) o1) ?_⟩
    intro c o x
    iterate 2 refine Heap.get?_push_of_some _ ?_
    exact x
def iEnumK (K : PySem.W.Frag) (kd : Bool) (ta : TA) : TI := fun σ H R => ta σ H fun vs H1 => ∃ a xs, vs = [.ref a] ∧ SqK K kd H1 a xs ∧ R (IteK K kd a) H1
theorem pi_enumK (kd : Bool) {X : Cx} {e : Expr} {ta : TA} {p pos tpos : Pos} {elts : List Expr} {kk : Nat} (hg : Gl X "enumerate") (hm : X.mg "enumerate" = none) (ha : PA X [e] ta)
    (hs : starEach [e] X.env = [(false, eval e X.env)] := by rfl) : PI X (.Tuple elts kk tpos) (.Call (.Name "enumerate" p) [e] [] pos) (iEnumK X.K kd ta) := by
  refine ⟨fun pins s σ H R I h => ?_⟩
  refine Call_ (ld_blt I hg hm boot_enumerate (PyProof.Rows.callWith_type1 (thn (ha.run pos pins s σ H _ I h) ?_) hs rfl))
  rintro us s1 ⟨vs, H1, J, r, a, xs, rfl, qx, q⟩
  cases r with
  | cons ra r =>
    cases r
    cases ra
    obtain ⟨its, rx, p1, la⟩ := qx.get J
    refine call_enumK p1 fun h' he hi hk => wpAny_pyIter_enum he ?_
    have J2 : Inv X pins σ H1 { s1 with heap := h' } := J.kept (t' := s1.toks) hk
    refine ⟨s1.heap.objs.size + 1, [s1.heap.objs.size + 1, s1.heap.objs.size], _, _, H1, rfl, J2, turn_enumK (a := a) (e := s1.heap.objs.size + 1) (it := s1.heap.objs.size) (Nat.ne_of_lt la) (Nat.succ_ne_self _) (Nat.ne_of_gt (Nat.lt_succ_of_lt la)), ⟨⟨.none, he⟩, hi⟩, ?_, q⟩
    intro c hc
    have ge : s1.heap.objs.size ≤ c := by
      simp only [List.mem_cons, List.not_mem_nil, or_false] at hc
      rcases hc with rfl | rfl
      all_goals first | exact Nat.le_add_right _ _ | exact Nat.le_refl _
    exact J.fpOk ge (J.hok.fresh ge)
theorem k_forE {K : PySem.W.Frag} {kd : Bool} {a : Addr} {xs : List V} {g : TG} {tb : TS} {D : Ends} {σ : L2.St} {H : Hp} (Pv : Nat → L2.St → Hp → Prop) (h0 : Pv 0 σ H) (hq : ∀ i σ H, Pv i σ H → SqK K kd H a xs)
    (hs : ∀ (i : Nat) (x : V) (T : Addr) (σ : L2.St) (H : Hp), xs[i]? = some x → Pv i σ H → H T = none → g (.ref T) σ (upd H T (.tup [.int (i : Nat), x])) fun σ2 H2 => tb { D with nx := Pv (i + 1), ct := Pv (i + 1), bk := D.nx } σ2 H2)
    (hd : ∀ σ H, Pv xs.length σ H → D.nx σ H) :
    ∃ W : Nat → Nat → L2.St → Hp → Prop, (∃ m, W 0 m σ H) ∧ ∀ i m σ H, W i m σ H →
      ((IteK K kd a).stop i H ∧ D.nx σ H) ∨ ((IteK K kd a).go i H ∧ ∃ N : L2.St → Hp → Prop, (∀ σ' H', N σ' H' → ∃ m', m' < m ∧ W (i + 1) m' σ' H') ∧ ∀ v H', (IteK K kd a).yld i H v H' → g v σ H' fun σ2 H2 => tb { D with nx := N, ct := N, bk := D.nx } σ2 H2) := by
  refine ⟨fun i m σ H => m + i = xs.length ∧ Pv i σ H, ⟨xs.length, by omega, h0⟩, ?_⟩
  rintro i m σ H ⟨em, p⟩
  have qx := hq i σ H p
  by_cases lt : i < xs.length
  · have ex := List.getElem?_eq_getElem lt
    refine .inr ⟨⟨xs, _, qx, ex⟩, Pv (i + 1), fun σ' H' p' => ⟨m - 1, by omega, by omega, p'⟩, ?_⟩
    rintro v H' ⟨T, x, rfl, hT, rfl, f1⟩
    exact hs i x T σ H (f1 xs qx) p hT
  · have e : i = xs.length := by omega
    subst e
    exact .inl ⟨⟨xs, qx, rfl⟩, hd σ H p⟩
end Bk
/-! sorted(..) of a list or a tuple of ints; len(set(..)) of one -/
namespace PyProof.Rows
open PySem
section
variable {prog : Program} {w : World} {A : Around} {E : Value → Shared → Prop} {s : Shared}
theorem bk_collectT {t : Addr} {us : List Value} {Q : List Value → Shared → Prop} (ht : s.heap.IsTuple t us.toArray) (hz : us.length ≤ sizeLine)
    (h : Q us { s with heap := Heap.update (s.heap.push (seqObj "list" #[] 0)) s.heap.objs.size (Obj.mapSeq (· ++ us.toArray)) }) :
    wpAny (model prog w) A (collect (.ref t)) Q E s := by
  obtain ⟨ot, e1, e2, n, e3⟩ := id ht
  unfold collect
  refine wpAny_bind (wpAny_runValue (codeAny_builtin entry_proto_collect' (?_ : wpAny _ _ (do again (.builtin "list.__iadd__" ⟨[← newList [], .ref t], []⟩)) _ _ s)))
  refine wpAny_bind (wpAny_newList (wpAny_pure ⟨Code.quiet_builtin _ (by decide +kernel), codeAny_builtin entry_list_iadd' (?_ :
    wpAny _ _ (Builtin.List.listExtendWith (.ref s.heap.objs.size) (.ref t) (.ref s.heap.objs.size)) _ _ _)⟩))
  unfold Builtin.List.listExtendWith
  have f1 : (s.heap.push (seqObj "list" #[] 0)).get? t = some ot := Heap.get?_push_of_some _ e1
  have f2 : (s.heap.push (seqObj "list" #[] 0)).get? s.heap.objs.size = some (seqObj "list" #[] 0) := Heap.get?_push_size _ rfl
  refine wpAny_bind (wpAny_typeOf (T := "tuple") ⟨ot, f1, e2⟩ ?_)
  have tt : (Value.type "tuple" == Value.type "tuple") = true := by rfl
  rw [if_pos (by rw [tt]; simp)]
  refine wpAny_bind (listItems_at f1 e3 (wpAny_bind (listItems_at (xs := #[]) (n := 0) f2 rfl ?_)))
  rw [if_neg (by simp)]
  refine wpAny_bind (listUpdate_at (xs := #[]) (n := 0) f2 rfl (wpAny_pure ?_) (Nat.zero_le _) ?_)
  · show wpAny (model prog w) A (do
        let o ← load s.heap.objs.size
        match o.data with
        | .seq xs _ => pure xs.toList
        | _ => unsupported "internal:collect") Q E _
    refine wpAny_bind (wpAny_load (get?_update_seq f2 _) (?_ : wpAny _ _ (pure ((#[] : Array Value) ++ us.toArray).toList) Q E _))
    have eu : ((#[] : Array Value) ++ us.toArray).toList = us := by simp
    rw [eu]
    exact wpAny_pure h
  · show (#[] ++ us.toArray).size ≤ sizeLine + 1
    simp only [Array.size_append, List.size_toArray, List.length_nil]
    omega
theorem bk_sortedT {t : Addr} {us : List Value} {f : Value → Value → Bool} {Q : Value → Shared → Prop} (O : SrtO.Swo f) (ht : s.heap.IsTuple t us.toArray) (hz : us.length ≤ sizeLine)
    (hS : 2 ≤ us.length → ∀ (h1 : Heap) (a : Addr), SrtO.SortableO prog w A.in1.in1 { s with heap := h1 } a us f)
    (h : ∀ out : List Value, SrtO.Srtd f out → SrtO.Stb f out us → Q (.ref (s.heap.objs.size + 1)) { s with heap := sortedAll s.heap us out.toArray }) :
    wpAny (model prog w) A (call (.builtin "sorted") [.ref t]) Q E s := by
  refine Calls.call_function_entry kind_sorted plain_sorted entry_sorted (args_sorted1 _) ?_
  unfold Builtin.«sorted»
  refine wpAny_bind (m := checkCount "sorted" 1 1 _) (wpAny_pure (wpAny_bind (bk_collectT ht hz (wpAny_bind (wpAny_newList ?_ hz)))))
  have sz : (Heap.update (s.heap.push (seqObj "list" #[] 0)) s.heap.objs.size (Obj.mapSeq (· ++ us.toArray))).objs.size = s.heap.objs.size + 1 := by rw [Heap.size_update, size_push']
  have ob : (Heap.push (Heap.update (s.heap.push (seqObj "list" #[] 0)) s.heap.objs.size (Obj.mapSeq (· ++ us.toArray))) (seqObj "list" us.toArray 0)).get? (s.heap.objs.size + 1) = some (seqObj "list" us.toArray 0) := by
    rw [← sz]
    exact Heap.get?_push_size _ rfl
  show wpAny _ _ _ _ _ { s with heap := Heap.push (Heap.update (s.heap.push (seqObj "list" #[] 0)) s.heap.objs.size (Obj.mapSeq (· ++ us.toArray))) (seqObj "list" us.toArray 0) }
  rw [sz]
  refine wpAny_bind (wpAny_holding (wpAny_call_entry slot_list_sort ⟨_, ob, rfl⟩ entry_list_sort (SrtO.list_sort_ord O ob hz (fun h2 => hS h2 _ _) fun out hs hb => ⟨_, rfl, ?_⟩) (args_list_sort _)))
  exact wpAny_pure ⟨_, rfl, h out hs hb⟩
end
end PyProof.Rows
namespace Bk
open PySem PySem.Spec PyProof.Rows L2
def rSortedK (K : PySem.W.Frag) (kd : Bool) : List V → Hp → VK → Prop := fun vs H Q => ∃ (a : Addr) (ns : List Int), vs = [V.ref a] ∧ SqK K kd H a (ns.map V.int) ∧
  ∀ (ns' : List Int) (p : Addr), ns'.Perm ns → ns'.Pairwise (· ≤ ·) → H p = none → Q (.ref p) (upd H p (.lst (ns'.map V.int)))
theorem cr_sortedK (kd : Bool) {X : Cx} : CallR X (.builtin "sorted") (rSortedK X.K kd) := by
  cases kd with
  | false => exact cr_sortedI
  | true =>
    rintro pins s σ H vs us Q I r ⟨a, ns, rfl, hs, q⟩
    obtain ⟨its, rv, ht, hz⟩ := I.tuple hs
    rw [Vals.ref1 r]
    have hi := rv.ints
    refine bk_sortedT SrtO.swo_int (show s.heap.IsTuple a its.toArray from ht) (by rw [← rv.length]; exact hz) (fun h2 h1 b => SrtO.ints_sortable hi h2) fun out h1 h2 => ?_
    obtain ⟨k1, k2, k3⟩ := SrtO.ints_out hi h1 h2
    obtain ⟨ep, he⟩ := PyProof.Rows.sortedAll_at s.heap its out.toArray
    have hl : ((out.map SrtO.iv).map V.int).length ≤ sizeLine := by
      rw [List.length_map, k2.length_eq]
      rw [List.length_map] at hz
      exact hz
    refine ⟨.ref _, upd H (s.heap.objs.size + 1) (.lst ((out.map SrtO.iv).map V.int)), ?_, rfl, q _ _ k2 k3 (I.hok.fresh (Nat.le_succ _))⟩
    exact I.laid (t' := s.toks) (fun _ _ => PyProof.Rows.sortedAll_old) (Nat.le_succ _) ⟨hl, out, ep, vals_of_ints k1, he⟩
/-- how many unlike ones -/
def unl : List Int → Nat
  | [] => 0
  | n :: r => if n ∈ r then unl r else unl r + 1
theorem unl_le : ∀ ns : List Int, unl ns ≤ ns.length
  | [] => Nat.le_refl _
  | n :: r => by
    unfold unl
    have := unl_le r
    rw [List.length_cons]
    split <;> omega
theorem unl_nodup : ∀ {ns : List Int}, ns.Nodup → unl ns = ns.length
  | [], _ => rfl
  | n :: r, h => by
    obtain ⟨h1, h2⟩ := List.nodup_cons.mp h
    unfold unl
    rw [if_neg h1, unl_nodup h2, List.length_cons]
theorem nodup_unl : ∀ {ns : List Int}, unl ns = ns.length → ns.Nodup
  | [], _ => List.nodup_nil
  | n :: r, h => by
    unfold unl at h
    rw [List.length_cons] at h
    have := unl_le r
    split at h
    · omega
    · rename_i hn
      exact List.nodup_cons.mpr ⟨hn, nodup_unl (by omega)⟩
theorem unl_erase : ∀ {ns : List Int} {k : Int}, k ∈ ns → unl (ns.filter (· ≠ k)) + 1 = unl ns
  | [], k, h => by cases h
  | n :: r, k, h => by
    by_cases e : n = k
    · subst e
      rw [List.filter_cons, if_neg (by simp)]
      by_cases hr : n ∈ r
      · rw [unl_erase hr]
        conv => rhs; unfold unl
        rw [if_pos hr]
      · have ef : r.filter (· ≠ n) = r := List.filter_eq_self.mpr fun x hx => by
          have : x ≠ n := fun q => hr (q ▸ hx)
          simpa using this
        rw [ef]
        conv => rhs; unfold unl
        rw [if_neg hr]
    · have hk : k ∈ r := by
        rcases List.mem_cons.mp h with q | q
        · exact absurd q.symm e
        · exact q
      have ih := unl_erase hk
      rw [List.filter_cons, if_pos (by simpa using e)]
      unfold unl
      by_cases hr : n ∈ r
      · rw [if_pos hr, if_pos (List.mem_filter.mpr ⟨hr, by simpa using e⟩), ih]
      · rw [if_neg hr, if_neg fun q => hr (List.mem_filter.mp q).1]
        omega
/-- a list of unlike ones with just these members has so many -/
theorem unl_card : ∀ {ks ns : List Int}, ks.Nodup → (∀ k, k ∈ ks ↔ k ∈ ns) → ks.length = unl ns
  | [], ns, _, h => by
    cases ns with
    | nil => rfl
    | cons n r => exact absurd ((h n).mpr List.mem_cons_self) (by simp)
  | k :: ks, ns, hn, h => by
    obtain ⟨h1, h2⟩ := List.nodup_cons.mp hn
    have hk : k ∈ ns := (h k).mp List.mem_cons_self
    have ih := unl_card (ks := ks) (ns := ns.filter (· ≠ k)) h2 fun j => by
      rw [List.mem_filter]
      constructor
      · intro hj
        exact ⟨(h j).mp (List.mem_cons_of_mem _ hj), by simpa using fun q : j = k => h1 (q ▸ hj)⟩
      · rintro ⟨hj, nj⟩
        rcases List.mem_cons.mp ((h j).mpr hj) with q | q
        · exact absurd q (by simpa using nj)
        · exact q
    rw [List.length_cons, ih]
    exact unl_erase hk
theorem setR_card {w : World} {h : Heap} {a : Addr} {ns : List Int} {c : Nat} (R : SetR w h a (fun j => decide (j ∈ ns)) c) : c = unl ns := by
  obtain ⟨o, es, ep, t, _, _, _, _, nd, mem, _, _, ec, _⟩ := R
  have q := unl_card (ks := es.toList.map keyOf) (ns := ns) nd fun k => by
    rw [← mem k]
    simp
  rw [← q, List.length_map, ← ec]
  simp
def tLenSetK (K : PySem.W.Frag) (kd : Bool) (ta : TE) : TE := fun σ H Q => ta σ H fun x H1 => ∃ (l : Addr) (ns : List Int), x = .ref l ∧ SqK K kd H1 l (ns.map V.int) ∧ ns.length ≤ 4000 ∧ Q (.int (unl ns : Nat)) H1
theorem fm_nodup (val : Nat → Int) : ∀ i, (PyProof.Rows.firstMet val i).Nodup
  | 0 => List.nodup_nil
  | i + 1 => by
    rw [PyProof.Rows.firstMet_succ]
    have ih := fm_nodup val i
    unfold PyProof.Rows.step_dedup
    split
    · exact ih
    · rename_i hn
      refine List.nodup_append.mpr ⟨ih, by simp, ?_⟩
      intro x hx y hy e
      have ey : y = val i := by simpa using hy
      refine hn (List.any_eq_true.mpr ⟨x, hx, ?_⟩)
      rw [e, ey]
      simp
theorem fm_unl (ns : List Int) : (PyProof.Rows.firstMet (fun i => ns.getD i 0) ns.length).length = unl ns := by
  refine unl_card (fm_nodup _ _) fun k => ?_
  have e := PyProof.Rows.firstMet_any (fun i => ns.getD i 0) ns.length k
  have em : (List.range ns.length).map (fun i => ns.getD i 0) = ns := by
    refine List.ext_getElem (by simp) fun i h1 h2 => ?_
    simp [List.getD_eq_getElem?_getD, List.getElem?_eq_getElem h2]
  rw [em] at e
  have conv : ∀ l : List Int, (l.any (· == k)) = true ↔ k ∈ l := fun l => by
    rw [List.any_eq_true]
    constructor
    · rintro ⟨x, hx, ex⟩
      have : x = k := by simpa using ex
      exact this ▸ hx
    · intro hk
      exact ⟨k, hk, by simp⟩
  rw [← conv, e, conv]
theorem pe_lenSetK (kd : Bool) {X : Cx} {a : Expr} {ta : TE} {p p2 q pos : Pos} (hg : Gl X "len") (hm : X.mg "len" = none) (hg2 : Gl X "set") (hm2 : X.mg "set" = none) (ha : PE X a ta) (hc : X.calm = true := by rfl)
    (na : starEach [a] X.env = (false, eval a X.env) :: starEach [] X.env := by rfl) : PE X (.Call (.Name "len" p) [.Call (.Name "set" p2) [a] [] q] [] pos) (tLenSetK X.K kd ta) := by
  refine ⟨fun pins s σ H Q I h => Call_ (ld_blt I hg hm boot_len ?_)⟩
  refine PyProof.Rows.callWith_builtin1 (PyProof.Rows.args_cons (Call_ (ld_blt I hg2 hm2 boot_set ?_)) rfl) rfl rfl
  refine PyProof.Rows.callWith_type1 (PyProof.Rows.args_cons (thn (ha.run pins s σ H _ I h) ?_) na) na rfl
  rintro v s1 ⟨x, H1, J, r1, l, ns, rfl, hq, hl, q1⟩
  refine PyProof.Rows.args_nil ?_
  cases r1
  cases kd with
  | false =>
    obtain ⟨its, r, pl, hz⟩ := J.list hq
    have hlen : its.toArray.size = ns.length := by rw [List.size_toArray, ← r.length, List.length_map]
    refine call_set_list (J.ok.hd hc) pl.isList (by simpa using RZ.intsAre_vals r) (by rw [hlen]; unfold scanBound; omega) fun h' tk hS hk => PyProof.Rows.args_nil ?_
    rw [hlen] at hS
    obtain ⟨o, es, ep, t, ho, hex, hd, _, _, _, hf, hn⟩ := hS
    rw [fm_unl] at hn
    have J2 : Inv X pins σ H1 { s1 with heap := h', toks := tk } := J.kept fun b o e => hk b o (Heap.lt_size e) e
    have := unl_le ns
    exact call_len_set ho hex hd hf (by rw [hn]; omega) ⟨.int (unl ns : Nat), H1, J2.tok _, ⟨_, by rw [hn]⟩, q1⟩
  | true =>
    obtain ⟨its, r, pt, hz⟩ := J.tuple hq
    have hlen : its.toArray.size = ns.length := by rw [List.size_toArray, ← r.length, List.length_map]
    refine call_set_tupI (P := X.prog) (w := X.w) ns (J.ok.hd hc) (show s1.heap.IsTuple l its.toArray from pt) (by simpa using RZ.intsAre_vals r) (by unfold scanBound; omega) fun h' tk c R hcn hk => PyProof.Rows.args_nil ?_
    have ec := setR_card R
    obtain ⟨o, es, ep, t, ho, hex, hd, _, _, _, _, hf, hn, _⟩ := R
    have J2 : Inv X pins σ H1 { s1 with heap := h', toks := tk } := J.kept hk
    have := unl_le ns
    exact call_len_set ho hex hd hf (by rw [hn]; omega) ⟨.int (unl ns : Nat), H1, J2.tok _, ⟨_, by rw [hn, ec]⟩, q1⟩
end Bk
/-! loops and comprehensions, by steps; what built-ins ask; rows of numbers in a heap -/
namespace Bk
open PySem L2
section
variable {σ : L2.St} {H : Hp} {Q : VK} {D : Ends} {K : PySem.W.Frag}
def kFor (J : It) (g : TG) (tb : TS) (D : Ends) (σ : L2.St) (H1 : Hp) : Prop := ∃ W : Nat → Nat → L2.St → Hp → Prop, (∃ m, W 0 m σ H1) ∧ ∀ i m σ H, W i m σ H →
  (J.stop i H ∧ D.nx σ H) ∨ (J.go i H ∧ ∃ N : L2.St → Hp → Prop, (∀ σ' H', N σ' H' → ∃ m', m' < m ∧ W (i + 1) m' σ' H') ∧ ∀ x H', J.yld i H x H' → g x σ H' fun σ2 H2 => tb { D with nx := N, ct := N, bk := D.nx } σ2 H2)
def kLcA (Dl : Addr) (N : Hp → Prop) (y : V) (H4 : Hp) : Prop := ∃ acc, H4 Dl = some (.lst acc) ∧ acc.length < sizeLine ∧ N (upd H4 Dl (.lst (acc ++ [y])))
def kLcB (te : TE) (σ2 : L2.St) (Dl : Addr) (N : Hp → Prop) (b : Bool) (H3 : Hp) : Prop := if b = true then te σ2 H3 (fun y H4 => kLcA Dl N y H4) else N H3
def kLcT (g : TG) (tt : TT) (te : TE) (vs : List Nat) (σ : L2.St) (Dl : Addr) (N : Hp → Prop) (x : V) (H : Hp) : Prop := g x (wipe σ vs) H fun σ2 H2 => wipe σ2 vs = wipe σ vs ∧ tt σ2 H2 fun b H3 => kLcB te σ2 Dl N b H3
def kLc (J : It) (g : TG) (tt : TT) (te : TE) (vs : List Nat) (σ : L2.St) (Q : VK) (H1 : Hp) : Prop := ∀ Dl, H1 Dl = none → ∃ W : Nat → Nat → Hp → Prop, (∃ m, W 0 m (upd H1 Dl (.lst []))) ∧ ∀ i m H, W i m H →
  (J.stop i H ∧ Q (.ref Dl) H) ∨ (J.go i H ∧ ∃ Nx : Hp → Prop, (∀ H', Nx H' → ∃ m', m' < m ∧ W (i + 1) m' H') ∧ ∀ x H', J.yld i H x H' → kLcT g tt te vs σ Dl Nx x H')
def kIL (K : PySem.W.Frag) (R : It → Hp → Prop) (x : V) (H1 : Hp) : Prop := ∃ a, x = .ref a ∧ (∃ xs, SqL K H1 a xs) ∧ R (Itl K a) H1
def kIT (K : PySem.W.Frag) (R : It → Hp → Prop) (x : V) (H1 : Hp) : Prop := ∃ a, x = .ref a ∧ (∃ xs, SqT K H1 a xs) ∧ R (Itt K a) H1
def kIR1 (R : It → Hp → Prop) (vs : List V) (H1 : Hp) : Prop := ∃ j : Int, vs = [.int j] ∧ -(2 ^ 62) ≤ j ∧ j < 2 ^ 62 ∧ R (Itr 0 j.toNat) H1
def kIR2 (R : It → Hp → Prop) (vs : List V) (H1 : Hp) : Prop := ∃ i j : Int, vs = [.int i, .int j] ∧ (-(2 ^ 62) ≤ i ∧ i < 2 ^ 62 ∧ -(2 ^ 62) ≤ j ∧ j < 2 ^ 62) ∧ R (Itr i (j - i).toNat) H1
def kIR3 (R : It → Hp → Prop) (vs : List V) (H1 : Hp) : Prop := ∃ (i j c : Int) (n : Nat), vs = [.int i, .int j, .int c] ∧ RgC i j c n ∧ R (Itc i c n) H1
def kIE (K : PySem.W.Frag) (kd : Bool) (R : It → Hp → Prop) (vs : List V) (H1 : Hp) : Prop := ∃ a xs, vs = [.ref a] ∧ SqK K kd H1 a xs ∧ R (IteK K kd a) H1
def kIZ (K : PySem.W.Frag) (k1 k2 : Bool) (R : It → Hp → Prop) (vs : List V) (H1 : Hp) : Prop := ∃ a b xs ys, vs = [.ref a, .ref b] ∧ SqK K k1 H1 a xs ∧ SqK K k2 H1 b ys ∧ R (ItzK K k1 k2 a b) H1
def kLS (K : PySem.W.Frag) (kd : Bool) (Q : VK) (x : V) (H1 : Hp) : Prop := ∃ (l : Addr) (ns : List Int), x = .ref l ∧ SqK K kd H1 l (ns.map V.int) ∧ ns.length ≤ 4000 ∧ Q (.int (unl ns : Nat)) H1
def tTru (K : PySem.W.Frag) (ta : TE) : TT := fun σ H Q => ta σ H fun x H' => ∃ k, TruV K x H' k ∧ Q k H'
def kTru (K : PySem.W.Frag) (Q : Bool → Hp → Prop) (x : V) (H' : Hp) : Prop := ∃ k, TruV K x H' k ∧ Q k H'

theorem r_for {wi : TI} {g : TG} {tb : TS} (h : wi σ H fun J H1 => kFor J g tb D σ H1) : tFor wi g tb D σ H := h
theorem r_lc {wi : TI} {g : TG} {tt : TT} {te : TE} {vs : List Nat} (h : wi σ H fun J H1 => kLc J g tt te vs σ Q H1) : tLc wi g tt te vs σ H Q := h
theorem r_iList {tl : TE} {R : It → Hp → Prop} (h : tl σ H fun x H1 => kIL K R x H1) : iList K tl σ H R := h
theorem r_iTup {tl : TE} {R : It → Hp → Prop} (h : tl σ H fun x H1 => kIT K R x H1) : iTup K tl σ H R := h
theorem r_iR1 {ta : TA} {R : It → Hp → Prop} (h : ta σ H fun vs H1 => kIR1 R vs H1) : iRng1 ta σ H R := h
theorem r_iR2 {ta : TA} {R : It → Hp → Prop} (h : ta σ H fun vs H1 => kIR2 R vs H1) : iRng2 ta σ H R := h
theorem r_iR3 {ta : TA} {R : It → Hp → Prop} (h : ta σ H fun vs H1 => kIR3 R vs H1) : iRng3 ta σ H R := h
theorem r_iE {kd : Bool} {ta : TA} {R : It → Hp → Prop} (h : ta σ H fun vs H1 => kIE K kd R vs H1) : iEnumK K kd ta σ H R := h
theorem r_iZ {k1 k2 : Bool} {ta : TA} {R : It → Hp → Prop} (h : ta σ H fun vs H1 => kIZ K k1 k2 R vs H1) : iZipK K k1 k2 ta σ H R := h
theorem r_LS {kd : Bool} {ta : TE} (h : ta σ H fun x H1 => kLS K kd Q x H1) : tLenSetK K kd ta σ H Q := h
theorem r_tru {ta : TE} {Q : Bool → Hp → Prop} (h : ta σ H fun x H1 => kTru K Q x H1) : tTru K ta σ H Q := h
theorem r_yes {Q : Bool → Hp → Prop} (h : Q true H) : tYes σ H Q := h
theorem pt_tru {X : Cx} {a : Expr} {ta : TE} (ha : PE X a ta) (he : ∀ whole, isTrue a X.env whole = (do let v ← whole; standAt a.pos; holding [v] (truthy v))) : PT X a (tTru X.K ta) := pt_truth ha he
theorem k_truL {Q : Bool → Hp → Prop} {p : Addr} {xs : List V} (h : SqL K H p xs) (q : Q (!xs.isEmpty) H) : kTru K Q (.ref p) H := ⟨_, .inl ⟨xs, h, rfl⟩, q⟩

theorem k_iList {R : It → Hp → Prop} {a : Addr} {xs : List V} (h : SqL K H a xs) (q : R (Itl K a) H) : kIL K R (.ref a) H := ⟨a, rfl, ⟨xs, h⟩, q⟩
theorem k_iTup {R : It → Hp → Prop} {a : Addr} {xs : List V} (h : SqT K H a xs) (q : R (Itt K a) H) : kIT K R (.ref a) H := ⟨a, rfl, ⟨xs, h⟩, q⟩
theorem k_iR1 {R : It → Hp → Prop} {n : Nat} {j : Int} (e : j.toNat = n) (h1 : -(2 ^ 62) ≤ j) (h2 : j < 2 ^ 62) (q : R (Itr 0 n) H) : kIR1 R [.int j] H := ⟨j, rfl, h1, h2, by rw [e]; exact q⟩
theorem k_iR2 {R : It → Hp → Prop} {i j : Int} {n : Nat} (e : (j - i).toNat = n) (h : -(2 ^ 62) ≤ i ∧ i < 2 ^ 62 ∧ -(2 ^ 62) ≤ j ∧ j < 2 ^ 62) (q : R (Itr i n) H) : kIR2 R [.int i, .int j] H := ⟨i, j, rfl, h, by rw [e]; exact q⟩
theorem k_iR3 {R : It → Hp → Prop} {i j c : Int} {n : Nat} (e : RgC i j c n) (q : R (Itc i c n) H) : kIR3 R [.int i, .int j, .int c] H := ⟨i, j, c, n, rfl, e, q⟩
theorem k_iE {kd : Bool} {R : It → Hp → Prop} {a : Addr} {xs : List V} (h : SqK K kd H a xs) (q : R (IteK K kd a) H) : kIE K kd R [.ref a] H := ⟨a, xs, rfl, h, q⟩
theorem k_iZ {k1 k2 : Bool} {R : It → Hp → Prop} {a b : Addr} {xs ys : List V} (h1 : SqK K k1 H a xs) (h2 : SqK K k2 H b ys) (q : R (ItzK K k1 k2 a b) H) : kIZ K k1 k2 R [.ref a, .ref b] H := ⟨a, b, xs, ys, rfl, h1, h2, q⟩
theorem k_LS {kd : Bool} {l : Addr} {ns : List Int} (h : SqK K kd H l (ns.map V.int)) (hl : ns.length ≤ 4000) (q : Q (.int (unl ns : Nat)) H) : kLS K kd Q (.ref l) H := ⟨l, ns, rfl, h, hl, q⟩

/-! the loops -/
theorem k_forR {lo : Int} {n : Nat} {g : TG} {tb : TS} (Pv : Nat → L2.St → Hp → Prop) (h0 : Pv 0 σ H)
    (hs : ∀ i σ H, i < n → Pv i σ H → g (.int (lo + i)) σ H fun σ2 H2 => tb { D with nx := Pv (i + 1), ct := Pv (i + 1), bk := D.nx } σ2 H2) (hd : ∀ σ H, Pv n σ H → D.nx σ H) : kFor (Itr lo n) g tb D σ H := for_range Pv h0 hs hd
theorem k_forC {lo c : Int} {n : Nat} {g : TG} {tb : TS} (Pv : Nat → L2.St → Hp → Prop) (h0 : Pv 0 σ H)
    (hs : ∀ i σ H, i < n → Pv i σ H → g (.int (lo + (i : Nat) * c)) σ H fun σ2 H2 => tb { D with nx := Pv (i + 1), ct := Pv (i + 1), bk := D.nx } σ2 H2) (hd : ∀ σ H, Pv n σ H → D.nx σ H) : kFor (Itc lo c n) g tb D σ H := for_rangeC Pv h0 hs hd
theorem k_forL {a : Addr} {xs : List V} {g : TG} {tb : TS} (Pv : Nat → L2.St → Hp → Prop) (h0 : Pv 0 σ H) (hl : ∀ i σ H, i ≤ xs.length → Pv i σ H → SqL K H a xs)
    (hs : ∀ i x σ H, xs[i]? = some x → Pv i σ H → g x σ H fun σ2 H2 => tb { D with nx := Pv (i + 1), ct := Pv (i + 1), bk := D.nx } σ2 H2) (hd : ∀ σ H, Pv xs.length σ H → D.nx σ H) : kFor (Itl K a) g tb D σ H := for_list Pv h0 hl hs hd
theorem k_forT {a : Addr} {xs : List V} {g : TG} {tb : TS} (Pv : Nat → L2.St → Hp → Prop) (h0 : Pv 0 σ H) (hl : ∀ i σ H, i ≤ xs.length → Pv i σ H → SqT K H a xs)
    (hs : ∀ i x σ H, xs[i]? = some x → Pv i σ H → g x σ H fun σ2 H2 => tb { D with nx := Pv (i + 1), ct := Pv (i + 1), bk := D.nx } σ2 H2) (hd : ∀ σ H, Pv xs.length σ H → D.nx σ H) : kFor (Itt K a) g tb D σ H := for_tup Pv h0 hl hs hd
theorem k_forZK {k1 k2 : Bool} {a b : Addr} {xs ys : List V} {g : TG} {tb : TS} (hl : xs.length = ys.length) (Pv : Nat → L2.St → Hp → Prop) (h0 : Pv 0 σ H) (hq : ∀ i σ H, Pv i σ H → SqK K k1 H a xs ∧ SqK K k2 H b ys)
    (hs : ∀ (i : Nat) (x y : V) (T : Addr) (σ : L2.St) (H : Hp), xs[i]? = some x → ys[i]? = some y → Pv i σ H → H T = none → g (.ref T) σ (upd H T (.tup [x, y])) fun σ2 H2 => tb { D with nx := Pv (i + 1), ct := Pv (i + 1), bk := D.nx } σ2 H2)
    (hd : ∀ σ H, Pv xs.length σ H → D.nx σ H) : kFor (ItzK K k1 k2 a b) g tb D σ H := k_forZ hl Pv h0 hq hs hd
theorem k_forEK {kd : Bool} {a : Addr} {xs : List V} {g : TG} {tb : TS} (Pv : Nat → L2.St → Hp → Prop) (h0 : Pv 0 σ H) (hq : ∀ i σ H, Pv i σ H → SqK K kd H a xs)
    (hs : ∀ (i : Nat) (x : V) (T : Addr) (σ : L2.St) (H : Hp), xs[i]? = some x → Pv i σ H → H T = none → g (.ref T) σ (upd H T (.tup [.int (i : Nat), x])) fun σ2 H2 => tb { D with nx := Pv (i + 1), ct := Pv (i + 1), bk := D.nx } σ2 H2)
    (hd : ∀ σ H, Pv xs.length σ H → D.nx σ H) : kFor (IteK K kd a) g tb D σ H := k_forE Pv h0 hq hs hd
theorem k_lcR {lo : Int} {n : Nat} {g : TG} {tt : TT} {te : TE} {vs : List Nat} (Pv : Addr → Nat → Hp → Prop) (h0 : ∀ Dl, H Dl = none → Pv Dl 0 (upd H Dl (.lst [])))
    (hs : ∀ Dl i H', H Dl = none → i < n → Pv Dl i H' → kLcT g tt te vs σ Dl (Pv Dl (i + 1)) (.int (lo + i)) H') (hd : ∀ Dl H', H Dl = none → Pv Dl n H' → Q (.ref Dl) H') : kLc (Itr lo n) g tt te vs σ Q H :=
  fun Dl hD => lc_range (Pv Dl) (h0 Dl hD) (fun i H' hi p => hs Dl i H' hD hi p) fun H' p => hd Dl H' hD p
theorem k_lcL {a : Addr} {xs : List V} {g : TG} {tt : TT} {te : TE} {vs : List Nat} (Pv : Addr → Nat → Hp → Prop) (h0 : ∀ Dl, H Dl = none → Pv Dl 0 (upd H Dl (.lst []))) (hl : ∀ Dl i H', H Dl = none → i ≤ xs.length → Pv Dl i H' → SqL K H' a xs)
    (hs : ∀ Dl i x H', H Dl = none → xs[i]? = some x → Pv Dl i H' → kLcT g tt te vs σ Dl (Pv Dl (i + 1)) x H') (hd : ∀ Dl H', H Dl = none → Pv Dl xs.length H' → Q (.ref Dl) H') : kLc (Itl K a) g tt te vs σ Q H :=
  fun Dl hD => lc_list (Pv Dl) (h0 Dl hD) (fun i H' hi p => hl Dl i H' hD hi p) (fun i x H' hx p => hs Dl i x H' hD hx p) fun H' p => hd Dl H' hD p
theorem k_lcTu {a : Addr} {xs : List V} {g : TG} {tt : TT} {te : TE} {vs : List Nat} (Pv : Addr → Nat → Hp → Prop) (h0 : ∀ Dl, H Dl = none → Pv Dl 0 (upd H Dl (.lst []))) (hl : ∀ Dl i H', H Dl = none → i ≤ xs.length → Pv Dl i H' → SqT K H' a xs)
    (hs : ∀ Dl i x H', H Dl = none → xs[i]? = some x → Pv Dl i H' → kLcT g tt te vs σ Dl (Pv Dl (i + 1)) x H') (hd : ∀ Dl H', H Dl = none → Pv Dl xs.length H' → Q (.ref Dl) H') : kLc (Itt K a) g tt te vs σ Q H :=
  fun Dl hD => lc_tup (Pv Dl) (h0 Dl hD) (fun i H' hi p => hl Dl i H' hD hi p) (fun i x H' hx p => hs Dl i x H' hD hx p) fun H' p => hd Dl H' hD p
theorem k_lct {j : Nat} {tt : TT} {te : TE} {vs : List Nat} {Dl : Addr} {N : Hp → Prop} {x : V} {σ' : L2.St} (e : (wipe σ vs).set j (some x) = σ') (w : wipe σ' vs = wipe σ vs) (h : tt σ' H fun b H3 => kLcB te σ' Dl N b H3) : kLcT (gName j) tt te vs σ Dl N x H := by
  subst e
  exact ⟨w, h⟩
theorem k_lcb {te : TE} {σ2 : L2.St} {Dl : Addr} {N : Hp → Prop} {b : Bool} (h1 : b = true → te σ2 H (fun y H4 => kLcA Dl N y H4)) (h2 : b = false → N H) : kLcB te σ2 Dl N b H := by
  unfold kLcB
  cases b
  · exact h2 rfl
  · exact h1 rfl
theorem k_lcbT {te : TE} {σ2 : L2.St} {Dl : Addr} {N : Hp → Prop} (h : te σ2 H (fun y H4 => kLcA Dl N y H4)) : kLcB te σ2 Dl N true H := k_lcb (fun _ => h) fun z => nomatch z
theorem k_lca {Dl : Addr} {N : Hp → Prop} {y : V} {acc : List V} (h : H Dl = some (.lst acc)) (hz : acc.length < sizeLine) (q : N (upd H Dl (.lst (acc ++ [y])))) : kLcA Dl N y H := ⟨acc, h, hz, q⟩

/-! built-ins -/
def rLenB (K : PySem.W.Frag) : List V → Hp → VK → Prop := fun xs H Q => ∃ x n, xs = [x] ∧ LenV K x H n ∧ Q (.int n) H
def rListB (K : PySem.W.Frag) : List V → Hp → VK → Prop := fun xs H Q => ∃ p ys, xs = [.ref p] ∧ (SqL K H p ys ∨ SqT K H p ys) ∧ ∀ l, H l = none → Q (.ref l) (upd H l (.lst ys))
def rTupB (K : PySem.W.Frag) : List V → Hp → VK → Prop := fun xs H Q => ∃ p ys, xs = [.ref p] ∧ ((SqL K H p ys ∧ ∀ l, H l = none → Q (.ref l) (upd H l (.tup ys))) ∨ (SqT K H p ys ∧ Q (.ref p) H))
def rInsB : V → List V → Hp → VK → Prop := fun x vs H Q => ∃ (l : Addr) (xs : List V) (i : Int) (y : V), x = .ref l ∧ vs = [.int i, y] ∧ H l = some (.lst xs) ∧ xs.length < sizeLine ∧ 0 ≤ i ∧ i < 2 ^ 63 ∧
  Q .non (upd H l (.lst (xs.take i.toNat ++ [y] ++ xs.drop i.toNat)))
theorem bk_len {X : Cx} (hK : X.K = K) : CallR X (.builtin "len") (rLenB K) := by subst hK; exact call_len
theorem bk_list {X : Cx} (hK : X.K = K) : CallR X (.type "list") (rListB K) := by subst hK; exact call_list_of
theorem bk_tuple {X : Cx} (hK : X.K = K) : CallR X (.type "tuple") (rTupB K) := by subst hK; exact call_tuple_of
theorem bk_isi {X : Cx} (hK : X.K = K) : CallR X (.builtin "isinstance") (rIsi K) := by subst hK; exact call_isi
theorem bk_sorted (kd : Bool) {X : Cx} (hK : X.K = K) : CallR X (.builtin "sorted") (rSortedK K kd) := by subst hK; exact cr_sortedK kd
theorem bk_all {X : Cx} (hK : X.K = K) (hc : X.calm = true) : CallR X (.builtin "all") (rAll K) := by subst hK; exact cr_all hc
theorem bk_any {X : Cx} (hK : X.K = K) (hc : X.calm = true) : CallR X (.builtin "any") (rAny K) := by subst hK; exact cr_any hc
theorem bk_sum {X : Cx} (hK : X.K = K) (hc : X.calm = true) : CallR X (.builtin "sum") (rSum K) := by subst hK; exact cr_sum hc
theorem bk_max {X : Cx} (hK : X.K = K) (hc : X.calm = true) : CallR X (.builtin "max") (rMax K) := by subst hK; exact cr_max hc
theorem bk_min {X : Cx} (hK : X.K = K) (hc : X.calm = true) : CallR X (.builtin "min") (rMin K) := by subst hK; exact cr_min hc
theorem ob_in {X : Cx} (hK : X.K = K) : OpR X (compareOp .In) (rIn K false) := by subst hK; exact op_in_seq
theorem ob_notIn {X : Cx} (hK : X.K = K) : OpR X (compareOp .NotIn) (rIn K true) := by subst hK; exact op_notIn_seq
theorem ob_eqD {X : Cx} (hK : X.K = K) (hu : X.A.units + 64 < cLine) : OpR X (compareOp .Eq) (rEqD K) := by subst hK; exact op_eqD hu
theorem ob_neD {X : Cx} (hK : X.K = K) (hu : X.A.units + 64 < cLine) : OpR X (compareOp .NotEq) (rNeD K) := by subst hK; exact op_neD hu
theorem ob_ixL {X : Cx} (hK : X.K = K) : IxR X (rIxL K) := by subst hK; exact ix_list
theorem ob_ixT {X : Cx} (hK : X.K = K) : IxR X (rIxT K) := by subst hK; exact ix_tup
theorem ob_ix {X : Cx} (hK : X.K = K) : IxR X (rIx K) := by subst hK; exact ix_seq
theorem ob_slL {X : Cx} (hK : X.K = K) : SlR X (rSlL K) := by subst hK; exact sl_list
theorem bk_insert {X : Cx} : MtR X "list.insert" rInsB := mt_insert
theorem k_len {p : Addr} {xs : List V} (h : SqL K H p xs) (q : Q (.int xs.length) H) : rLenB K [V.ref p] H Q := ⟨_, _, rfl, .inl ⟨xs, h, rfl⟩, q⟩
theorem k_lenT {p : Addr} {xs : List V} (h : SqT K H p xs) (q : Q (.int xs.length) H) : rLenB K [V.ref p] H Q := ⟨_, _, rfl, .inr ⟨xs, h, rfl⟩, q⟩
theorem k_lenK {kd : Bool} {p : Addr} {xs : List V} (h : SqK K kd H p xs) (q : Q (.int xs.length) H) : rLenB K [V.ref p] H Q := by
  cases kd with
  | true => exact k_lenT h q
  | false => exact k_len h q
theorem k_isi {x : V} {a n : String} {b : Bool} (ty : TyX K H x (.type a)) (e : kitB a n = some b) (q : Q (.bl b) H) : rIsi K [x, .ty n] H Q := ⟨x, .ty n, .type a, .type n, b, rfl, .ty n, ty, kit_ty e, q⟩
theorem k_isTup {p : Addr} {xs : List V} (h : H p = some (.tup xs)) (q : Q (.bl true) H) : rIsi K [.ref p, .ty "tuple"] H Q := k_isi (.base (.tup h)) (by decide +kernel) q
theorem k_isLst {p : Addr} {xs : List V} (h : H p = some (.lst xs)) (q : Q (.bl true) H) : rIsi K [.ref p, .ty "list"] H Q := k_isi (.base (.lst h)) (by decide +kernel) q
theorem k_isInt {i : Int} (q : Q (.bl true) H) : rIsi K [.int i, .ty "int"] H Q := k_isi (.base (.int i)) (by decide +kernel) q
theorem k_isIntB {i : Int} (q : Q (.bl false) H) : rIsi K [.int i, .ty "bool"] H Q := k_isi (.base (.int i)) (by decide +kernel) q
theorem k_isBool {b : Bool} (q : Q (.bl true) H) : rIsi K [.bl b, .ty "bool"] H Q := k_isi (.base (.bl b)) (by decide +kernel) q
theorem k_listof {p : Addr} {ys : List V} (h : SqL K H p ys ∨ SqT K H p ys) (q : ∀ l, H l = none → Q (.ref l) (upd H l (.lst ys))) : rListB K [V.ref p] H Q := ⟨p, ys, rfl, h, q⟩
theorem k_tupof {p : Addr} {ys : List V} (h : SqL K H p ys) (q : ∀ l, H l = none → Q (.ref l) (upd H l (.tup ys))) : rTupB K [V.ref p] H Q := ⟨p, ys, rfl, .inl ⟨h, q⟩⟩
theorem k_sorted {kd : Bool} {a : Addr} {ns : List Int} (h : SqK K kd H a (ns.map V.int)) (q : ∀ (ns' : List Int) (p : Addr), ns'.Perm ns → ns'.Pairwise (· ≤ ·) → H p = none → Q (.ref p) (upd H p (.lst (ns'.map V.int)))) : rSortedK K kd [.ref a] H Q := ⟨a, ns, rfl, h, q⟩
theorem k_all {a : Addr} {bs : List Bool} (h : SqL K H a (bs.map V.bl)) (q : Q (.bl (bs.all id)) H) : rAll K [.ref a] H Q := ⟨a, bs, rfl, h, q⟩
theorem k_any {a : Addr} {bs : List Bool} (h : SqL K H a (bs.map V.bl)) (q : Q (.bl (bs.any id)) H) : rAny K [.ref a] H Q := ⟨a, bs, rfl, h, q⟩
theorem k_insert {l : Addr} {xs : List V} {i : Int} {y : V} (h : H l = some (.lst xs)) (hz : xs.length < sizeLine) (h0 : 0 ≤ i) (h1 : i < 2 ^ 63) (q : Q .non (upd H l (.lst (xs.take i.toNat ++ [y] ++ xs.drop i.toNat)))) :
    rInsB (.ref l) [.int i, y] H Q := ⟨l, xs, i, y, rfl, rfl, h, hz, h0, h1, q⟩
theorem flat_ints (ns : List Int) : (ns.map V.int).all flatV = true := by
  rw [List.all_eq_true]
  intro x hx
  obtain ⟨n, _, rfl⟩ := List.mem_map.mp hx
  rfl
theorem inV_ints (x : Int) (ns : List Int) : inV (.int x) (ns.map V.int) = decide (x ∈ ns) := by
  unfold inV
  rw [List.any_map]
  apply Bool.eq_iff_iff.mpr
  rw [List.any_eq_true]
  simp only [decide_eq_true_eq, Function.comp]
  constructor
  · rintro ⟨n, hn, e⟩
    have e' : (n == x) = true := e
    rw [beq_iff_eq] at e'
    exact e' ▸ hn
  · intro hx
    exact ⟨x, hx, show (x == x) = true by simp⟩
theorem k_notInI {p : Addr} {ns : List Int} {x : Int} (h : SqL K H p (ns.map V.int)) (q : Q (.bl (!decide (x ∈ ns))) H) : rIn K true (.int x) (.ref p) H Q := ⟨p, _, rfl, .inl h, rfl, flat_ints ns, by rw [inV_ints]; exact q⟩
theorem k_inI {p : Addr} {ns : List Int} {x : Int} (h : SqL K H p (ns.map V.int)) (q : Q (.bl (decide (x ∈ ns))) H) : rIn K false (.int x) (.ref p) H Q := ⟨p, _, rfl, .inl h, rfl, flat_ints ns, by rw [inV_ints]; exact q⟩
theorem k_inIK {kd : Bool} {p : Addr} {ns : List Int} {x : Int} (h : SqK K kd H p (ns.map V.int)) (q : Q (.bl (decide (x ∈ ns))) H) : rIn K false (.int x) (.ref p) H Q := by
  refine ⟨p, _, rfl, ?_, rfl, flat_ints ns, by rw [inV_ints]; exact q⟩
  cases kd with
  | true => exact .inr h
  | false => exact .inl h
end

/-! ### heaps -/
theorem sqk_new {K : PySem.W.Frag} {H H' : Hp} {kd : Bool} {a : Addr} {xs : List V} (s : Same H H') (h : SqK K kd H a xs) : SqK K kd H' a xs := by
  cases kd with
  | true => exact s.tup h
  | false => exact s.seq h
theorem small {n : Nat} (h : n ≤ 100000) : n < sizeLine := by rw [sizeLine_eq]; omega
theorem smallE {n : Nat} (h : n ≤ 100000) : n ≤ sizeLine := Nat.le_of_lt (small h)

/-! ### rows of numbers -/
/-- the addresses as hold the rows, as objects of one kind -/
def Rw (mk : List V → HO) (H : Hp) (as : List Addr) (rows : List (List Int)) : Prop := as.length = rows.length ∧ ∀ (i : Nat) (b : Addr) (row : List Int), as[i]? = some b → rows[i]? = some row → H b = some (mk (row.map V.int))
def RwK (K : PySem.W.Frag) (kd : Bool) (H : Hp) (as : List Addr) (rows : List (List Int)) : Prop := as.length = rows.length ∧ ∀ (i : Nat) (b : Addr) (row : List Int), as[i]? = some b → rows[i]? = some row → SqK K kd H b (row.map V.int)
theorem Rw.k {K : PySem.W.Frag} {H : Hp} {as : List Addr} {rows : List (List Int)} (h : Rw .lst H as rows) : RwK K false H as rows := ⟨h.1, fun i b row h1 h2 => sql_lst (h.2 i b row h1 h2)⟩
theorem Rw.kt {K : PySem.W.Frag} {H : Hp} {as : List Addr} {rows : List (List Int)} (h : Rw .tup H as rows) : RwK K true H as rows := ⟨h.1, fun i b row h1 h2 => sqt_tup (h.2 i b row h1 h2)⟩
theorem Rw.same {mk : List V → HO} {H H' : Hp} {as : List Addr} {rows : List (List Int)} (h : Rw mk H as rows) (s : Same H H') : Rw mk H' as rows := ⟨h.1, fun i b row h1 h2 => s _ _ (h.2 i b row h1 h2)⟩
theorem RwK.same {K : PySem.W.Frag} {kd : Bool} {H H' : Hp} {as : List Addr} {rows : List (List Int)} (h : RwK K kd H as rows) (s : Same H H') : RwK K kd H' as rows := ⟨h.1, fun i b row h1 h2 => sqk_new s (h.2 i b row h1 h2)⟩
theorem Rw.nil {mk : List V → HO} {H : Hp} : Rw mk H [] [] := ⟨rfl, fun i b row h _ => by simp at h⟩
theorem Rw.snoc {mk : List V → HO} {H : Hp} {as : List Addr} {rows : List (List Int)} {b : Addr} {row : List Int} (h : Rw mk H as rows) (hb : H b = some (mk (row.map V.int))) : Rw mk H (as ++ [b]) (rows ++ [row]) := by
  refine ⟨by simp [h.1], fun i c r h1 h2 => ?_⟩
  by_cases lt : i < as.length
  · rw [List.getElem?_append_left lt] at h1
    rw [List.getElem?_append_left (by rw [← h.1]; exact lt)] at h2
    exact h.2 i c r h1 h2
  · rw [List.getElem?_append_right (by omega)] at h1
    rw [List.getElem?_append_right (by rw [← h.1]; omega)] at h2
    rw [← h.1] at h2
    have e : i - as.length = 0 := by
      have := (List.getElem?_eq_some_iff.mp h1).1
      rw [List.length_singleton] at this
      omega
    rw [e] at h1 h2
    cases h1
    cases h2
    exact hb
theorem Rw.set_other {mk : List V → HO} {H : Hp} {as : List Addr} {rows : List (List Int)} {p : Addr} {o : HO} (h : Rw mk H as rows) (hp : p ∉ as) : Rw mk (upd H p o) as rows := ⟨h.1, fun i b row h1 h2 => by
  have nb : b ≠ p := fun e => hp (e ▸ List.mem_of_getElem? h1)
  rw [upd_ne nb]
  exact h.2 i b row h1 h2⟩
theorem Rw.set_at {mk : List V → HO} {H : Hp} {as : List Addr} {rows : List (List Int)} {j : Nat} {p : Addr} {row : List Int} (h : Rw mk H as rows) (nd : as.Nodup) (hp : as[j]? = some p) : Rw mk (upd H p (mk (row.map V.int))) as (rows.set j row) := by
  refine ⟨by simp [h.1], fun i b r h1 h2 => ?_⟩
  by_cases e : i = j
  · subst e
    rw [hp] at h1
    cases h1
    have lt : i < rows.length := by rw [← h.1]; exact (List.getElem?_eq_some_iff.mp hp).1
    rw [List.getElem?_set_self lt] at h2
    cases h2
    exact upd_same
  · rw [List.getElem?_set_ne (Ne.symm e)] at h2
    have nb : b ≠ p := fun q => e (nd_ix nd (q ▸ h1) hp)
    rw [upd_ne nb]
    exact h.2 i b r h1 h2
theorem map_get {α β : Type} {f : α → β} {l : List α} {i : Nat} {x : β} (h : (l.map f)[i]? = some x) : ∃ a, l[i]? = some a ∧ x = f a := by
  rw [List.getElem?_map] at h
  cases e : l[i]? with
  | none => rw [e] at h; cases h
  | some a => rw [e] at h; exact ⟨a, rfl, (Option.some.inj h).symm⟩
/-- elders as a net has them: the i-th row has unlike numbers below i -/
def RowsOk (rows : List (List Int)) : Prop := ∀ (i : Nat) (row : List Int), rows[i]? = some row → row.Nodup ∧ row.length ≤ 40 ∧ ∀ e ∈ row, 0 ≤ e ∧ e < (i : Int)
theorem RowsOk.snoc {rows : List (List Int)} {row : List Int} (h : RowsOk rows) (h1 : row.Nodup) (h2 : row.length ≤ 40) (h3 : ∀ e ∈ row, 0 ≤ e ∧ e < (rows.length : Int)) : RowsOk (rows ++ [row]) := by
  intro i r hr
  by_cases lt : i < rows.length
  · rw [List.getElem?_append_left lt] at hr
    exact h i r hr
  · rw [List.getElem?_append_right (by omega)] at hr
    have e : i - rows.length = 0 := by
      have := (List.getElem?_eq_some_iff.mp hr).1
      rw [List.length_singleton] at this
      omega
    rw [e] at hr
    cases hr
    have ei : i = rows.length := by omega
    subst ei
    exact ⟨h1, h2, h3⟩
/-- two rising arrangements of the same numbers are one -/
theorem sorted_unique : ∀ {l₁ l₂ : List Int}, l₁.Perm l₂ → l₁.Pairwise (· ≤ ·) → l₂.Pairwise (· ≤ ·) → l₁ = l₂
  | [], l₂, p, _, _ => (List.Perm.nil_eq p)
  | a :: l₁, [], p, _, _ => by have := p.length_eq; simp at this
  | a :: l₁, b :: l₂, p, h1, h2 => by
    obtain ⟨h1a, h1b⟩ := List.pairwise_cons.mp h1
    obtain ⟨h2a, h2b⟩ := List.pairwise_cons.mp h2
    have e : a = b := by
      have ha : a ∈ b :: l₂ := p.mem_iff.mp List.mem_cons_self
      have hb : b ∈ a :: l₁ := p.mem_iff.mpr List.mem_cons_self
      rcases List.mem_cons.mp ha with q | q
      · exact q
      · rcases List.mem_cons.mp hb with r | r
        · exact r.symm
        · have := h2a a q
          have := h1a b r
          omega
    subst e
    rw [sorted_unique (List.Perm.cons_inv p) h1b h2b]

theorem FeedAt.set' {G H : Hp} {d p : Addr} {o u : HO} (F : FeedAt (upd G p u) H d) : FeedAt (upd G p o) (upd H p o) d := by
  have h := FeedAt.set (o := o) F upd_same
  rw [upd_upd] at h
  exact h
theorem FeedAt.got {G H : Hp} {d p : Addr} {u : HO} (F : FeedAt (upd G p u) H d) : H p = some u := F.same _ _ upd_same
theorem map_snoc {α β : Type} (f : α → β) (l : List α) (x : α) : l.map f ++ [f x] = (l ++ [x]).map f := by simp
def spElders : Sp := fun vs H Q _ => ∃ (G : Hp) (d : Addr) (make way : Int), vs = [.ref d, .int make, .int way] ∧ FeedAt G H d ∧ 1 ≤ make ∧ make ≤ 40 ∧ 0 ≤ way ∧ way ≤ 5 ∧
  ∀ (p : Addr) (row : List Int) (H' : Hp), G p = none → row.Nodup → row.length ≤ 40 → (∀ e ∈ row, 0 ≤ e ∧ e < make) → FeedAt (upd G p (.lst (row.map V.int))) H' d → Q (.ref p) H'
def spTurned (K : PySem.W.Frag) : Sp := fun vs H Q _ => ∃ (G : Hp) (d a : Addr) (ns : List Int), vs = [.ref d, .ref a] ∧ FeedAt G H d ∧ SqL K G a (ns.map V.int) ∧ ns.length ≤ 1000 ∧
  ∀ (p : Addr) (row : List Int) (H' : Hp), G p = none → row.Perm ns → FeedAt (upd G p (.lst (row.map V.int))) H' d → Q (.ref p) H'
/-- what _law_rows leaves: a list of lists, all new -/
structure RowsAt (G G' : Hp) (p : Addr) (as : List Addr) (rows : List (List Int)) : Prop where
  same : Same G G'
  p0 : G p = none
  hp : G' p = some (.lst (as.map V.ref))
  rw : Rw .lst G' as rows
  nd : as.Nodup
  new : ∀ b ∈ as, G b = none ∧ b ≠ p
  ok : RowsOk rows

theorem perm_insert {xs zs : List Int} {x : Int} {j : Nat} (h : xs.Perm zs) : (xs.take j ++ [x] ++ xs.drop j).Perm (zs ++ [x]) := by
  have h1 : (xs.take j ++ [x] ++ xs.drop j).Perm (x :: (xs.take j ++ xs.drop j)) := by
    rw [List.append_assoc, List.singleton_append]
    exact List.perm_middle
  rw [List.take_append_drop] at h1
  exact h1.trans ((List.Perm.cons x h).trans (List.perm_append_singleton x zs).symm)
theorem take_next {α : Type} {l : List α} {i : Nat} {x : α} (h : l[i]? = some x) : l.take (i + 1) = l.take i ++ [x] := by
  rw [List.take_add_one, h]; rfl
/-- one more new list is told: FeedAt over more -/
theorem FeedAt.over {G H : Hp} {d p : Addr} {o u : HO} (F : FeedAt (upd G p u) H d) (e : u = o) : FeedAt (upd G p o) H d := e ▸ F
def spRows (K : PySem.W.Frag) : Sp := fun vs H Q _ => ∃ (G : Hp) (d : Addr) (most : Int), vs = [.ref d, .int most] ∧ FeedAt G H d ∧ 1 ≤ most ∧ most ≤ 40 ∧
  ∀ (p : Addr) (as : List Addr) (rows : List (List Int)) (G' H' : Hp), RowsAt G G' p as rows → 1 ≤ rows.length → (rows.length : Int) ≤ most → FeedAt G' H' d → Q (.ref p) H'
/-- all that a list of lists asks, one row more -/
theorem RowsAt.snoc {G G1 : Hp} {p q : Addr} {as : List Addr} {rows : List (List Int)} {row : List Int} (R : RowsAt G G1 p as rows) (hq : G1 q = none) (h1 : row.Nodup) (h2 : row.length ≤ 40) (h3 : ∀ e ∈ row, 0 ≤ e ∧ e < (rows.length : Int)) :
    RowsAt G (upd (upd G1 q (.lst (row.map V.int))) p (.lst ((as ++ [q]).map V.ref))) p (as ++ [q]) (rows ++ [row]) := by
  have npq : p ≠ q := ne_of_none R.hp hq
  have pas : p ∉ as := fun h => (R.new p h).2 rfl
  have qas : q ∉ as := fun h => by
    obtain ⟨i, hi⟩ := List.mem_iff_getElem?.mp h
    have lt : i < rows.length := by rw [← R.rw.1]; exact (List.getElem?_eq_some_iff.mp hi).1
    have := R.rw.2 i q _ hi (List.getElem?_eq_getElem lt)
    rw [hq] at this
    cases this
  refine ⟨(R.same.newer hq).mut R.p0, R.p0, upd_same, ?_, ?_, ?_, R.ok.snoc h1 h2 h3⟩
  · exact ((R.rw.set_other qas).snoc upd_same).set_other (by simp [pas, npq])
  · refine List.nodup_append.mpr ⟨R.nd, by simp, ?_⟩
    intro a ha b hb e
    simp at hb
    exact qas (by rw [← hb, ← e]; exact ha)
  · intro b hb
    rcases List.mem_append.mp hb with z | z
    · exact R.new b z
    · simp at z
      subst z
      exact ⟨R.same.free hq, npq.symm⟩

def kDisp (p : Addr) (Q : VK) (ps : List (V × V)) (H2 : Hp) : Prop := H2 p = some (.dK []) ∧ ∃ kvs : List (Key × V), ps = kvs.map (fun kv => (kV kv.1, kv.2)) ∧ kvs.length ≤ 15 ∧ Q (.ref p) (upd H2 p (.dK (mergeK [] kvs)))
theorem r_disp {σ : L2.St} {H : Hp} {Q : VK} {trs : List (TE × TE)} (h : ∀ p, H p = none → tPairs trs σ (upd H p (.dK [])) fun ps H2 => kDisp p Q ps H2) : tDisp trs σ H Q := h
theorem r_pairs0 {σ : L2.St} {H : Hp} {Q : List (V × V) → Hp → Prop} (h : Q [] H) : tPairs [] σ H Q := h
theorem r_pairs1 {σ : L2.St} {H : Hp} {tk tv : TE} {r : List (TE × TE)} {Q : List (V × V) → Hp → Prop} (h : tk σ H fun x H1 => tv σ H1 fun y H2 => tPairs r σ H2 fun ps H3 => Q ((x, y) :: ps) H3) : tPairs ((tk, tv) :: r) σ H Q := h
theorem k_disp {p : Addr} {Q : VK} {ps : List (V × V)} {H2 : Hp} (kvs : List (Key × V)) (h : H2 p = some (.dK [])) (e : ps = kvs.map (fun kv => (kV kv.1, kv.2))) (hl : kvs.length ≤ 15) (q : Q (.ref p) (upd H2 p (.dK (mergeK [] kvs)))) : kDisp p Q ps H2 := ⟨h, kvs, e, hl, q⟩
theorem feed_merge (c : Addr) : mergeK [] [(Sum.inr ("cells" : Str), V.ref c), (Sum.inr ("turn" : Str), .int 0), (Sum.inr ("seed" : Str), .int 0)] = feedKvs c 0 0 := by
  simp [mergeK, feedKvs, putK, nk1, nk2, nk3, Ne.symm nk1, Ne.symm nk2, Ne.symm nk3]
theorem cut_hi (xs : List V) (n : Nat) : cutV xs none (some (n : Int)) = xs.take n := by
  unfold cutV
  rw [show HT.sIx xs.length xs.length (some (n : Int)) = min n xs.length from HT.sIx_nat _ _ n, HT.sIx_none]
  simp
end Bk
/-! sequences of either kind walked; nets in a heap -/
namespace Bk
open PySem L2
section
variable {σ : L2.St} {H : Hp} {Q : VK} {D : Ends} {K : PySem.W.Frag}
def iSeqK (K : PySem.W.Frag) (kd : Bool) (tl : TE) : TI := match kd with
  | true => iTup K tl
  | false => iList K tl
def ItK (K : PySem.W.Frag) (kd : Bool) (a : Addr) : It := match kd with
  | true => Itt K a
  | false => Itl K a
theorem pi_seqK (kd : Bool) {X : Cx} {tg l : Expr} {tl : TE} (hl : PE X l tl) : PI X tg l (iSeqK X.K kd tl) := by
  cases kd with
  | true => exact pi_tup hl
  | false => exact pi_list hl
def kIS (K : PySem.W.Frag) (kd : Bool) (R : It → Hp → Prop) (x : V) (H1 : Hp) : Prop := ∃ a, x = .ref a ∧ (∃ xs, SqK K kd H1 a xs) ∧ R (ItK K kd a) H1
theorem r_iS {kd : Bool} {tl : TE} {R : It → Hp → Prop} (h : tl σ H fun x H1 => kIS K kd R x H1) : iSeqK K kd tl σ H R := by
  cases kd with
  | true => exact h
  | false => exact h
theorem k_iS {kd : Bool} {R : It → Hp → Prop} {a : Addr} {xs : List V} (h : SqK K kd H a xs) (q : R (ItK K kd a) H) : kIS K kd R (.ref a) H := ⟨a, rfl, ⟨xs, h⟩, q⟩
theorem k_forS {kd : Bool} {a : Addr} {xs : List V} {g : TG} {tb : TS} (Pv : Nat → L2.St → Hp → Prop) (h0 : Pv 0 σ H) (hl : ∀ i σ H, i ≤ xs.length → Pv i σ H → SqK K kd H a xs)
    (hs : ∀ i x σ H, xs[i]? = some x → Pv i σ H → g x σ H fun σ2 H2 => tb { D with nx := Pv (i + 1), ct := Pv (i + 1), bk := D.nx } σ2 H2) (hd : ∀ σ H, Pv xs.length σ H → D.nx σ H) : kFor (ItK K kd a) g tb D σ H := by
  cases kd with
  | true => exact for_tup Pv h0 hl hs hd
  | false => exact for_list Pv h0 hl hs hd
theorem k_lcS {kd : Bool} {a : Addr} {xs : List V} {g : TG} {tt : TT} {te : TE} {vs : List Nat} (Pv : Addr → Nat → Hp → Prop) (h0 : ∀ Dl, H Dl = none → Pv Dl 0 (upd H Dl (.lst []))) (hl : ∀ Dl i H', H Dl = none → i ≤ xs.length → Pv Dl i H' → SqK K kd H' a xs)
    (hs : ∀ Dl i x H', H Dl = none → xs[i]? = some x → Pv Dl i H' → kLcT g tt te vs σ Dl (Pv Dl (i + 1)) x H') (hd : ∀ Dl H', H Dl = none → Pv Dl xs.length H' → Q (.ref Dl) H') : kLc (ItK K kd a) g tt te vs σ Q H := by
  cases kd with
  | true => exact k_lcTu Pv h0 hl hs hd
  | false => exact k_lcL Pv h0 hl hs hd
theorem k_orN {u : TT} {Q : Bool → Hp → Prop} (h : u σ H Q) : kOr u σ Q (!true) H := k_or (fun z => nomatch z) fun _ => h
theorem k_orF {u : TT} {Q : Bool → Hp → Prop} (h : u σ H Q) : kOr u σ Q false H := k_or (fun z => nomatch z) fun _ => h
theorem k_orT {u : TT} {Q : Bool → Hp → Prop} (h : Q true H) : kOr u σ Q true H := k_or (fun _ => h) fun z => nomatch z
theorem k_andT {u : TT} {Q : Bool → Hp → Prop} (h : u σ H Q) : kAnd u σ Q true H := k_and (fun _ => h) fun z => nomatch z
theorem k_andF {u : TT} {Q : Bool → Hp → Prop} (h : Q false H) : kAnd u σ Q false H := k_and (fun z => nomatch z) fun _ => h
theorem k_ifNT {t u : TS} (h : u D σ H) : kIf t u D σ (!true) H := k_ifF h
theorem k_ifNF {t u : TS} (h : t D σ H) : kIf t u D σ (!false) H := k_ifT h
/-- n != n as a test that fails -/
theorem k_ifNeSame {t u : TS} {p : Prop} [Decidable p] (hp : p) (h : u D σ H) : kIf t u D σ (!decide p) H := k_ifF' (by simp [hp]) h
theorem k_tB {b : Bool} {Q : Bool → Hp → Prop} (h : Q b H) : kTest Q (.bl b) H := k_test h
theorem k_andVT {u : TE} (h : u σ H Q) : kAndV u σ Q (.bl true) H := k_andV (fun _ => h) fun z => nomatch z
theorem k_orVF {u : TE} (h : u σ H Q) : kOrV u σ Q (.bl false) H := k_orV (fun z => nomatch z) fun _ => h
end
section
variable {X : Cx} {x : Str} {pos : Pos}
theorem pe_never {e : Expr} : PE X e (fun _ _ _ => False) := ⟨fun _ _ _ _ _ _ h => h.elim⟩
end
/-! ### nets -/
/-- the net at p: a tuple of tuples -/
structure NetAt (H : Hp) (p : Addr) (bs : List Addr) (rows : List (List Int)) : Prop where
  hp : H p = some (.tup (bs.map V.ref))
  rw : Rw .tup H bs rows
theorem NetAt.same {H H' : Hp} {p : Addr} {bs : List Addr} {rows : List (List Int)} (n : NetAt H p bs rows) (s : Same H H') : NetAt H' p bs rows := ⟨s _ _ n.hp, n.rw.same s⟩
/-- each row arranged, rising -/
structure SrtOf (srt rows : List (List Int)) : Prop where
  len : srt.length = rows.length
  at' : ∀ (i : Nat) (s r : List Int), srt[i]? = some s → rows[i]? = some r → s.Perm r ∧ s.Pairwise (· ≤ ·)
theorem SrtOf.snoc {srt rows : List (List Int)} {s r : List Int} (h : SrtOf srt rows) (h1 : s.Perm r) (h2 : s.Pairwise (· ≤ ·)) : SrtOf (srt ++ [s]) (rows ++ [r]) := by
  refine ⟨by simp [h.len], fun i a b ha hb => ?_⟩
  by_cases lt : i < srt.length
  · rw [List.getElem?_append_left lt] at ha
    rw [List.getElem?_append_left (by rw [← h.len]; exact lt)] at hb
    exact h.at' i a b ha hb
  · rw [List.getElem?_append_right (by omega)] at ha
    rw [List.getElem?_append_right (by rw [← h.len]; omega)] at hb
    rw [← h.len] at hb
    have e : i - srt.length = 0 := by
      have := (List.getElem?_eq_some_iff.mp ha).1
      rw [List.length_singleton] at this
      omega
    rw [e] at ha hb
    cases ha
    cases hb
    exact ⟨h1, h2⟩
theorem rw_notin {H : Hp} {bs : List Addr} {rows : List (List Int)} {p : Addr} {xs : List V} (h : Rw .tup H bs rows) (hp : H p = some (.lst xs)) : p ∉ bs := fun hm => by
  obtain ⟨i, hi⟩ := List.mem_iff_getElem?.mp hm
  have lt : i < rows.length := by rw [← h.1]; exact (List.getElem?_eq_some_iff.mp hi).1
  have := h.2 i p _ hi (List.getElem?_eq_getElem lt)
  rw [hp] at this
  cases this
theorem rw_notin_none {mk : List V → HO} {H : Hp} {bs : List Addr} {rows : List (List Int)} {p : Addr} (h : Rw mk H bs rows) (hp : H p = none) : p ∉ bs := fun hm => by
  obtain ⟨i, hi⟩ := List.mem_iff_getElem?.mp hm
  have lt : i < rows.length := by rw [← h.1]; exact (List.getElem?_eq_some_iff.mp hi).1
  have := h.2 i p _ hi (List.getElem?_eq_getElem lt)
  rw [hp] at this
  cases this
/-- what is forgotten -/
def hide (H : Hp) (l : List Addr) : Hp := fun b => if b ∈ l then none else H b
theorem hide_get {H : Hp} {l : List Addr} {b : Addr} (h : b ∉ l) : hide H l b = H b := by unfold hide; rw [if_neg h]
theorem hide_none {H : Hp} {l : List Addr} {b : Addr} (h : b ∈ l) : hide H l b = none := by unfold hide; rw [if_pos h]
theorem same_hide (H : Hp) (l : List Addr) : Same (hide H l) H := fun b o e => by
  by_cases h : b ∈ l
  · rw [hide_none h] at e; cases e
  · rw [hide_get h] at e; exact e
theorem Rw.hide {mk : List V → HO} {H : Hp} {bs l : List Addr} {rows : List (List Int)} (h : Rw mk H bs rows) (hn : ∀ b ∈ bs, b ∉ l) : Rw mk (Bk.hide H l) bs rows := ⟨h.1, fun i b row h1 h2 => by
  rw [hide_get (hn b (List.mem_of_getElem? h1))]
  exact h.2 i b row h1 h2⟩
/-- data: lists of ints -/
def rowsD (rows : List (List Int)) : PyData := .list (rows.map fun r => .list (r.map PyData.int))
theorem dp_rowsA {K : PySem.W.Frag} {H : Hp} : ∀ {as : List Addr} {rows : List (List Int)}, RwK K false H as rows → DpAll K H (as.map V.ref) (rows.map fun r => PyData.list (r.map PyData.int))
  | [], [], _ => .nil
  | [], _ :: _, h => by have := h.1; simp at this
  | _ :: _, [], h => by have := h.1; simp at this
  | a :: as, r :: rows, h => by
    refine .cons (.lst (h.2 0 a r rfl rfl) (dp_ints r)) (dp_rowsA ⟨by have := h.1; simpa using this, fun i b row h1 h2 => h.2 (i + 1) b row (by simpa using h1) (by simpa using h2)⟩)
theorem dp_rows {K : PySem.W.Frag} {H : Hp} {p : Addr} {as : List Addr} {rows : List (List Int)} (hp : SqL K H p (as.map V.ref)) (h : RwK K false H as rows) : Dp K H (.ref p) (rowsD rows) := .lst hp (dp_rowsA h)
theorem sh_rowsA : ∀ rows : List (List Int), PyData.canLayAll0 (rows.map fun r => PyData.list (r.map PyData.int)) = true ∧ PyData.depthAll (rows.map fun r => PyData.list (r.map PyData.int)) ≤ 1
  | [] => ⟨rfl, Nat.zero_le _⟩
  | r :: rows => by
    obtain ⟨h1, h2⟩ := sh_rowsA rows
    obtain ⟨h3, h4⟩ := sh_intsA r
    constructor
    · simp [PyData.canLayAll0, PyData.canLay0, h1, h3]
    · simp [PyData.depthAll, PyData.depth, h4]
      omega
theorem sh_rows (rows : List (List Int)) : SeqAt.shaped (rowsD rows) = true := by
  obtain ⟨h1, h2⟩ := sh_rowsA rows
  simp [SeqAt.shaped, rowsD, PyData.canLay0, PyData.depth, h1]
  omega
/-- two lists of lists with the same rows -/
theorem k_neRows {K : PySem.W.Frag} {H : Hp} {Q : VK} {p q : Addr} {as bs : List Addr} {rows : List (List Int)} (h1 : SqL K H p (as.map V.ref)) (h2 : RwK K false H as rows) (h3 : SqL K H q (bs.map V.ref)) (h4 : RwK K false H bs rows) (h : Q (.bl false) H) :
    rNeD K (.ref p) (.ref q) H Q := by
  refine k_neD (dp_rows h1 h2) (dp_rows h3 h4) (sh_rows rows) (sh_rows rows) ?_
  rw [SeqAt.eqv_refl _ (SeqAt.canLay_of_shaped (sh_rows rows))]
  exact h
def spCan (K : PySem.W.Frag) : Sp := fun vs H Q _ => ∃ (kd : Bool) (a : Addr) (ns : List Int) (make : Int), vs = [.ref a, .int make] ∧ SqK K kd H a (ns.map V.int) ∧ ns.length ≤ 4000 ∧
  ∀ H', Same H H' → Q (.bl (decide (ns.Nodup ∧ ∀ e ∈ ns, 0 ≤ e ∧ e < make))) H'
def spNetOf (K : PySem.W.Frag) : Sp := fun vs H Q _ => ∃ (kd : Bool) (a : Addr) (as : List Addr) (rows : List (List Int)), vs = [.ref a] ∧ SqK K kd H a (as.map V.ref) ∧ RwK K kd H as rows ∧ RowsOk rows ∧ 1 ≤ rows.length ∧ rows.length ≤ 40 ∧
  ∀ (p : Addr) (bs : List Addr) (srt : List (List Int)) (H' : Hp), Same H H' → H p = none → NetAt H' p bs srt → SrtOf srt rows → Q (.ref p) H'
def spIsNet (K : PySem.W.Frag) : Sp := fun vs H Q _ => ∃ (p a : Addr) (bs as : List Addr) (srt rows : List (List Int)), vs = [.ref p, .ref a] ∧ NetAt H p bs srt ∧ SqL K H a (as.map V.ref) ∧ RwK K false H as rows ∧ SrtOf srt rows ∧ (∀ r ∈ rows, r.length ≤ 1000) ∧
  ∀ H', Same H H' → Q (.bl true) H'
def spLaw (K : PySem.W.Frag) : Sp := fun vs H Q _ => ∃ (a : Addr) (ns : List Int), vs = [.ref a] ∧ SqL K H a (ns.map V.int) ∧ ns.length ≤ 63 ∧ ∀ H', Q (.bl true) H'
theorem Same.hide_of {H H' : Hp} {l : List Addr} (s : Same H H') : Same (hide H l) H' := (same_hide H l).trans s
theorem walk_law {l : PySem.W.OpenLaw} {k : Nat} {q : Program} {loose : List Str} {XP : (Str → Option Value) → Heap → Prop} {YP : World → Heap → Prop} {d : DefRec} {K : Params → PySem.W.Frag} (hn : l.most = some 63) (hdf : d.params.defaults = []) (hr : Room k callerA)
    (hY : ∀ (w : World) (h : Heap), YP w h → (K w.params).In h)
    (F : ∀ (w : World) (mg : Str → Option Value) (fa : Addr) (h : Heap), (K w.params).In h → h.Ns mainGlobals mg → mg d.name = some (.ref fa) →
      ∃ fd : FuncData, (∀ (s : Shared) (u : Value), BindsTo s fd ⟨[u], []⟩ [("_law_script", u)]) ∧ ∀ base : Heap, (K w.params).In base → base.Ns mainGlobals mg → FnOk l.prog w (K w.params) mg base CX0 k fa fd ["_law_script"] (spLaw (K w.params))) :
    PySem.W.WalkO q loose XP YP l.row.toRowW d [] (fun f vs => PySem.call f vs) :=
  L2.walk_of (n := 63) (k := k) (x := "_law_script") (CX := fun _ => CX0) (sp := fun w => spLaw (K w.params)) hn (by decide) hdf hr hY F (fun _ _ a ns hl _ hS => ⟨a, ns, rfl, hS, hl, fun _ => rfl⟩) fun _ _ _ _ _ z => z
/-- the law itself stands at its name -/
theorem law_mk {h : Heap} {st : Stmt} {f fa : Addr} {K : PySem.W.Frag} {mg : Str → Option Value} {oc : Value} {od an : Option Addr} {osl : Array (Option Value)} {kV doc pm cdv ct : Value} (X : K.In h) (G : h.Ns mainGlobals mg) (hfa : mg "law" = some (.ref fa))
    (a : PySem.W.nsIn K mainGlobals "law" = some (some (.ref f))) (l : K.lookup f = some ⟨oc, od, .func (PySem.W.fnOf "law" "law" (defArgs st) (defBody st) (defScope st) .none kV doc pm an cdv ct), osl⟩)
    (c : PySem.W.codeIn K cdv "law" = true) (k : PySem.W.keepIn K (.ref f) = true)
    (hb : ∀ (s : Shared) (u : Value), BindsTo s (PySem.W.fnOf "law" "law" (defArgs st) (defBody st) (defScope st) .none kV doc pm an cdv ct) ⟨[u], []⟩ [("_law_script", u)]) :
    ∃ fd : FuncData, (∀ (s : Shared) (u : Value), BindsTo s fd ⟨[u], []⟩ [("_law_script", u)]) ∧ Fun K "law" "law" st fa fd := by
  have e := hfa.symm.trans (PySem.W.mg_of X G a)
  cases e
  exact ⟨_, hb, fun_mk l c k⟩
end Bk
/-! {e}: a set of one int; sets filled, asked, sorted -/
namespace Bk
open PySem PySem.Spec PyProof.Rows L2
section
variable {prog : Program} {w : World} {A : Around} {E : Value → Shared → Prop} {s : Shared}
abbrev freshSet (w : World) : Obj := { cls := .type "set", dict := none, data := .set #[] 0 (.fresh 0 0 (!w.params.followText "set-order")) }
theorem newSetW {Q : Value → Shared → Prop} (h : Q (.ref s.heap.objs.size) { s with heap := s.heap.push (freshSet w) }) : wpAny (model prog w) A (newSet (.type "set")) Q E s := by
  unfold newSet setsByText
  refine wpAny_bind (wpAny_bind (wpAny_askSetting (wpAny_pure ?_)))
  dsimp only
  simp only [newObj]
  exact wpAny_bind (wpAny_alloc (wpAny_pure h))
theorem setDisp1 {b : Bool} {t : Sem Value} {Q : Value → Shared → Prop}
    (h : wpAny (model prog w) A t (fun v s' => wpAny (model prog w) A (setAdd s.heap.objs.size v) (fun _ s2 => Q (.ref s.heap.objs.size) s2) E s') E { s with heap := s.heap.push (freshSet w) }) :
    wpAny (model prog w) A (setDisplay .oneByOne b [(false, t)]) Q E s := by
  unfold setDisplay
  dsimp only
  rw [if_neg (by decide)]
  refine wpAny_bind (newSetW ?_)
  dsimp only
  have e1 : (if [(false, t)].length > 30 then 0 else ([(false, t)].findIdx? (·.1)).getD [(false, t)].length) = 1 := by rfl
  rw [e1]
  refine wpAny_bind (wpAny_holding ?_)
  show wpAny _ _ (evalAll [t] >>= _) _ _ _
  have ev : evalAll [t] = (do let v ← t; let r ← holding [v] (evalAll []); pure (v :: r)) := rfl
  rw [ev]
  refine wpAny_bind (wpAny_bind (wpAny_mono h (fun v s' h' => ?_) fun _ _ x => x))
  refine wpAny_bind (wpAny_holding (wpAny_pure (wpAny_pure ?_)))
  refine wpAny_bind (wpAny_holding ?_)
  refine wpAny_bind ?_
  rw [List.forIn_cons]
  refine wpAny_bind (wpAny_bind (wpAny_mono h' (fun _ s2 h2 => ?_) fun _ _ x => x))
  first
    | refine wpAny_pure ?_
    | refine wpAny_bind (wpAny_pure (wpAny_pure ?_))
  dsimp only
  rw [List.forIn_nil]
  refine wpAny_pure ?_
  rw [if_neg (by decide)]
  refine wpAny_pure ?_
  show wpAny _ _ (do forIn ([] : List (Bool × Sem Value)) PUnit.unit _; pure ()) _ _ _
  rw [List.forIn_nil]
  exact wpAny_bind (wpAny_pure (wpAny_pure (wpAny_pure h2)))
end
section
variable {X : Cx} {e : Expr} {te : TE} {pos : Pos}
/-- {e}, e an int -/
def kSet1 (w : World) (p : Addr) (Q : VK) (x : V) (H2 : Hp) : Prop := ∃ i : Int, x = .int i ∧ H2 p = some (SetO w p (fun _ => false) 0) ∧ Q (.ref p) (upd H2 p (SetO w p (fun j => decide (j = i)) 1))
def tSet1 (w : World) (te : TE) : TE := fun σ H Q => ∀ p, H p = none → te σ (upd H p (SetO w p (fun _ => false) 0)) fun x H2 => kSet1 w p Q x H2
theorem pe_set1 (he : PE X e te) (hcd : PySem.W.kdsCode X.K X.env.code = true) (hs : starEach [e] X.env = [(false, eval e X.env)] := by rfl) : PE X (.Set [e] 0 pos) (tSet1 X.w te) := by
  refine ⟨fun pins s σ H Q I h => ?_⟩
  rw [arm_eval_Set]
  refine wpAny_bind (wpAny_standAt (wpAny_bind (PySem.W.kds_main I.kIn hcd fun b => ?_)))
  rw [hs]
  have hr : displayRoad 0 [e] = .oneByOne := by
    unfold displayRoad
    rw [if_neg (Nat.lt_irrefl 0), if_pos (show [e].length ≤ 2 by simp)]
  rw [hr]
  refine setDisp1 ?_
  have hf : H s.heap.objs.size = none := I.hok.fresh (Nat.le_refl _)
  have J : Inv X pins σ (upd H s.heap.objs.size (SetO X.w s.heap.objs.size (fun _ => false) 0)) { s with heap := s.heap.push (freshSet X.w) } :=
    I.laid (t' := s.toks) (fun b u q => Heap.get?_push_of_some _ q) (Nat.le_refl _) (setO_new (setR_fresh X.w))
  refine wpAny_bind (thn (he.run pins _ σ _ _ J (h _ hf)) ?_)
  rintro v s1 ⟨x, H2, J2, rx, i, rfl, hp, q⟩
  refine wpAny_bind (wpAny_standAt (wpAny_pure ?_))
  obtain ⟨tk, rfl⟩ := rx
  have R := setO_get J2 hp
  unfold setAdd
  refine wpAny_holding (wpAny_bind ((intKind X.prog X.w).pyHash (intKind_is X.prog X.w i tk) ?_))
  refine setR_add_hashed (P := X.prog) (s := { s1 with toks := s1.toks + 1 }) R (by unfold scanBound; omega) fun h' sb r => ?_
  have he' : ∃ u, h'.get? s.heap.objs.size = some u := by
    have ⟨o, _, _, _, ho, _⟩ := r
    exact ⟨o, ho⟩
  have r2 : SetR X.w h' s.heap.objs.size (fun j => decide (j = i)) 1 := by
    have e1 : (fun j => (fun _ => false) j || decide (j = i)) = fun j : Int => decide (j = i) := by funext j; simp
    have e2 : (if (fun _ : Int => false) i = true then 0 else 0 + 1) = 1 := by simp
    rw [e1, e2] at r
    exact r
  refine ⟨.ref s.heap.objs.size, _, J2.write (e := s.heap.objs.size) (t' := s1.toks + 1) (by rw [hp]; trivial) (.inl rfl) (fun b u hb hu => (sb.2 b hb).trans hu) he' (setO_new r2), rfl, q⟩
end
section
variable {σ : L2.St} {H : Hp} {Q : VK} {w : World}
theorem r_set1 {te : TE} (h : ∀ p, H p = none → te σ (upd H p (SetO w p (fun _ => false) 0)) fun x H2 => kSet1 w p Q x H2) : tSet1 w te σ H Q := h
theorem k_set1 {p : Addr} {i : Int} (hp : H p = some (SetO w p (fun _ => false) 0)) (q : Q (.ref p) (upd H p (SetO w p (fun j => decide (j = i)) 1))) : kSet1 w p Q (.int i) H := ⟨i, rfl, hp, q⟩
def kSAdd (w : World) (t : TA) (σ : L2.St) (Q : VK) (x : V) (H1 : Hp) : Prop := (∃ a S n, x = V.ref a ∧ H1 a = some (SetO w a S n)) ∧ t σ H1 fun xs H2 => rSAdd w x xs H2 Q
theorem r_sadd {to : TE} {t : TA} (h : to σ H fun x H1 => kSAdd w t σ Q x H1) : tSAdd w to t σ H Q := h
theorem k_sadd {t : TA} {a : Addr} {S : Int → Bool} {n : Nat} (h : H a = some (SetO w a S n)) (q : t σ H fun xs H2 => rSAdd w (.ref a) xs H2 Q) : kSAdd w t σ Q (.ref a) H := ⟨⟨a, S, n, rfl, h⟩, q⟩
theorem k_sadd2 {a : Addr} {S : Int → Bool} {n : Nat} {k : Int} (h : H a = some (SetO w a S n)) (hn : n ≤ 3000) (q : Q .non (upd H a (SetO w a (fun j => S j || decide (j = k)) (if S k = true then n else n + 1)))) : rSAdd w (.ref a) [.int k] H Q :=
  ⟨a, k, S, n, rfl, rfl, h, by unfold scanBound; omega, q⟩
theorem k_sin {a : Addr} {S : Int → Bool} {n : Nat} {k : Int} (h : H a = some (SetO w a S n)) (q : Q (.bl (S k)) H) : rSIn w (.int k) (.ref a) H Q := ⟨k, a, S, n, rfl, rfl, h, q⟩
theorem k_snotin {a : Addr} {S : Int → Bool} {n : Nat} {k : Int} (h : H a = some (SetO w a S n)) (q : Q (.bl (!S k)) H) : rSNotIn w (.int k) (.ref a) H Q := ⟨k, a, S, n, rfl, rfl, h, q⟩
theorem k_sortedS {a : Addr} {S : Int → Bool} {n : Nat} (h : H a = some (SetO w a S n)) (hn : n < 64) (q : ∀ (ns : List Int) (p : Addr), ns.Pairwise (· < ·) → (∀ k : Int, k ∈ ns ↔ S k = true) → ns.length = n → H p = none → Q (.ref p) (upd H p (.lst (ns.map V.int)))) : rSortedSet w [.ref a] H Q := ⟨a, S, n, rfl, h, hn, q⟩
end

/-! ### sets as lists of unlike ints -/
def memL (L : List Int) : Int → Bool := fun j => decide (j ∈ L)
def addL (L : List Int) (k : Int) : List Int := if k ∈ L then L else L ++ [k]
theorem addL_mem {L : List Int} {k j : Int} : j ∈ addL L k ↔ j ∈ L ∨ j = k := by
  unfold addL
  split
  · constructor
    · exact .inl
    · rintro (h | rfl)
      · exact h
      · assumption
  · simp
theorem addL_nodup {L : List Int} {k : Int} (h : L.Nodup) : (addL L k).Nodup := by
  unfold addL
  split
  · exact h
  · rename_i hk
    refine List.nodup_append.mpr ⟨h, by simp, ?_⟩
    intro a ha b hb e
    simp at hb
    exact hk (by rw [← hb, ← e]; exact ha)
theorem add_fun (L : List Int) (k : Int) : (fun j => memL L j || decide (j = k)) = memL (addL L k) := by
  funext j
  unfold memL
  by_cases h1 : j ∈ L <;> by_cases h2 : j = k <;> simp [addL_mem, h1, h2]
theorem add_len (L : List Int) (k : Int) : (if memL L k = true then L.length else L.length + 1) = (addL L k).length := by
  unfold memL addL
  by_cases h : k ∈ L <;> simp [h]
theorem nodup_len : ∀ {L M : List Int}, L.Nodup → (∀ x ∈ L, x ∈ M) → L.length ≤ M.length
  | [], _, _, _ => Nat.zero_le _
  | a :: L, M, h, hs => by
    obtain ⟨h1, h2⟩ := List.nodup_cons.mp h
    have ha : a ∈ M := hs a List.mem_cons_self
    have ih := nodup_len (L := L) (M := M.erase a) h2 fun x hx => by
      have nxa : x ≠ a := fun e => h1 (e ▸ hx)
      exact (List.mem_erase_of_ne nxa).mpr (hs x (List.mem_cons_of_mem _ hx))
    rw [List.length_erase_of_mem ha] at ih
    have := List.length_pos_of_mem ha
    rw [List.length_cons]
    omega
theorem nodup_bound {L : List Int} {n : Nat} (h : L.Nodup) (hb : ∀ x ∈ L, 0 ≤ x ∧ x < (n : Int)) : L.length ≤ n := by
  have := nodup_len (M := (List.range n).map Int.ofNat) h fun x hx => by
    refine List.mem_map.mpr ⟨x.toNat, List.mem_range.mpr ?_, ?_⟩
    · have := hb x hx
      omega
    · have := hb x hx
      show ((x.toNat : Nat) : Int) = x
      omega
  simpa using this
section
variable {σ : L2.St} {H : Hp} {Q : VK} {w : World}
theorem k_set1L {p : Addr} {i : Int} (hp : H p = some (SetO w p (fun _ => false) 0)) (q : Q (.ref p) (upd H p (SetO w p (memL [i]) [i].length))) : kSet1 w p Q (.int i) H := k_set1 hp (by
  have e : (fun j : Int => decide (j = i)) = memL [i] := by funext j; simp [memL]
  rw [e]
  exact q)
theorem k_saddL {a : Addr} {L : List Int} {k : Int} (h : H a = some (SetO w a (memL L) L.length)) (hn : L.length ≤ 3000) (q : Q .non (upd H a (SetO w a (memL (addL L k)) (addL L k).length))) : rSAdd w (.ref a) [.int k] H Q :=
  k_sadd2 h hn (by rw [add_fun, add_len]; exact q)
theorem k_sinL {a : Addr} {L : List Int} {k : Int} (h : H a = some (SetO w a (memL L) L.length)) (q : Q (.bl (decide (k ∈ L))) H) : rSIn w (.int k) (.ref a) H Q := k_sin h q
theorem k_sortedSL {a : Addr} {L : List Int} (h : H a = some (SetO w a (memL L) L.length)) (hn : L.length < 64) (q : ∀ (ns : List Int) (p : Addr), ns.Pairwise (· < ·) → (∀ k : Int, k ∈ ns ↔ k ∈ L) → H p = none → Q (.ref p) (upd H p (.lst (ns.map V.int)))) : rSortedSet w [.ref a] H Q :=
  k_sortedS h hn fun ns p h1 h2 _ hp => q ns p h1 (fun k => by rw [h2 k]; simp [memL]) hp
end
/-! ### what comes of what -/
inductive Cm (rows : List (List Int)) : Nat → Nat → Prop
  | refl (y : Nat) : Cm rows y y
  | step {y e o : Nat} {row : List Int} (h : rows[y]? = some row) (he : (e : Int) ∈ row) (c : Cm rows e o) : Cm rows y o
noncomputable instance (rows : List (List Int)) (y o : Nat) : Decidable (Cm rows y o) := Classical.propDecidable _
theorem Cm.le {rows : List (List Int)} (ok : RowsOk rows) {y o : Nat} (c : Cm rows y o) : o ≤ y := by
  induction c with
  | refl => exact Nat.le_refl _
  | step h he _ ih =>
    have := (ok _ _ h).2.2 _ he
    omega
theorem Cm.trans {rows : List (List Int)} {x y z : Nat} (a : Cm rows x y) (b : Cm rows y z) : Cm rows x z := by
  induction a with
  | refl => exact b
  | step h he _ ih => exact .step h he (ih b)
theorem Cm.lt {rows : List (List Int)} (ok : RowsOk rows) {y o : Nat} (c : Cm rows y o) (hy : y < rows.length) : o < rows.length := Nat.lt_of_le_of_lt (c.le ok) hy
theorem cm_iff {rows : List (List Int)} {y o : Nat} {row : List Int} (h : rows[y]? = some row) : Cm rows y o ↔ y = o ∨ ∃ e : Nat, (e : Int) ∈ row ∧ Cm rows e o := by
  constructor
  · intro c
    cases c with
    | refl => exact .inl rfl
    | step h2 he c =>
      rw [h] at h2
      cases h2
      exact .inr ⟨_, he, c⟩
  · rintro (rfl | ⟨e, he, c⟩)
    · exact .refl _
    · exact .step h he c
/-- the same of rows that are arranged otherwise -/
theorem Cm.perm {rows rows' : List (List Int)} (hs : SrtOf rows' rows) {y o : Nat} (c : Cm rows y o) : Cm rows' y o := by
  induction c with
  | refl => exact .refl _
  | @step y e o row h he _ ih =>
    have lt : y < rows'.length := by rw [hs.len]; exact (List.getElem?_eq_some_iff.mp h).1
    have h' := List.getElem?_eq_getElem lt
    exact .step h' ((hs.at' y _ _ h' h).1.mem_iff.mpr he) ih
theorem Cm.perm' {rows rows' : List (List Int)} (hs : SrtOf rows' rows) {y o : Nat} (c : Cm rows' y o) : Cm rows y o := by
  induction c with
  | refl => exact .refl _
  | @step y e o row h he _ ih =>
    have lt : y < rows.length := by rw [← hs.len]; exact (List.getElem?_eq_some_iff.mp h).1
    have h' := List.getElem?_eq_getElem lt
    exact .step h' ((hs.at' y _ _ h h').1.mem_iff.mp he) ih
theorem cm_perm {rows rows' : List (List Int)} (hs : SrtOf rows' rows) {y o : Nat} : Cm rows' y o ↔ Cm rows y o := ⟨Cm.perm' hs, Cm.perm hs⟩
theorem RowsOk.srt {rows rows' : List (List Int)} (hs : SrtOf rows' rows) (ok : RowsOk rows) : RowsOk rows' := by
  intro i row h
  have lt : i < rows.length := by rw [← hs.len]; exact (List.getElem?_eq_some_iff.mp h).1
  have h' := List.getElem?_eq_getElem lt
  obtain ⟨pm, _⟩ := hs.at' i _ _ h h'
  obtain ⟨h1, h2, h3⟩ := ok i _ h'
  exact ⟨pm.nodup_iff.mpr h1, by rw [pm.length_eq]; exact h2, fun e he => h3 e (pm.mem_iff.mp he)⟩
/-! promises of the program's defs over a net of valid makes -/
def spIsMake (K : PySem.W.Frag) : Sp := fun vs H Q _ => ∃ (p : Addr) (xs : List V) (m : Int), vs = [.ref p, .int m] ∧ SqT K H p xs ∧ Q (.bl (decide (0 ≤ m ∧ m < (xs.length : Int)))) H
def spNeed (K : PySem.W.Frag) : Sp := fun vs H Q _ => ∃ (p a : Addr) (xs : List V) (ms : List Int), vs = [.ref p, .ref a] ∧ SqT K H p xs ∧ SqL K H a (ms.map V.int) ∧ (∀ m ∈ ms, 0 ≤ m ∧ m < (xs.length : Int)) ∧ Q .non H
/-- a new rising tuple of just these -/
def NewSorted (H H' : Hp) (t : Addr) (ns : List Int) (φ : Int → Prop) : Prop := Same H H' ∧ H t = none ∧ H' t = some (.tup (ns.map V.int)) ∧ ns.Pairwise (· < ·) ∧ ∀ k, k ∈ ns ↔ φ k
def spEldersOf : Sp := fun vs H Q _ => ∃ (p : Addr) (bs : List Addr) (rows : List (List Int)) (m : Nat), vs = [.ref p, .int (m : Int)] ∧ NetAt H p bs rows ∧ RowsOk rows ∧ rows.length ≤ 40 ∧ m < rows.length ∧
  ∀ (t : Addr) (ns : List Int) (H' : Hp), NewSorted H H' t ns (fun k => 0 ≤ k ∧ Cm rows m k.toNat) → Q (.ref t) H'
def spHeirsOf : Sp := fun vs H Q _ => ∃ (p : Addr) (bs : List Addr) (rows : List (List Int)) (m : Nat), vs = [.ref p, .int (m : Int)] ∧ NetAt H p bs rows ∧ RowsOk rows ∧ rows.length ≤ 40 ∧ m < rows.length ∧
  ∀ (t : Addr) (ns : List Int) (H' : Hp), NewSorted H H' t ns (fun k => 0 ≤ k ∧ k < (rows.length : Int) ∧ Cm rows k.toNat m) → Q (.ref t) H'
def spComesOf : Sp := fun vs H Q _ => ∃ (p : Addr) (bs : List Addr) (rows : List (List Int)) (y o : Nat), vs = [.ref p, .int (y : Int), .int (o : Int)] ∧ NetAt H p bs rows ∧ RowsOk rows ∧ rows.length ≤ 40 ∧ y < rows.length ∧ o < rows.length ∧
  ∀ H', Same H H' → Q (.bl (decide (Cm rows y o))) H'
theorem kds_of {K : PySem.W.Frag} {cd : Value} {q : Str} (h : PySem.W.codeIn K cd q = true) : PySem.W.kdsCode K cd = true := by
  unfold PySem.W.codeIn at h
  unfold PySem.W.kdsCode
  split at h
  · split at h
    · rename_i vs sl ho
      simp only [ho]
    · cases h
  · cases h
theorem ob_sin {w : World} {X : Cx} (hw : X.w = w) : OpR X (compareOp .In) (rSIn w) := by subst hw; exact or_sin
theorem ob_snotin {w : World} {X : Cx} (hw : X.w = w) : OpR X (compareOp .NotIn) (rSNotIn w) := by subst hw; exact or_snotin
theorem rowsAt_one {G : Hp} {e p : Addr} (he0 : G e = none) (hp0 : G p = none) (nep : e ≠ p) : RowsAt G (upd (upd G e (.lst (([] : List Int).map V.int))) p (.lst ([e].map V.ref))) p [e] [[]] := by
  refine ⟨(L2.Same.new he0).mut hp0, hp0, upd_same, ⟨rfl, fun i b row h1 h2 => ?_⟩, by simp, fun b hb => ?_, fun i row h1 => ?_⟩
  · cases i with
    | zero =>
      cases h1
      cases h2
      rw [upd_ne nep]
      exact upd_same
    | succ i => simp at h1
  · simp at hb
    subst hb
    exact ⟨he0, nep⟩
  · cases i with
    | zero => cases h1; simp
    | succ i => simp at h1
def spRows2 : Sp := fun vs H Q _ => ∃ (G : Hp) (d : Addr), vs = [.ref d] ∧ FeedAt G H d ∧
  ∀ (p : Addr) (as : List Addr) (rows : List (List Int)) (G' H' : Hp), RowsAt G G' p as rows → 1 ≤ rows.length → rows.length ≤ 40 → FeedAt G' H' d → Q (.ref p) H'
/-- all that is told and is not the feed's -/
theorem FeedAt.max {G H H' : Hp} {d : Addr} (F : FeedAt G H d) (s : Same H H') : ∃ G2, FeedAt G2 H' d ∧ Same G G2 ∧ (∀ b o, H' b = some o → H b = none → G2 b = some o) ∧ (∀ b xs, H' b = some (.tup xs) → G2 b = some (.tup xs)) := by
  obtain ⟨c, t, z, ns, X, h1, h2, h3⟩ := F.x
  refine ⟨hide H' [d, c], ⟨same_hide _ _, hide_none (by simp), c, t, z, ns, hide_none (by simp), s _ _ X.hd, s _ _ X.hc, h1, h2, h3⟩, fun b o e => ?_, fun b o e e0 => ?_, fun b xs e => ?_⟩
  · have nd : b ≠ d := ne_of_none e X.d0
    have nc : b ≠ c := ne_of_none e X.c0
    rw [hide_get (by simp [nd, nc])]
    exact s _ _ (X.same _ _ e)
  · have nd : b ≠ d := fun q => by rw [q, X.hd] at e0; cases e0
    have nc : b ≠ c := fun q => by rw [q, X.hc] at e0; cases e0
    rw [hide_get (by simp [nd, nc])]
    exact e
  · have nd : b ≠ d := ne_of e (s _ _ X.hd) (by intro q; cases q)
    have nc : b ≠ c := ne_of e (s _ _ X.hc) (by intro q; cases q)
    rw [hide_get (by simp [nd, nc])]
    exact e
/-- the table of what comes of what -/
noncomputable def cmRow (rows : List (List Int)) (i : Nat) : List V := (List.range rows.length).map fun o => V.bl (decide (Cm rows i o))
structure BtAt (H : Hp) (c : Addr) (cs : List Addr) (rows : List (List Int)) : Prop where
  hc : H c = some (.lst (cs.map V.ref))
  len : cs.length = rows.length
  at' : ∀ (i : Nat) (b : Addr), cs[i]? = some b → H b = some (.lst (cmRow rows i))
theorem BtAt.same {H H' : Hp} {c : Addr} {cs : List Addr} {rows : List (List Int)} (b : BtAt H c cs rows) (s : Same H H') : BtAt H' c cs rows := ⟨s _ _ b.hc, b.len, fun i x h => s _ _ (b.at' i x h)⟩
def bools (n : Nat) (f : Nat → Bool) : List V := (List.range n).map fun o => V.bl (f o)
theorem bools_get {n : Nat} {f : Nat → Bool} {o : Nat} (h : o < n) : (bools n f)[o]? = some (.bl (f o)) := by
  unfold bools
  rw [List.getElem?_map, List.getElem?_range h]
  rfl
theorem bools_len (n : Nat) (f : Nat → Bool) : (bools n f).length = n := by simp [bools]
theorem bools_set {n : Nat} {f : Nat → Bool} {k : Nat} {b : Bool} : (bools n f).set k (.bl b) = bools n (fun o => if o = k then b else f o) := by
  refine List.ext_getElem (by simp [bools]) fun i h1 h2 => ?_
  have hi : i < n := by simpa [bools] using h2
  by_cases e : i = k
  · subst e
    simp [bools]
  · rw [List.getElem_set_ne (Ne.symm e)]
    simp [bools, e]
theorem bools_congr {n : Nat} {f g : Nat → Bool} (h : ∀ o, o < n → f o = g o) : bools n f = bools n g := by
  refine List.ext_getElem (by simp [bools]) fun i h1 h2 => ?_
  have hi : i < n := by simpa [bools] using h2
  simp [bools, h i hi]
theorem cmRow_bools (rows : List (List Int)) (i : Nat) : cmRow rows i = bools rows.length (fun o => decide (Cm rows i o)) := rfl
def spComings (K : PySem.W.Frag) : Sp := fun vs H Q _ => ∃ (a : Addr) (as : List Addr) (rows : List (List Int)), vs = [.ref a] ∧ SqL K H a (as.map V.ref) ∧ RwK K false H as rows ∧ RowsOk rows ∧ rows.length ≤ 40 ∧
  ∀ (c : Addr) (cs : List Addr) (H' : Hp), Same H H' → H c = none → (∀ b ∈ cs, H b = none) → BtAt H' c cs rows → Q (.ref c) H'
def spIsTuple (K : PySem.W.Frag) : Sp := fun vs H Q _ => ∃ (t a : Addr) (ns : List Int), vs = [.ref t, .ref a] ∧ H t = some (.tup (ns.map V.int)) ∧ SqL K H a (ns.map V.int) ∧ ns.length ≤ 1000 ∧ ∀ H', Same H H' → Q (.bl true) H'
/-- two rising lists of unlike ints with the same members are one -/
theorem strict_unique : ∀ {l₁ l₂ : List Int}, (∀ k, k ∈ l₁ ↔ k ∈ l₂) → l₁.Pairwise (· < ·) → l₂.Pairwise (· < ·) → l₁ = l₂
  | [], [], _, _, _ => rfl
  | [], b :: l₂, h, _, _ => absurd ((h b).mpr List.mem_cons_self) (by simp)
  | a :: l₁, [], h, _, _ => absurd ((h a).mp List.mem_cons_self) (by simp)
  | a :: l₁, b :: l₂, h, h1, h2 => by
    obtain ⟨h1a, h1b⟩ := List.pairwise_cons.mp h1
    obtain ⟨h2a, h2b⟩ := List.pairwise_cons.mp h2
    have e : a = b := by
      rcases List.mem_cons.mp ((h a).mp List.mem_cons_self) with q | q
      · exact q
      · rcases List.mem_cons.mp ((h b).mpr List.mem_cons_self) with r | r
        · exact r.symm
        · have := h2a a q
          have := h1a b r
          omega
    subst e
    rw [strict_unique (fun k => ?_) h1b h2b]
    constructor
    · intro hk
      rcases List.mem_cons.mp ((h k).mp (List.mem_cons_of_mem _ hk)) with q | q
      · have := h1a k hk
        omega
      · exact q
    · intro hk
      rcases List.mem_cons.mp ((h k).mpr (List.mem_cons_of_mem _ hk)) with q | q
      · have := h2a k hk
        omega
      · exact q
/-- those below n for which f holds -/
def picked (n : Nat) (f : Nat → Bool) : List Int := ((List.range n).filter f).map Int.ofNat
theorem picked_succ (n : Nat) (f : Nat → Bool) : picked (n + 1) f = picked n f ++ (if f n then [(n : Int)] else []) := by
  unfold picked
  rw [List.range_succ, List.filter_append, List.map_append]
  congr 1
  cases h : f n <;> simp [h]
theorem picked_lt (n : Nat) (f : Nat → Bool) : (picked n f).Pairwise (· < ·) := by
  unfold picked
  refine List.pairwise_map.mpr ?_
  have := (List.pairwise_lt_range (n := n)).filter f
  exact this.imp fun h => Int.ofNat_lt.mpr h
theorem picked_mem {n : Nat} {f : Nat → Bool} {k : Int} : k ∈ picked n f ↔ 0 ≤ k ∧ k < (n : Int) ∧ f k.toNat = true := by
  unfold picked
  rw [List.mem_map]
  constructor
  · rintro ⟨o, ho, rfl⟩
    rw [List.mem_filter, List.mem_range] at ho
    refine ⟨Int.natCast_nonneg _, Int.ofNat_lt.mpr ho.1, by simpa using ho.2⟩
  · rintro ⟨h1, h2, h3⟩
    refine ⟨k.toNat, List.mem_filter.mpr ⟨List.mem_range.mpr (by omega), h3⟩, ?_⟩
    show ((k.toNat : Nat) : Int) = k
    omega
theorem picked_len (n : Nat) (f : Nat → Bool) : (picked n f).length ≤ n := by
  unfold picked
  rw [List.length_map]
  have := List.length_filter_le f (List.range n)
  rw [List.length_range] at this
  exact this
theorem k_neB {H : Hp} {Q : VK} {a b : Bool} (e : a = b) (h : Q (.bl false) H) : rNe (.bl a) (.bl b) H Q := ⟨rfl, by subst e; simpa using h⟩
/-! how the table's row is filled -/
noncomputable instance (rows : List (List Int)) (row : List Int) (j o : Nat) : Decidable (∃ e : Nat, (e : Int) ∈ row.take j ∧ Cm rows e o) := Classical.propDecidable _
noncomputable def cmF (rows : List (List Int)) (i : Nat) (row : List Int) (j : Nat) : Nat → Bool := fun o => decide (o = i ∨ ∃ e : Nat, (e : Int) ∈ row.take j ∧ Cm rows e o)
noncomputable def cmG (rows : List (List Int)) (i : Nat) (row : List Int) (j en k : Nat) : Nat → Bool := fun o => cmF rows i row j o || (decide (o < k) && decide (Cm rows en o))
theorem cmF_zero (rows : List (List Int)) (i : Nat) (row : List Int) : cmF rows i row 0 = fun o => decide (o = i) := by
  funext o
  simp [cmF]
theorem cmG_zero (rows : List (List Int)) (i : Nat) (row : List Int) (j en : Nat) : cmG rows i row j en 0 = cmF rows i row j := by
  funext o
  simp [cmG]
theorem cmG_step (rows : List (List Int)) (i : Nat) (row : List Int) (j en k : Nat) : (fun o => if o = k then (cmF rows i row j k || decide (Cm rows en k)) else cmG rows i row j en k o) = cmG rows i row j en (k + 1) := by
  funext o
  by_cases e : o = k
  · subst e
    simp [cmG]
  · rw [if_neg e]
    unfold cmG
    have : decide (o < k + 1) = decide (o < k) := by
      by_cases c : o < k
      · simp [c]; omega
      · simp [c]; omega
    rw [this]
theorem cmG_at (rows : List (List Int)) (i : Nat) (row : List Int) (j en k : Nat) : cmG rows i row j en k k = cmF rows i row j k := by simp [cmG]
theorem cmG_end {rows : List (List Int)} {i : Nat} {row : List Int} {j en : Nat} (ok : RowsOk rows) (h : row[j]? = some (en : Int)) : cmG rows i row j en (en + 1) = cmF rows i row (j + 1) := by
  funext o
  unfold cmG cmF
  apply Bool.eq_iff_iff.mpr
  simp only [Bool.or_eq_true, Bool.and_eq_true, decide_eq_true_eq]
  rw [take_next h]
  simp only [List.mem_append, List.mem_singleton]
  constructor
  · rintro ((h1 | ⟨e, he, c⟩) | ⟨_, c⟩)
    · exact .inl h1
    · exact .inr ⟨e, .inl he, c⟩
    · exact .inr ⟨en, .inr rfl, c⟩
  · rintro (h1 | ⟨e, he | he, c⟩)
    · exact .inl (.inl h1)
    · exact .inl (.inr ⟨e, he, c⟩)
    · have e1 : e = en := by omega
      subst e1
      have := c.le ok
      exact .inr ⟨by omega, c⟩
theorem cmF_end {rows : List (List Int)} {i : Nat} {row : List Int} (h : rows[i]? = some row) : cmF rows i row row.length = fun o => decide (Cm rows i o) := by
  funext o
  unfold cmF
  apply Bool.eq_iff_iff.mpr
  simp only [decide_eq_true_eq]
  rw [List.take_length, cm_iff h]
  constructor
  · rintro (h1 | h1)
    · exact .inl h1.symm
    · exact .inr h1
  · rintro (h1 | h1)
    · exact .inl h1.symm
    · exact .inr h1
/-- a net and its table, in a pair -/
structure TabAt (G : Hp) (t : Addr) (rows : List (List Int)) : Prop where
  ok : RowsOk rows
  l1 : 1 ≤ rows.length
  l2 : rows.length ≤ 40
  ex : ∃ (p c : Addr) (bs cs : List Addr) (srt : List (List Int)), G t = some (.tup [.ref p, .ref c]) ∧ NetAt G p bs srt ∧ SrtOf srt rows ∧ BtAt G c cs rows
theorem TabAt.same {G G' : Hp} {t : Addr} {rows : List (List Int)} (h : TabAt G t rows) (s : Same G G') : TabAt G' t rows := by
  obtain ⟨p, c, bs, cs, srt, h1, h2, h3, h4⟩ := h.ex
  exact ⟨h.ok, h.l1, h.l2, p, c, bs, cs, srt, s _ _ h1, h2.same s, h3, h4.same s⟩
theorem Rw.told {G2 H' : Hp} {bs : List Addr} {rows : List (List Int)} (h : Rw .tup H' bs rows) (t : ∀ b xs, H' b = some (.tup xs) → G2 b = some (.tup xs)) : Rw .tup G2 bs rows := ⟨h.1, fun i b row h1 h2 => t _ _ (h.2 i b row h1 h2)⟩
theorem NetAt.told {G2 H' : Hp} {p : Addr} {bs : List Addr} {rows : List (List Int)} (h : NetAt H' p bs rows) (t : ∀ b xs, H' b = some (.tup xs) → G2 b = some (.tup xs)) : NetAt G2 p bs rows := ⟨t _ _ h.hp, h.rw.told t⟩
theorem Same.hide_mono {G G' : Hp} (s : Same G G') (l : List Addr) : Same (hide G l) (hide G' l) := fun b o e => by
  by_cases h : b ∈ l
  · rw [hide_none h] at e; cases e
  · rw [hide_get h] at e; rw [hide_get h]; exact s b o e
theorem hide_upd {G : Hp} {p : Addr} {o : HO} {l : List Addr} (h : p ∈ l) : hide (upd G p o) l = hide G l := by
  funext b
  by_cases hb : b ∈ l
  · rw [hide_none hb, hide_none hb]
  · have : b ≠ p := fun e => hb (e ▸ h)
    rw [hide_get hb, hide_get hb, upd_ne this]
theorem k_ixLr {K : PySem.W.Frag} {H : Hp} {Q : VK} {p : Addr} {as : List Addr} {i : Int} {n : Nat} {b : Addr} (hp : SqL K H p (as.map V.ref)) (e : i = (n : Int)) (hb : as[n]? = some b) (h : Q (.ref b) H) : rIxL K (.ref p) (.int i) H Q := by
  subst e
  exact k_ixL hp (atI_nat (by rw [List.getElem?_map, hb]; rfl)) h
theorem k_ixLb {K : PySem.W.Frag} {H : Hp} {Q : VK} {p : Addr} {rows : List (List Int)} {i : Int} {n k : Nat} (hp : SqL K H p (cmRow rows k)) (e : i = (n : Int)) (hn : n < rows.length) (h : Q (.bl (decide (Cm rows k n))) H) : rIxL K (.ref p) (.int i) H Q := by
  subst e
  exact k_ixL hp (by rw [cmRow_bools]; exact atI_nat (bools_get hn)) h
theorem TabAt.lenN {G : Hp} {t : Addr} {rows : List (List Int)} (h : TabAt G t rows) : True := trivial
end Bk
/-! orders of a net's makes; the net by new numbers -/
namespace Bk
open PySem L2
section
variable {σ : L2.St} {H : Hp} {Q : VK} {D : Ends} {K : PySem.W.Frag}
theorem flat_bools (bs : List Bool) : (bs.map V.bl).all flatV = true := by
  rw [List.all_eq_true]
  intro x hx
  obtain ⟨n, _, rfl⟩ := List.mem_map.mp hx
  rfl
theorem inV_bools (b : Bool) (bs : List Bool) : inV (.bl b) (bs.map V.bl) = decide (b ∈ bs) := by
  unfold inV
  rw [List.any_map]
  apply Bool.eq_iff_iff.mpr
  rw [List.any_eq_true]
  simp only [decide_eq_true_eq, Function.comp]
  constructor
  · rintro ⟨n, hn, e⟩
    have e' : (n == b) = true := e
    rw [beq_iff_eq] at e'
    exact e' ▸ hn
  · intro hx
    exact ⟨b, hx, show (b == b) = true by simp⟩
theorem k_notInB {p : Addr} {bs : List Bool} {b : Bool} (h : SqL K H p (bs.map V.bl)) (q : Q (.bl (!decide (b ∈ bs))) H) : rIn K true (.bl b) (.ref p) H Q := ⟨p, _, rfl, .inl h, rfl, flat_bools bs, by rw [inV_bools]; exact q⟩
def kDIn (Q : VK) (y x : V) (H2 : Hp) : Prop := ∃ a o, x = .ref a ∧ DGet H2 a y o ∧ Q (.bl o.isSome) H2
theorem r_din {ty td : TE} (h : ty σ H fun y H1 => td σ H1 fun x H2 => kDIn Q y x H2) : tDIn ty td σ H Q := h
theorem r_dnew (h : ∀ p, H p = none → Q (.ref p) (upd H p (.dK []))) : tDNewK σ H Q := h
/-- places by makes -/
structure Pl (kvs : List (Key × V)) (l : List Int) : Prop where
  at' : ∀ j : Int, valV kvs (Sum.inl j) = if j ∈ l then some (.int (l.idxOf j : Nat)) else none
  len : kvs.length ≤ l.length
theorem Pl.nil : Pl [] [] := ⟨fun j => by simp [valV_nil], Nat.le_refl _⟩
theorem Pl.snoc {kvs : List (Key × V)} {l : List Int} {m : Int} (h : Pl kvs l) (hm : m ∉ l) : Pl (putK kvs (Sum.inl m) (.int (l.length : Nat))) (l ++ [m]) := by
  refine ⟨fun j => ?_, ?_⟩
  · rw [valV_put, h.at']
    by_cases e : j = m
    · subst e
      rw [if_pos rfl, if_pos (by simp), List.idxOf_append, if_neg hm]
      simp
    · have ne : ¬ (Sum.inl j : Key) = Sum.inl m := fun q => e (Sum.inl.inj q)
      rw [if_neg ne]
      by_cases hj : j ∈ l
      · rw [if_pos hj, if_pos (by simp [hj]), List.idxOf_append, if_pos hj]
      · rw [if_neg hj, if_neg (by simp [hj, e])]
  · have := length_putK kvs (Sum.inl m : Key) (.int (l.length : Nat))
    have := h.len
    simp
    omega
theorem k_dinP {a : Addr} {kvs : List (Key × V)} {l : List Int} {m : Int} (h : H a = some (.dK kvs)) (pl : Pl kvs l) (q : Q (.bl (decide (m ∈ l))) H) : kDIn Q (.int m) (.ref a) H := by
  refine ⟨a, _, rfl, DGet.k (k := Sum.inl m) h, ?_⟩
  rw [pl.at']
  by_cases e : m ∈ l
  · rw [if_pos e]
    rw [decide_eq_true e] at q
    exact q
  · rw [if_neg e]
    rw [decide_eq_false e] at q
    exact q
theorem k_dgetP {a : Addr} {kvs : List (Key × V)} {l : List Int} {m : Int} (h : H a = some (.dK kvs)) (pl : Pl kvs l) (hm : m ∈ l) (q : Q (.int (l.idxOf m : Nat)) H) : kDGet Q (.ref a) (.int m) H := by
  refine k_dget (v := .int (l.idxOf m : Nat)) ?_ q
  have := DGet.k (k := Sum.inl m) h
  rw [pl.at', if_pos hm] at this
  exact this
theorem k_dputP {a : Addr} {kvs : List (Key × V)} {l : List Int} {m i : Int} (h : H a = some (.dK kvs)) (pl : Pl kvs l) (hl : l.length ≤ 1000) (ei : i = (l.length : Nat)) (q : D.nx σ (upd H a (.dK (putK kvs (Sum.inl m) (.int (l.length : Nat)))))) : kDPut D σ (.int i) (.ref a) (.int m) H := by
  subst ei
  exact k_dput (DPut.k (k := Sum.inl m) h (by have := pl.len; exact small (by omega))) q
theorem k_reverse {l : Addr} {xs : List V} (h : H l = some (.lst xs)) (q : Q .non (upd H l (.lst xs.reverse))) : rReverse (.ref l) [] H Q := ⟨l, xs, rfl, rfl, h, q⟩
theorem k_tupofT {p : Addr} {ys : List V} (h : SqT K H p ys) (q : Q (.ref p) H) : rTupB K [V.ref p] H Q := ⟨p, ys, rfl, .inr ⟨h, q⟩⟩
end
/-! ### orders -/
/-- the make can stand behind those of l -/
def CanNext (rows : List (List Int)) (l : List Int) (m : Int) : Prop := 0 ≤ m ∧ m ∉ l ∧ ∃ row, rows[m.toNat]? = some row ∧ ∀ e ∈ row, e ∈ l
def OrdPre (rows : List (List Int)) (ord : List Int) : Prop := ∀ (i : Nat) (m : Int), ord[i]? = some m → CanNext rows (ord.take i) m
structure OrdOk (rows : List (List Int)) (ord : List Int) : Prop where
  len : ord.length = rows.length
  pre : OrdPre rows ord
theorem CanNext.lt {rows : List (List Int)} {l : List Int} {m : Int} (h : CanNext rows l m) : m < (rows.length : Int) := by
  obtain ⟨h0, _, row, hr, _⟩ := h
  have := (List.getElem?_eq_some_iff.mp hr).1
  omega
theorem OrdPre.bd {rows : List (List Int)} {ord : List Int} (h : OrdPre rows ord) {m : Int} (hm : m ∈ ord) : 0 ≤ m ∧ m < (rows.length : Int) := by
  obtain ⟨i, hi⟩ := List.mem_iff_getElem?.mp hm
  have := h i m hi
  exact ⟨this.1, this.lt⟩
theorem OrdPre.nodup : ∀ {ord : List Int} {rows : List (List Int)}, OrdPre rows ord → ord.Nodup := by
  intro ord rows h
  rw [List.nodup_iff_pairwise_ne, List.pairwise_iff_getElem]
  intro i j hi hj lt e
  have := (h j _ (List.getElem?_eq_getElem hj)).2.1
  refine this (List.mem_iff_getElem?.mpr ⟨i, ?_⟩)
  rw [List.getElem?_take_of_lt lt, ← e]
  exact List.getElem?_eq_getElem hi
theorem OrdPre.nil (rows : List (List Int)) : OrdPre rows [] := fun i m h => by simp at h
theorem OrdPre.snoc {rows : List (List Int)} {ord : List Int} {m : Int} (h : OrdPre rows ord) (hm : CanNext rows ord m) : OrdPre rows (ord ++ [m]) := by
  intro i x hx
  by_cases lt : i < ord.length
  · rw [List.getElem?_append_left lt] at hx
    rw [List.take_append_of_le_length (Nat.le_of_lt lt)]
    exact h i x hx
  · rw [List.getElem?_append_right (by omega)] at hx
    have e : i - ord.length = 0 := by
      have := (List.getElem?_eq_some_iff.mp hx).1
      rw [List.length_singleton] at this
      omega
    rw [e] at hx
    cases hx
    have ei : i = ord.length := by omega
    subst ei
    rw [List.take_append_of_le_length (Nat.le_refl _), List.take_length]
    exact hm
theorem OrdPre.len_le {rows : List (List Int)} {ord : List Int} (h : OrdPre rows ord) : ord.length ≤ rows.length := nodup_bound h.nodup fun x hx => h.bd hx
/-- while not all stand, one can stand next -/
theorem OrdPre.ex {rows : List (List Int)} {ord : List Int} (ok : RowsOk rows) (h : OrdPre rows ord) (lt : ord.length < rows.length) : ∃ m : Nat, m < rows.length ∧ CanNext rows ord (m : Int) := by
  have step : ∀ k, k ≤ rows.length → (∀ j : Nat, j < k → (j : Int) ∈ ord) ∨ ∃ m : Nat, m < rows.length ∧ CanNext rows ord (m : Int) := by
    intro k
    induction k with
    | zero => exact fun _ => .inl fun j hj => absurd hj (Nat.not_lt_zero _)
    | succ k ih =>
      intro hk
      rcases ih (by omega) with a | b
      · by_cases hk2 : (k : Int) ∈ ord
        · refine .inl fun j hj => ?_
          by_cases e : j = k
          · subst e; exact hk2
          · exact a j (by omega)
        · refine .inr ⟨k, by omega, by omega, hk2, rows[k], List.getElem?_eq_getElem (by omega), fun e he => ?_⟩
          have b := (ok k _ (List.getElem?_eq_getElem (by omega))).2.2 e he
          have := a e.toNat (by omega)
          have ee : ((e.toNat : Nat) : Int) = e := by omega
          rwa [ee] at this
      · exact .inr b
  rcases step rows.length (Nat.le_refl _) with a | b
  · have := nodup_len (L := (List.range rows.length).map Int.ofNat) (M := ord) (by
      rw [List.nodup_iff_pairwise_ne, List.pairwise_map]
      exact (List.pairwise_lt_range (n := rows.length)).imp fun h e => by have := Int.ofNat.inj e; omega) (fun x hx => by
        obtain ⟨j, hj, rfl⟩ := List.mem_map.mp hx
        exact a j (List.mem_range.mp hj))
    simp at this
    omega
  · exact b
theorem OrdOk.all {rows : List (List Int)} {ord : List Int} (h : OrdOk rows ord) {j : Int} (h0 : 0 ≤ j) (h1 : j < (rows.length : Int)) : j ∈ ord := by
  by_cases hj : j ∈ ord
  · exact hj
  · have := nodup_bound (L := ord ++ [j]) (n := rows.length) (List.nodup_append.mpr ⟨h.pre.nodup, by simp, fun a ha b hb e => hj (by simp at hb; rw [← hb, ← e]; exact ha)⟩) fun x hx => by
      rcases List.mem_append.mp hx with z | z
      · exact h.pre.bd z
      · simp at z
        subst z
        exact ⟨h0, h1⟩
    simp [h.len] at this
    omega
theorem idxOf_take {l : List Int} {i : Nat} {e : Int} (h : e ∈ l.take i) : l.idxOf e < i := by
  have e1 : l.take i ++ l.drop i = l := List.take_append_drop i l
  have e2 := List.idxOf_append (l₁ := l.take i) (l₂ := l.drop i) (a := e)
  rw [e1, if_pos h] at e2
  rw [e2]
  have := List.idxOf_lt_length_of_mem h
  rw [List.length_take] at this
  omega
theorem get_idxOf {l : List Int} {e : Int} (h : e ∈ l) : l[l.idxOf e]? = some e := by
  have lt := List.idxOf_lt_length_of_mem h
  rw [List.getElem?_eq_getElem lt, List.getElem_idxOf lt]
theorem idxOf_get {l : List Int} (nd : l.Nodup) {i : Nat} {e : Int} (h : l[i]? = some e) : l.idxOf e = i := by
  obtain ⟨lt, rfl⟩ := List.getElem?_eq_some_iff.mp h
  exact List.Nodup.idxOf_getElem nd i lt
theorem idxOf_inj {l : List Int} {a b : Int} (ha : a ∈ l) (hb : b ∈ l) (e : l.idxOf a = l.idxOf b) : a = b := by
  have h1 := get_idxOf ha
  have h2 := get_idxOf hb
  rw [e, h2] at h1
  exact (Option.some.inj h1).symm
/-- the same rows, arranged otherwise -/
structure PermR (A B : List (List Int)) : Prop where
  len : A.length = B.length
  at' : ∀ (i : Nat) (a b : List Int), A[i]? = some a → B[i]? = some b → a.Perm b
theorem SrtOf.permR {A B : List (List Int)} (h : SrtOf A B) : PermR A B := ⟨h.len, fun i a b ha hb => (h.at' i a b ha hb).1⟩
theorem PermR.symm {A B : List (List Int)} (h : PermR A B) : PermR B A := ⟨h.len.symm, fun i a b ha hb => (h.at' i b a hb ha).symm⟩
theorem SrtOf.over {A B C : List (List Int)} (h : SrtOf A B) (p : PermR B C) : SrtOf A C := ⟨h.len.trans p.len, fun i a c ha hc => by
  have lt : i < B.length := by rw [p.len]; exact (List.getElem?_eq_some_iff.mp hc).1
  have hb := List.getElem?_eq_getElem lt
  obtain ⟨p1, s1⟩ := h.at' i a _ ha hb
  exact ⟨p1.trans (p.at' i _ c hb hc), s1⟩⟩
theorem PermR.get {A B : List (List Int)} (p : PermR A B) {i : Nat} {a : List Int} (h : A[i]? = some a) : ∃ b, B[i]? = some b ∧ a.Perm b := by
  have lt : i < B.length := by rw [← p.len]; exact (List.getElem?_eq_some_iff.mp h).1
  have hb := List.getElem?_eq_getElem lt
  exact ⟨_, hb, p.at' i _ _ h hb⟩
theorem CanNext.perm {A B : List (List Int)} (p : PermR A B) {l : List Int} {m : Int} (h : CanNext A l m) : CanNext B l m := by
  obtain ⟨h0, h1, row, hr, he⟩ := h
  obtain ⟨b, hb, pm⟩ := p.get hr
  exact ⟨h0, h1, b, hb, fun e h => he e (pm.mem_iff.mpr h)⟩
theorem OrdOk.perm {A B : List (List Int)} (p : PermR A B) {ord : List Int} (h : OrdOk A ord) : OrdOk B ord := ⟨h.len.trans p.len, fun i m hm => (h.pre i m hm).perm p⟩
/-- the rows by new numbers -/
def dueRows (rows : List (List Int)) (ord : List Int) : List (List Int) := ord.map fun m => (rows.getD m.toNat []).map fun e => ((ord.idxOf e : Nat) : Int)
theorem dueRows_len (rows : List (List Int)) (ord : List Int) : (dueRows rows ord).length = ord.length := by simp [dueRows]
theorem dueRows_get {rows : List (List Int)} {ord : List Int} {i : Nat} {m : Int} {row : List Int} (h : ord[i]? = some m) (hr : rows[m.toNat]? = some row) : (dueRows rows ord)[i]? = some (row.map fun e => ((ord.idxOf e : Nat) : Int)) := by
  unfold dueRows
  rw [List.getElem?_map, h]
  simp [List.getD_eq_getElem?_getD, hr]
theorem dueRows_of {rows : List (List Int)} {ord : List Int} (o : OrdOk rows ord) {i : Nat} {r : List Int} (h : (dueRows rows ord)[i]? = some r) : ∃ m row, ord[i]? = some m ∧ rows[m.toNat]? = some row ∧ r = row.map fun e => ((ord.idxOf e : Nat) : Int) := by
  have lt : i < ord.length := by rw [← dueRows_len rows ord]; exact (List.getElem?_eq_some_iff.mp h).1
  have hm := List.getElem?_eq_getElem lt
  obtain ⟨_, _, row, hr, _⟩ := o.pre i _ hm
  refine ⟨_, row, hm, hr, ?_⟩
  rw [dueRows_get hm hr] at h
  exact (Option.some.inj h).symm
theorem PermR.due {A B : List (List Int)} (p : PermR A B) {ord : List Int} (o : OrdOk A ord) : PermR (dueRows A ord) (dueRows B ord) := by
  refine ⟨by simp [dueRows], fun i a b ha hb => ?_⟩
  obtain ⟨m, row, hm, hr, rfl⟩ := dueRows_of o ha
  obtain ⟨row', hr', pm⟩ := p.get hr
  rw [dueRows_get hm hr'] at hb
  cases hb
  exact pm.map _
theorem RowsOk.due {rows : List (List Int)} {ord : List Int} (ok : RowsOk rows) (o : OrdOk rows ord) : RowsOk (dueRows rows ord) := by
  intro i r h
  obtain ⟨m, row, hm, hr, rfl⟩ := dueRows_of o h
  obtain ⟨h1, h2, h3⟩ := ok _ _ hr
  obtain ⟨g1, g2, row', hr', g3⟩ := o.pre i m hm
  rw [hr] at hr'
  cases hr'
  refine ⟨?_, by simpa using h2, fun x hx => ?_⟩
  · rw [List.nodup_iff_pairwise_ne, List.pairwise_map]
    rw [List.nodup_iff_pairwise_ne] at h1
    refine h1.imp_of_mem fun {a b} ha hb ne e => ne ?_
    have e' : ord.idxOf a = ord.idxOf b := by omega
    exact idxOf_inj (List.mem_of_mem_take (g3 a ha)) (List.mem_of_mem_take (g3 b hb)) e'
  · obtain ⟨e, he, rfl⟩ := List.mem_map.mp hx
    have := idxOf_take (g3 e he)
    omega
/-- the order back -/
def backOf (ord : List Int) (n : Nat) : List Int := (List.range n).map fun m : Nat => ((ord.idxOf (m : Int) : Nat) : Int)
theorem backOf_get {ord : List Int} {n m : Nat} (h : m < n) : (backOf ord n)[m]? = some ((ord.idxOf (m : Int) : Nat) : Int) := by
  unfold backOf
  rw [List.getElem?_map, List.getElem?_range h]
  rfl
theorem backOf_len (ord : List Int) (n : Nat) : (backOf ord n).length = n := by simp [backOf]
theorem OrdOk.mem {rows : List (List Int)} {ord : List Int} (o : OrdOk rows ord) {m : Nat} (h : m < rows.length) : (m : Int) ∈ ord := o.all (by omega) (by omega)
theorem OrdOk.at' {rows : List (List Int)} {ord : List Int} (o : OrdOk rows ord) {m : Nat} (h : m < rows.length) : ord[ord.idxOf (m : Int)]? = some (m : Int) := get_idxOf (o.mem h)
theorem OrdOk.lt {rows : List (List Int)} {ord : List Int} (o : OrdOk rows ord) {m : Nat} (h : m < rows.length) : ord.idxOf (m : Int) < rows.length := by
  have := List.idxOf_lt_length_of_mem (o.mem h)
  rwa [o.len] at this
theorem OrdOk.back {rows : List (List Int)} {ord : List Int} (ok : RowsOk rows) (o : OrdOk rows ord) : OrdOk (dueRows rows ord) (backOf ord rows.length) := by
  refine ⟨by rw [backOf_len, dueRows_len, o.len], fun i m hm => ?_⟩
  have lt : i < rows.length := by rw [← backOf_len ord rows.length]; exact (List.getElem?_eq_some_iff.mp hm).1
  rw [backOf_get lt] at hm
  cases hm
  have inTake : ∀ j : Nat, j < i → ((ord.idxOf (j : Int) : Nat) : Int) ∈ (backOf ord rows.length).take i := fun j hj => by
    refine List.mem_iff_getElem?.mpr ⟨j, ?_⟩
    rw [List.getElem?_take_of_lt hj]
    exact backOf_get (by omega)
  have hrow := List.getElem?_eq_getElem lt
  refine ⟨by omega, fun hin => ?_, _, dueRows_get (m := (i : Int)) (row := rows[i]) ?_ hrow, fun x hx => ?_⟩
  · obtain ⟨j, hj⟩ := List.mem_iff_getElem?.mp hin
    have ltj : j < i := by
      have := (List.getElem?_eq_some_iff.mp hj).1
      rw [List.length_take] at this
      omega
    rw [List.getElem?_take_of_lt ltj, backOf_get (by omega)] at hj
    have e : ord.idxOf (j : Int) = ord.idxOf (i : Int) := by have := Option.some.inj hj; omega
    have := idxOf_inj (o.mem (by omega)) (o.mem lt) e
    omega
  · exact o.at' lt
  · obtain ⟨e, he, rfl⟩ := List.mem_map.mp hx
    have b := (ok i _ hrow).2.2 e he
    have := inTake e.toNat (by omega)
    have ee : ((e.toNat : Nat) : Int) = e := by omega
    rwa [ee] at this
theorem back_idx {rows : List (List Int)} {ord : List Int} (ok : RowsOk rows) (o : OrdOk rows ord) {m : Nat} (h : m < rows.length) : (backOf ord rows.length).idxOf ((ord.idxOf (m : Int) : Nat) : Int) = m :=
  idxOf_get (o.back ok).pre.nodup (backOf_get h)
theorem due_back {rows : List (List Int)} {ord : List Int} (ok : RowsOk rows) (o : OrdOk rows ord) : dueRows (dueRows rows ord) (backOf ord rows.length) = rows := by
  refine List.ext_getElem? fun i => ?_
  by_cases lt : i < rows.length
  · have hrow := List.getElem?_eq_getElem lt
    have h1 : (dueRows rows ord)[(((ord.idxOf (i : Int) : Nat) : Int)).toNat]? = some (rows[i].map fun e => ((ord.idxOf e : Nat) : Int)) := dueRows_get (m := (i : Int)) (o.at' lt) hrow
    rw [dueRows_get (backOf_get lt) h1, hrow, List.map_map]
    congr 1
    conv => rhs; rw [← List.map_id rows[i]]
    refine List.map_congr_left fun e he => ?_
    have b := (ok i _ hrow).2.2 e he
    have := back_idx ok o (m := e.toNat) (by omega)
    have ee : ((e.toNat : Nat) : Int) = e := by omega
    rw [ee] at this
    simp only [Function.comp, this, id]
    exact ee
  · rw [List.getElem?_eq_none (l := dueRows (dueRows rows ord) (backOf ord rows.length)) (by rw [dueRows_len, backOf_len]; omega), List.getElem?_eq_none (l := rows) (by omega)]
theorem Cm.due {rows : List (List Int)} {ord : List Int} (ok : RowsOk rows) (o : OrdOk rows ord) {y z : Nat} (c : Cm rows y z) (hy : y < rows.length) : Cm (dueRows rows ord) (ord.idxOf (y : Int)) (ord.idxOf (z : Int)) := by
  induction c with
  | refl => exact .refl _
  | @step y e o' row h he _ ih =>
    have b := (ok _ _ h).2.2 _ he
    refine .step (dueRows_get (m := (y : Int)) (o.at' hy) h) (List.mem_map.mpr ⟨_, he, rfl⟩) (ih (by omega))
theorem cm_due {rows : List (List Int)} {ord : List Int} (ok : RowsOk rows) (o : OrdOk rows ord) {y z : Nat} (hy : y < rows.length) (hz : z < rows.length) : Cm (dueRows rows ord) (ord.idxOf (y : Int)) (ord.idxOf (z : Int)) ↔ Cm rows y z := by
  refine ⟨fun c => ?_, fun c => c.due ok o hy⟩
  have := c.due (ok.due o) (o.back ok) (by rw [dueRows_len, o.len]; exact o.lt hy)
  rwa [due_back ok o, back_idx ok o hy, back_idx ok o hz] at this
/-! promises -/
noncomputable instance (rows : List (List Int)) (l : List Int) (m : Int) : Decidable (CanNext rows l m) := Classical.propDecidable _
def spNext : Sp := fun vs H Q _ => ∃ (p d : Addr) (bs : List Addr) (rows : List (List Int)) (kvs : List (Key × V)) (l : List Int) (m : Int), vs = [.ref p, .int m, .ref d] ∧ NetAt H p bs rows ∧ RowsOk rows ∧ H d = some (.dK kvs) ∧ Pl kvs l ∧
  ∀ H', Same H H' → Q (.bl (decide (CanNext rows l m))) H'
def spPlaces (K : PySem.W.Frag) : Sp := fun vs H Q _ => ∃ (kd : Bool) (p a : Addr) (bs : List Addr) (rows : List (List Int)) (ord : List Int), vs = [.ref p, .ref a] ∧ NetAt H p bs rows ∧ RowsOk rows ∧ rows.length ≤ 40 ∧ SqK K kd H a (ord.map V.int) ∧ OrdOk rows ord ∧
  ∀ (d : Addr) (kvs : List (Key × V)) (H' : Hp), Same H H' → H d = none → H' d = some (.dK kvs) → Pl kvs ord → Q (.ref d) H'
def spRowBy : Sp := fun vs H Q _ => ∃ (b d : Addr) (ns l : List Int) (kvs : List (Key × V)), vs = [.ref b, .ref d] ∧ H b = some (.tup (ns.map V.int)) ∧ H d = some (.dK kvs) ∧ Pl kvs l ∧ (∀ n ∈ ns, n ∈ l) ∧ ns.length ≤ 100 ∧
  ∀ (t : Addr) (s : List Int) (H' : Hp), Same H H' → H t = none → H' t = some (.tup (s.map V.int)) → s.Perm (ns.map fun e => ((l.idxOf e : Nat) : Int)) → s.Pairwise (· ≤ ·) → Q (.ref t) H'
def spRenum (K : PySem.W.Frag) : Sp := fun vs H Q _ => ∃ (kd : Bool) (p a : Addr) (bs : List Addr) (rows : List (List Int)) (ord : List Int), vs = [.ref p, .ref a] ∧ NetAt H p bs rows ∧ RowsOk rows ∧ rows.length ≤ 40 ∧ SqK K kd H a (ord.map V.int) ∧ OrdOk rows ord ∧
  ∀ (q : Addr) (cs : List Addr) (srt : List (List Int)) (H' : Hp), Same H H' → H q = none → NetAt H' q cs srt → SrtOf srt (dueRows rows ord) → Q (.ref q) H'
end Bk
/-! what the laws of orders keep -/
namespace Bk
open PySem L2
section
variable {σ : L2.St} {H : Hp} {Q : VK} {D : Ends} {K : PySem.W.Frag}
theorem atI_last {xs : List V} {v : V} : atI (xs ++ [v]) (-1) = some v := by
  have e : ixN (xs ++ [v]).length (-1) = some xs.length := by
    unfold ixN
    simp only [List.length_append, List.length_singleton]
    first
      | (rw [if_neg (by omega), if_pos (by omega)]; congr 1; omega)
      | (simp; omega)
  unfold atI
  rw [e]
  simp
theorem ixN_nat {n : Nat} {i : Int} (h0 : 0 ≤ i) (h : i < (n : Int)) : ixN n i = some i.toNat := by
  unfold ixN
  rw [if_pos (by omega), if_pos (by omega)]
theorem k_neInts {p q : Addr} {ns : List Int} (h1 : SqL K H p (ns.map V.int)) (h2 : SqL K H q (ns.map V.int)) (h : Q (.bl false) H) : rNeD K (.ref p) (.ref q) H Q := by
  refine k_neD (.lst h1 (dp_ints ns)) (.lst h2 (dp_ints ns)) (sh_ints ns) (sh_ints ns) ?_
  rw [SeqAt.eqv_refl _ (SeqAt.canLay_of_shaped (sh_ints ns))]
  exact h
end
theorem FeedAt.drop {G H : Hp} {d p : Addr} {o u : HO} (F : FeedAt G H d) (h : G p = some u) : FeedAt (hide G [p]) (upd H p o) d := by
  refine (FeedAt.set (o := o) F h).less fun b x e => ?_
  by_cases q : b = p
  · subst q
    rw [hide_none (by simp)] at e
    cases e
  · rw [hide_get (by simp [q])] at e
    rw [upd_ne q]
    exact e
theorem Same.to_hide {G0 G : Hp} {l : List Addr} (s : Same G0 G) (h : ∀ b ∈ l, G0 b = none) : Same G0 (hide G l) := fun b o e => by
  rw [hide_get (fun hb => by rw [h b hb] at e; cases e)]
  exact s b o e
def intL (n : Nat) (f : Nat → Int) : List V := (List.range n).map fun o => V.int (f o)
theorem intl_get {n : Nat} {f : Nat → Int} {o : Nat} (h : o < n) : (intL n f)[o]? = some (.int (f o)) := by
  unfold intL
  rw [List.getElem?_map, List.getElem?_range h]
  rfl
theorem intl_len (n : Nat) (f : Nat → Int) : (intL n f).length = n := by simp [intL]
theorem intl_succ (n : Nat) (f : Nat → Int) : intL (n + 1) f = intL n f ++ [.int (f n)] := by simp [intL, List.range_succ]
theorem intl_congr {n : Nat} {f g : Nat → Int} (h : ∀ o, o < n → f o = g o) : intL n f = intL n g := by
  refine List.ext_getElem (by simp [intL]) fun i h1 h2 => ?_
  have hi : i < n := by simpa [intL] using h2
  simp [intL, h i hi]
theorem intl_set {n : Nat} {f : Nat → Int} {k : Nat} {b : Int} : (intL n f).set k (.int b) = intL n (fun o => if o = k then b else f o) := by
  refine List.ext_getElem (by simp [intL]) fun i h1 h2 => ?_
  have hi : i < n := by simpa [intL] using h2
  by_cases e : i = k
  · subst e
    simp [intL]
  · rw [List.getElem_set_ne (Ne.symm e)]
    simp [intL, e]
theorem intl_back (ord : List Int) (n : Nat) : intL n (fun m => ((ord.idxOf (m : Int) : Nat) : Int)) = (backOf ord n).map V.int := by simp [intL, backOf, List.map_map]
def spOrder (K : PySem.W.Frag) : Sp := fun vs H Q _ => ∃ (G : Hp) (d a : Addr) (as : List Addr) (rows : List (List Int)), vs = [.ref d, .ref a] ∧ FeedAt G H d ∧ SqL K G a (as.map V.ref) ∧ RwK K false G as rows ∧ RowsOk rows ∧ rows.length ≤ 40 ∧
  ∀ (p : Addr) (ord : List Int) (G' H' : Hp), Same G G' → G p = none → G' p = some (.lst (ord.map V.int)) → OrdOk rows ord → FeedAt G' H' d → Q (.ref p) H'
theorem pi_listK {K : PySem.W.Frag} {X : Cx} {tg l : Expr} {tl : TE} (hK : X.K = K) (hl : PE X l tl) : PI X tg l (iList K tl) := by subst hK; exact pi_list hl
theorem pi_tupK {K : PySem.W.Frag} {X : Cx} {tg l : Expr} {tl : TE} (hK : X.K = K) (hl : PE X l tl) : PI X tg l (iTup K tl) := by subst hK; exact pi_tup hl
theorem bools_succ (n : Nat) (f : Nat → Bool) : bools (n + 1) f = bools n f ++ [.bl (f n)] := by simp [bools, List.range_succ]
end Bk
/-! min(xs, key=len); shortest ways -/
namespace Bk
open PySem PySem.Spec PyProof.Rows L2
theorem argBest_least (f : Nat → Int) : ∀ k, argBest (fun i j => decide (f i < f j)) k ≤ k ∧ ∀ j, j ≤ k → f (argBest (fun i j => decide (f i < f j)) k) ≤ f j
  | 0 => ⟨Nat.le_refl _, fun j hj => by have : j = 0 := by omega
                                        subst this; exact Int.le_refl _⟩
  | k + 1 => by
    obtain ⟨h1, h2⟩ := argBest_least f k
    unfold argBest
    by_cases c : f (k + 1) < f (argBest (fun i j => decide (f i < f j)) k)
    · rw [if_pos (by simpa using c)]
      refine ⟨Nat.le_refl _, fun j hj => ?_⟩
      by_cases e : j = k + 1
      · subst e; exact Int.le_refl _
      · have := h2 j (by omega)
        omega
    · rw [if_neg (by simpa using c)]
      refine ⟨by omega, fun j hj => ?_⟩
      by_cases e : j = k + 1
      · subst e; omega
      · exact h2 j (by omega)
section
variable {prog : Program} {w : World} {A : Around} {E : Value → Shared → Prop} {s : Shared}
theorem call_minLen {l : Addr} {vs : List Value} {Q : Value → Shared → Prop} (lens : Nat → Int) (hh : A.in1.handled = none) (hl : s.heap.IsList l vs.toArray) (hne : 0 < vs.length)
    (hlen : ∀ i v, vs[i]? = some v → ∃ p its, v = Value.ref p ∧ s.heap.IsList p its ∧ lens i = (its.size : Int) ∧ (its.size : Int) < 2 ^ 63)
    (h : ∀ i v h' tk, vs[i]? = some v → (∀ j, j < vs.length → lens i ≤ lens j) → (∀ b o, s.heap.get? b = some o → h'.get? b = some o) → Q v { s with heap := h', toks := tk }) :
    wpAny (model prog w) A (call (.builtin "min") [.ref l] [(Str.ofString "key", .builtin "len")]) Q E s := by
  refine call_min_walkKB (PySem.W.iter_listW hh hl fun s₂ e W st hfp hnew keep => ?_)
  subst e
  have hsz : vs.toArray.size = vs.length := List.size_toArray ..
  refine ⟨_, _, _, _, _, _, _, fun s' => ∃ h' tk, s' = { s with heap := h', toks := tk } ∧ ∀ b o, s.heap.get? b = some o → h'.get? b = some o, fun i k _ => ∃ t, k = .int (lens i) t, fun i j => decide (lens i < lens j), rfl, W, st, hfp, by rw [hsz]; exact hne, ?_, ⟨_, s.toks, rfl, keep⟩, ?_⟩
  · constructor
    · rintro s1 s2 ⟨h', tk, rfl, hk⟩ M
      refine ⟨s2.heap, s2.toks, ?_, fun b o e => M.heap b o (fun hm => ?_) (hk b o e)⟩
      · obtain ⟨hp, g, d, tk2, os⟩ := s2
        have e1 : g = s.gens := M.gens
        have e2 : d = s.drawn := M.drawn
        have e3 : os = s.os := M.os
        subst e1 e2 e3
        rfl
      · have lt := Heap.lt_size e
        rcases List.mem_cons.mp hm with e1 | hm
        · rw [e1, Heap.size_push] at lt
          exact absurd lt (Nat.not_lt.mpr (Nat.le_succ _))
        · have := List.mem_singleton.mp hm
          rw [this] at lt
          exact absurd lt (Nat.lt_irrefl _)
    · intro i k s1 s2 hV _
      exact hV
    · intro i v s1 o Q2 E2 hi hP hJ hSt hS hQ
      obtain ⟨h', tk, rfl, hk⟩ := hJ
      have hv : vs[i]? = some v := by simpa using hP
      obtain ⟨p, its, rfl, hp, hl1, hl2⟩ := hlen i v hv
      obtain ⟨ob, q1, q2, n, q3⟩ := id hp
      refine PySem.Calls.call_len_list (l := p) (items := its) ⟨ob, hk _ _ q1, q2, n, q3⟩ hl2 ?_
      exact hQ _ _ ⟨h', _, rfl, hk⟩ hSt hS ⟨_, by rw [hl1]⟩ fun j k' h => h
    · intro i j ki kj s1 Q2 E2 _ hi hj hQ
      exact CmpOf.ints_lt (P := fun i v => ∃ t, v = .int (lens i) t) lens (fun i v h => h) i j _ _ _ _ _ hi hj hQ
  · rintro v s' hP ⟨h', tk, rfl, hk⟩
    obtain ⟨b1, b2⟩ := argBest_least lens (vs.toArray.size - 1)
    have hv : vs[argBest (fun i j => decide (lens i < lens j)) (vs.toArray.size - 1)]? = some v := by simpa using hP
    exact h _ v h' tk hv (fun j hj => b2 j (by rw [hsz]; omega)) hk
end
def kML (K : PySem.W.Frag) (Q : VK) (x : V) (H1 : Hp) : Prop := ∃ (a : Addr) (ps : List Addr) (f : Addr → List V), x = .ref a ∧ SqL K H1 a (ps.map V.ref) ∧ (∀ p ∈ ps, SqL K H1 p (f p)) ∧ ps ≠ [] ∧ ∀ p ∈ ps, (∀ q ∈ ps, (f p).length ≤ (f q).length) → Q (.ref p) H1
def tMinLen (K : PySem.W.Frag) (ta : TE) : TE := fun σ H Q => ta σ H fun x H1 => kML K Q x H1
def oneML (K : PySem.W.Frag) (Q : VK) (vs : List V) (H1 : Hp) : Prop := match vs with
  | [x] => kML K Q x H1
  | _ => False
theorem oneML_x {K : PySem.W.Frag} {Q : VK} {H1 : Hp} : ∀ {vs : List V}, oneML K Q vs H1 → ∃ x, vs = [x] ∧ kML K Q x H1
  | [x], h => ⟨x, rfl, h⟩
  | [], h => h.elim
  | _ :: _ :: _, h => h.elim
theorem pe_minLen {X : Cx} {a : Expr} {ta : TE} {p p2 kp pos : Pos} (hg : Gl X "min") (hm : X.mg "min" = none) (hg2 : Gl X "len") (hm2 : X.mg "len" = none) (ha : PE X a ta) (hc : X.calm = true := by rfl)
    (he : backTo pos (starEach [a] X.env) = (false, eval a X.env) :: backTo pos (starEach [] X.env) := by rfl) (hpl : (backTo pos (starEach [a] X.env)).any (·.1) = false := by rfl)
    (hsa : starEach [a] X.env = (false, eval a X.env) :: starEach [] X.env := by rfl) :
    PE X (.Call (.Name "min" p) [a] [⟨some "key", .Name "len" p2, kp⟩] pos) (tMinLen X.K ta) := by
  refine ⟨fun pins s σ H Q I h => ?_⟩
  refine wpAny_Call_Name_kw (ld_blt I hg hm boot_min ?_)
  have h1 : (tCons ta tNil) σ H fun vs H1 => oneML X.K Q vs H1 := h
  refine PyProof.Rows.callWith_kw (thn ((pa_cons ha pa_nil hsa).run pos pins s σ H _ I h1) fun us s1 ⟨vs, H1, I1, r1, q0⟩ => ?_) he hpl rfl rfl
  obtain ⟨x, rfl, q1⟩ := oneML_x q0
  show wpAny _ _ (evalAll ((do let v ← eval (.Name "len" p2) X.env; standAt pos; pure v) :: [])) _ _ _
  refine wpAny_evalAll_cons (wpAny_bind (ld_blt I1 hg2 hm2 boot_len (wpAny_bind (wpAny_standAt (wpAny_pure (wpAny_evalAll_nil ?_))))))
  show wpAny _ _ (call (.builtin "min") us [(Str.ofString "key", .builtin "len")]) _ _ _
  obtain ⟨l, ps, f, rfl, hS, hF, hne, q⟩ := q1
  rw [Vals.ref1 r1]
  obtain ⟨its, rv, pl, hz⟩ := I1.list hS
  have hlen := rv.length
  rw [List.length_map] at hlen
  have each : ∀ i v, its[i]? = some v → ∃ b its2, ps[i]? = some b ∧ v = Value.ref b ∧ s1.heap.IsList b its2 ∧ ((f b).length : Int) = (its2.size : Int) ∧ (its2.size : Int) < 2 ^ 63 := fun i v hv => by
    have lt : i < ps.length := by rw [hlen]; exact (List.getElem?_eq_some_iff.mp hv).1
    have hb := List.getElem?_eq_getElem lt
    obtain ⟨u, hu, ru⟩ := rv.get (i := i) (x := V.ref ps[i]) (by rw [List.getElem?_map, hb]; rfl)
    rw [hv] at hu
    cases hu
    obtain ⟨js, r2, p2', z2⟩ := I1.list (hF _ (List.mem_of_getElem? hb))
    have l2 := r2.length
    rw [sizeLine_eq] at z2
    exact ⟨_, js.toArray, hb, ru, p2'.isList, by rw [List.size_toArray]; omega, by rw [List.size_toArray]; omega⟩
  refine call_minLen (fun i => match ps[i]? with | some b => ((f b).length : Int) | none => 0) (I1.ok.hd hc) pl.isList (by rw [← hlen]; exact List.length_pos_iff.mpr hne) (fun i v hv => ?_) fun i v h' tk hv hmin hk => ?_
  · obtain ⟨b, its2, hb, rfl, h2, h3, h4⟩ := each i v hv
    exact ⟨b, its2, rfl, h2, by simp only [hb]; exact h3, h4⟩
  · obtain ⟨b, its2, hb, rfl, h2, h3, h4⟩ := each i v hv
    refine ⟨V.ref b, H1, I1.kept hk, rfl, q b (List.mem_of_getElem? hb) fun c hc => ?_⟩
    obtain ⟨j, hj⟩ := List.mem_iff_getElem?.mp hc
    have := hmin j (by rw [← hlen]; exact (List.getElem?_eq_some_iff.mp hj).1)
    simp only [hb, hj] at this
    omega
section
variable {σ : L2.St} {H : Hp} {Q : VK} {D : Ends} {K : PySem.W.Frag}
theorem r_minLen {ta : TE} (h : ta σ H fun x H1 => kML K Q x H1) : tMinLen K ta σ H Q := h
theorem k_cat {l b : Addr} {xs zs : List V} (h1 : H l = some (.lst xs)) (h2 : H b = some (.lst zs)) (hz : xs.length + zs.length ≤ 100000) (q : ∀ p, H p = none → Q (.ref p) (upd H p (.lst (xs ++ zs)))) : rCat (.ref l) (.ref b) H Q := ⟨l, b, xs, zs, rfl, rfl, h1, h2, smallE hz, q⟩
def kDGet1 (ty : TE) (σ : L2.St) (Q : VK) (x : V) (H1 : Hp) : Prop := ∃ a, x = .ref a ∧ IsD H1 a ∧ ty σ H1 fun y H2 => ∃ o, DGet H2 a y o ∧ Q (o.getD .non) H2
theorem r_dget1 {td ty : TE} (h : td σ H fun x H1 => kDGet1 ty σ Q x H1) : tDGet1 td ty σ H Q := h
end
end Bk
/-! ways to elders -/
namespace Bk
open PySem L2
inductive Way (rows : List (List Int)) : Nat → Nat → Nat → Prop
  | nil (y : Nat) : Way rows 0 y y
  | step {n y e o : Nat} {row : List Int} (h : rows[y]? = some row) (he : (e : Int) ∈ row) (c : Way rows n e o) : Way rows (n + 1) y o
theorem Way.le {rows : List (List Int)} (ok : RowsOk rows) {n y o : Nat} (c : Way rows n y o) : o + n ≤ y := by
  induction c with
  | nil => omega
  | step h he _ ih =>
    have := (ok _ _ h).2.2 _ he
    omega
theorem Way.snoc {rows : List (List Int)} {n y e o : Nat} {row : List Int} (c : Way rows n y e) (h : rows[e]? = some row) (he : (o : Int) ∈ row) : Way rows (n + 1) y o := by
  induction c with
  | nil => exact .step h he (.nil _)
  | step h1 he1 _ ih => exact .step h1 he1 (ih h)
theorem Way.last {rows : List (List Int)} : ∀ {n y o : Nat}, Way rows (n + 1) y o → ∃ e row, Way rows n y e ∧ rows[e]? = some row ∧ (o : Int) ∈ row := by
  intro n
  induction n with
  | zero =>
    intro y o c
    cases c with
    | step h he c => cases c; exact ⟨_, _, .nil _, h, he⟩
  | succ n ih =>
    intro y o c
    cases c with
    | step h he c =>
      obtain ⟨e', row', w, h', he'⟩ := ih c
      exact ⟨e', row', .step h he w, h', he'⟩
theorem Way.perm {A B : List (List Int)} (p : PermR A B) {n y o : Nat} (c : Way A n y o) : Way B n y o := by
  induction c with
  | nil => exact .nil _
  | step h he _ ih =>
    obtain ⟨b, hb, pm⟩ := p.get h
    exact .step hb (pm.mem_iff.mp he) ih
def IsMin (S : Nat → Prop) : Option Nat → Prop
  | none => ∀ n, ¬ S n
  | some k => S k ∧ ∀ m, S m → k ≤ m
theorem IsMin.congr {S T : Nat → Prop} {o : Option Nat} (h : IsMin S o) (e : ∀ n, S n ↔ T n) : IsMin T o := by
  cases o with
  | none => exact fun n c => h n ((e n).mpr c)
  | some k => exact ⟨(e k).mp h.1, fun m c => h.2 m ((e m).mpr c)⟩
inductive IsW (rows : List (List Int)) : List Int → Nat → Nat → Prop
  | one (y : Nat) : IsW rows [(y : Int)] y y
  | cons {l : List Int} {y e o : Nat} {row : List Int} (h : rows[y]? = some row) (he : (e : Int) ∈ row) (c : IsW rows l e o) : IsW rows ((y : Int) :: l) y o
theorem IsW.perm {A B : List (List Int)} (p : PermR A B) {l : List Int} {y o : Nat} (c : IsW A l y o) : IsW B l y o := by
  induction c with
  | one => exact .one _
  | cons h he _ ih =>
    obtain ⟨b, hb, pm⟩ := p.get h
    exact .cons hb (pm.mem_iff.mp he) ih
theorem IsW.way {rows : List (List Int)} {l : List Int} {y o : Nat} (c : IsW rows l y o) : ∃ n, l.length = n + 1 ∧ Way rows n y o := by
  induction c with
  | one => exact ⟨0, rfl, .nil _⟩
  | cons h he _ ih =>
    obtain ⟨n, hl, w⟩ := ih
    exact ⟨n + 1, by simp [hl], .step h he w⟩
theorem IsW.head {rows : List (List Int)} {l : List Int} {y o : Nat} (c : IsW rows l y o) : l[0]? = some (y : Int) := by
  cases c <;> rfl
theorem IsW.last {rows : List (List Int)} {l : List Int} {y o : Nat} (c : IsW rows l y o) : ∃ r, l = r ++ [(o : Int)] := by
  induction c with
  | one => exact ⟨[], rfl⟩
  | cons h he _ ih =>
    obtain ⟨r, hr⟩ := ih
    exact ⟨_ :: r, by rw [hr]; rfl⟩
theorem IsW.link {rows : List (List Int)} {l : List Int} {y o : Nat} (c : IsW rows l y o) : ∀ (k : Nat) (a b : Int), l[k]? = some a → l[k + 1]? = some b → ∃ (m : Nat) (row : List Int), a = (m : Int) ∧ rows[m]? = some row ∧ b ∈ row := by
  induction c with
  | one => intro k a b _ h; simp at h
  | @cons l y e o row h he c ih =>
    intro k a b h1 h2
    cases k with
    | zero =>
      cases h1
      have := c.head
      have h3 : l[0]? = some b := h2
      rw [this] at h3
      cases h3
      exact ⟨y, row, rfl, h, he⟩
    | succ k => exact ih k a b h1 h2
structure Short (rows : List (List Int)) (l : List Int) (y o : Nat) : Prop where
  w : IsW rows l y o
  least : ∀ n, Way rows n y o → l.length ≤ n + 1
theorem Short.len {rows : List (List Int)} (ok : RowsOk rows) {l : List Int} {y o : Nat} (h : Short rows l y o) : l.length ≤ y + 1 := by
  obtain ⟨n, hl, w⟩ := h.w.way
  have := w.le ok
  omega
structure WaysAt (rows : List (List Int)) (o k : Nat) (d : Addr) (H : Hp) (kvs : List (Key × V)) : Prop where
  hd : H d = some (.dK kvs)
  len : kvs.length ≤ k
  yes : ∀ (j : Int) (v : V), valV kvs (Sum.inl j) = some v → 0 ≤ j ∧ j < (k : Int) ∧ ∃ a l, v = .ref a ∧ H a = some (.lst (l.map V.int)) ∧ Short rows l j.toNat o
  no : ∀ j : Nat, j < k → valV kvs (Sum.inl (j : Int)) = none → ∀ n, ¬ Way rows n j o
theorem WaysAt.more {rows : List (List Int)} {o k : Nat} {d : Addr} {H H' : Hp} {kvs : List (Key × V)} (h : WaysAt rows o k d H kvs) (s : Same H H') : WaysAt rows o k d H' kvs :=
  ⟨s _ _ h.hd, h.len, fun j v e => by
    obtain ⟨h1, h2, a, l, rfl, ha, hs⟩ := h.yes j v e
    exact ⟨h1, h2, a, l, rfl, s _ _ ha, hs⟩, h.no⟩
theorem WaysAt.skip {rows : List (List Int)} {o k : Nat} {d : Addr} {H : Hp} {kvs : List (Key × V)} (h : WaysAt rows o k d H kvs) (hn : ∀ n, ¬ Way rows n k o) : WaysAt rows o (k + 1) d H kvs :=
  ⟨h.hd, by have := h.len; omega, fun j v e => by
    obtain ⟨h1, h2, r⟩ := h.yes j v e
    exact ⟨h1, by omega, r⟩, fun j hj e => by
    by_cases c : j = k
    · subst c; exact hn
    · exact h.no j (by omega) e⟩
theorem WaysAt.put {rows : List (List Int)} {o k : Nat} {d a : Addr} {H : Hp} {kvs : List (Key × V)} {l : List Int} (h : WaysAt rows o k d H kvs) (ha : H a = some (.lst (l.map V.int))) (hs : Short rows l k o) :
    WaysAt rows o (k + 1) d (upd H d (.dK (putK kvs (Sum.inl (k : Int)) (.ref a)))) (putK kvs (Sum.inl (k : Int)) (.ref a)) := by
  have nd : ∀ b (xs : List V), H b = some (.lst xs) → b ≠ d := fun b xs e => ne_of e h.hd (by intro q; cases q)
  refine ⟨upd_same, ?_, fun j v e => ?_, fun j hj e => ?_⟩
  · have := length_putK kvs (Sum.inl (k : Int) : Key) (.ref a)
    have := h.len
    omega
  · rw [valV_put] at e
    by_cases c : j = (k : Int)
    · subst c
      rw [if_pos rfl] at e
      cases e
      refine ⟨by omega, by omega, a, l, rfl, by rw [upd_ne (nd _ _ ha)]; exact ha, ?_⟩
      exact hs
    · have ne : ¬ (Sum.inl j : Key) = Sum.inl (k : Int) := fun q => c (Sum.inl.inj q)
      rw [if_neg ne] at e
      obtain ⟨h1, h2, b, m, rfl, hb, hs'⟩ := h.yes j v e
      exact ⟨h1, by omega, b, m, rfl, by rw [upd_ne (nd _ _ hb)]; exact hb, hs'⟩
  · rw [valV_put] at e
    by_cases c : j = k
    · subst c
      rw [if_pos rfl] at e
      cases e
    · have ne : ¬ (Sum.inl (j : Int) : Key) = Sum.inl (k : Int) := fun q => c (by have := Sum.inl.inj q; omega)
      rw [if_neg ne] at e
      exact h.no j (by omega) e
theorem WaysAt.first {rows : List (List Int)} (ok : RowsOk rows) {o : Nat} {d a : Addr} {H : Hp} (hd : H d = some (.dK (mergeK [] [(Sum.inl (o : Int), V.ref a)]))) (ha : H a = some (.lst ([(o : Int)].map V.int))) :
    WaysAt rows o (o + 1) d H (mergeK [] [(Sum.inl (o : Int), V.ref a)]) := by
  have em : mergeK [] [((Sum.inl (o : Int) : Key), V.ref a)] = putK [] (Sum.inl (o : Int)) (V.ref a) := rfl
  refine ⟨hd, ?_, fun j v e => ?_, fun j hj e => ?_⟩
  · rw [em]
    have := length_putK ([] : List (Key × V)) (Sum.inl (o : Int) : Key) (.ref a)
    simp at this
    omega
  · rw [em, valV_put] at e
    by_cases c : j = (o : Int)
    · subst c
      rw [if_pos rfl] at e
      cases e
      refine ⟨by omega, by omega, a, _, rfl, ha, ?_⟩
      exact ⟨.one o, fun n _ => by simp⟩
    · have ne : ¬ (Sum.inl j : Key) = Sum.inl (o : Int) := fun q => c (Sum.inl.inj q)
      rw [if_neg ne, valV_nil] at e
      cases e
  · rw [em, valV_put] at e
    by_cases c : j = o
    · subst c
      rw [if_pos rfl] at e
      cases e
    · intro n w
      have := w.le ok
      omega
/-! law's steps -/
def opV : Option Nat → V
  | none => .non
  | some k => .int (k : Int)
def opts (n : Nat) (f : Nat → Option Nat) : List V := (List.range n).map fun j => opV (f j)
theorem opts_get {n : Nat} {f : Nat → Option Nat} {o : Nat} (h : o < n) : (opts n f)[o]? = some (opV (f o)) := by
  unfold opts
  rw [List.getElem?_map, List.getElem?_range h]
  rfl
theorem opts_len (n : Nat) (f : Nat → Option Nat) : (opts n f).length = n := by simp [opts]
theorem opts_succ (n : Nat) (f : Nat → Option Nat) : opts (n + 1) f = opts n f ++ [opV (f n)] := by simp [opts, List.range_succ]
theorem opts_set {n : Nat} {f : Nat → Option Nat} {k : Nat} {b : Option Nat} : (opts n f).set k (opV b) = opts n (fun o => if o = k then b else f o) := by
  refine List.ext_getElem (by simp [opts]) fun i h1 h2 => ?_
  have hi : i < n := by simpa [opts] using h2
  by_cases e : i = k
  · subst e
    simp [opts]
  · rw [List.getElem_set_ne (Ne.symm e)]
    simp [opts, e]
/-- ways from y to j whose last step goes from b on -/
def Pre (rows : List (List Int)) (y b j n : Nat) : Prop := (j = y ∧ n = 0) ∨ ∃ (e m : Nat) (row : List Int), b ≤ e ∧ rows[e]? = some row ∧ (j : Int) ∈ row ∧ Way rows m y e ∧ n = m + 1
theorem pre_way {rows : List (List Int)} (ok : RowsOk rows) {y b j n : Nat} (hb : b ≤ j + 1) : Pre rows y b j n ↔ Way rows n y j := by
  constructor
  · rintro (⟨rfl, rfl⟩ | ⟨e, m, row, h1, h2, h3, h4, rfl⟩)
    · exact .nil _
    · exact h4.snoc h2 h3
  · intro w
    cases n with
    | zero => cases w; exact .inl ⟨rfl, rfl⟩
    | succ n =>
      obtain ⟨e, row, w', hr, he⟩ := w.last
      have := (ok _ _ hr).2.2 _ he
      exact .inr ⟨e, n, row, by omega, hr, he, w', rfl⟩
theorem pre_top {rows : List (List Int)} (ok : RowsOk rows) {y j n : Nat} : Pre rows y (y + 1) j n ↔ j = y ∧ n = 0 := by
  constructor
  · rintro (h | ⟨e, m, row, h1, h2, h3, h4, rfl⟩)
    · exact h
    · have := h4.le ok
      omega
  · exact .inl
/-- one elder more is told -/
def PreI (rows : List (List Int)) (y m : Nat) (row : List Int) (i j n : Nat) : Prop := Pre rows y (m + 1) j n ∨ ((j : Int) ∈ row.take i ∧ ∃ m', Way rows m' y m ∧ n = m' + 1)
theorem preI_zero {rows : List (List Int)} {y m : Nat} {row : List Int} {j n : Nat} : PreI rows y m row 0 j n ↔ Pre rows y (m + 1) j n := by
  simp [PreI]
theorem preI_end {rows : List (List Int)} {y m : Nat} {row : List Int} (hr : rows[m]? = some row) {j n : Nat} : PreI rows y m row row.length j n ↔ Pre rows y m j n := by
  unfold PreI
  rw [List.take_length]
  constructor
  · rintro ((h | ⟨e, k, r, h1, h2, h3, h4, rfl⟩) | ⟨h1, m', h2, rfl⟩)
    · exact .inl h
    · exact .inr ⟨e, k, r, by omega, h2, h3, h4, rfl⟩
    · exact .inr ⟨m, m', row, Nat.le_refl _, hr, h1, h2, rfl⟩
  · rintro (h | ⟨e, k, r, h1, h2, h3, h4, rfl⟩)
    · exact .inl (.inl h)
    · by_cases c : e = m
      · subst c
        rw [hr] at h2
        cases h2
        exact .inr ⟨h3, k, h4, rfl⟩
      · exact .inl (.inr ⟨e, k, r, by omega, h2, h3, h4, rfl⟩)
theorem preI_self {rows : List (List Int)} (ok : RowsOk rows) {y m : Nat} {row : List Int} (hr : rows[m]? = some row) {i n : Nat} : PreI rows y m row i m n ↔ Way rows n y m := by
  rw [← pre_way ok (Nat.le_refl (m + 1))]
  unfold PreI
  constructor
  · rintro (h | ⟨h, _⟩)
    · exact h
    · have := (ok _ _ hr).2.2 _ (List.mem_of_mem_take h)
      omega
  · exact .inl
theorem preI_next {rows : List (List Int)} {y m : Nat} {row : List Int} {i e : Nat} (he : row[i]? = some (e : Int)) {j n : Nat} : PreI rows y m row (i + 1) j n ↔ PreI rows y m row i j n ∨ (j = e ∧ ∃ m', Way rows m' y m ∧ n = m' + 1) := by
  unfold PreI
  rw [take_next he]
  simp only [List.mem_append, List.mem_singleton]
  constructor
  · rintro (h | ⟨h | h, r⟩)
    · exact .inl (.inl h)
    · exact .inl (.inr ⟨h, r⟩)
    · exact .inr ⟨by omega, r⟩
  · rintro ((h | ⟨h, r⟩) | ⟨h, r⟩)
    · exact .inl h
    · exact .inr ⟨.inl h, r⟩
    · exact .inr ⟨.inr (by omega), r⟩
theorem isMin_none {S T : Nat → Prop} {o : Option Nat} (h : IsMin S o) (t : IsMin T none) : IsMin (fun n => S n ∨ ∃ m, T m ∧ n = m + 1) o := h.congr fun n => ⟨.inl, fun c => by
  rcases c with c | ⟨m, c, _⟩
  · exact c
  · exact absurd c (t m)⟩
theorem isMin_keep {S T : Nat → Prop} {a k : Nat} (h : IsMin S (some a)) (t : IsMin T (some k)) (c : a ≤ k + 1) : IsMin (fun n => S n ∨ ∃ m, T m ∧ n = m + 1) (some a) := by
  refine ⟨.inl h.1, fun n hn => ?_⟩
  rcases hn with z | ⟨m, z, rfl⟩
  · exact h.2 _ z
  · have := t.2 m z
    omega
theorem isMin_new {S T : Nat → Prop} {o : Option Nat} {k : Nat} (h : IsMin S o) (t : IsMin T (some k)) (c : ∀ a, o = some a → k + 1 < a) : IsMin (fun n => S n ∨ ∃ m, T m ∧ n = m + 1) (some (k + 1)) := by
  refine ⟨.inr ⟨k, t.1, rfl⟩, fun n hn => ?_⟩
  rcases hn with z | ⟨m, z, rfl⟩
  · cases o with
    | none => exact absurd z (h n)
    | some a =>
      have := h.2 _ z
      have := c a rfl
      omega
  · have := t.2 m z
    omega
section
variable {σ : L2.St} {H : Hp} {Q : VK} {D : Ends} {K : PySem.W.Frag}
theorem k_isN {x : V} (h : Q (.bl (decide (x = .non))) H) : rIsN x .non H Q := ⟨rfl, h⟩
theorem k_notN {x : V} (h : Q (.bl (!decide (x = .non))) H) : rNotN x .non H Q := ⟨rfl, h⟩
theorem k_disp1 {p : Addr} {Q : VK} {k : Int} {v : V} {H2 : Hp} (h : H2 p = some (.dK [])) (q : Q (.ref p) (upd H2 p (.dK (mergeK [] [(Sum.inl k, v)])))) : kDisp p Q [(.int k, v)] H2 := k_disp [(Sum.inl k, v)] h rfl (by simp) q
theorem k_dget1 {ty : TE} {a : Addr} {kvs : List (Key × V)} (h : H a = some (.dK kvs)) (q : ty σ H fun y H2 => ∃ o, DGet H2 a y o ∧ Q (o.getD .non) H2) : kDGet1 ty σ Q (.ref a) H := ⟨a, rfl, .inl ⟨kvs, .inl h⟩, q⟩
theorem k_getW {a : Addr} {kvs : List (Key × V)} {k : Int} (h : H a = some (.dK kvs)) (q : Q ((valV kvs (Sum.inl k)).getD .non) H) : ∃ o, DGet H a (.int k) o ∧ Q (o.getD .non) H := ⟨_, DGet.k (k := Sum.inl k) h, q⟩
end
/-! promises -/
def spWayTo : Sp := fun vs H Q _ => ∃ (p : Addr) (bs : List Addr) (rows : List (List Int)) (y o : Nat), vs = [.ref p, .int (y : Int), .int (o : Int)] ∧ NetAt H p bs rows ∧ RowsOk rows ∧ rows.length ≤ 40 ∧ y < rows.length ∧ o < rows.length ∧
  ∀ H', Same H H' → ((∀ n, ¬ Way rows n y o) → Q .non H') ∧ ∀ (a : Addr) (l : List Int), H a = none → H' a = some (.lst (l.map V.int)) → Short rows l y o → Q (.ref a) H'
def spSteps (K : PySem.W.Frag) : Sp := fun vs H Q _ => ∃ (a : Addr) (as : List Addr) (rows : List (List Int)) (y : Nat), vs = [.ref a, .int (y : Int)] ∧ SqL K H a (as.map V.ref) ∧ RwK K false H as rows ∧ RowsOk rows ∧ rows.length ≤ 40 ∧ y < rows.length ∧
  ∀ (p : Addr) (f : Nat → Option Nat) (H' : Hp), Same H H' → H p = none → H' p = some (.lst (opts rows.length f)) → (∀ j, j < rows.length → IsMin (fun n => Way rows n y j) (f j)) → Q (.ref p) H'
def spIsWay (K : PySem.W.Frag) : Sp := fun vs H Q _ => ∃ (v u : V) (a : Addr) (as : List Addr) (rows : List (List Int)) (y o : Nat), vs = [v, .ref a, .int (y : Int), .int (o : Int), u] ∧ SqL K H a (as.map V.ref) ∧ RwK K false H as rows ∧
  ((v = .non ∧ u = .non) ∨ ∃ (p : Addr) (l : List Int) (n : Nat), v = .ref p ∧ H p = some (.lst (l.map V.int)) ∧ u = .int (n : Int) ∧ IsW rows l y o ∧ l.length = n + 1 ∧ n ≤ 1000) ∧ ∀ H', Same H H' → Q (.bl true) H'
end Bk
namespace Bk
open PySem L2
theorem k_orN' {σ : L2.St} {H : Hp} {u : TT} {Q : Bool → Hp → Prop} {p : Prop} [Decidable p] (hp : p) (h : u σ H Q) : kOr u σ Q (!decide p) H := k_or (fun z => by simp [hp] at z) fun _ => h
end Bk
/-! own exceptions whose __init__ says super().__init__(..), then its fields -/
namespace Bk
open PySem PySem.Spec PyProof.Rows L2 LamX NdefX
section
variable {prog : Program} {w : World} {A : Around} {E : Value → Shared → Prop} {h : Heap} {g : Array GenState} {d : Drawn} {t : Nat} {os : OsState}
variable {nm q : Str} {C N : Addr} {bs bm : List Value} {hdct : Bool} {sn : List Str} {sub : List Value} {ab : Bool} {col : Option Bool} {dd : Option Addr} {k0 k1 k2 k3 k5 : Option Value}
theorem call_mwVE {u e t0 : Addr} {rest : List Value} {Q : Value → Shared → Prop}
    (hC : h.get? C = some (excClassObj nm q C N bs bm hdct sn sub ab col dd k0 k1 k2 k3 k5 "ValueError.__new__")) (he : h.get? e = some (HandSPX.excO C t0)) (hu : h.get? u = some (PySem.W.kxs_mw "ValueError.__init__" e)) (hrest : rest.length ≤ sizeLine)
    (hq : ∀ h' t1, (∀ b o, b ≠ e → h.get? b = some o → h'.get? b = some o) → h'.get? e = some (HandSPX.excO C t1) → Q .none ⟨h', g, d, t, os⟩) :
    wpAny (model prog w) A (call (.ref u) rest) Q E ⟨h, g, d, t, os⟩ := by
  refine wpAny_call (codeAny_of_tree ?_)
  show wpAny _ A.in1 (callAny (.ref u) ⟨rest, []⟩) _ _ _
  simp only [callAny]
  refine wpAny_bind (wpAny_load hu ?_)
  simp only [PySem.W.kxs_mw, show (Value.type "method-wrapper" == Value.type "method" || Value.type "method-wrapper" == Value.type "builtin_function_or_method" || Value.type "method-wrapper" == Value.type "method-wrapper") = true by decide, if_true]
  refine W.KFB.if_so (by decide) ?_
  refine wpAny_bind (PySem.ESX.check_bound F.excBase_ValueError hC he rfl ?_)
  refine wpAny_bind (wpAny_pure (wpAny_pure ?_))
  refine ⟨Code.quiet_builtin _ (by decide +kernel), codeAny_builtin F.excBase_ValueError.initEntry ?_⟩
  rw [Around.under_plainId F.excBase_ValueError.init.plain _]
  wp_walk
  refine hq _ h.objs.size (fun b o hb ho => ?_) ?_
  · rw [Heap.get?_update_other _ _ (Ne.symm hb)]
    exact Heap.get?_push_of_some _ ho
  · rw [Heap.get?_update_self _ (Heap.get?_push_of_some _ he) rfl]
    rfl
end
/-- what the written part says of the class's __init__, of its cell and of super -/
structure InitC (P : Program) (K : PySem.W.Frag) (mg : Str → Option Value) (C cc c : Addr) : Prop where
  ex : OexC K C
  cell : ∃ cl cld csl, K.lookup cc = some (⟨cl, cld, .cell (some (.ref C)), csl⟩ : Obj)
  code : ∃ ccl cdd vs ccs file tf, K.lookup c = some (⟨ccl, cdd, .fields vs, ccs⟩ : Obj) ∧ vs[2]? = some (.str file tf) ∧ ((P.main.file : Str) == file) = true
  top : (P.main.scope.names.lookup ("super" : Str)).isSome = false
  sup : mg "super" = none
  any : PySem.W.nsIn K cStatics "thirdparty.any" = some none
  mro : PySem.W.mroIn K C (.ref C) = some true
  init : PySem.W.ks_superIn K C C "__init__" = some (some (.builtin "ValueError.__init__"))
  sub : PySem.W.subIn K (.ref C) (.type "ValueError") = some true
theorem boot_super : bootBuiltins "super" = some (.type "super") := by decide +kernel
theorem interactive_fn {env : Env} (h : env.scope.kind = .function) : interactive env = false := by
  unfold interactive
  rw [h]
  rfl
def one1 (R : Hp → Prop) (vs : List V) (H1 : Hp) : Prop := match vs with
  | [_] => R H1
  | _ => False
theorem one1_x {R : Hp → Prop} {H1 : Hp} : ∀ {vs : List V}, one1 R vs H1 → ∃ x, vs = [x] ∧ R H1
  | [x], h => ⟨x, rfl, h⟩
  | [], h => h.elim
  | _ :: _ :: _, h => h.elim
def nfOf (name qual : Str) (params : Arguments) (body : List Stmt) (scope : Scope) (cc c : Addr) : NF := ⟨name, qual, params, body, scope, [("__class__", cc)], c⟩
theorem fn_init {CX : CXT} {P : Program} {w : World} {K : PySem.W.Frag} {mg : Str → Option Value} {base : Heap} {k : Nat} {fI C cc c : Addr} {name qual : Str} {params : Arguments} {e : Expr} {rest : List Stmt} {p0 p1 p2 p3 p4 : Pos} {scope : Scope}
    {dV kV doc pm ct oc : Value} {an od : Option Addr} {osl : Array (Option Value)} {N ps : List Str} {sp : Sp} {ar : Arg}
    (lk : K.lookup fI = some ⟨oc, od, .func (PySem.W.fnX name qual params (.Expr (.Call (.Attribute (.Call (.Name "super" p0) [] [] p1) "__init__" p2) [e] [] p3) p4 :: rest) scope [("__class__", cc)] dV kV doc pm an (.ref c) ct), osl⟩)
    (hcd : PySem.W.codeIn K (.ref c) qual = true) (S : NScope N ps ["__class__"] scope) (IC : InitC P K mg C cc c)
    (hp : (params.posonlyargs ++ params.args).head? = some ar) (har : ps[0]? = some ar.arg) (hsup : scope.names.lookup ("super" : Str) = some .globalImplicit) (hst : ∀ env : Env, starEach [e] env = [(false, eval e env)])
    {pl : Env → Sem Bool} (hcall : ∀ env : Env, eval (.Call (.Attribute (.Call (.Name "super" p0) [] [] p1) "__init__" p2) [e] [] p3) env = (do
      let ov ← attributeBase (.Call (.Name "super" p0) [] [] p1) "__init__" env (eval (.Call (.Name "super" p0) [] [] p1) env)
      standAt p2.atName
      let (f, first) ← holding [ov] (getMethod ov "__init__" (pl env))
      callWith p3 f first (backTo p3 (starEach [e] env)) []))
    (len : ∀ vs H Q E, sp vs H Q E → vs.length = ps.length)
    (hbody : ∀ (A : Around) (outer : List Env) (s : Shared) (H : Hp) (vs : List V) (Q : VK) (E : XK), sp vs H Q E →
      ∃ (self : Addr) (vr : List V) (te : TE) (t : TS), vs = .ref self :: vr ∧ H self = some (exo self C none) ∧
        PE (ncx CX P w K mg base N (nfOf name qual params (.Expr (.Call (.Attribute (.Call (.Name "super" p0) [] [] p1) "__init__" p2) [e] [] p3) p4 :: rest) scope cc c) fI A outer s H E) e te ∧
        PSs (ncx CX P w K mg base N (nfOf name qual params (.Expr (.Call (.Attribute (.Call (.Name "super" p0) [] [] p1) "__init__" p2) [e] [] p3) p4 :: rest) scope cc c) fI A outer s H E) rest t ∧
        te (startF N vs [none]) H fun _ H1 => H1 self = some (exo self C none) ∧ t { nx := fun _ H' => Q .non H', rt := Q } (startF N vs [none]) H1) :
    FnOk P w K mg base CX (k + 1) fI (PySem.W.fnX name qual params (.Expr (.Call (.Attribute (.Call (.Name "super" p0) [] [] p1) "__init__" p2) [e] [] p3) p4 :: rest) scope [("__class__", cc)] dV kV doc pm an (.ref c) ct) ps sp := by
  refine ⟨len, fun A outer s H args us vs Q E hr e0 hb r hsp => ?_⟩
  have hl := len _ _ _ _ hsp
  have KX : K.In s.heap := e0.mod.kin.keeps fun b o e => (e0.bs b o e).1
  have lim : s.heap.NoLimit := e0.mod.nolimit.keeps fun b o e => (e0.bs b o e).1
  obtain ⟨cl, cld, csl, hcell⟩ := IC.cell
  obtain ⟨ccl, cdd, vsC, ccs, file, tf, hcode, hvs, hfile⟩ := IC.code
  have hcc : ∀ y x, ([("__class__", cc)] : List (Str × Addr)).lookup y = some x → y = "__class__" ∧ x = cc := fun y x h => by
    simp only [List.lookup] at h
    split at h
    · rename_i hy
      cases h
      exact ⟨by simpa using hy, rfl⟩
    · cases h
  have C0 : CellsAt (nfOf name qual params (.Expr (.Call (.Attribute (.Call (.Name "super" p0) [] [] p1) "__init__" p2) [e] [] p3) p4 :: rest) scope cc c).cl ["__class__"] [none] s.heap H := by
    refine ⟨rfl, fun y x h => ?_, fun x y z h1 h2 => ?_, fun i y h => ?_⟩
    · obtain ⟨rfl, rfl⟩ := hcc y x h
      exact ⟨(e0.bs _ _ (e0.mod.kin _ _ hcell)).2, _, _, KX _ _ hcell, rfl⟩
    · rw [(hcc x z h1).1, (hcc y z h2).1]
    · cases i with
      | zero =>
        cases h
        exact ⟨cc, rfl, fun v h => by cases h⟩
      | succ i => simp at h
  refine PySem.ks_codeAny_call_defAt hr.depth (KX _ _ lk) rfl lim (PySem.W.codeRec_of KX hcd) rfl hb S.nocell (fun ⟨n, v⟩ hy => S.par n (List.of_mem_zip hy).1) (fun h1 hns kp => ?_) S.co S.gen S.kind
  obtain ⟨self, vr, te, t, rfl, hself, he, hrest, hq⟩ := hbody A outer s H vs Q E hsp
  have I : Inv (ncx CX P w K mg base N (nfOf name qual params (.Expr (.Call (.Attribute (.Call (.Name "super" p0) [] [] p1) "__init__" p2) [e] [] p3) p4 :: rest) scope cc c) fI A outer s H E) [] (startF N (.ref self :: vr) [none]) H { s with heap := h1, toks := s.toks + (ps.zip us).length } := inv_startN S hr.hd e0 hl r C0 hns kp
  have X := I.kIn
  have hN0 : N[0]? = some ar.arg := by
    have e1 : (N.take (ps.length + 1))[0]? = (ps ++ [("__class__" : Str)])[0]? := by rw [← S.pre]; rfl
    rw [List.getElem?_take_of_lt (by omega)] at e1
    have lt : 0 < ps.length := (List.getElem?_eq_some_iff.mp har).1
    rw [List.getElem?_append_left lt, har] at e1
    exact e1
  have hloc : scope.names.lookup ar.arg = some .local := S.par _ (List.mem_of_getElem? har)
  have hkc : scope.names.lookup ("__class__" : Str) = some .free := S.frk _ (by simp)
  obtain ⟨nm, qn, Nc, bs, bm, sn, sub, ab, col, dd, k0, k1, k2, k3, k5, hC, hbm⟩ := IC.ex.cls
  have hcl : PySem.W.clsIn K C = some { name := nm, bases := bs, mro := .ref C :: bm, ns := Nc, qualname := qn, hasDict := true, slotNames := sn, subclasses := sub, abstract := ab, collection := col, hasDel := false } := by unfold PySem.W.clsIn; rw [hC] <;> rfl
  refine PySem.ks_wpAt_execs_cons (PySem.ks_wpAt_Expr_any ?_ (interactive_fn S.kind) rfl)
  refine PySem.ks_wpAt_MethodCall ?_ (hcall _)
  refine PySem.ks_wpAt_super_base (f := fI) (cc := c) hsup hkc (by decide) rfl (X _ _ lk) rfl hp rfl (X _ _ hcode) rfl hvs hfile IC.top ?_
  obtain ⟨mb, hb1, hb2⟩ := I.mod.blt
  refine PySem.W.ks_loadName_global S.kind hsup (Calls.loadGlobal_builtin (I.mod.glob.keeps I.bk) IC.sup (hb1.keeps I.bk) ((hb2 _ (by decide)).trans boot_super) ⟨rfl, ?_⟩)
  refine wpAny_loadName_free S.kind hkc rfl ⟨_, X _ _ hcell, rfl⟩ ?_
  obtain ⟨m, hns1, hlk⟩ := I.loc
  obtain ⟨u0, ru, lku⟩ := hlk 0 ar.arg (.ref self) hN0 rfl (.inl hloc)
  obtain rfl : u0 = Value.ref self := ru
  have ld : m ar.arg = some (.ref self) := by
    rcases lku with ⟨_, hm⟩ | ⟨hk, _⟩
    · exact hm
    · exfalso
      rcases hk with hk | hk
      · have hk : scope.names.lookup ar.arg = some .cell := hk
        rw [hloc] at hk; cases hk
      · have hk : scope.names.lookup ar.arg = some .free := hk
        rw [hloc] at hk; cases hk
  refine wpAny_loadName_local S.kind hloc hns1 ld ?_
  obtain ⟨oD, hD1, hD2⟩ : ∃ oD, h1.get? C = some oD ∧ ∃ cd, oD.data = .cls cd := ⟨_, X _ _ hC, _, rfl⟩
  obtain ⟨cdD, hD2⟩ := hD2
  refine PySem.ks_wpAny_isType_cls hD1 hD2 ⟨rfl, ?_⟩
  obtain ⟨t1, hx⟩ := exo_at I.hok hself
  refine PySem.ks_wpAny_call_super hD1 hD2 hx rfl (fun c z => by cases z) (PySem.W.looks_mroIn X IC.mro) (fun h2 e2 k2' => ?_)
  have I1 := I.kept (t' := s.toks + (ps.zip us).length) k2'
  have X1 := I1.kIn
  have hx1 := k2' _ _ hx
  have inst : PySem.W.InstAt h2 self _ C none := ⟨hx1, rfl, rfl, trivial⟩
  have hsi := IC.init
  unfold PySem.W.ks_superIn at hsi
  rw [hcl, Option.bind_some] at hsi
  refine PySem.W.kxs_getMethod PySem.W.kxs_ValueError e2 (PySem.W.looks_opaque X1 IC.any) (l₀ := .ref C :: bm) (fun A Q E s k q => wpAny_bind ((PySem.W.looks_clsIn X1 hcl) A _ E s k (wpAny_pure q))) rfl X1 hsi (inst.type.andThen (PySem.W.looks_subIn X1 IC.sub)) (PySem.W.ks_ne X1 inst hcl) (by decide) ?_
  have k3' : ∀ b o, h2.get? b = some o → (h2.push (PySem.W.kxs_mw "ValueError.__init__" self)).get? b = some o := fun b o q => Heap.get?_push_of_some _ q
  have I2 := (I1.kept (t' := s.toks + (ps.zip us).length + 1) k3').pins_of (pins' := [(h2.objs.size, PySem.W.kxs_mw "ValueError.__init__" self)]) fun p hp => by
    rw [List.mem_singleton] at hp
    subst hp
    exact ⟨Heap.get?_push_size _ rfl, I1.hok.fresh (Nat.le_refl _), Nat.ne_of_gt I1.lt, I1.nofs (Nat.le_refl _), fun v z => by cases z⟩
  have hq1 : (tCons te tNil) (startF N (.ref self :: vr) [none]) H fun vs H1 => one1 (fun H1 => H1 self = some (exo self C none) ∧ t { nx := fun _ H' => Q .non H', rt := Q } (startF N (.ref self :: vr) [none]) H1) vs H1 := hq
  have hw := (pa_cons he pa_nil (hst _)).run p3 _ _ _ _ _ I2 hq1
  show wpAny _ _ (callWith p3 (.ref h2.objs.size) [] (backTo p3 (starEach [e] _)) []) _ _ _
  rw [hst] at hw ⊢
  refine PySem.W.kxs_callWith (i := "ValueError.__init__") (x := self) rfl ?_
  refine Calls.evalArgs_plain (thn hw fun us' s3 z => ?_)
  obtain ⟨vs', H3, I4, r3, q3⟩ := z
  obtain ⟨v1, rfl, q4, q5⟩ := one1_x q3
  have hu3 := (I4.pin (h2.objs.size, PySem.W.kxs_mw "ValueError.__init__" self) (List.mem_append.mpr (.inr (by simp)))).1
  refine ⟨hu3, ?_⟩
  obtain ⟨t3, hx3⟩ := exo_at I4.hok q4
  have X4 := I4.kIn
  have hus : us'.length ≤ sizeLine := by
    rw [← r3.length, sizeLine_eq]
    simp
  obtain ⟨hp3, g3, d3, tk3, os3⟩ := s3
  refine call_mwVE (X4 _ _ hC) hx3 hu3 hus fun h' t2 k hx' => ?_
  have J := I4.write (t' := tk3) (x := self) (e := self) (o := exo self C none) (by rw [q4]; exact True.intro) (.inl rfl) k ⟨_, hx'⟩ (exo_ok hx')
  have eu : upd H3 self (exo self C none) = H3 := by
    funext b
    by_cases hb : b = self
    · rw [hb, upd_same, q4]
    · rw [upd_ne hb]
  rw [eu] at J
  have J2 := J.pins_of (pins' := []) fun p hp => absurd hp (by simp)
  refine PySem.wpAt_of_wpAny (wpAny_mono (hrest.run [] _ _ _ _ J2 q5) (fun fl s' hs => ?_) fun e s' hs => hs)
  have fin : ∀ {σ' : L2.St} {H' : Hp} {v : V} {u : Value}, Inv (ncx CX P w K mg base N (nfOf name qual params (.Expr (.Call (.Attribute (.Call (.Name "super" p0) [] [] p1) "__init__" p2) [e] [] p3) p4 :: rest) scope cc c) fI A outer s H E) [] σ' H' s' → L2.RelV v u → Q v H' → CE outer P w H s Q u s' :=
    fun {σ' H' v u} J rv q => ⟨v, H', J.os, J.bare, J.base, J.hok, rv, q⟩
  cases fl with
  | ret u =>
    obtain ⟨v, σ', H', J, rv, q⟩ := hs
    exact fin J rv q
  | next =>
    obtain ⟨σ', H', J, q⟩ := hs
    exact fin (v := V.non) (u := Value.none) J rfl q
  | brk =>
    obtain ⟨_, _, _, q⟩ := hs
    exact False.elim q
  | cont =>
    obtain ⟨_, _, _, q⟩ := hs
    exact False.elim q
end Bk
/-! a caught exception that is kept behind its suite: told as an object with its class and its dict -/
namespace Bk
open PySem PySem.Spec PyProof.Rows L2
/-- at a: an exception of the class at C that was raised, its dict at d -/
def exr (a C d : Addr) : HO := .ext fun h => ∃ (vs : Array Value) (sl : Array (Option Value)), h.get? a = some (⟨.ref C, some d, .fields vs, sl⟩ : Obj)
theorem exr_ok {P : Program} {w : World} {H : Hp} {h : Heap} {a C d : Addr} {vs : Array Value} {sl : Array (Option Value)} (e : h.get? a = some (⟨.ref C, some d, .fields vs, sl⟩ : Obj)) : ObjOk P w H h a (exr a C d) :=
  ⟨⟨vs, sl, e⟩, ⟨_, e⟩, fun h1 h2 z k => by
    obtain ⟨v, l, q⟩ := z
    exact ⟨v, l, k _ q⟩⟩
theorem exr_at {P : Program} {w : World} {H : Hp} {h : Heap} {a C d : Addr} (hok : HOk P w H h) (e : H a = some (exr a C d)) : ∃ (vs : Array Value) (sl : Array (Option Value)), h.get? a = some (⟨.ref C, some d, .fields vs, sl⟩ : Obj) := by
  have x : ObjOk P w H h a (.ext fun h => ∃ (vs : Array Value) (sl : Array (Option Value)), h.get? a = some (⟨.ref C, some d, .fields vs, sl⟩ : Obj)) := hok a _ e
  exact x.1
section
variable {X : Cx} {pins : List (Addr × Obj)} {σ : L2.St} {H : Hp} {s : Shared}
/-- an object that came since the def began is told -/
theorem tellX {a C d : Addr} {vs : Array Value} {sl : Array (Option Value)} (I : Inv X pins σ H s) (e : s.heap.get? a = some (⟨.ref C, some d, .fields vs, sl⟩ : Obj)) (na : H a = none) (n0 : X.s_0.heap.get? a = none) (nL : a ≠ X.env.locals) (np : ∀ p ∈ X.pn ++ pins, p.1 ≠ a) :
    Inv X pins σ (upd H a (exr a C d)) s := by
  have other : ∀ {b : Addr} {o : HO}, H b = some o → upd H a (exr a C d) b = some o := fun {b o} h => by rw [upd_ne (ne_of_none h na)]; exact h
  have B := I.base
  refine ⟨I.ok, I.os, I.bare, ⟨B.keep, B.slot, fun b o h1 h2 h3 => ?_, B.there, fun b xs h => other (B.tups b xs h), fun b o u h => other (B.frzs b o u h), fun b ps h => ?_⟩, I.loc, I.cell, ?_, fun y c h => ?_, fun p hp => ?_, fun b o h => ?_, I.len⟩
  · have nb : b ≠ a := fun z => by rw [z, n0] at h1; cases h1
    rw [upd_ne nb]
    exact B.free b o h1 h2 h3
  · obtain ⟨m, q⟩ := B.tbls b ps h
    exact ⟨m, other q⟩
  · rw [upd_ne nL.symm]
    exact I.free
  · have nc : c ≠ a := fun z => by
      obtain ⟨v, o, h1, h2⟩ := I.cell y c h
      rw [z, e] at h1
      cases h1
      cases h2
    rw [upd_ne nc]
    exact I.freeC y c h
  · obtain ⟨h1, h2, h3, h4, h5⟩ := I.pin p hp
    exact ⟨h1, by rw [upd_ne (np p hp)]; exact h2, h3, h4, h5⟩
  · by_cases hb : b = a
    · subst hb
      rw [upd_same] at h
      cases h
      exact exr_ok e
    · rw [upd_ne hb] at h
      exact (I.hok b o h).stay (fun _ _ _ q => q) (fun _ q => other q) fun _ _ q => other q
end
/-- the wish of a clause 'except x as n' whose exception stays told behind its suite -/
abbrev keptEnds (i : Nat) (a C dd : Addr) (D : Ends) : Ends := { nx := fun σ' H' => D.nx (σ'.set i none) (upd H' a (exr a C dd)), rt := fun v H' => D.rt v (upd H' a (exr a C dd)), bk := fun σ' H' => D.bk (σ'.set i none) (upd H' a (exr a C dd)), ct := fun σ' H' => D.ct (σ'.set i none) (upd H' a (exr a C dd)) }
def wKeep (K : PySem.W.Frag) (c : Value) (i : Nat) (ts : Addr → TS) (Wout : WX) (D : Ends) : WX := fun cls d σ H =>
  ∃ b, PySem.W.exmOne K cls c = some b ∧ (b = true → ∃ C dd, cls = .ref C ∧ d = some dd ∧ ∀ a, H a = none → ts a (keptEnds i a C dd D) (σ.set i (some (.ref a))) H) ∧ (b = false → Wout cls d σ H)
section
variable {X : Cx} {x n : Str} {c : Value} {i : Nat} {body suite : List Stmt} {b₀ : Stmt} {np pos pos' : Pos} {tb : WX → TS} {ts : Addr → TS} {Wout : WX}
theorem ps_try_keep (hs : X.stack = X.env :: X.outer) (hf : X.env.frame = some X.env.locals) (hex : X.ex = []) (hN : X.N.Nodup) (hi : X.N[i]? = some n) (hln : X.env.kindOf n = some .local) (hc : Names X x c) (tk : Takes X Wout)
    (hb : ∀ (W : WX) (pn : List (Addr × Obj)) (xe : Value → Shared → Prop), Takes (X.tr pn xe) W → PassesOwn (model X.prog X.w) X.A X.env xe → PSs (X.tr pn xe) body (tb W))
    (hsu : ∀ (a : Addr) (oe : Obj) (pn : List (Addr × Obj)), PSs (X.suite a ((a, oe) :: pn)) (b₀ :: suite) (ts a)) :
    PS X (.Try body [.ExceptHandler (some (.Name x np)) (some n) (b₀ :: suite) pos'] [] [] pos) (fun D σ H => tb (wKeep X.K c i ts Wout D) D σ H) := by
  refine ⟨fun pins s σ H D I h => wpAny_Try_except ?_⟩
  have ok := I.ok
  have frames : X.A.frames = some (X.env :: X.outer) := ok.frames.trans (congrArg some hs)
  have body' := (hb (wKeep X.K c i ts Wout D) (X.pn ++ pins) (fun e s₁ => wpAny (model X.prog X.w) X.A (noteFrame e X.env) (fun _ s₂ => wpAny (model X.prog X.w) X.A (setFlight e none) (fun _ s₃ =>
    wpAny (model X.prog X.w) X.A (handleBy e X.env [.ExceptHandler (some (.Name x np)) (some n) (b₀ :: suite) pos']) (SP X pins D) X.xe s₃) X.xe s₂) X.xe s₁) ?take PassesOwn.looking).run [] s σ H D (I.toTry _) h
  case take =>
    rintro u s' ⟨a, G, sI, pins', σ', H', cls, d, rfl, J', inG, up, sky, na, os, bare, b, test, yes, no⟩
    have J : Inv X pins σ' H' sI := J'.ofTry ok
    refine Sky.land Zc.steady frames hf (by rw [← hs]; exact sky) fun h3 F3 up3 => ?_
    obtain ⟨stay3, ga, ff3, _⟩ := id F3
    obtain ⟨oe3, vs3, at3, z3, dat3⟩ := F3.there
    have nofr : a ∉ frs (X.env :: X.outer) := fun hm => by
      obtain ⟨_, o', e', hnf⟩ := ff3.mem hm
      rw [at3] at e'
      cases e'
      exact hnf _ dat3
    have nL : a ≠ X.env.locals := fun z => nofr (List.mem_filterMap.mpr ⟨X.env, List.mem_cons_self, by rw [hf, z]⟩)
    have nF : a ∉ X.fs := fun hm => by
      obtain ⟨e, he, q⟩ := List.mem_filterMap.mp hm
      exact nofr (List.mem_filterMap.mpr ⟨e, List.mem_cons_of_mem _ he, q⟩)
    have sIa : sI.heap.get? a = none := by
      cases e : sI.heap.get? a with
      | none => rfl
      | some o => exact absurd ((inG a o e (by rw [hs]; exact nofr)).symm.trans ga) (by simp)
    have s0a : X.s_0.heap.get? a = none := by
      cases e : X.s_0.heap.get? a with
      | none => rfl
      | some o =>
        obtain ⟨o', q⟩ := J.base.there a o e (by rw [hex]; simp)
        rw [sIa] at q
        cases q
    have npin : ∀ p ∈ X.pn ++ pins, p.1 ≠ a := fun p hp z => by
      have := (J.pin p hp).1
      rw [z, sIa] at this
      cases this
    have J3 : Inv X pins σ' H' { s' with heap := h3 } := J.landed inG stay3 (up.trans up3) os bare
    have S3 := J3.suite at3 dat3 na nL nF
    refine wpAny_handleBy_cons (codeAny_handlers_test ?_) (by intro q; cases q)
    have isCls : PySem.W.Looks (model X.prog X.w) h3 (typeOf (.ref a)) cls := fun A Q E s k q => wpAny_typeOf_ref (k _ _ at3) (by rw [z3.1]; exact q)
    have answer := PySem.W.exm_one (M := model X.prog X.w) J3.kIn isCls test
    have name : ∀ {Q : Value → Shared → Prop} {E : Value → Shared → Prop}, Q c { s' with heap := h3 } → wpAny (model X.prog X.w) (X.A.mark (some (.ref a))) (eval (.Name x np) X.env) Q E { s' with heap := h3 } := fun q => by
      obtain ⟨hg, hdbg, hm | ⟨hm, hv, hnn⟩⟩ := hc
      · exact ld_glob (X := X.suite a ((a, oe3) :: (X.pn ++ pins))) S3 hg hm q hdbg
      · exact ld_blt (X := X.suite a ((a, oe3) :: (X.pn ++ pins))) S3 hg hm hv q hnn hdbg
    refine name (answer.here ?_)
    cases b with
    | true =>
      obtain ⟨C, dd, rfl, rfl, wish⟩ := yes rfl
      refine codeAny_handlers_suite_as (HandSPX.lands_againZ F3 fun h4 F4 up4 => ?_)
      obtain ⟨oe4, vs4, at4, z4, dat4⟩ := F4.there
      have J4 : Inv X pins σ' H' { s' with heap := h4 } := J.landed inG F4.1 ((up.trans up3).trans up4) os bare
      refine store_ok (X := X.suite a ((a, oe4) :: (X.pn ++ pins))) (v := .ref a) (J4.suite at4 dat4 na nL nF) hN hi (.inl hln) rfl (fun s5 S5 => ?_) (.inr hln)
      refine wpAny_mono ((hsu a oe4 (X.pn ++ pins)).run [] s5 _ H' _ S5 (wish a na)) (fun f s6 fin => ?_) (fun _ _ z => z.elim)
      -- behind the suite: the name goes, the exception is told
      have told : ∀ {σ6 : L2.St} {H6 : Hp} {Q : Shared → Prop}, Inv (X.suite a ((a, oe4) :: (X.pn ++ pins))) [] σ6 H6 s6 → (∀ s7, Inv X pins (σ6.set i none) (upd H6 a (exr a C dd)) s7 → Q s7) →
          wpAny (model X.prog X.w) X.A (do bindName X.env n .none; unbindBehindTheSuite X.env n pos') (fun _ s7 => Q s7) X.xe s6 := fun {σ6 H6 Q} S6 k => by
        have P6 : Inv X (pins ++ [(a, oe4)]) σ6 H6 s6 := ⟨ok, S6.os, S6.bare, S6.base, S6.loc, S6.cell, S6.free, S6.freeC, fun p hp => S6.pin p (List.mem_append_left _ (by
          rw [← List.append_assoc] at hp
          rcases List.mem_append.mp hp with z | z
          · exact List.mem_cons_of_mem _ z
          · rw [List.mem_singleton] at z
            rw [z]
            exact List.mem_cons_self)), S6.hok, S6.len⟩
        refine gone_ok P6 hN hi hln fun s7 P7 => k s7 ?_
        obtain ⟨g7, n7, _⟩ := P7.pin (a, oe4) (List.mem_append_right _ (List.mem_append_right _ (by simp)))
        obtain ⟨oc, od, oda, osl⟩ := oe4
        obtain ⟨e1, e2⟩ := z4
        have e1 : oc = .ref C := e1
        have e2 : od = some dd := e2
        have e3 : oda = .fields vs4 := dat4
        subst e1 e2 e3
        exact tellX (P7.pins_of fun p hp => P7.pin p (by rw [← List.append_assoc]; exact List.mem_append_left _ (List.mem_append_right _ hp))) g7 n7 s0a nL npin
      cases f with
      | next =>
        obtain ⟨σ6, H6, S6, q6⟩ := fin
        exact told S6 fun s7 J7 => ⟨_, _, J7, q6⟩
      | brk =>
        obtain ⟨σ6, H6, S6, q6⟩ := fin
        exact told S6 fun s7 J7 => ⟨_, _, J7, q6⟩
      | cont =>
        obtain ⟨σ6, H6, S6, q6⟩ := fin
        exact told S6 fun s7 J7 => ⟨_, _, J7, q6⟩
      | ret u =>
        obtain ⟨v6, σ6, H6, S6, r6, q6⟩ := fin
        exact told S6 fun s7 J7 => ⟨_, _, _, J7, r6, q6⟩
    | false =>
      refine wpAny_handleBy_nil ?_
      obtain ⟨_, _, _, oe, vs, T, oT, ts', at', _, dat', h1, _⟩ := id F3
      unfold PySem.passOn
      refine wpAny_bind (wpAny_field at' dat' h1 ?_)
      rw [if_neg (show ¬ ((Value.ref T == Value.none) = true) by simp)]
      have out : wpAny (model X.prog X.w) X.A (setFlight (.ref a) X.env.frame) (fun _ s4 => wpAny (model X.prog X.w) X.A (throw (.ref a) : Sem Flow) (SP X pins D) X.xe s4) X.xe { s' with heap := h3 } := by
        rw [hf]
        exact HandSPX.setFlight_upZ F3 fun h4 hh4 up4 => wpAny_throw (tk _ _ ⟨a, G, sI, pins, σ', H', cls, d, rfl, J, inG, (up.trans up3).trans up4, .inr (.inr (by rw [hs]; exact hh4)), na, os, bare, no rfl⟩)
      first
        | exact wpAny_bind (wpAny_pure (wpAny_bind out))
        | exact wpAny_bind out
  refine wpAny_mono body' (fun f s1 fin => ?_) fun e s1 he => he
  cases f with
  | next =>
    obtain ⟨σ', H', J', q⟩ := fin
    exact wpAny_execs_nil ⟨σ', H', J'.ofTry ok, q⟩
  | brk =>
    obtain ⟨σ', H', J', q⟩ := fin
    exact ⟨σ', H', J'.ofTry ok, q⟩
  | cont =>
    obtain ⟨σ', H', J', q⟩ := fin
    exact ⟨σ', H', J'.ofTry ok, q⟩
  | ret u =>
    obtain ⟨v, σ', H', J', r, q⟩ := fin
    exact ⟨v, σ', H', J'.ofTry ok, r, q⟩
end
/-! what is asked of it -/
structure XcC (K : PySem.W.Frag) (C : Addr) : Prop where
  cl : (PySem.W.clsIn K C).isSome = true
  ga : PySem.W.findIn K (.ref C) "__getattribute__" = some (some (.builtin "BaseException.__getattribute__"))
  gg : PySem.W.findIn K (.ref C) "__getattr__" = some none
  ex : PySem.W.subIn K (.ref C) (.type "BaseException") = some true
  hd : PySem.W.hasDictIn K C = true
  ca : PySem.W.findIn K (.ref C) "__class__" = some (some (.builtin "object.__class__"))
  gs : PySem.W.specialIn K (.builtin "object.__class__") "__get__" = some (some (.builtin "getset_descriptor.__get__"))
  tk : PySem.W.takesIn K (.builtin "object.__class__") = some true
  mo : PySem.W.mroIn K C (.type "object") = some true
/-- a raised exception with its dict -/
structure XAt (K : PySem.W.Frag) (H : Hp) (a C d : Addr) (fs : List (Str × V)) : Prop where
  ha : H a = some (exr a C d)
  hd : H d = some (.xd fs)
  c : XcC K C
theorem XAt.same {K : PySem.W.Frag} {H H' : Hp} {a C d : Addr} {fs : List (Str × V)} (x : XAt K H a C d fs) (s : Same H H') : XAt K H' a C d fs := ⟨s _ _ x.ha, s _ _ x.hd, x.c⟩
section
variable {X : Cx} {pins : List (Addr × Obj)} {σ : L2.St} {H : Hp} {s : Shared}
theorem XAt.inst {a C d : Addr} {fs : List (Str × V)} (I : Inv X pins σ H s) (x : XAt X.K H a C d fs) : ∃ ox od, PySem.W.InstAt s.heap a ox C (some od) ∧ ∀ n v, fs.lookup n = some v → ∃ u, RelV v u ∧ PySem.W.lookIn n od = some (some u) := by
  obtain ⟨vs, sl, he⟩ := exr_at I.hok x.ha
  have hx : ObjOk X.prog X.w H s.heap d (.xd fs) := I.hok d _ x.hd
  obtain ⟨mA, hns, hr⟩ := hx
  obtain ⟨od, ho, hl⟩ := lookIn_ns hns
  refine ⟨_, od, ⟨he, rfl, rfl, ho⟩, fun n v h => ?_⟩
  obtain ⟨u, hu, ru⟩ := RelO.some_of (v := v) (o := mA n) (by rw [← h]; exact hr n)
  exact ⟨u, ru, by rw [hl, hu]⟩
end
def rIsX (K : PySem.W.Frag) : List V → Hp → VK → Prop := fun xs H Q => ∃ (a C d : Addr) (fs : List (Str × V)) (c : V) (cv : Value) (b : Bool), xs = [.ref a, c] ∧ XAt K H a C d fs ∧ (∀ u, RelV c u → u = cv) ∧ PySem.W.kitOne K (.ref C) cv = some b ∧ Q (.bl b) H
def rIsXT (K : PySem.W.Frag) : List V → Hp → VK → Prop := fun xs H Q => ∃ (a C d tp : Addr) (fs : List (Str × V)) (cs : List Addr) (b : Bool), xs = [.ref a, .ref tp] ∧ XAt K H a C d fs ∧ H tp = some (.tup (cs.map V.ref)) ∧ PySem.W.kitAny K (.ref C) (cs.map Value.ref) = some b ∧ Q (.bl b) H
theorem vals_refs : ∀ {cs : List Addr} {us : List Value}, Vals (cs.map V.ref) us → us = cs.map Value.ref
  | [], _, .nil => rfl
  | c :: cs, _, .cons r t => by
    have r' : _ = Value.ref c := r
    rw [r', vals_refs t]
    rfl
theorem bk_isX {X : Cx} {K : PySem.W.Frag} (hK : X.K = K) : CallR X (.builtin "isinstance") (rIsX K) := by
  subst hK
  intro pins s σ H xs us Q I r h
  obtain ⟨a, C, d, fs, c, cv, b, rfl, x, hcv, e, q⟩ := h
  cases r with
  | cons rx rr =>
    cases rr with
    | cons rt rr =>
      cases rr
      cases rx
      have ec := hcv _ rt
      subst ec
      obtain ⟨ox, od, J, _⟩ := x.inst I
      have T := x.c
      exact PySem.W.kia_one (PySem.W.kitx_exc T.cl T.ga T.gg T.ex T.ca T.gs T.tk T.mo) I.kIn J e (fun z => nomatch z) fun tk => ⟨.bl b, H, I.kept (t' := tk) fun _ _ z => z, rfl, q⟩
theorem bk_isXT {X : Cx} {K : PySem.W.Frag} (hK : X.K = K) : CallR X (.builtin "isinstance") (rIsXT K) := by
  subst hK
  intro pins s σ H xs us Q I r h
  obtain ⟨a, C, d, tp, fs, cs, b, rfl, x, ht, e, q⟩ := h
  cases r with
  | cons rx rr =>
    cases rr with
    | cons rt rr =>
      cases rr
      cases rx
      cases rt
      obtain ⟨ox, od, J, _⟩ := x.inst I
      have T := x.c
      obtain ⟨its, rv, pt, hz⟩ := I.tuple (sqt_tup ht)
      obtain ⟨ot, o1, o2, n, o3⟩ := (show s.heap.IsTuple tp its.toArray from pt)
      obtain ⟨oc, odd, odt, osl⟩ := ot
      have o2 : oc = .type "tuple" := o2
      have o3 : odt = .seq its.toArray n := o3
      subst o2 o3
      have ei := vals_refs rv
      subst ei
      exact PySem.W.kia_tup (PySem.W.kitx_exc T.cl T.ga T.gg T.ex T.ca T.gs T.tk T.mo) I.kIn J o1 e (fun z => nomatch z) fun tk => ⟨.bl b, H, I.kept (t' := tk) fun _ _ z => z, rfl, q⟩
def kXr (K : PySem.W.Frag) (n : Str) (Q : VK) (x : V) (H1 : Hp) : Prop := ∃ (a C d : Addr) (fs : List (Str × V)) (v : V), x = .ref a ∧ XAt K H1 a C d fs ∧ PySem.W.findIn K (.ref C) n = some none ∧ fs.lookup n = some v ∧ Q v H1
def tXr (K : PySem.W.Frag) (n : Str) (te : TE) : TE := fun σ H Q => te σ H fun x H1 => kXr K n Q x H1
theorem pe_xr {X : Cx} {e : Expr} {te : TE} {pos : Pos} {n : Str} (he : PE X e te) (hb : attributeBase e n X.env (eval e X.env) = eval e X.env := by rfl) : PE X (.Attribute e n pos) (tXr X.K n te) := by
  refine ⟨fun pins s σ H Q I h => ?_⟩
  refine attr_of hb (thn (he.run pins s σ H _ I h) fun u s1 hh => ?_)
  obtain ⟨x, H1, I1, rx, a, C, d, fs, v, ex, xa, hno, hl, q⟩ := hh
  subst ex
  obtain rfl : u = Value.ref a := rx
  obtain ⟨ox, od, J, look⟩ := xa.inst I1
  obtain ⟨u, ru, hu⟩ := look n v hl
  have T := xa.c
  exact HandSPX.exc_get I1.kIn J T.ga T.gg T.ex (PySem.W.findObj_own T.hd hno rfl hu) (handed_of ru) ⟨v, H1, I1.tok _, ru, q⟩
section
variable {σ : L2.St} {H : Hp} {Q : VK} {K : PySem.W.Frag}
theorem r_xr {n : Str} {te : TE} (h : te σ H fun x H1 => kXr K n Q x H1) : tXr K n te σ H Q := h
theorem k_xr {n : Str} {a C d : Addr} {fs : List (Str × V)} {v : V} (x : XAt K H a C d fs) (hno : PySem.W.findIn K (.ref C) n = some none) (hl : fs.lookup n = some v) (q : Q v H) : kXr K n Q (.ref a) H := ⟨a, C, d, fs, v, rfl, x, hno, hl, q⟩
theorem k_isXc {a C d D : Addr} {fs : List (Str × V)} {b : Bool} (x : XAt K H a C d fs) (e : PySem.W.kitOne K (.ref C) (.ref D) = some b) (q : Q (.bl b) H) : rIsX K [.ref a, .ref D] H Q := ⟨a, C, d, fs, .ref D, .ref D, b, rfl, x, fun _ h => h, e, q⟩
theorem k_isXty {a C d : Addr} {n : String} {fs : List (Str × V)} {b : Bool} (x : XAt K H a C d fs) (e : PySem.W.kitOne K (.ref C) (.type n) = some b) (q : Q (.bl b) H) : rIsX K [.ref a, .ty n] H Q := ⟨a, C, d, fs, .ty n, .type n, b, rfl, x, fun _ h => h, e, q⟩
theorem k_isXT {a C d tp : Addr} {fs : List (Str × V)} {cs : List Addr} {b : Bool} (x : XAt K H a C d fs) (ht : H tp = some (.tup (cs.map V.ref))) (e : PySem.W.kitAny K (.ref C) (cs.map Value.ref) = some b) (q : Q (.bl b) H) : rIsXT K [.ref a, .ref tp] H Q := ⟨a, C, d, tp, fs, cs, b, rfl, x, ht, e, q⟩
end
end Bk
/-! own classes of the text: their __init__, raising them -/
namespace Bk
open PySem PySem.Spec PyProof.Rows L2 LamX NdefX
/-- the first def of a class -/
def clsDef (st : Stmt) : Stmt := match st with
  | .ClassDef _ _ _ body _ _ _ _ _ _ _ => body.getD 0 (.Pass ⟨0, 0, 0, 0⟩)
  | _ => .Pass ⟨0, 0, 0, 0⟩
/-- the class of the text at its name, with its __init__ -/
structure ClsAt (P : Program) (K : PySem.W.Frag) (mg : Str → Option Value) (x : Str) (st : Stmt) (f : Str) (C fI cc c : Addr) : Prop where
  gC : mg x = some (.ref C)
  ic : InitC P K mg C cc c
  iC : PySem.W.findIn K (.ref C) "__init__" = some (some (.ref fI))
  tI : PySem.W.typeIn K (.ref fI) = some (.type "function")
  no : PySem.W.findIn K (.ref C) f = some none
  lk : ∃ oc od dV kV doc pm an ct osl, K.lookup fI = some (⟨oc, od, .func (PySem.W.fnX "__init__" (x ++ ".__init__") (defArgs st) (defBody st) (defScope st) [("__class__", cc)] dV kV doc pm an (.ref c) ct), osl⟩ : Obj) ∧
    ∀ (us : List Value), us.length = 2 → bindArgs (PySem.W.fnX "__init__" (x ++ ".__init__") (defArgs st) (defBody st) (defScope st) [("__class__", cc)] dV kV doc pm an (.ref c) ct) ⟨us, []⟩ = pure ((["self", f] : List Str).zip us)
  cd : PySem.W.codeIn K (.ref c) (x ++ ".__init__") = true
def spInit1 (C : Addr) (f : Str) : Sp := fun vs H Q _ => ∃ (self : Addr) (i : Int), vs = [.ref self, .int i] ∧ H self = some (exo self C none) ∧ i.natAbs.log2 < 1920 ∧ ∀ dx, H dx = none → dx ≠ self → Q .non (upd (upd H dx (exd dx [(f, .int i)])) self (exo self C (some dx)))
section
variable {σ : L2.St} {H : Hp} {K : PySem.W.Frag}
/-- f"text{i}" -/
theorem k_js2 {t : Str} {i : Int} {j : Nat} {Q : Str → Hp → Prop} (ht : t.length ≤ 1000) (hi : i.natAbs.log2 < 1920) (hv : σ[j]? = some (some (.int i))) (h : ∀ out, Q out H) : tJs [tC (.str t), tFmt (tVar j)] Str.empty σ H Q := by
  have l0 : (Str.empty ++ t).length = t.length := by rw [Str.length_append]; simp [Str.empty, Str.length]
  have e := int_text_length_le (k := 1920) (by decide) hi
  refine ⟨t, rfl, by rw [l0, sizeLine_eq]; omega, _, hv, .inr ⟨i, rfl, hi, _, rfl, ?_, h _⟩⟩
  rw [Str.length_append, l0, PySem.ofString_length, sizeLine_eq]
  omega
end
end Bk
/-! defs that raise an own exception of one whole number -/
namespace Bk
open PySem PySem.Spec PyProof.Rows L2
/-- an own class of the text whose __init__ takes one whole number, as its field -/
structure MkAt (P : Program) (w : World) (K : PySem.W.Frag) (mg : Str → Option Value) (base : Heap) (x : Str) (C : Addr) (f : Str) : Prop where
  gC : mg x = some (.ref C)
  ex : OexC K C
  init : ∃ fI fd, PySem.W.findIn K (.ref C) "__init__" = some (some (.ref fI)) ∧ PySem.W.typeIn K (.ref fI) = some (.type "function") ∧ FnOk P w K mg base CX0 1 fI fd ["self", f] (spInit1 C f) ∧ Binds K fd ["self", f] []
def kMkO (C : Addr) (sp : Sp) (Q : XK) (vs : List V) (H1 : Hp) : Prop := vs.length ≤ 1000 ∧ ∀ a, H1 a = none → sp (.ref a :: (vs ++ [])) (upd H1 a (exo a C none))
  (fun v H2 => v = .non ∧ ∃ (d : Addr) (fs : List (Str × V)), H2 a = some (exo a C (some d)) ∧ H2 d = some (exd d fs) ∧ H1 d = none ∧ Q (.ref C) (some d) (upd (del H2 a) d (.xd fs))) (fun _ _ _ => False)
def tRaise (W : WX) (C : Addr) (sp : Sp) (ta : TA) : TS := fun _ σ H => tMkO C sp [] ta σ H fun cls d H' => W cls d σ H'
theorem ps_mk1 {X : Cx} {W : WX} {x f : Str} {C : Addr} {e : Expr} {te : TE} {p pos pos2 : Pos} (M : MkAt X.prog X.w X.K X.mg X.base x C f) (hr : Room 2 X.A) (tk : Takes X W) (hg : Gl X x) (he : PE X e te) (hc : X.calm = true := by rfl)
    (hdb : (x == ("__debug__" : Str)) = false := by decide) (h1 : starEach [e] X.env = (false, eval e X.env) :: starEach [] X.env := by rfl) : PS X (.Raise (some (.Call (.Name x p) [e] [] pos)) none pos2) (tRaise W C (spInit1 C f) (tCons te tNil)) := by
  obtain ⟨fI, fd, iC, tI, F1, hb⟩ := M.init
  exact ps_raise hc tk (pmk_oex M.ex iC tI F1 hr hb .nil pass0 hg M.gC (pa_cons he pa_nil h1) hdb h1 rfl)
section
variable {σ : L2.St} {H : Hp} {D : Ends}
theorem r_raise {W : WX} {C : Addr} {sp : Sp} {ta : TA} (h : ta σ H fun vs H1 => kMkO C sp (fun cls d H' => W cls d σ H') vs H1) : tRaise W C sp ta D σ H := h
theorem k_mk1 {C : Addr} {f : Str} {Q : XK} {i : Int} (hi : i.natAbs.log2 < 1920) (q : ∀ d, H d = none → Q (.ref C) (some d) (upd H d (.xd [(f, .int i)]))) : kMkO C (spInit1 C f) Q [.int i] H := by
  refine ⟨by simp, fun a ha => ⟨a, i, rfl, upd_same, hi, fun dx h1 h2 => ⟨rfl, dx, [(f, .int i)], upd_same, ?_, ?_, ?_⟩⟩⟩
  · rw [upd_ne h2]
    exact upd_same
  · rw [upd_ne h2] at h1
    exact h1
  · have hd : H dx = none := by rw [upd_ne h2] at h1; exact h1
    have e : upd (del (upd (upd (upd H a (exo a C none)) dx (exd dx [(f, .int i)])) a (exo a C (some dx))) a) dx (.xd [(f, .int i)]) = upd H dx (.xd [(f, .int i)]) := by
      funext b
      by_cases hb : b = dx
      · subst hb
        rw [upd_same, upd_same]
      · rw [upd_ne hb, upd_ne hb]
        by_cases ha' : b = a
        · subst ha'
          rw [del_same, ha]
        · rw [del_ne ha', upd_ne ha', upd_ne hb, upd_ne ha']
    rw [e]
    exact q dx hd
end
section
variable {P : Program} {w : World} {K : PySem.W.Frag} {mg : Str → Option Value} {base : Heap}
theorem DefAt.okX {x : Str} {st : Stmt} {N ps : List Str} {k : Nat} {sp : Sp} (T : DefAt K mg x st) (S : FnScope N ps (defScope st))
    (hb : ∀ (kV doc pm : Value) (an : Option Addr) (cdv ct : Value) (us : List Value), us.length = ps.length → bindArgs (PySem.W.fnOf x x (defArgs st) (defBody st) (defScope st) .none kV doc pm an cdv ct) ⟨us, []⟩ = pure (ps.zip us))
    (len : ∀ vs H Q E, sp vs H Q E → vs.length = ps.length)
    (hbody : ∀ (f : Addr) (cdv : Value) (A : Around) (outer : List Env) (s : Shared) (H : Hp) (vs : List V) (Q : VK) (E : XK), Room k (A.deeper (envOfC x (defScope st) s.heap.objs.size f cdv)) → PySem.W.codeIn K cdv x = true → sp vs H Q E →
      ∃ t, PSs (cxOf (L2.CX P w) P w K mg base N x (defScope st) f cdv A outer s H E) (defBody st) t ∧ t { nx := fun _ H' => Q .non H', rt := Q } (start N vs) H) : DefOk P w K mg base (L2.CX P w) (k + 1) x ps sp := by
  obtain ⟨f, fd, F, hm⟩ := T.ex
  refine ⟨f, fd, ?_, hm, F.kp, F.binds hb⟩
  obtain ⟨oc, od, kV, doc, pm, an, cdv, ct, osl, rfl, lk, hcd⟩ := F.ex
  exact fn_of lk hcd S len fun A outer s H vs Q E hr hsp => hbody f cdv A outer s H vs Q E hr hcd hsp
theorem passX {X : Cx} {E : XK} {E₁ : Value → Shared → Prop} (hs : X.stack = X.env :: X.outer) (hf : X.env.frame = some X.env.locals) (hex : X.ex = [])
    (hx : X.xe = fun e s' => wpAny (model X.prog X.w) X.A (leaving X.env e) (fun _ s'' => L2.CX X.prog X.w X.outer X.H_0 X.s_0 E e s'') E₁ s') : Passes (L2.CX X.prog X.w) X E := passes_call (takes_of hs hf hex hx) fun _ _ _ _ h => h
end
/-! promises -/
def goodM (n : Nat) (m : Int) : Prop := 0 ≤ m ∧ m < (n : Int)
/-- the first that is no make's -/
def FirstBad (n : Nat) (ms : List Int) (m : Int) : Prop := ∃ i, ms[i]? = some m ∧ ¬ goodM n m ∧ ∀ m' ∈ ms.take i, goodM n m'
def smallI (m : Int) : Prop := m.natAbs.log2 < 1920
/-- refused: with the first bad one -/
def badE (C : Addr) (n : Nat) (ms : List Int) (H : Hp) (E : XK) : Prop := ∀ m, FirstBad n ms m → ∀ (d : Addr) (H' : Hp), Same H H' → H d = none → H' d = none → E (.ref C) (some d) (upd H' d (.xd [("make", .int m)]))
def spNeedX (K : PySem.W.Frag) (C : Addr) : Sp := fun vs H Q E => ∃ (p a : Addr) (xs : List V) (ms : List Int), vs = [.ref p, .ref a] ∧ SqT K H p xs ∧ SqL K H a (ms.map V.int) ∧ (∀ m ∈ ms, smallI m) ∧ ((∀ m ∈ ms, goodM xs.length m) → Q .non H) ∧ badE C xs.length ms H E
theorem badE.on {C : Addr} {n : Nat} {ms : List Int} {H H' : Hp} {E : XK} (b : badE C n ms H E) (s : Same H H') : badE C n ms H' E := fun m fb d H2 s2 h1 h2 => b m fb d H2 (s.trans s2) (s.free h1) h2
end Bk
/-! promises over any two numbers; catching -/
namespace Bk
open PySem PySem.Spec PyProof.Rows L2
def spEldersX (C : Addr) : Sp := fun vs H Q E => ∃ (p : Addr) (bs : List Addr) (rows : List (List Int)) (m : Int), vs = [.ref p, .int m] ∧ NetAt H p bs rows ∧ RowsOk rows ∧ rows.length ≤ 40 ∧ smallI m ∧
  (∀ m' : Nat, m = (m' : Int) → m' < rows.length → ∀ (t : Addr) (ns : List Int) (H' : Hp), NewSorted H H' t ns (fun k => 0 ≤ k ∧ Cm rows m' k.toNat) → Q (.ref t) H') ∧ badE C rows.length [m] H E
def spHeirsX (C : Addr) : Sp := fun vs H Q E => ∃ (p : Addr) (bs : List Addr) (rows : List (List Int)) (m : Int), vs = [.ref p, .int m] ∧ NetAt H p bs rows ∧ RowsOk rows ∧ rows.length ≤ 40 ∧ smallI m ∧
  (∀ m' : Nat, m = (m' : Int) → m' < rows.length → ∀ (t : Addr) (ns : List Int) (H' : Hp), NewSorted H H' t ns (fun k => 0 ≤ k ∧ k < (rows.length : Int) ∧ Cm rows k.toNat m') → Q (.ref t) H') ∧ badE C rows.length [m] H E
def spComesX (C : Addr) : Sp := fun vs H Q E => ∃ (p : Addr) (bs : List Addr) (rows : List (List Int)) (y o : Int), vs = [.ref p, .int y, .int o] ∧ NetAt H p bs rows ∧ RowsOk rows ∧ rows.length ≤ 40 ∧ smallI y ∧ smallI o ∧
  (∀ y' o' : Nat, y = (y' : Int) → o = (o' : Int) → y' < rows.length → o' < rows.length → ∀ H', Same H H' → Q (.bl (decide (Cm rows y' o'))) H') ∧ badE C rows.length [y, o] H E
def spWayX (C : Addr) : Sp := fun vs H Q E => ∃ (p : Addr) (bs : List Addr) (rows : List (List Int)) (y o : Int), vs = [.ref p, .int y, .int o] ∧ NetAt H p bs rows ∧ RowsOk rows ∧ rows.length ≤ 40 ∧ smallI y ∧ smallI o ∧
  (∀ y' o' : Nat, y = (y' : Int) → o = (o' : Int) → y' < rows.length → o' < rows.length → ∀ H', Same H H' → ((∀ n, ¬ Way rows n y' o') → Q .non H') ∧ ∀ (a : Addr) (l : List Int), H a = none → H' a = some (.lst (l.map V.int)) → Short rows l y' o' → Q (.ref a) H') ∧ badE C rows.length [y, o] H E
theorem goodM.nat {n : Nat} {m : Int} (h : goodM n m) : ∃ k : Nat, m = (k : Int) ∧ k < n := ⟨m.toNat, by have := h.1; omega, by have := h.1; have := h.2; omega⟩
/-- the first number of two is good -/
theorem badE.one {C : Addr} {n : Nat} {y o : Int} {H : Hp} {E : XK} (b : badE C n [y, o] H E) : badE C n [y] H E := fun m fb d H' s h1 h2 => by
  refine b m ?_ d H' s h1 h2
  obtain ⟨i, hi, hb, hg⟩ := fb
  cases i with
  | zero => exact ⟨0, hi, hb, by simp⟩
  | succ i => simp at hi
theorem noBad {n : Nat} {m : Nat} (h : m < n) {C : Addr} {H : Hp} {E : XK} : badE C n [(m : Int)] H E := fun k fb _ _ _ _ _ => by
  obtain ⟨i, hi, hb, _⟩ := fb
  cases i with
  | zero =>
    cases hi
    exact absurd ⟨by omega, by omega⟩ hb
  | succ i => simp at hi
section
variable {X : Cx} {CX : CXT} {k : Nat} {ps : List Str} {sp : Sp} {E : L2.St → XK} {x : Str} {p pos : Pos} {e : Expr} {es : List Expr} {t : TA}
theorem pe_callDS (F : DefOk X.prog X.w X.K X.mg X.base CX k x ps sp) (hr : Room k X.A) (hg : Gl X x) (hx : ∀ σ, PassesAt CX X σ (E σ)) (ha : PA X (e :: es) t) (hdb : (x == ("__debug__" : Str)) = false := by decide)
    (he : starEach (e :: es) X.env = (false, eval e X.env) :: starEach es X.env := by rfl) (hpl : (backTo pos (starEach es X.env)).any (·.1) = false := by rfl) : PE X (.Call (.Name x p) (e :: es) [] pos) (tCallS sp E t) := by
  obtain ⟨f, fd, F, hm, hk, hb⟩ := F.ex
  exact pe_callS F hr hg hm hk hb hx ha hdb he hpl
end
end Bk
/-! what a law asks of a refusal -/
namespace Bk
open PySem PySem.Spec PyProof.Rows L2
structure XFacts (K : PySem.W.Frag) (mg : Str → Option Value) (C CH : Addr) (x f : Str) (others : List (Str × Addr)) : Prop where
  gC : mg x = some (.ref C)
  gH : mg "HuntError" = some (.ref CH)
  exm : PySem.W.exmOne K (.ref C) (.ref CH) = some true
  xc : XcC K C
  no : PySem.W.findIn K (.ref C) f = some none
  kit1 : PySem.W.kitOne K (.ref C) (.ref C) = some true
  kitV : PySem.W.kitOne K (.ref C) (.type "ValueError") = some true
  kitA : PySem.W.kitAny K (.ref C) (others.map fun p => Value.ref p.2) = some false
  go : ∀ p ∈ others, mg p.1 = some (.ref p.2)
/-- which numbers a call of this way is asked -/
def askedM (way y o : Int) : List Int := if way < 2 then [y] else [y, o]
def spCalled (C : Addr) : Sp := fun vs H Q E => ∃ (p : Addr) (bs : List Addr) (rows : List (List Int)) (way y o : Int), vs = [.ref p, .int way, .int y, .int o] ∧ NetAt H p bs rows ∧ RowsOk rows ∧ rows.length ≤ 40 ∧ smallI y ∧ smallI o ∧ 0 ≤ way ∧ way < 4 ∧
  ((∀ m ∈ askedM way y o, goodM rows.length m) → ∀ H', Same H H' → Q .non H') ∧ badE C rows.length (askedM way y o) H E
def spTold : Sp := fun vs H Q _ => ∃ (p : Addr) (bs : List Addr) (rows : List (List Int)) (way y o : Int), vs = [.ref p, .int way, .int y, .int o] ∧ NetAt H p bs rows ∧ RowsOk rows ∧ rows.length ≤ 40 ∧ smallI y ∧ smallI o ∧ 0 ≤ way ∧ way < 4 ∧
  ((∀ m ∈ askedM way y o, goodM rows.length m) → ∀ (l : Addr) (H' : Hp), Same H H' → H l = none → H' l = some (.lst []) → Q (.ref l) H') ∧
  ∀ m, FirstBad rows.length (askedM way y o) m → ∀ (l : Addr) (H' : Hp), Same H H' → H l = none → H' l = some (.lst [.int m]) → Q (.ref l) H'
theorem firstBad_or (n : Nat) : ∀ ms : List Int, (∀ m ∈ ms, goodM n m) ∨ ∃ m, FirstBad n ms m
  | [] => .inl (by simp)
  | m :: ms => by
    by_cases h : goodM n m
    · rcases firstBad_or n ms with a | ⟨k, i, hi, hb, hg⟩
      · exact .inl fun x hx => by
          rcases List.mem_cons.mp hx with z | z
          · exact z ▸ h
          · exact a x z
      · refine .inr ⟨k, i + 1, hi, hb, fun x hx => ?_⟩
        rw [List.take_succ_cons] at hx
        rcases List.mem_cons.mp hx with z | z
        · exact z ▸ h
        · exact hg x z
    · exact .inr ⟨m, 0, rfl, h, by simp⟩
section
variable {σ : L2.St} {H : Hp} {K : PySem.W.Frag}
theorem r_callS {sp : Sp} {E : L2.St → XK} {t : TA} {Q : VK} (h : t σ H fun vs H1 => sp vs H1 Q (E σ)) : tCallS sp E t σ H Q := h
theorem k_we {c : Value} {i : Nat} {ts : Addr → TS} {Wout : WX} {D : Ends} {C dd : Addr} (he : PySem.W.exmOne K (.ref C) c = some true) (q : ∀ a, H a = none → ts a (keptEnds i a C dd D) (σ.set i (some (.ref a))) H) : WE (wKeep K c i ts Wout D) σ (.ref C) (some dd) H :=
  ⟨true, he, fun _ => ⟨C, dd, rfl, rfl, q⟩, fun z => nomatch z⟩
end
end Bk
/-! lists that are no orders -/
namespace Bk
open PySem PySem.Spec PyProof.Rows L2
/-- the place at which a list is refused -/
def DuePlace (rows : List (List Int)) (ord : List Int) (i : Nat) : Prop := (∀ (j : Nat) (m : Int), j < i → ord[j]? = some m → CanNext rows (ord.take j) m) ∧
  ((∃ m, ord[i]? = some m ∧ ¬ CanNext rows (ord.take i) m) ∨ (i = ord.length ∧ ord.length < rows.length))
theorem due_or (rows : List (List Int)) (ord : List Int) : OrdOk rows ord ∨ ∃ i, i ≤ ord.length ∧ DuePlace rows ord i := by
  have step : ∀ k, k ≤ ord.length → (∀ (j : Nat) (m : Int), j < k → ord[j]? = some m → CanNext rows (ord.take j) m) ∨ ∃ i, i ≤ ord.length ∧ DuePlace rows ord i := by
    intro k
    induction k with
    | zero => exact fun _ => .inl fun j m h => absurd h (Nat.not_lt_zero _)
    | succ k ih =>
      intro hk
      rcases ih (by omega) with a | b
      · have hm := List.getElem?_eq_getElem (l := ord) (i := k) (by omega)
        by_cases c : CanNext rows (ord.take k) ord[k]
        · refine .inl fun j m hj h => ?_
          by_cases e : j = k
          · subst e
            rw [hm] at h
            cases h
            exact c
          · exact a j m (by omega) h
        · exact .inr ⟨k, by omega, a, .inl ⟨_, hm, c⟩⟩
      · exact .inr b
  rcases step ord.length (Nat.le_refl _) with a | b
  · have pre : OrdPre rows ord := fun i m h => a i m (List.getElem?_eq_some_iff.mp h).1 h
    have := pre.len_le
    by_cases e : ord.length = rows.length
    · exact .inl ⟨e, pre⟩
    · exact .inr ⟨ord.length, Nat.le_refl _, a, .inr ⟨rfl, by omega⟩⟩
  · exact .inr b
def spPlacesX (K : PySem.W.Frag) (C : Addr) : Sp := fun vs H Q E => ∃ (kd : Bool) (p a : Addr) (bs : List Addr) (rows : List (List Int)) (ord : List Int), vs = [.ref p, .ref a] ∧ NetAt H p bs rows ∧ RowsOk rows ∧ rows.length ≤ 40 ∧ SqK K kd H a (ord.map V.int) ∧ ord.length ≤ 500 ∧
  (OrdOk rows ord → ∀ (d : Addr) (kvs : List (Key × V)) (H' : Hp), Same H H' → H d = none → H' d = some (.dK kvs) → Pl kvs ord → Q (.ref d) H') ∧
  ∀ i, DuePlace rows ord i → ∀ (d : Addr) (H' : Hp), Same H H' → H d = none → H' d = none → E (.ref C) (some d) (upd H' d (.xd [("place", .int (i : Nat))]))
def spRenumX (K : PySem.W.Frag) (C : Addr) : Sp := fun vs H Q E => ∃ (kd : Bool) (p a : Addr) (bs : List Addr) (rows : List (List Int)) (ord : List Int), vs = [.ref p, .ref a] ∧ NetAt H p bs rows ∧ RowsOk rows ∧ rows.length ≤ 40 ∧ SqK K kd H a (ord.map V.int) ∧ ord.length ≤ 500 ∧
  (OrdOk rows ord → ∀ (q : Addr) (cs : List Addr) (srt : List (List Int)) (H' : Hp), Same H H' → H q = none → NetAt H' q cs srt → SrtOf srt (dueRows rows ord) → Q (.ref q) H') ∧
  ∀ i, DuePlace rows ord i → ∀ (d : Addr) (H' : Hp), Same H H' → H d = none → H' d = none → E (.ref C) (some d) (upd H' d (.xd [("place", .int (i : Nat))]))
/-- what is told of a list: nothing, or the place -/
def ToldV (rows : List (List Int)) (ord : List Int) (v : V) : Prop := (OrdOk rows ord ∧ v = .non) ∨ ∃ i : Nat, DuePlace rows ord i ∧ v = .int (i : Nat)
def spToldO (K : PySem.W.Frag) : Sp := fun vs H Q _ => ∃ (kd : Bool) (p a : Addr) (bs : List Addr) (rows : List (List Int)) (ord : List Int), vs = [.ref p, .ref a] ∧ NetAt H p bs rows ∧ RowsOk rows ∧ rows.length ≤ 40 ∧ SqK K kd H a (ord.map V.int) ∧ ord.length ≤ 500 ∧
  ∀ v, ToldV rows ord v → ∀ H', Same H H' → Q v H'
def spDueO (K : PySem.W.Frag) : Sp := fun vs H Q _ => ∃ (a b : Addr) (as : List Addr) (rows : List (List Int)) (ord : List Int), vs = [.ref a, .ref b] ∧ SqL K H a (as.map V.ref) ∧ RwK K false H as rows ∧ RowsOk rows ∧ rows.length ≤ 40 ∧ SqL K H b (ord.map V.int) ∧ ord.length ≤ 500 ∧
  ∀ v, ToldV rows ord v → ∀ H', Same H H' → Q v H'
def spFar : Sp := fun vs H Q _ => ∃ (G : Hp) (d : Addr), vs = [.ref d] ∧ FeedAt G H d ∧ ∀ (r : Int) (H' : Hp), FeedAt G H' d → Q (.int r) H'
def spSpoiled : Sp := fun vs H Q _ => ∃ (G : Hp) (d b : Addr) (ord : List Int) (many : Int), vs = [.ref d, .ref b, .int many] ∧ FeedAt G H d ∧ G b = some (.lst (ord.map V.int)) ∧ ord.length ≤ 200 ∧
  ∀ (c : Addr) (ord' : List Int) (G' H' : Hp), Same G G' → G' c = some (.lst (ord'.map V.int)) → ord'.length ≤ 700 → FeedAt G' H' d → Q (.ref c) H'
theorem OrdPre.ok {rows : List (List Int)} {ord : List Int} (h : ∀ (j : Nat) (m : Int), j < ord.length → ord[j]? = some m → CanNext rows (ord.take j) m) (hl : ¬ ord.length < rows.length) : OrdOk rows ord := by
  have pre : OrdPre rows ord := fun i m q => h i m (List.getElem?_eq_some_iff.mp q).1 q
  have := pre.len_le
  exact ⟨by omega, pre⟩
theorem cut_ints (ns : List Int) (lo hi : Option Int) : ∃ ms : List Int, cutV (ns.map V.int) lo hi = ms.map V.int ∧ ms.length ≤ ns.length := by
  refine ⟨(ns.drop (HT.sIx ns.length 0 lo)).take (HT.sIx ns.length ns.length hi - HT.sIx ns.length 0 lo), ?_, ?_⟩
  · unfold cutV
    rw [List.length_map, List.map_take, List.map_drop]
  · rw [List.length_take, List.length_drop]
    omega
section
variable {σ : L2.St} {H : Hp} {Q : VK} {K : PySem.W.Frag}
theorem k_slI {p : Addr} {ns : List Int} {lo hi : Option Int} (hp : SqL K H p (ns.map V.int)) (h : ∀ (q : Addr) (ms : List Int), H q = none → ms.length ≤ ns.length → Q (.ref q) (upd H q (.lst (ms.map V.int)))) : rSlL K (.ref p) lo hi H Q := by
  refine k_slL hp fun q hq => ?_
  obtain ⟨ms, e, hl⟩ := cut_ints ns lo hi
  rw [e]
  exact h q ms hq hl
def kRevL (K : PySem.W.Frag) (Q : VK) (x : V) (H1 : Hp) : Prop := ∃ a xs, x = .ref a ∧ SqL K H1 a xs ∧ ∀ p, H1 p = none → Q (.ref p) (upd H1 p (.lst xs.reverse))
theorem r_revL {te : TE} (h : te σ H fun x H1 => kRevL K Q x H1) : tRevL K te σ H Q := h
theorem k_revL {a : Addr} {xs : List V} (h : SqL K H a xs) (q : ∀ p, H p = none → Q (.ref p) (upd H p (.lst xs.reverse))) : kRevL K Q (.ref a) H := ⟨a, xs, rfl, h, q⟩
theorem k_inB {p : Addr} {bs : List Bool} {b : Bool} (h : SqL K H p (bs.map V.bl)) (q : Q (.bl (decide (b ∈ bs))) H) : rIn K false (.bl b) (.ref p) H Q := ⟨p, _, rfl, .inl h, rfl, flat_bools bs, by rw [inV_bools]; exact q⟩
end
end Bk
namespace Bk
open PySem PySem.Spec PyProof.Rows L2
theorem smallN {n : Nat} (h : n ≤ 1000000) : ((n : Nat) : Int).natAbs.log2 < 1920 := by
  have e : ((n : Nat) : Int).natAbs = n := rfl
  rw [e]
  by_cases z : n = 0
  · subst z; decide
  · rw [Nat.log2_lt z]
    exact Nat.lt_of_le_of_lt h (Nat.lt_of_lt_of_le (show (1000000 : Nat) < 2 ^ 20 by decide) (Nat.pow_le_pow_right (n := 2) (by decide) (show 20 ≤ 1920 by decide)))
end Bk
namespace Bk
open PySem PySem.Spec PyProof.Rows L2
theorem k_cutAnd {σ : L2.St} {H : Hp} {D : Ends} {u : TT} {t e : TS} {b : Bool} (I : L2.St → Hp → Prop) (h2 : ∀ σ H, I σ H → D.nx σ H) (h1 : ∀ M : L2.St → Hp → Prop, (∀ σ H, I σ H → M σ H) → kAnd u σ (fun c H1 => kIf t e { D with nx := M } σ c H1) b H) :
    kAnd u σ (fun c H1 => kIf t e D σ c H1) b H := h1 D.nx h2
end Bk
namespace Bk
open PySem PySem.Spec PyProof.Rows L2
theorem k_neSame {H : Hp} {Q : VK} {x : V} (hs : scal x x = true) (q : Q (.bl false) H) : rNe x x H Q := ⟨hs, by simpa using q⟩
theorem not_due {rows : List (List Int)} {ord : List Int} (o : OrdOk rows ord) (i : Nat) : ¬ DuePlace rows ord i := by
  rintro ⟨_, ⟨m, hm, h⟩ | ⟨_, h⟩⟩
  · exact h (o.pre i m hm)
  · have := o.len
    omega
theorem due_unique {rows : List (List Int)} {ord : List Int} {i j : Nat} (a : DuePlace rows ord i) (b : DuePlace rows ord j) : i = j := by
  have one : ∀ {i j : Nat}, DuePlace rows ord i → DuePlace rows ord j → ¬ i < j := fun {i j} a b lt => by
    obtain ⟨_, ⟨m, hm, h⟩ | ⟨e, h⟩⟩ := a
    · exact h (b.1 i m lt hm)
    · obtain ⟨_, ⟨m, hm, _⟩ | ⟨e2, _⟩⟩ := b
      · have := (List.getElem?_eq_some_iff.mp hm).1
        omega
      · omega
  have h1 := one a b
  have h2 := one b a
  omega
theorem DuePlace.perm {A B : List (List Int)} (p : PermR A B) {ord : List Int} {i : Nat} (h : DuePlace A ord i) : DuePlace B ord i := by
  refine ⟨fun j m hj hm => (h.1 j m hj hm).perm p, ?_⟩
  rcases h.2 with ⟨m, hm, c⟩ | ⟨e, l⟩
  · exact .inl ⟨m, hm, fun z => c (z.perm p.symm)⟩
  · exact .inr ⟨e, by rw [← p.len]; exact l⟩
end Bk
namespace Bk
open PySem PySem.Spec PyProof.Rows L2
theorem ToldV.perm {A B : List (List Int)} (p : PermR A B) {ord : List Int} {v : V} (h : ToldV A ord v) : ToldV B ord v := by
  rcases h with ⟨o, e⟩ | ⟨i, d, e⟩
  · exact .inl ⟨o.perm p, e⟩
  · exact .inr ⟨i, d.perm p, e⟩
theorem ToldV.unique {rows : List (List Int)} {ord : List Int} {v u : V} (a : ToldV rows ord v) (b : ToldV rows ord u) : v = u := by
  rcases a with ⟨o, rfl⟩ | ⟨i, d, rfl⟩
  · rcases b with ⟨_, rfl⟩ | ⟨j, d2, _⟩
    · rfl
    · exact absurd d2 (not_due o j)
  · rcases b with ⟨o, _⟩ | ⟨j, d2, rfl⟩
    · exact absurd d (not_due o i)
    · rw [due_unique d d2]
theorem ToldV.scal {rows : List (List Int)} {ord : List Int} {v : V} (a : ToldV rows ord v) : L2.scal v v = true := by
  rcases a with ⟨_, rfl⟩ | ⟨_, _, rfl⟩ <;> rfl
end Bk
/-! rows that are no net -/
namespace Bk
open PySem PySem.Spec PyProof.Rows L2
def RowGood (i : Nat) (row : List Int) : Prop := row.Nodup ∧ ∀ e ∈ row, 0 ≤ e ∧ e < ((i : Nat) : Int)
/-- what rows are refused with -/
def DueNet (rows : List (List Int)) (v : Int) : Prop := (v = -1 ∧ ¬ (1 ≤ rows.length ∧ rows.length ≤ 40)) ∨ (1 ≤ rows.length ∧ rows.length ≤ 40 ∧ ∃ (i : Nat) (row : List Int), v = (i : Nat) ∧ rows[i]? = some row ∧ ¬ RowGood i row ∧ ∀ (j : Nat) (r : List Int), j < i → rows[j]? = some r → RowGood j r)
def GoodNet (rows : List (List Int)) : Prop := 1 ≤ rows.length ∧ rows.length ≤ 40 ∧ ∀ (j : Nat) (r : List Int), rows[j]? = some r → RowGood j r
theorem GoodNet.ok {rows : List (List Int)} (h : GoodNet rows) : RowsOk rows := fun i row hr => by
  obtain ⟨n, b⟩ := h.2.2 i row hr
  have lt := (List.getElem?_eq_some_iff.mp hr).1
  have := nodup_bound n b
  exact ⟨n, by have := h.2.1; omega, b⟩
theorem net_or (rows : List (List Int)) : GoodNet rows ∨ ∃ v, DueNet rows v := by
  by_cases hl : 1 ≤ rows.length ∧ rows.length ≤ 40
  · have step : ∀ k, k ≤ rows.length → (∀ (j : Nat) (r : List Int), j < k → rows[j]? = some r → RowGood j r) ∨ ∃ v, DueNet rows v := by
      intro k
      induction k with
      | zero => exact fun _ => .inl fun j r h => absurd h (Nat.not_lt_zero _)
      | succ k ih =>
        intro hk
        rcases ih (by omega) with a | b
        · have hr := List.getElem?_eq_getElem (l := rows) (i := k) (by omega)
          by_cases c : RowGood k rows[k]
          · refine .inl fun j r hj h => ?_
            by_cases e : j = k
            · subst e
              rw [hr] at h
              cases h
              exact c
            · exact a j r (by omega) h
          · exact .inr ⟨_, .inr ⟨hl.1, hl.2, k, _, rfl, hr, c, a⟩⟩
        · exact .inr b
    rcases step rows.length (Nat.le_refl _) with a | b
    · exact .inl ⟨hl.1, hl.2, fun j r h => a j r (List.getElem?_eq_some_iff.mp h).1 h⟩
    · exact .inr b
  · exact .inr ⟨-1, .inl ⟨rfl, hl⟩⟩
def spNetX (K : PySem.W.Frag) (C : Addr) : Sp := fun vs H Q E => ∃ (kd : Bool) (a : Addr) (as : List Addr) (rows : List (List Int)), vs = [.ref a] ∧ SqK K kd H a (as.map V.ref) ∧ RwK K kd H as rows ∧ rows.length ≤ 1000 ∧ (∀ r ∈ rows, r.length ≤ 4000) ∧
  (GoodNet rows → ∀ (p : Addr) (bs : List Addr) (srt : List (List Int)) (H' : Hp), Same H H' → H p = none → NetAt H' p bs srt → SrtOf srt rows → Q (.ref p) H') ∧
  ∀ v, DueNet rows v → ∀ (d : Addr) (H' : Hp), Same H H' → H d = none → H' d = none → E (.ref C) (some d) (upd H' d (.xd [("make", .int v)]))
end Bk
/-! set(..) of a list or a tuple of hiv: a set that is told -/
namespace Bk
open PySem PySem.Spec PyProof.Rows L2
section
variable {P : Program} {w : World} {A : Around} {E : Value → Shared → Prop} {s : Shared}
/-- the loop over a list, from an empty set on -/
theorem set_fill {l : Addr} {its : Array Value} (ns : List Int) {R : Result → Shared → Prop} (quiet : A.in1.handled = none) (isl : s.heap.IsList l its) (hiv : IntsAre its.toList ns) (few : ns.length + 1 < scanBound)
    (k : ∀ (h' : Heap) (tk c : Nat), SetR w h' s.heap.objs.size (fun j => decide (j ∈ ns)) c → c ≤ ns.length → (∀ b o, s.heap.get? b = some o → h'.get? b = some o) → R (.ok (.ret .none)) { s with heap := h', toks := tk }) :
    codeAny (model P w) A (.builtin "set.update.loop" ⟨[.ref s.heap.objs.size, .ref (s.heap.push (freshSet w)).objs.size], []⟩) R
      { s with heap := (s.heap.push (freshSet w)).push { cls := .type "list_iterator", data := .fields #[.ref l, .int 0 0] } } := by
  have many : its.size = ns.length := by
    have q := IntsAre.length hiv
    rwa [Array.length_toList] at q
  have at0 : (s.heap.push (freshSet w)).get? s.heap.objs.size = some (freshSet w) := Heap.get?_push_size _ rfl
  obtain ⟨ol, got, _⟩ := id isl
  have below : l < s.heap.objs.size := Heap.lt_size got
  have sz : (s.heap.push (freshSet w)).objs.size = s.heap.objs.size + 1 := Heap.size_push ..
  have isl1 : (s.heap.push (freshSet w)).IsList l its := isl.push _
  have apart : l ≠ (s.heap.push (freshSet w)).objs.size := by rw [sz]; exact Nat.ne_of_lt (Nat.lt_succ_of_lt below)
  have away : s.heap.objs.size ∉ [(s.heap.push (freshSet w)).objs.size, l] := by
    rw [sz]
    intro z
    rcases List.mem_cons.mp z with q | q
    · exact absurd q (Nat.ne_of_lt (Nat.lt_succ_self _))
    · exact absurd (List.mem_singleton.mp q) (Nat.ne_of_gt below)
  have each : ∀ (i : Nat) (v : Value), its[i]? = some v → ∃ z t, ns[i]? = some z ∧ v = .int z t := fun i v hv => by
    have lt : i < ns.length := by rw [← many]; exact (Array.getElem?_eq_some_iff.mp hv).1
    obtain ⟨t, e⟩ := PyProof.Rows.IntsAre.int_at hiv i v (by rw [Array.getElem?_toList]; exact hv)
    have e2 : ns[i]? = some ns[i] := List.getElem?_eq_getElem lt
    exact ⟨ns[i], t, e2, by rw [e, List.getD_eq_getElem?_getD, e2] <;> rfl⟩
  refine set_update_ints (P := P) (w := w) (A := A) ((Walks.list quiet _ l apart its).toS) s.heap.objs.size away ns many few each (its.size - 0) 0 _ (by omega) (Nat.zero_le _) ⟨⟨_, Heap.get?_push_size _ rfl, rfl, rfl⟩, isl1.push _⟩ ⟨0, Nat.le_refl 0, ?_⟩ ?_
  · exact setR_new_at (Heap.get?_push_of_some _ at0)
  · rintro ⟨h', g', d', tk, os'⟩ c moved hc hR
    obtain rfl : g' = s.gens := moved.gens
    obtain rfl : d' = s.drawn := moved.drawn
    obtain rfl : os' = s.os := moved.os
    refine k h' tk c hR (by rw [← many]; exact hc) fun b o e => moved.heap b o ?_ (Heap.get?_push_of_some _ (Heap.get?_push_of_some _ e))
    have lt := Heap.lt_size e
    intro z
    rcases List.mem_cons.mp z with q | q
    · exact absurd q (Nat.ne_of_lt lt)
    · have q2 := List.mem_singleton.mp q
      rw [sz] at q2
      exact absurd q2 (Nat.ne_of_lt (Nat.lt_succ_of_lt lt))
set_option maxHeartbeats 8000000 in
theorem set_of_list {l : Addr} {its : Array Value} (ns : List Int) {Q : Value → Shared → Prop} (quiet : A.handled = none) (isl : s.heap.IsList l its) (hiv : IntsAre its.toList ns) (few : ns.length + 1 < scanBound)
    (k : ∀ (h' : Heap) (tk c : Nat), SetR w h' s.heap.objs.size (fun j => decide (j ∈ ns)) c → c ≤ ns.length → (∀ b o, s.heap.get? b = some o → h'.get? b = some o) → Q (.ref s.heap.objs.size) { s with heap := h', toks := tk }) :
    wpAny (model P w) A (call (.type "set") [.ref l]) Q E s := by
  obtain ⟨mc, ml, mro⟩ := F.called_set.mro
  have made := F.called_set.made
  have subs := F.called_set.sub
  refine wpAny_call (codeAny_of_tree (?_ : wpAny _ _ (callAny (.type "set") _) _ _ _))
  refine wpAny_pure ⟨Code.quiet_builtin _ (by decide +kernel), codeAny_builtin F.entry_type_call ?_⟩
  rw [Around.under_plain (weight_type_call_type "set" [.ref l] []) rfl]
  have t1 := F.called_set.notType
  have t2 := F.called_set.canCreate
  have t3 := F.typeCall_set_1 (.ref l)
  repeat (any_goals (first | assumption | wp_step))
  let s1 : Shared := { s with heap := s.heap.push (freshSet w) }
  refine codeAny_mono (code_set_led1 (.ref l) (E := E) (Q₁ := fun v u => v = .ref s.heap.objs.size ∧ u = s1) ⟨rfl, rfl⟩) fun r u hu => ?_
  rcases r with e | fl
  · exact hu
  cases fl with
  | ret obj =>
    obtain ⟨rfl, rfl⟩ := hu
    have at0 : s1.heap.get? s.heap.objs.size = some (freshSet w) := Heap.get?_push_size _ rfl
    have isSet : s1.TypeIs (.ref s.heap.objs.size) "set" := ⟨_, at0, rfl⟩
    have look := F.called_set.init.lookup
    have bnd := F.called_set.init.bind (.ref s.heap.objs.size)
    repeat (any_goals (first | assumption | wp_step))
    refine codeAny_mono (codeAny_call_builtin (R := wants (fun r u => r = .none ∧ ∃ h' tk c, u = { s with heap := h', toks := tk } ∧ SetR w h' s.heap.objs.size (fun j => decide (j ∈ ns)) c ∧ c ≤ ns.length ∧ ∀ b o, s.heap.get? b = some o → h'.get? b = some o) E)
      F.called_set.init.plain F.entry_set_init (check_set_init_1 isSet ?_)) fun r2 u2 hu2 => ?_
    · obtain ⟨⟨oc, od, ot, osl⟩, got, cl, nl, dt⟩ := id isl
      obtain rfl : oc = .type "list" := cl
      obtain rfl : ot = .seq its nl := dt
      have got1 : s1.heap.get? l = some { cls := .type "list", dict := od, data := .seq its nl, slots := osl } := Heap.get?_push_of_some _ got
      have isl1 : s1.heap.IsList l its := ⟨_, got1, rfl, nl, rfl⟩
      have n1 := F.sub_list_set
      have n2 := F.sub_list_frozenset
      have n3 : (Value.type "list" == Value.type "dict") = false := by decide
      unfold Builtin.«set.__init__» noKeywords Builtin.Frozenset.updateFrom
      generalize hPI : pyIter = PI
      wp_walk
      subst hPI
      refine wpAny_pyIter_list isl1 (wpAny_bind (wpAny_runValue ?_))
      refine set_fill ns (by simp [quiet]) isl hiv few fun h' tk c hR hc kp => ?_
      show wpAny _ _ _ _ _ _
      refine wpAny_pure (?_ : wpAny _ _ (ret Value.none) _ _ _)
      exact wpAny_pure ⟨rfl, h', tk, c, rfl, hR, hc, kp⟩
    · rcases r2 with e | fl2
      · exact hu2
      cases fl2 with
      | ret r =>
        obtain ⟨rfl, h', tk, c, rfl, hR, hc, kp⟩ := hu2
        repeat (any_goals (first | assumption | wp_step))
        exact k _ _ _ hR hc kp
      | _ => exact hu2.elim
  | _ => exact hu.elim
end
/-- set(a), a a list or a tuple of hiv -/
def rSetK (w : World) (K : PySem.W.Frag) (kd : Bool) : List V → Hp → VK → Prop := fun vs H Q => ∃ (a : Addr) (ns : List Int), vs = [V.ref a] ∧ SqK K kd H a (ns.map V.int) ∧ ns.length ≤ 4000 ∧
  ∀ p, H p = none → Q (.ref p) (upd H p (SetO w p (fun j => decide (j ∈ ns)) (unl ns)))
theorem cr_setK (kd : Bool) {X : Cx} {w : World} {K : PySem.W.Frag} (hw : X.w = w) (hK : X.K = K) (hc : X.calm = true) : CallR X (.type "set") (rSetK w K kd) := by
  subst hw hK
  rintro pins s σ H vs us Q I r ⟨a, ns, rfl, hs, hl, q⟩
  rw [Vals.ref1 r]
  have hn : H s.heap.objs.size = none := I.hok.fresh (Nat.le_refl _)
  have fin : ∀ (h' : Heap) (tk c : Nat), SetR X.w h' s.heap.objs.size (fun j => decide (j ∈ ns)) c → (∀ b o, s.heap.get? b = some o → h'.get? b = some o) → EP X pins σ Q (.ref s.heap.objs.size) { s with heap := h', toks := tk } := fun h' tk c R kp => by
    have ec := setR_card R
    subst ec
    exact ⟨.ref _, _, I.laid (t' := tk) kp (Nat.le_refl _) (setO_new R), rfl, q _ hn⟩
  cases kd with
  | false =>
    obtain ⟨its, rv, pl, hz⟩ := I.list hs
    exact set_of_list ns (I.ok.hd hc) pl.isList (by simpa using RZ.intsAre_vals rv) (by unfold scanBound; omega) fun h' tk c R _ kp => fin h' tk c R kp
  | true =>
    obtain ⟨its, rv, pt, hz⟩ := I.tuple hs
    exact call_set_tupI (P := X.prog) (w := X.w) ns (I.ok.hd hc) (show s.heap.IsTuple a its.toArray from pt) (by simpa using RZ.intsAre_vals rv) (by unfold scanBound; omega) fun h' tk c R _ kp => fin h' tk c R kp
section
variable {σ : L2.St} {H : Hp} {Q : VK} {w : World} {K : PySem.W.Frag}
theorem k_setK {kd : Bool} {a : Addr} {ns : List Int} (hs : SqK K kd H a (ns.map V.int)) (hl : ns.length ≤ 4000) (q : ∀ p, H p = none → Q (.ref p) (upd H p (SetO w p (fun j => decide (j ∈ ns)) (unl ns)))) : rSetK w K kd [V.ref a] H Q := ⟨a, ns, rfl, hs, hl, q⟩
end
end Bk
/-! defs that are called while an exception is handled; an exception told from its suite's begin on -/
namespace Bk
open PySem PySem.Spec PyProof.Rows L2
/-- a promise kept whatever is handled -/
structure FnT (P : Program) (w : World) (K : PySem.W.Frag) (mg : Str → Option Value) (base : Heap) (k : Nat) (f : Addr) (fd : FuncData) (ps : List Str) (sp : Sp) : Prop where
  len : ∀ vs H Q E, sp vs H Q E → vs.length = ps.length
  run : ∀ (A : Around) (outer : List Env) (s : Shared) (H : Hp) (args : Args) (us : List Value) (vs : List V) (Q : VK) (E : XK), L2H.RoomH k A → Env0 P w K mg base A outer s H → BindsTo s fd args (ps.zip us) → Vals vs us → sp vs H Q E → codeAny (model P w) A (.call (.ref f) args) (CR CX0 outer P w H s Q E) s
abbrev cxT (P : Program) (w : World) (K : PySem.W.Frag) (mg : Str → Option Value) (base : Heap) (N : List Str) (qual : Str) (scope : Scope) (f : Addr) (cd : Value) (A : Around) (outer : List Env) (s : Shared) (H : Hp) (E : XK) : Cx :=
  { cxOf CX0 P w K mg base N qual scope f cd A outer s H E with calm := false }
section
variable {P : Program} {w : World} {K : PySem.W.Frag} {mg : Str → Option Value} {base : Heap}
theorem fnT_of {k : Nat} {f : Addr} {name qual : Str} {params : Arguments} {body : List Stmt} {scope : Scope} {dV kV doc pm cdv ct oc : Value} {an od : Option Addr} {osl : Array (Option Value)} {N ps : List Str} {sp : Sp}
    (lk : K.lookup f = some ⟨oc, od, .func (PySem.W.fnOf name qual params body scope dV kV doc pm an cdv ct), osl⟩) (hcd : PySem.W.codeIn K cdv qual = true) (S : FnScope N ps scope) (len : ∀ vs H Q E, sp vs H Q E → vs.length = ps.length)
    (hbody : ∀ (A : Around) (outer : List Env) (s : Shared) (H : Hp) (vs : List V) (Q : VK) (E : XK), L2H.RoomH k (A.deeper (envOfC qual scope s.heap.objs.size f cdv)) → sp vs H Q E →
      ∃ t, PSs (cxT P w K mg base N qual scope f cdv A outer s H E).nox body t ∧ t { nx := fun _ H' => Q .non H', rt := Q } (L2.start N vs) H) : FnT P w K mg base (k + 1) f (PySem.W.fnOf name qual params body scope dV kV doc pm an cdv ct) ps sp := by
  refine ⟨len, fun A outer s H args us vs Q E room e0 hb r hsp => ?_⟩
  have many := len _ _ _ _ hsp
  have kin : K.In s.heap := e0.mod.kin.keeps fun b o e => (e0.bs b o e).1
  have free : s.heap.NoLimit := e0.mod.nolimit.keeps fun b o e => (e0.bs b o e).1
  refine codeAny_call_function room.depth (kin _ _ lk) rfl S.co S.gen rfl (PySem.W.codeRec_of kin hcd) (hb _ _ _ _ ?_)
  refine wpAny_newFunctionEnv_cells S.kind (fun z hz => ?_) fun env henv s1 x => ?_
  · rcases S.par z.1 (List.of_mem_zip (show (z.1, z.2) ∈ ps.zip us from hz)).1 with q | q
    · exact .inl q
    · exact .inr ⟨q, PySem.W.cellsFrom_some _ _ _ (.inl q)⟩
  subst henv
  refine ⟨free.keeps x.toInCall.keep, codeAny_func ?_⟩
  obtain ⟨t, ht, hq⟩ := hbody A outer s H vs Q E (room.deeper _) hsp
  have J := inv_start (CX := CX0) (E := E) (A := { A with handled := none }) S rfl ⟨e0.frames, e0.mod, e0.bs, e0.bsz, e0.funs, e0.frf, e0.hok, e0.bare⟩ many r x
  have I : Inv (cxT P w K mg base N qual scope f cdv A outer s H E) [] (L2.start N vs) H s1 :=
    ⟨⟨J.ok.mod, J.ok.kind, J.ok.glob, J.ok.blt, J.ok.above, J.ok.inj, J.ok.has, J.ok.cab, (fun z => nomatch (show false = true from z)), Around.frames_deeper e0.frames, J.ok.stk, J.ok.exf, J.ok.bs, J.ok.bsz, J.ok.noex, J.ok.exfs, J.ok.funs, J.ok.frf⟩,
      J.os, J.bare, J.base, J.loc, J.cell, J.free, J.freeC, J.pin, J.hok, J.len⟩
  refine wpAny_mono (ht.nox.run [] s1 (L2.start N vs) H _ I hq) (fun fl s' e => ?_) fun _ _ e => e
  rcases fl with _ | _ | _ | u
  · obtain ⟨σ', H', J', q⟩ := e
    exact ⟨.non, H', J'.os, J'.bare, J'.base, J'.hok, rfl, q⟩
  · exact e.elim fun _ z => z.elim fun _ z => z.2.elim
  · exact e.elim fun _ z => z.elim fun _ z => z.2.elim
  · obtain ⟨v, σ', H', J', rv, q⟩ := e
    exact ⟨v, H', J'.os, J'.bare, J'.base, J'.hok, rv, q⟩
/-- a def of the text that keeps such a promise -/
structure DefT (P : Program) (w : World) (K : PySem.W.Frag) (mg : Str → Option Value) (base : Heap) (k : Nat) (x : Str) (ps : List Str) (sp : Sp) : Prop where
  ex : ∃ f fd, FnT P w K mg base k f fd ps sp ∧ mg x = some (.ref f) ∧ PySem.W.keepIn K (.ref f) = true ∧ Binds K fd ps []
theorem DefAt.okT {x : Str} {st : Stmt} {N ps : List Str} {k : Nat} {sp : Sp} (T : DefAt K mg x st) (S : FnScope N ps (defScope st))
    (hb : ∀ (kV doc pm : Value) (an : Option Addr) (cdv ct : Value) (us : List Value), us.length = ps.length → bindArgs (PySem.W.fnOf x x (defArgs st) (defBody st) (defScope st) .none kV doc pm an cdv ct) ⟨us, []⟩ = pure (ps.zip us))
    (len : ∀ vs H Q E, sp vs H Q E → vs.length = ps.length)
    (hbody : ∀ (f : Addr) (cdv : Value) (A : Around) (outer : List Env) (s : Shared) (H : Hp) (vs : List V) (Q : VK) (E : XK), L2H.RoomH k (A.deeper (envOfC x (defScope st) s.heap.objs.size f cdv)) → sp vs H Q E →
      ∃ t, PSs (cxT P w K mg base N x (defScope st) f cdv A outer s H E).nox (defBody st) t ∧ t { nx := fun _ H' => Q .non H', rt := Q } (L2.start N vs) H) : DefT P w K mg base (k + 1) x ps sp := by
  obtain ⟨f, fd, F, hm⟩ := T.ex
  refine ⟨f, fd, ?_, hm, F.kp, F.binds hb⟩
  obtain ⟨oc, od, kV, doc, pm, an, cdv, ct, osl, rfl, lk, hcd⟩ := F.ex
  exact fnT_of lk hcd S len fun A outer s H vs Q E hr hsp => hbody f cdv A outer s H vs Q E hr hsp
end
section
variable {X : Cx} {k : Nat} {ps : List Str} {sp : Sp} {x : Str} {p pos : Pos} {e : Expr} {es : List Expr} {t : TA}
theorem pe_callT (F : DefT X.prog X.w X.K X.mg X.base k x ps sp) (hr : L2H.RoomH k X.A) (hg : Gl X x) (ha : PA X (e :: es) t) (hdb : (x == ("__debug__" : Str)) = false := by decide)
    (he : starEach (e :: es) X.env = (false, eval e X.env) :: starEach es X.env := by rfl) (hpl : (backTo pos (starEach es X.env)).any (·.1) = false := by rfl) : PE X (.Call (.Name x p) (e :: es) [] pos) (tCall sp [] E0 t) := by
  obtain ⟨f, fd, F, hm, hk, hb⟩ := F.ex
  refine ⟨fun pins s σ H Q I h => wpAny_Call_Name_kw (ld_glob I hg hm ?_ hdb)⟩
  refine PySem.W.callWith_K (h₀ := X.base) I.ok.mod.kin hk (thn (ha.run pos pins s σ H _ I h) fun us s1 ⟨vs, H1, I1, r, q⟩ => ⟨I1.kIn, ?_⟩) he hpl
  have q : sp (vs ++ []) H1 Q E0 := q
  rw [List.append_nil] at q
  have many : us.length = ps.length := by rw [← r.length]; exact F.len _ _ _ _ q
  have bound := hb s1 us I1.kIn (by rw [List.append_nil]; exact many)
  rw [List.append_nil] at bound
  refine wpAny_call (codeAny_mono (F.run X.A X.stack s1 H1 ⟨us, []⟩ us vs Q E0 hr I1.env0 bound r q) fun r s' z => ?_)
  rcases r with e | fl
  · exact False.elim z
  rcases fl with _ | _ | _ | u
  · exact False.elim z
  · exact False.elim z
  · exact False.elim z
  · exact I1.after z
end
/-! ### except .. as n: the exception is told in its suite -/
abbrev toldEnds (i : Nat) (D : Ends) : Ends := { nx := fun σ' H' => D.nx (σ'.set i none) H', rt := D.rt, bk := fun σ' H' => D.bk (σ'.set i none) H', ct := fun σ' H' => D.ct (σ'.set i none) H' }
def wTold (K : PySem.W.Frag) (c : Value) (i : Nat) (ts : Addr → TS) (Wout : WX) (D : Ends) : WX := fun cls d σ H =>
  ∃ b, PySem.W.exmOne K cls c = some b ∧ (b = true → ∃ C dd, cls = .ref C ∧ d = some dd ∧ ∀ a, H a = none → ts a (toldEnds i D) (σ.set i (some (.ref a))) (upd H a (exr a C dd))) ∧ (b = false → Wout cls d σ H)
section
variable {X : Cx} {x n : Str} {c : Value} {i : Nat} {body suite : List Stmt} {b₀ : Stmt} {np pos pos' : Pos} {tb : WX → TS} {ts : Addr → TS} {Wout : WX}
theorem ps_try_told (hs : X.stack = X.env :: X.outer) (hf : X.env.frame = some X.env.locals) (hex : X.ex = []) (hN : X.N.Nodup) (hi : X.N[i]? = some n) (hln : X.env.kindOf n = some .local) (hc : Names X x c) (tk : Takes X Wout)
    (hb : ∀ (W : WX) (pn : List (Addr × Obj)) (xe : Value → Shared → Prop), Takes (X.tr pn xe) W → PassesOwn (model X.prog X.w) X.A X.env xe → PSs (X.tr pn xe) body (tb W))
    (hsu : ∀ (a : Addr) (pn : List (Addr × Obj)), PSs (X.suite a pn) (b₀ :: suite) (ts a)) :
    PS X (.Try body [.ExceptHandler (some (.Name x np)) (some n) (b₀ :: suite) pos'] [] [] pos) (fun D σ H => tb (wTold X.K c i ts Wout D) D σ H) := by
  refine ⟨fun pins s σ H D I h => wpAny_Try_except ?_⟩
  have ok := I.ok
  have frames : X.A.frames = some (X.env :: X.outer) := ok.frames.trans (congrArg some hs)
  have body' := (hb (wTold X.K c i ts Wout D) (X.pn ++ pins) (fun e s₁ => wpAny (model X.prog X.w) X.A (noteFrame e X.env) (fun _ s₂ => wpAny (model X.prog X.w) X.A (setFlight e none) (fun _ s₃ =>
    wpAny (model X.prog X.w) X.A (handleBy e X.env [.ExceptHandler (some (.Name x np)) (some n) (b₀ :: suite) pos']) (SP X pins D) X.xe s₃) X.xe s₂) X.xe s₁) ?take PassesOwn.looking).run [] s σ H D (I.toTry _) h
  case take =>
    rintro u s' ⟨a, G, sI, pins', σ', H', cls, d, rfl, J', inG, up, sky, na, os, bare, b, test, yes, no⟩
    have J : Inv X pins σ' H' sI := J'.ofTry ok
    refine Sky.land Zc.steady frames hf (by rw [← hs]; exact sky) fun h3 F3 up3 => ?_
    obtain ⟨stay3, ga, ff3, _⟩ := id F3
    obtain ⟨oe3, vs3, at3, z3, dat3⟩ := F3.there
    have nofr : a ∉ frs (X.env :: X.outer) := fun hm => by
      obtain ⟨_, o', e', hnf⟩ := ff3.mem hm
      rw [at3] at e'
      cases e'
      exact hnf _ dat3
    have nL : a ≠ X.env.locals := fun z => nofr (List.mem_filterMap.mpr ⟨X.env, List.mem_cons_self, by rw [hf, z]⟩)
    have nF : a ∉ X.fs := fun hm => by
      obtain ⟨e, he, q⟩ := List.mem_filterMap.mp hm
      exact nofr (List.mem_filterMap.mpr ⟨e, List.mem_cons_of_mem _ he, q⟩)
    have sIa : sI.heap.get? a = none := by
      cases e : sI.heap.get? a with
      | none => rfl
      | some o => exact absurd ((inG a o e (by rw [hs]; exact nofr)).symm.trans ga) (by simp)
    have s0a : X.s_0.heap.get? a = none := by
      cases e : X.s_0.heap.get? a with
      | none => rfl
      | some o =>
        obtain ⟨o', q⟩ := J.base.there a o e (by rw [hex]; simp)
        rw [sIa] at q
        cases q
    have npin : ∀ p ∈ X.pn ++ pins, p.1 ≠ a := fun p hp z => by
      have := (J.pin p hp).1
      rw [z, sIa] at this
      cases this
    have J3 : Inv X pins σ' H' { s' with heap := h3 } := J.landed inG stay3 (up.trans up3) os bare
    have S3 := J3.suite at3 dat3 na nL nF
    refine wpAny_handleBy_cons (codeAny_handlers_test ?_) (by intro q; cases q)
    have isCls : PySem.W.Looks (model X.prog X.w) h3 (typeOf (.ref a)) cls := fun A Q E s k q => wpAny_typeOf_ref (k _ _ at3) (by rw [z3.1]; exact q)
    have answer := PySem.W.exm_one (M := model X.prog X.w) J3.kIn isCls test
    have name : ∀ {Q : Value → Shared → Prop} {E : Value → Shared → Prop}, Q c { s' with heap := h3 } → wpAny (model X.prog X.w) (X.A.mark (some (.ref a))) (eval (.Name x np) X.env) Q E { s' with heap := h3 } := fun q => by
      obtain ⟨hg, hdbg, hm | ⟨hm, hv, hnn⟩⟩ := hc
      · exact ld_glob (X := X.suite a ((a, oe3) :: (X.pn ++ pins))) S3 hg hm q hdbg
      · exact ld_blt (X := X.suite a ((a, oe3) :: (X.pn ++ pins))) S3 hg hm hv q hnn hdbg
    refine name (answer.here ?_)
    cases b with
    | true =>
      obtain ⟨C, dd, rfl, rfl, wish⟩ := yes rfl
      refine codeAny_handlers_suite_as (HandSPX.lands_againZ F3 fun h4 F4 up4 => ?_)
      obtain ⟨⟨oc, od, oda, osl⟩, vs4, at4, ⟨e1, e2⟩, dat4⟩ := F4.there
      have e1 : oc = .ref C := e1
      have e2 : od = some dd := e2
      have e3 : oda = .fields vs4 := dat4
      subst e1 e2 e3
      have J4 : Inv X pins σ' H' { s' with heap := h4 } := J.landed inG F4.1 ((up.trans up3).trans up4) os bare
      have T4 : Inv X pins σ' (upd H' a (exr a C dd)) { s' with heap := h4 } := tellX J4 at4 na s0a nL npin
      have S4 : Inv (X.suite a (X.pn ++ pins)) [] σ' (upd H' a (exr a C dd)) { s' with heap := h4 } :=
        ⟨T4.ok.suite _ _, T4.os, T4.bare, T4.base, T4.loc, T4.cell, T4.free, T4.freeC, fun p hp => T4.pin p (by rw [List.append_nil] at hp; exact hp), T4.hok, T4.len⟩
      refine store_ok (X := X.suite a (X.pn ++ pins)) (v := .ref a) S4 hN hi (.inl hln) rfl (fun s5 S5 => ?_) (.inr hln)
      refine wpAny_mono ((hsu a (X.pn ++ pins)).run [] s5 _ _ _ S5 (wish a na)) (fun f s6 fin => ?_) (fun _ _ z => z.elim)
      have gone : ∀ {σ6 : L2.St} {H6 : Hp} {Q : Shared → Prop}, Inv (X.suite a (X.pn ++ pins)) [] σ6 H6 s6 → (∀ s7, Inv X pins (σ6.set i none) H6 s7 → Q s7) →
          wpAny (model X.prog X.w) X.A (do bindName X.env n .none; unbindBehindTheSuite X.env n pos') (fun _ s7 => Q s7) X.xe s6 := fun {σ6 H6 Q} S6 k => by
        have P6 : Inv X pins σ6 H6 s6 := ⟨ok, S6.os, S6.bare, S6.base, S6.loc, S6.cell, S6.free, S6.freeC, fun p hp => S6.pin p (List.mem_append_left _ hp), S6.hok, S6.len⟩
        exact gone_ok P6 hN hi hln k
      cases f with
      | next =>
        obtain ⟨σ6, H6, S6, q6⟩ := fin
        exact gone S6 fun s7 J7 => ⟨_, _, J7, q6⟩
      | brk =>
        obtain ⟨σ6, H6, S6, q6⟩ := fin
        exact gone S6 fun s7 J7 => ⟨_, _, J7, q6⟩
      | cont =>
        obtain ⟨σ6, H6, S6, q6⟩ := fin
        exact gone S6 fun s7 J7 => ⟨_, _, J7, q6⟩
      | ret u =>
        obtain ⟨v6, σ6, H6, S6, r6, q6⟩ := fin
        exact gone S6 fun s7 J7 => ⟨_, _, _, J7, r6, q6⟩
    | false =>
      refine wpAny_handleBy_nil ?_
      obtain ⟨_, _, _, oe, vs, T, oT, ts', at', _, dat', h1, _⟩ := id F3
      unfold PySem.passOn
      refine wpAny_bind (wpAny_field at' dat' h1 ?_)
      rw [if_neg (show ¬ ((Value.ref T == Value.none) = true) by simp)]
      have out : wpAny (model X.prog X.w) X.A (setFlight (.ref a) X.env.frame) (fun _ s4 => wpAny (model X.prog X.w) X.A (throw (.ref a) : Sem Flow) (SP X pins D) X.xe s4) X.xe { s' with heap := h3 } := by
        rw [hf]
        exact HandSPX.setFlight_upZ F3 fun h4 hh4 up4 => wpAny_throw (tk _ _ ⟨a, G, sI, pins, σ', H', cls, d, rfl, J, inG, (up.trans up3).trans up4, .inr (.inr (by rw [hs]; exact hh4)), na, os, bare, no rfl⟩)
      first
        | exact wpAny_bind (wpAny_pure (wpAny_bind out))
        | exact wpAny_bind out
  refine wpAny_mono body' (fun f s1 fin => ?_) fun e s1 he => he
  cases f with
  | next =>
    obtain ⟨σ', H', J', q⟩ := fin
    exact wpAny_execs_nil ⟨σ', H', J'.ofTry ok, q⟩
  | brk =>
    obtain ⟨σ', H', J', q⟩ := fin
    exact ⟨σ', H', J'.ofTry ok, q⟩
  | cont =>
    obtain ⟨σ', H', J', q⟩ := fin
    exact ⟨σ', H', J'.ofTry ok, q⟩
  | ret u =>
    obtain ⟨v, σ', H', J', r, q⟩ := fin
    exact ⟨v, σ', H', J'.ofTry ok, r, q⟩
end
section
variable {σ : L2.St} {H : Hp} {K : PySem.W.Frag}
theorem k_wt {c : Value} {i : Nat} {ts : Addr → TS} {Wout : WX} {D : Ends} {C dd : Addr} (he : PySem.W.exmOne K (.ref C) c = some true) (q : ∀ a, H a = none → ts a (toldEnds i D) (σ.set i (some (.ref a))) (upd H a (exr a C dd))) : WE (wTold K c i ts Wout D) σ (.ref C) (some dd) H :=
  ⟨true, he, fun _ => ⟨C, dd, rfl, rfl, q⟩, fun z => nomatch z⟩
end
/-! ### list.count of a bool -/
theorem vals_bools : ∀ {bs : List Bool} {us : List Value}, Vals (bs.map V.bl) us → us = bs.map Value.bool
  | [], _, .nil => rfl
  | b :: bs, _, .cons r t => by
    have r' : _ = Value.bool b := r
    rw [r', vals_bools t]
    rfl
def rCntB (K : PySem.W.Frag) : V → List V → Hp → VK → Prop := fun x xs H Q => ∃ (p : Addr) (bs : List Bool) (k : Bool), x = .ref p ∧ xs = [.bl k] ∧ SqL K H p (bs.map V.bl) ∧ Q (.int (bs.count k : Nat)) H
theorem bcnt (k : Bool) : ∀ bs : List Bool, (bs.map Value.bool).countP (isBoolOf k) = bs.count k
  | [] => rfl
  | b :: bs => by
    rw [List.map_cons, List.countP_cons, List.count_cons, bcnt k bs]
    rfl
theorem mt_bcount {X : Cx} {K : PySem.W.Frag} (hK : X.K = K) : MtR X "list.count" (rCntB K) := by
  subst hK
  rintro pins s σ H x xs v us Q I rx rxs ⟨p, bs, k, rfl, rfl, hs, q⟩
  cases rx
  obtain ⟨u, rfl, ru⟩ := rxs.one
  obtain rfl : u = .bool k := ru
  obtain ⟨its, rv, ⟨⟨cls, dd, data, sl⟩, n, ho, hc, hdn, hd⟩, hlen⟩ := I.list hs
  simp only at hc hd
  subst hc hd
  obtain rfl := vals_bools rv
  refine call_meets PySem.F.slot_list_count ⟨_, ho, rfl⟩ PySem.F.entry_list_count (PySem.F.args_list_count_2 _ _) (SeqAt.list_countAt p _ n dd sl (.bool k) (isBoolOf k)) ⟨ho, fun y hy => ?_, ?_⟩
  · obtain ⟨b, _, rfl⟩ := List.mem_map.mp (show y ∈ bs.map Value.bool by simpa using hy)
    exact SeqAt.EqAt.bool_bool b k
  · refine ⟨.int (bs.count k : Nat), H, I.tok _, ⟨s.toks, ?_⟩, q⟩
    show Value.int (((bs.map Value.bool).toArray.toList.countP (isBoolOf k) : Nat) : Int) s.toks = _
    rw [show (bs.map Value.bool).toArray.toList = bs.map Value.bool from rfl, bcnt]
section
variable {H : Hp} {Q : VK} {K : PySem.W.Frag}
theorem k_bcount {p : Addr} {bs : List Bool} {k : Bool} (hp : H p = some (.lst (bs.map V.bl))) (q : Q (.int (bs.count k : Nat)) H) : rCntB K (.ref p) [.bl k] H Q := ⟨p, bs, k, rfl, rfl, sql_lst hp, q⟩
end
end Bk
/-! the words of the trials' laws: a feed that is a list, nets laid as tuples, list(range(..)), int(bool), texts compared -/
namespace Bk
open PySem PySem.Spec PyProof.Rows L2
/-! ### the feed: a cell, how often, which -/
structure FeedL (G H : Hp) (d : Addr) : Prop where
  same : Same G H
  d0 : G d = none
  ex : ∃ c t k : Int, H d = some (.lst [.int c, .int t, .int k])
theorem FeedL.more {G H H' : Hp} {d : Addr} (F : FeedL G H d) (s : Same H H') : FeedL G H' d := by
  obtain ⟨c, t, k, h⟩ := F.ex
  exact ⟨F.same.trans s, F.d0, c, t, k, s _ _ h⟩
theorem FeedL.less {G G' H : Hp} {d : Addr} (F : FeedL G H d) (s : Same G' G) : FeedL G' H d := ⟨s.trans F.same, s.free F.d0, F.ex⟩
theorem FeedL.put {G H : Hp} {d : Addr} (F : FeedL G H d) (c t k : Int) : FeedL G (upd H d (.lst [.int c, .int t, .int k])) d := ⟨F.same.mut F.d0, F.d0, c, t, k, upd_same⟩
theorem FeedL.new {G H : Hp} {d p : Addr} {o : HO} (F : FeedL G H d) (h : H p = none) : FeedL (upd G p o) (upd H p o) d := by
  obtain ⟨c, t, k, e⟩ := F.ex
  have nd : d ≠ p := ne_of_none e h
  refine ⟨fun b u q => ?_, by rw [upd_ne nd]; exact F.d0, c, t, k, by rw [upd_ne nd]; exact e⟩
  by_cases z : b = p
  · subst z; rw [upd_same] at q; cases q; exact upd_same
  · rw [upd_ne z] at q; rw [upd_ne z]; exact F.same b u q
theorem FeedL.set {G H : Hp} {d p : Addr} {o u : HO} (F : FeedL G H d) (h : G p = some u) : FeedL (upd G p o) (upd H p o) d := by
  obtain ⟨c, t, k, e⟩ := F.ex
  have nd : d ≠ p := (ne_of_none h F.d0).symm
  refine ⟨fun b u q => ?_, by rw [upd_ne nd]; exact F.d0, c, t, k, by rw [upd_ne nd]; exact e⟩
  by_cases z : b = p
  · subst z; rw [upd_same] at q; cases q; exact upd_same
  · rw [upd_ne z] at q; rw [upd_ne z]; exact F.same b u q
theorem FeedL.set' {G H : Hp} {d p : Addr} {o u : HO} (F : FeedL (upd G p u) H d) : FeedL (upd G p o) (upd H p o) d := by
  have h := FeedL.set (o := o) F upd_same
  rw [upd_upd] at h
  exact h
theorem FeedL.got {G H : Hp} {d p : Addr} {u : HO} (F : FeedL (upd G p u) H d) : H p = some u := F.same _ _ upd_same
/-- all that is told and is not the feed's -/
theorem FeedL.max {G H H' : Hp} {d : Addr} (F : FeedL G H d) (s : Same H H') : ∃ G2, FeedL G2 H' d ∧ Same G G2 ∧ (∀ b o, H' b = some o → b ≠ d → G2 b = some o) := by
  obtain ⟨c, t, k, e⟩ := F.ex
  refine ⟨hide H' [d], ⟨same_hide _ _, hide_none (by simp), c, t, k, s _ _ e⟩, fun b o q => ?_, fun b o q nd => ?_⟩
  · have nd : b ≠ d := ne_of_none q F.d0
    rw [hide_get (by simp [nd])]
    exact s _ _ (F.same _ _ q)
  · rw [hide_get (by simp [nd])]
    exact q
def spCellAt (K : PySem.W.Frag) : Sp := fun vs H Q _ => ∃ (a : Addr) (ns : List Int) (k : Int), vs = [.ref a, .int k] ∧ SqL K H a (ns.map V.int) ∧ 0 ≤ k ∧ ∀ c : Int, Q (.int c) H
def spFeedL (K : PySem.W.Frag) : Sp := fun vs H Q _ => ∃ (a : Addr) (ns : List Int) (k : Int), vs = [.ref a, .int k] ∧ SqL K H a (ns.map V.int) ∧ 0 ≤ k ∧ ∀ (d : Addr) (H' : Hp), FeedL H H' d → Q (.ref d) H'
def spTakeL : Sp := fun vs H Q _ => ∃ (G : Hp) (d : Addr) (many : Int), vs = [.ref d, .int many] ∧ FeedL G H d ∧ 0 < many ∧ many.natAbs.log2 < 9000 ∧ ∀ (r : Int) (H' : Hp), 0 ≤ r → r < many → FeedL G H' d → Q (.int r) H'
def spNetL : Sp := fun vs H Q _ => ∃ (G : Hp) (d : Addr) (most : Int), vs = [.ref d, .int most] ∧ FeedL G H d ∧ 1 ≤ most ∧ most ≤ 40 ∧
  ∀ (p : Addr) (bs : List Addr) (rows : List (List Int)) (G' H' : Hp), Same G G' → NetAt G' p bs rows → RowsOk rows → 1 ≤ rows.length → (rows.length : Int) ≤ most → FeedL G' H' d → Q (.ref p) H'
def spFarL : Sp := fun vs H Q _ => ∃ (G : Hp) (d : Addr) (many : Nat), vs = [.ref d, .int (many : Nat)] ∧ FeedL G H d ∧ many ≤ 1000 ∧ ∀ (m : Int) (H' : Hp), ¬ goodM many m → smallI m → FeedL G H' d → Q (.int m) H'
/-- a drawn list of makes -/
def Makes (n : Nat) (ms : List Int) : Prop := ms.length ≤ 1000 ∧ ∀ m ∈ ms, goodM n m
def spSpreadL : Sp := fun vs H Q _ => ∃ (G : Hp) (d p : Addr) (bs : List Addr) (rows : List (List Int)), vs = [.ref d, .ref p] ∧ FeedL G H d ∧ NetAt G p bs rows ∧ 1 ≤ rows.length ∧ rows.length ≤ 40 ∧
  ∀ (a : Addr) (ms : List Int) (H' : Hp), Makes rows.length ms → G a = none → FeedL (upd G a (.lst (ms.map V.int))) H' d → Q (.ref a) H'
/-- isinstance by isinstance -/
structure AFacts (K : PySem.W.Frag) (mg : Str → Option Value) (C CH : Addr) (cs : List (Str × Addr × Bool)) : Prop where
  gH : mg "HuntError" = some (.ref CH)
  kH : PySem.W.kitOne K (.ref C) (.ref CH) = some true
  kV : PySem.W.kitOne K (.ref C) (.type "ValueError") = some true
  go : ∀ p ∈ cs, mg p.1 = some (.ref p.2.1) ∧ PySem.W.kitOne K (.ref C) (.ref p.2.1) = some p.2.2
def spAlone (K : PySem.W.Frag) (C : Addr) : Sp := fun vs H Q _ => ∃ (a d : Addr) (fs : List (Str × V)) (own : Bool), vs = [.ref a, .bl own] ∧ XAt K H a C d fs ∧ ∀ H', Same H H' → Q (.bl own) H'
/-! ### list(range(i, j, c)) -/
def lstR3 (i c : Int) (n : Nat) : List Int := (List.range n).map fun (k : Nat) => i + (k : Int) * c
def kLR3 (Q : VK) (vs : List V) (H1 : Hp) : Prop := ∃ (i j c : Int) (n : Nat), vs = [.int i, .int j, .int c] ∧ RgC i j c n ∧ n ≤ 2 ^ 24 ∧ ∀ q, H1 q = none → Q (.ref q) (upd H1 q (.lst ((lstR3 i c n).map V.int)))
def tLR3 (ta : TA) : TE := fun σ H Q => ta σ H fun vs H1 => kLR3 Q vs H1
theorem vals_r3 {i c : Int} {n : Nat} {acc : Array Value} (h : ItemsOf (fun k v => ∃ t, v = .int (i + k * c) t) acc n) : Vals ((lstR3 i c n).map V.int) acc.toList := by
  have e : acc.toList.length = n := by rw [Array.length_toList]; exact h.1
  subst e
  have em : (lstR3 i c acc.toList.length).map V.int = (List.range acc.toList.length).map (fun k : Nat => V.int (i + (k : Int) * c)) := by
    unfold lstR3
    rw [List.map_map]
    rfl
  rw [em]
  refine vals_of_get acc.toList _ fun j u hj => ?_
  obtain ⟨t, rfl⟩ := h.2 j u (by rw [← hj, Array.getElem?_toList])
  exact ⟨t, rfl⟩
theorem pe_listR3 {X : Cx} {a b c : Expr} {ta : TA} {p p2 pos pos2 : Pos} (hg : Gl X "list") (hm : X.mg "list" = none) (hg2 : Gl X "range") (hm2 : X.mg "range" = none) (ha : PA X [a, b, c] ta) (hc : X.calm = true := by rfl)
    (hs : starEach [a, b, c] X.env = (false, eval a X.env) :: starEach [b, c] X.env := by rfl) (hpl : (backTo pos2 (starEach [b, c] X.env)).any (·.1) = false := by rfl)
    (na : starEach [.Call (.Name "range" p2) [a, b, c] [] pos2] X.env = (false, eval (.Call (.Name "range" p2) [a, b, c] [] pos2) X.env) :: starEach [] X.env := by rfl) :
    PE X (.Call (.Name "list" p) [.Call (.Name "range" p2) [a, b, c] [] pos2] [] pos) (tLR3 ta) := by
  refine ⟨fun pins s σ H Q I h => ?_⟩
  refine Call_ (ld_blt I hg hm boot_list (PyProof.Rows.callWith_type1 (args_cons ?_ na) na))
  refine Call_ (ld_blt I hg2 hm2 boot_range (PyProof.Rows.callWith_type1 (thn (ha.run pos2 pins s σ H _ I h) fun us s1 ⟨vs, H1, I1, r1, q1⟩ => ?_) hs hpl))
  obtain ⟨i, j, k, n, rfl, ⟨c0, c1, c2, c3⟩, hn, q⟩ := q1
  cases r1 with
  | cons r rr =>
    cases rr with
    | cons r' rr =>
      cases rr with
      | cons r'' rr =>
        cases rr
        obtain ⟨t, rfl⟩ := r
        obtain ⟨t', rfl⟩ := r'
        obtain ⟨t'', rfl⟩ := r''
        refine call_range_3 c0 (args_nil ?_) (.inl (PyProof.noPylong_small c1))
        have I2 : Inv X pins σ H1 { s1 with heap := s1.heap.push { cls := .type "range", data := .fields #[.int i t, .int j t', .int k t''] } } := I1.kept (t' := s1.toks) fun b o e => Heap.get?_push_of_some _ e
        refine call_list_range (n := n) (I2.ok.hd hc) (IsRange.new ..) c2 c3 hn fun h' tk acc c' hk e' hi => ?_
        refine ⟨.ref _, upd H1 _ (.lst ((lstR3 i k n).map V.int)), I2.laid hk (Nat.le_refl _) (show ObjOk X.prog X.w _ _ _ (.lst ((lstR3 i k n).map V.int)) from ⟨?_, acc.toList, c', vals_r3 hi, ?_⟩), rfl, q _ (I2.hok.fresh (Nat.le_refl _))⟩
        · unfold lstR3
          rw [List.length_map, List.length_map, List.length_range, sizeLine_eq]; omega
        · rw [Array.toArray_toList]; exact e'
theorem rgc3 : ∀ c : Fin 4, ∀ i : Fin 4, ∀ j : Fin 41, c.val ≠ 0 → Builtin.Range.small (i.val : Int) (j.val : Int) (c.val : Int) = true ∧ Builtin.Range.rangeSize (i.val : Int) (j.val : Int) (c.val : Int) = (((j.val + c.val - 1 - i.val) / c.val : Nat) : Int) := by decide +kernel
theorem RgC.spread {i j c : Int} (h0 : 0 ≤ i) (h1 : i < 4) (h2 : 0 ≤ j) (h3 : j ≤ 40) (h4 : 1 ≤ c) (h5 : c ≤ 3) : RgC i j c ((j.toNat + c.toNat - 1 - i.toNat) / c.toNat) := by
  obtain ⟨a, b⟩ := rgc3 ⟨c.toNat, by omega⟩ ⟨i.toNat, by omega⟩ ⟨j.toNat, by omega⟩ (by show c.toNat ≠ 0; omega)
  have e1 : ((i.toNat : Nat) : Int) = i := by omega
  have e2 : ((j.toNat : Nat) : Int) = j := by omega
  have e3 : ((c.toNat : Nat) : Int) = c := by omega
  simp only [e1, e2, e3] at a b
  exact ⟨by omega, by omega, a, b⟩
/-! ### int(bool), tests -/
def rIntOf : List V → Hp → VK → Prop := fun xs H Q => (∃ i, xs = [.int i] ∧ Q (.int i) H) ∨ ∃ k, xs = [.bl k] ∧ Q (.int (if k then 1 else 0)) H
theorem bk_int {X : Cx} : CallR X (.type "int") rIntOf := call_int1
def rMin2 : List V → Hp → VK → Prop := fun xs H Q => ∃ i j, xs = [.int i, .int j] ∧ Q (.int (if j < i then j else i)) H
def rMax2 : List V → Hp → VK → Prop := fun xs H Q => ∃ i j, xs = [.int i, .int j] ∧ Q (.int (if j > i then j else i)) H
theorem bk_min2 {X : Cx} (hc : X.calm = true) : CallR X (.builtin "min") rMin2 := call_min2 hc
theorem bk_max2 {X : Cx} (hc : X.calm = true) : CallR X (.builtin "max") rMax2 := call_max2 hc
section
variable {σ : L2.St} {H : Hp} {Q : VK} {K : PySem.W.Frag}
theorem r_LR3 {ta : TA} (h : ta σ H fun vs H1 => kLR3 Q vs H1) : tLR3 ta σ H Q := h
theorem k_LR3 {i j c : Int} {n : Nat} (e : RgC i j c n) (hn : n ≤ 1000) (q : ∀ a, H a = none → Q (.ref a) (upd H a (.lst ((lstR3 i c n).map V.int)))) : kLR3 Q [.int i, .int j, .int c] H := ⟨i, j, c, n, rfl, e, by omega, q⟩
theorem k_intB {k : Bool} (q : Q (.int (if k then 1 else 0)) H) : rIntOf [.bl k] H Q := .inr ⟨k, rfl, q⟩
theorem k_min2 {i j : Int} (q : Q (.int (min i j)) H) : rMin2 [.int i, .int j] H Q := ⟨i, j, rfl, by
  have e : (if j < i then j else i) = min i j := by
    by_cases h : j < i
    · rw [if_pos h]; omega
    · rw [if_neg h]; omega
  rw [e]; exact q⟩
theorem k_max2 {i j : Int} (q : Q (.int (max i j)) H) : rMax2 [.int i, .int j] H Q := ⟨i, j, rfl, by
  have e : (if j > i then j else i) = max i j := by
    by_cases h : j > i
    · rw [if_pos h]; omega
    · rw [if_neg h]; omega
  rw [e]; exact q⟩
theorem k_cutAndV {u : TE} {x : V} (I : V → Hp → Prop) (h2 : ∀ v H, I v H → Q v H) (h1 : ∀ M : VK, (∀ v H, I v H → M v H) → kAndV u σ M x H) : kAndV u σ Q x H := h1 Q h2
theorem k_eqS {a b : Str} (h : Q (.bl (decide (a = b))) H) : rEq (.str a) (.str b) H Q := ⟨rfl, by
  have e : decide (V.str a = V.str b) = decide (a = b) := by
    by_cases q : a = b
    · simp [q]
    · have : ¬ V.str a = V.str b := fun z => q (V.str.inj z)
      simp [q, this]
  rw [e]; exact h⟩
theorem k_neS {a b : Str} (h : Q (.bl (!decide (a = b))) H) : rNe (.str a) (.str b) H Q := ⟨rfl, by
  have e : decide (V.str a = V.str b) = decide (a = b) := by
    by_cases q : a = b
    · simp [q]
    · have : ¬ V.str a = V.str b := fun z => q (V.str.inj z)
      simp [q, this]
  rw [e]; exact h⟩
theorem k_isStr {a : Str} (q : Q (.bl true) H) : rIsi K [.str a, .ty "str"] H Q := k_isi (.base (.str a)) (by decide +kernel) q
theorem atI_neg1 {xs : List V} {x : V} (h : xs[xs.length - 1]? = some x) (h0 : 0 < xs.length) : atI xs (-1) = some x := by
  unfold atI ixN
  rw [if_neg (by omega), if_pos (by omega)]
  simp only [Option.bind_some]
  rw [← h]
  congr 1
  omega
end
/-- nothing is let out -/
theorem passN {X : Cx} : Passes (L2.CX X.prog X.w) X (fun _ _ _ => False) := fun _ _ _ _ _ _ _ h => by
  obtain ⟨_, _, _, _, _, _, _, _, _, _, _, _, z⟩ := h
  exact z.elim
theorem goodM_nat {n k : Nat} (h : k < n) : goodM n (k : Int) := ⟨by omega, by omega⟩
theorem noBads {n : Nat} {ms : List Int} (h : ∀ m ∈ ms, goodM n m) {C : Addr} {H : Hp} {E : XK} : badE C n ms H E := fun k fb _ _ _ _ _ => by
  obtain ⟨i, hi, hb, _⟩ := fb
  exact absurd (h k (List.mem_of_getElem? hi)) hb
theorem goodM.small {n : Nat} {m : Int} (h : goodM n m) (hn : n ≤ 1000) : smallI m := by
  obtain ⟨h0, h1⟩ := h
  have : m.natAbs < 2 ^ 10 := by omega
  unfold smallI
  by_cases z : m.natAbs = 0
  · rw [z]; decide
  · have := (Nat.log2_lt z).mpr this
    omega
end Bk
namespace Bk
theorem log2_small {m : Int} (h0 : 0 < m) (h1 : m < 1073741824) : m.natAbs.log2 < 9000 := by
  have := (Nat.log2_lt (n := m.natAbs) (k := 30) (by omega)).mpr (by omega)
  omega
end Bk
namespace Bk
theorem far_bound {r u : Int} (r0 : 0 ≤ r) (r1 : r < 2) (u0 : 0 ≤ u) (u1 : u < 1000000000000000) : 0 ≤ r * (u * u * u) ∧ r * (u * u * u) < 1000000000000000000000000000000000000000000000 := by
  have a : u * u ≤ 1000000000000000 * 1000000000000000 := Int.mul_le_mul (by omega) (by omega) u0 (by omega)
  have a0 : 0 ≤ u * u := Int.mul_nonneg u0 u0
  have b : u * u * u ≤ (1000000000000000 * 1000000000000000) * 999999999999999 := Int.mul_le_mul a (by omega) u0 (by omega)
  have b0 : 0 ≤ u * u * u := Int.mul_nonneg a0 u0
  rcases (show r = 0 ∨ r = 1 by omega) with z | z
  · subst z
    rw [Int.zero_mul]
    omega
  · subst z
    rw [Int.one_mul]
    omega
theorem smallI_of {m : Int} (h : m.natAbs < 2 ^ 200) : smallI m := by
  unfold smallI
  by_cases z : m.natAbs = 0
  · rw [z]; decide
  · have := (Nat.log2_lt z).mpr h
    omega
end Bk
/-! true answers -/
namespace Bk
open PySem PySem.Spec PyProof.Rows L2
/-- the true answer at m, badness begun at f -/
noncomputable def ansS (rows : List (List Int)) (m f : Nat) : Str := if Cm rows m f then "bad" else "good"
theorem ans_bad {rows : List (List Int)} {m f : Nat} : ansS rows m f = ("bad" : Str) ↔ Cm rows m f := by
  unfold ansS
  split
  · rename_i h
    exact ⟨fun _ => h, fun _ => rfl⟩
  · rename_i h
    exact ⟨fun z => absurd z (by decide +kernel), fun z => absurd z h⟩
noncomputable def ansV (rows : List (List Int)) (f : Nat) : List V := (List.range rows.length).map fun m => V.str (ansS rows m f)
theorem ansV_len (rows : List (List Int)) (f : Nat) : (ansV rows f).length = rows.length := by simp [ansV]
theorem ansV_get {rows : List (List Int)} {f m : Nat} (h : m < rows.length) : (ansV rows f)[m]? = some (.str (ansS rows m f)) := by
  unfold ansV
  rw [List.getElem?_map, List.getElem?_range h]
  rfl
def spTrueX (C : Addr) : Sp := fun vs H Q E => ∃ (p : Addr) (bs : List Addr) (rows : List (List Int)) (f m : Int), vs = [.ref p, .int f, .int m] ∧ NetAt H p bs rows ∧ RowsOk rows ∧ rows.length ≤ 40 ∧ smallI f ∧ smallI m ∧
  (∀ f' m' : Nat, f = (f' : Int) → m = (m' : Int) → f' < rows.length → m' < rows.length → ∀ H', Same H H' → Q (.str (ansS rows m' f')) H') ∧ badE C rows.length [f, m] H E
def spAnswers : Sp := fun vs H Q _ => ∃ (p : Addr) (bs : List Addr) (rows : List (List Int)) (f : Nat), vs = [.ref p, .int (f : Nat)] ∧ NetAt H p bs rows ∧ RowsOk rows ∧ rows.length ≤ 40 ∧
  ∀ (a : Addr) (H' : Hp), Same H H' → H a = none → H' a = some (.lst (ansV rows f)) → Q (.ref a) H'
/-- what is told of a refusal that is due -/
def toldL (m : Int) : HO := .lst [.bl true, .int m]
def spTold12 : Sp := fun vs H Q _ => ∃ (p : Addr) (bs : List Addr) (rows : List (List Int)) (f m b : Int), vs = [.ref p, .int f, .int m] ∧ NetAt H p bs rows ∧ RowsOk rows ∧ rows.length ≤ 40 ∧ smallI f ∧ smallI m ∧ FirstBad rows.length [f, m] b ∧
  ∀ (l : Addr) (H' : Hp), Same H H' → H l = none → H' l = some (toldL b) → Q (.ref l) H'
def spRefused12 : Sp := fun vs H Q _ => ∃ (G : Hp) (d p : Addr) (bs : List Addr) (rows : List (List Int)), vs = [.ref p, .ref d] ∧ FeedL G H d ∧ NetAt G p bs rows ∧ RowsOk rows ∧ 1 ≤ rows.length ∧ rows.length ≤ 40 ∧
  ∀ H' : Hp, FeedL G H' d → Q (.bl true) H'
theorem fb1 {n : Nat} {a b : Int} (h : ¬ goodM n a) : FirstBad n [a, b] a := ⟨0, rfl, h, by simp⟩
theorem fb2 {n : Nat} {a b : Int} (g : goodM n a) (h : ¬ goodM n b) : FirstBad n [a, b] b := ⟨1, rfl, h, by simpa using g⟩
theorem fb_one {n : Nat} {a : Int} (h : ¬ goodM n a) : FirstBad n [a] a := ⟨0, rfl, h, by simp⟩
theorem FirstBad.not_good {n : Nat} {ms : List Int} {b : Int} (h : FirstBad n ms b) : ¬ ∀ m ∈ ms, goodM n m := fun z => by
  obtain ⟨i, hi, hb, _⟩ := h
  exact hb (z b (List.mem_of_getElem? hi))
theorem FirstBad.unique {n : Nat} {ms : List Int} {a b : Int} (h : FirstBad n ms a) (k : FirstBad n ms b) : a = b := by
  obtain ⟨i, hi, hb, hg⟩ := h
  obtain ⟨j, hj, kb, kg⟩ := k
  have lt : ∀ {x y : Nat} {u : Int}, ms[x]? = some u → x < y → u ∈ ms.take y := fun {x y u} h1 h2 => by
    refine List.mem_of_getElem? (i := x) ?_
    rw [List.getElem?_take_of_lt h2]
    exact h1
  rcases Nat.lt_trichotomy i j with z | z | z
  · exact absurd (kg a (lt hi z)) hb
  · subst z
    rw [hi] at hj
    exact Option.some.inj hj
  · exact absurd (hg b (lt hj z)) kb
section
variable {σ : L2.St} {H : Hp} {Q : VK}
theorem k_cutOrV {u : TE} {x : V} (I : V → Hp → Prop) (h2 : ∀ v H, I v H → Q v H) (h1 : ∀ M : VK, (∀ v H, I v H → M v H) → kOrV u σ M x H) : kOrV u σ Q x H := h1 Q h2
end
/-- [[True, a], [True, b], [True, c]] -/
def toldD (a : Int) : PyData := .list [.bool true, .int a]
theorem dp_told {K : PySem.W.Frag} {H : Hp} {l : Addr} {a : Int} (h : H l = some (toldL a)) : Dp K H (.ref l) (toldD a) := .lst (sql_lst h) (.cons (.bl _) (.cons (.int _) .nil))
theorem k_eqTold3 {K : PySem.W.Frag} {H : Hp} {Q : VK} {p q l1 l2 l3 m1 m2 m3 : Addr} {a b c : Int} (h : H p = some (.lst [.ref l1, .ref l2, .ref l3])) (h1 : H l1 = some (toldL a)) (h2 : H l2 = some (toldL b)) (h3 : H l3 = some (toldL c))
    (k : H q = some (.lst [.ref m1, .ref m2, .ref m3])) (k1 : H m1 = some (toldL a)) (k2 : H m2 = some (toldL b)) (k3 : H m3 = some (toldL c)) (hq : Q (.bl true) H) : rEqD K (.ref p) (.ref q) H Q := by
  have sh : SeqAt.shaped (PyData.list [toldD a, toldD b, toldD c]) = true := by simp [SeqAt.shaped, toldD, PyData.canLay0, PyData.canLayAll0, PyData.depth, PyData.depthAll]
  refine k_eqD (d := .list [toldD a, toldD b, toldD c]) (e := .list [toldD a, toldD b, toldD c]) (.lst (sql_lst h) (.cons (dp_told h1) (.cons (dp_told h2) (.cons (dp_told h3) .nil)))) (.lst (sql_lst k) (.cons (dp_told k1) (.cons (dp_told k2) (.cons (dp_told k3) .nil)))) sh sh ?_
  rw [SeqAt.eqv_refl _ (SeqAt.canLay_of_shaped sh)]
  exact hq
end Bk
namespace Bk
open PySem L2
theorem roomS {j k : Nat} {A : Around} {o : Option Value} (r : Room k A) (h : j ≤ k) : L2H.RoomH j (A.mark o) := ⟨by have := r.dp; show A.depth + 3 * j + 5 < _; omega, by have := r.un; show A.units + 16 * j + 200 < _; omega⟩
end Bk
namespace Bk
open PySem PySem.Spec PyProof.Rows L2
theorem pe_bmK {X : Cx} {K : PySem.W.Frag} {T id name : String} {r : V → List V → Hp → VK → Prop} {o e : Expr} {es : List Expr} {apos cpos : Pos} {to : TE} {t : TA} (hK : X.K = K) (pa : PlainAttrs T) (slot : Slot T name id) (hty : typeOf (.builtin id) = pure (.type "method_descriptor")) (hm : MtR X id r) (ho : PE X o to) (ha : PA X (e :: es) t)
    (hbase : attributeBase o name X.env (eval o X.env) = eval o X.env := by rfl)
    (hfew : ((backTo cpos (starEach (e :: es) X.env)).all (fun x => !x.1) && (backToKw cpos (keywordEach [] X.env)).all (fun x => x.1.isSome) && decide ((e :: es).length + ([] : List Keyword).length + (if ([] : List Keyword).isEmpty then 0 else 1) < 30)) = true := by rfl)
    (hline : (apos.endLine == cpos.line) = true := by rfl) (hs : starEach (e :: es) X.env = (false, eval e X.env) :: starEach es X.env := by rfl) (hplain : (backTo cpos (starEach es X.env)).any (·.1) = false := by rfl) :
    PE X (.Call (.Attribute o name apos) (e :: es) [] cpos) (tBM K T r to t) := by
  subst hK
  exact pe_bm pa slot hty hm ho ha hbase hfew hline hs hplain
theorem pe_xrK {X : Cx} {K : PySem.W.Frag} {e : Expr} {te : TE} {pos : Pos} {n : Str} (hK : X.K = K) (he : PE X e te) (hb : attributeBase e n X.env (eval e X.env) = eval e X.env := by rfl) : PE X (.Attribute e n pos) (tXr K n te) := by
  subst hK
  exact pe_xr he hb
end Bk
/-! numbers that may be no makes: how they are drawn, what is due -/
namespace Bk
open PySem PySem.Spec PyProof.Rows L2
def spNumber : Sp := fun vs H Q _ => ∃ (G : Hp) (d : Addr) (many : Nat), vs = [.ref d, .int (many : Nat)] ∧ FeedAt G H d ∧ 1 ≤ many ∧ many ≤ 40 ∧ ∀ (m : Int) (H' : Hp), smallI m → FeedAt G H' d → Q (.int m) H'
instance (n : Nat) (m : Int) : Decidable (goodM n m) := inferInstanceAs (Decidable (0 ≤ m ∧ m < (n : Int)))
def badsM (n : Nat) (ms : List Int) : List Int := ms.filter fun m => decide (¬ goodM n m)
theorem badsM_good {n : Nat} {ms : List Int} (h : ∀ m ∈ ms, goodM n m) : badsM n ms = [] := by
  unfold badsM
  rw [List.filter_eq_nil_iff]
  intro m hm
  simp [h m hm]
theorem badsM_first {n : Nat} : ∀ {ms : List Int} {m : Int}, FirstBad n ms m → (badsM n ms).take 1 = [m]
  | [], m, h => by
    obtain ⟨i, hi, _⟩ := h
    simp at hi
  | a :: ms, m, h => by
    obtain ⟨i, hi, hb, hg⟩ := h
    unfold badsM
    by_cases ga : goodM n a
    · rw [List.filter_cons, if_neg (by simp [ga])]
      cases i with
      | zero =>
        cases hi
        exact absurd ga hb
      | succ i =>
        refine badsM_first ⟨i, by simpa using hi, hb, fun x hx => hg x ?_⟩
        rw [List.take_succ_cons]
        exact List.mem_cons_of_mem _ hx
    · rw [List.filter_cons, if_pos (by simp [ga])]
      cases i with
      | zero =>
        cases hi
        simp
      | succ i => exact absurd (hg a (by simp)) ga
/-- what a call with these numbers is told to be -/
theorem pow_far {i : Nat} {far r : Int} (h0 : 0 ≤ far) (h1 : far < 1000000 ^ i) (r0 : 0 ≤ r) (r1 : r < 1000000) : 0 ≤ far * 1000000 + r ∧ far * 1000000 + r < 1000000 ^ (i + 1) := by
  rw [Int.pow_succ]
  generalize (1000000 : Int) ^ i = z at h1
  omega
end Bk
namespace Bk
open PySem PySem.Spec PyProof.Rows L2
theorem k_chainLen {σ : L2.St} {H : Hp} {Q : VK} {K : PySem.W.Frag} {j n : Nat} {p : Addr} {xs : List V} {m : Int} (h : σ[j]? = some (some (.ref p))) (hs : SqL K H p xs) (hl : xs.length = n) (q : Q (.bl (decide (goodM n m))) H) :
    kChain (rI0 fun i j => V.bl (decide (i < j))) (tCB (rLenB K) (tCons (tVar j) tNil)) σ (V.int m) Q (V.bl (decide (0 ≤ m))) H := by
  refine k_chain (fun h0 => ?_) (fun h0 => ?_)
  · refine r_CB (r_cons (r_var h (r_nil (k_len hs ?_))))
    refine k_rI0 ?_
    have e : decide (m < (xs.length : Int)) = decide (goodM n m) := by
      have := of_decide_eq_true h0
      rw [hl]
      unfold goodM
      by_cases c : m < (n : Int) <;> simp [c, this]
    rw [e]
    exact q
  · have e : false = decide (goodM n m) := (decide_eq_false fun z => of_decide_eq_false h0 z.1).symm
    rw [e]
    exact q
theorem badsM_snoc {n : Nat} {ms : List Int} {j : Nat} {m : Int} (h : ms[j]? = some m) : badsM n (ms.take (j + 1)) = if goodM n m then badsM n (ms.take j) else badsM n (ms.take j) ++ [m] := by
  unfold badsM
  rw [take_next h, List.filter_append]
  by_cases g : goodM n m
  · simp [g]
  · simp [g]
theorem badsM_len (n : Nat) (ms : List Int) : (badsM n ms).length ≤ ms.length := List.length_filter_le _ _
end Bk
namespace Bk
open PySem PySem.Spec PyProof.Rows L2
def spToldD : Sp := fun vs H Q _ => ∃ (p : Addr) (bs : List Addr) (rows : List (List Int)) (way y o : Int), vs = [.ref p, .int way, .int y, .int o] ∧ NetAt H p bs rows ∧ RowsOk rows ∧ rows.length ≤ 40 ∧ smallI y ∧ smallI o ∧ 0 ≤ way ∧ way < 4 ∧
  ∀ (l : Addr) (H' : Hp), Same H H' → H l = none → H' l = some (.lst (((badsM rows.length (askedM way y o)).take 1).map V.int)) → Q (.ref l) H'
theorem told_weak {vs : List V} {H : Hp} {Q : VK} {E : XK} (h : spToldD vs H Q E) : spTold vs H Q E := by
  obtain ⟨p, bs, rows, way, y, o, e, N, ok, l40, hy, ho, w0, w1, q⟩ := h
  refine ⟨p, bs, rows, way, y, o, e, N, ok, l40, hy, ho, w0, w1, fun good l H' s l0 hl => q l H' s l0 ?_, fun m fb l H' s l0 hl => q l H' s l0 ?_⟩
  · rw [hl, badsM_good good]
    rfl
  · rw [hl, badsM_first fb]
    rfl
theorem DefOk.imp {P : Program} {w : World} {K : PySem.W.Frag} {mg : Str → Option Value} {base : Heap} {CX : CXT} {k : Nat} {x : Str} {ps : List Str} {sp sp' : Sp} (F : DefOk P w K mg base CX k x ps sp) (h : ∀ vs H Q E, sp' vs H Q E → sp vs H Q E) : DefOk P w K mg base CX k x ps sp' := by
  obtain ⟨f, fd, F, hm, hk, hb⟩ := F.ex
  exact ⟨f, fd, F.imp h, hm, hk, hb⟩
theorem badsM_take1 {n : Nat} {y : Int} : (badsM n [y]).take 1 = badsM n [y] := List.take_of_length_le (badsM_len n [y])
end Bk
/-! tables walked by keys, comprehensions over enumerate, trials -/
namespace Bk
open PySem PySem.Spec PyProof.Rows L2
section
variable {σ : L2.St} {H : Hp} {Q : VK} {D : Ends} {K : PySem.W.Frag}
/-! ### a loop over a table's keys, the table locked -/
def kLock (t : TS) (D : Ends) (σ : L2.St) (H : Hp) : Prop := tLock t D σ H
theorem k_lock {t : TS} {d : Addr} {u : HO} (hd : H d = some u) (hm : Mut (some u)) (h : ∀ od, t ⟨fun σ' H' => H' d = some (.frz od u) ∧ D.nx σ' (upd H' d u), fun v H' => H' d = some (.frz od u) ∧ D.rt v (upd H' d u), fun σ' H' => H' d = some (.frz od u) ∧ D.bk σ' (upd H' d u), fun σ' H' => H' d = some (.frz od u) ∧ D.ct σ' (upd H' d u)⟩ σ (upd H d (.frz od u))) : tLock t D σ H := ⟨d, u, hd, hm, h⟩
def kKeys (R : It → Hp → Prop) (x : V) (H1 : Hp) : Prop := ∃ d o, x = .ref d ∧ ((∃ kvs, H1 d = some (.frz o (.dK kvs)) ∧ R (Itk d o kvs) H1) ∨ ∃ kvs, H1 d = some (.frz o (.dT kvs)) ∧ R (Itkt d o kvs) H1)
theorem r_iKeys {td : TE} {R : It → Hp → Prop} (h : td σ H fun x H1 => kKeys R x H1) : iKeys td σ H R := h
theorem k_iKeys {R : It → Hp → Prop} {d : Addr} {o : Obj} {kvs : List (Key × V)} (h : H d = some (.frz o (.dK kvs))) (q : R (Itk d o kvs) H) : kKeys R (.ref d) H := ⟨d, o, rfl, .inl ⟨kvs, h, q⟩⟩
theorem k_forKeys {d : Addr} {o : Obj} {kvs : List (Key × V)} {g : TG} {tb : TS} (Pv : Nat → L2.St → Hp → Prop) (h0 : Pv 0 σ H) (hl : ∀ i σ H, Pv i σ H → H d = some (.frz o (.dK kvs)))
    (hs : ∀ i k v σ H, kvs[i]? = some (k, v) → Pv i σ H → g (kV k) σ H fun σ2 H2 => tb { D with nx := Pv (i + 1), ct := Pv (i + 1), bk := D.nx } σ2 H2) (hd : ∀ σ H, Pv kvs.length σ H → D.nx σ H) : kFor (Itk d o kvs) g tb D σ H := by
  refine ⟨fun i m σ H => m + i = kvs.length ∧ Pv i σ H, ⟨kvs.length, by omega, h0⟩, ?_⟩
  rintro i m σ H ⟨em, p⟩
  have hz := hl i σ H p
  by_cases lt : i < kvs.length
  · refine .inr ⟨⟨hz, lt⟩, Pv (i + 1), fun σ' H' p' => ⟨m - 1, by omega, by omega, p'⟩, ?_⟩
    rintro x H' ⟨rfl, k, v, hk, rfl⟩
    exact hs i k v σ _ hk p
  · have e : i = kvs.length := by omega
    subst e
    exact .inl ⟨⟨hz, Nat.le_refl _⟩, hd σ H p⟩
/-! ### a comprehension over enumerate; targets with targets within -/
theorem k_lcE {kd : Bool} {a : Addr} {xs : List V} {g : TG} {tt : TT} {te : TE} {vs : List Nat} (Pv : Addr → Nat → Hp → Prop) (h0 : ∀ Dl, H Dl = none → Pv Dl 0 (upd H Dl (.lst []))) (hl : ∀ Dl i H', H Dl = none → Pv Dl i H' → SqK K kd H' a xs)
    (hs : ∀ Dl i x T H', H Dl = none → xs[i]? = some x → Pv Dl i H' → H' T = none → kLcT g tt te vs σ Dl (Pv Dl (i + 1)) (.ref T) (upd H' T (.tup [.int (i : Nat), x]))) (hd : ∀ Dl H', H Dl = none → Pv Dl xs.length H' → Q (.ref Dl) H') : kLc (IteK K kd a) g tt te vs σ Q H := by
  intro Dl hD
  refine ⟨fun i m H' => m + i = xs.length ∧ Pv Dl i H', ⟨xs.length, by omega, h0 Dl hD⟩, ?_⟩
  rintro i m H' ⟨em, p⟩
  have qx := hl Dl i H' hD p
  by_cases lt : i < xs.length
  · have ex := List.getElem?_eq_getElem lt
    refine .inr ⟨⟨xs, _, qx, ex⟩, Pv Dl (i + 1), fun H' p' => ⟨m - 1, by omega, by omega, p'⟩, ?_⟩
    rintro v H2 ⟨T, x, rfl, hT, rfl, f1⟩
    exact hs Dl i x T H' hD (f1 xs qx) p hT
  · have e : i = xs.length := by omega
    subst e
    exact .inl ⟨⟨xs, qx, rfl⟩, hd Dl H' hD p⟩
def kLcU (tt : TT) (te : TE) (vs : List Nat) (σ : L2.St) (Dl : Addr) (N : Hp → Prop) (σ2 : L2.St) (H2 : Hp) : Prop := wipe σ2 vs = wipe σ vs ∧ tt σ2 H2 fun b H3 => kLcB te σ2 Dl N b H3
theorem r_lcT {g : TG} {tt : TT} {te : TE} {vs : List Nat} {Dl : Addr} {N : Hp → Prop} {x : V} (h : g x (wipe σ vs) H fun σ2 H2 => kLcU tt te vs σ Dl N σ2 H2) : kLcT g tt te vs σ Dl N x H := h
theorem k_lcU {tt : TT} {te : TE} {vs : List Nat} {Dl : Addr} {N : Hp → Prop} {σ2 : L2.St} (e : wipe σ2 vs = wipe σ vs) (h : tt σ2 H fun b H3 => kLcB te σ2 Dl N b H3) : kLcU tt te vs σ Dl N σ2 H := ⟨e, h⟩
/-! ### texts in a tuple of texts -/
theorem inV_strs (s : Str) (ss : List Str) : inV (.str s) (ss.map V.str) = decide (s ∈ ss) := by
  unfold inV
  rw [List.any_map]
  apply Bool.eq_iff_iff.mpr
  rw [List.any_eq_true]
  simp only [decide_eq_true_eq, Function.comp]
  constructor
  · rintro ⟨n, hn, e⟩
    have e' : (n == s) = true := e
    rw [beq_iff_eq] at e'
    exact e' ▸ hn
  · intro hx
    exact ⟨s, hx, show (s == s) = true by simp⟩
theorem flat_strs (ss : List Str) : (ss.map V.str).all flatV = true := by
  rw [List.all_eq_true]
  intro x hx
  obtain ⟨n, _, rfl⟩ := List.mem_map.mp hx
  rfl
theorem k_notInSK {p : Addr} {ss : List Str} {x : Str} (h : SqT K H p (ss.map V.str)) (q : Q (.bl (!decide (x ∈ ss))) H) : rIn K true (.str x) (.ref p) H Q := ⟨p, _, rfl, .inr h, rfl, flat_strs ss, by rw [inV_strs]; exact q⟩
def kDNotIn (Q : VK) (y x : V) (H2 : Hp) : Prop := ∃ a o, x = .ref a ∧ DGet H2 a y o ∧ Q (.bl (!o.isSome)) H2
theorem r_dnotin {ty td : TE} (h : ty σ H fun y H1 => td σ H1 fun x H2 => kDNotIn Q y x H2) : tDNotIn ty td σ H Q := h
/-! ### tables of unlike numbers, each with True -/
def mkD (ks : List Int) : List (Key × V) := ks.map fun k => (Sum.inl k, V.bl true)
theorem mkD_get (ks : List Int) (k : Int) : valV (mkD ks) (Sum.inl k) = if k ∈ ks then some (.bl true) else none := by
  induction ks with
  | nil => simp [mkD, valV_nil]
  | cons a r ih =>
    unfold mkD at ih ⊢
    rw [List.map_cons]
    by_cases e : a = k
    · subst e
      rw [valV_pos rfl, if_pos (by simp)]
    · rw [valV_neg (fun q => e (Sum.inl.inj q)), ih]
      by_cases hk : k ∈ r
      · rw [if_pos hk, if_pos (List.mem_cons_of_mem _ hk)]
      · rw [if_neg hk, if_neg (by simp [hk]; exact fun z => e z.symm)]
theorem mkD_put (ks : List Int) (k : Int) : putK (mkD ks) (Sum.inl k) (.bl true) = mkD (addL ks k) := by
  unfold putK addL
  rw [valV_any, mkD_get]
  by_cases h : k ∈ ks
  · rw [if_pos h, if_pos h, if_pos (show (some (V.bl true)).isSome = true from rfl)]
    unfold mkD
    rw [List.map_map]
    refine List.map_congr_left fun a _ => ?_
    by_cases e : (Sum.inl a : Key) = Sum.inl k
    · simp only [Function.comp, if_pos e]
    · simp only [Function.comp, if_neg e]
  · rw [if_neg h, if_neg h, if_neg (by simp)]
    unfold mkD
    rw [List.map_append]
    rfl
theorem mkD_len (ks : List Int) : (mkD ks).length = ks.length := by simp [mkD]
theorem k_dinD {a : Addr} {ks : List Int} {m : Int} (h : H a = some (.dK (mkD ks))) (q : Q (.bl (decide (m ∈ ks))) H) : kDIn Q (.int m) (.ref a) H := by
  refine ⟨a, _, rfl, DGet.k (k := Sum.inl m) h, ?_⟩
  rw [mkD_get]
  by_cases e : m ∈ ks
  · rw [if_pos e]
    rw [decide_eq_true e] at q
    exact q
  · rw [if_neg e]
    rw [decide_eq_false e] at q
    exact q
theorem k_dnotinD {a : Addr} {ks : List Int} {m : Int} (h : H a = some (.dK (mkD ks))) (q : Q (.bl (!decide (m ∈ ks))) H) : kDNotIn Q (.int m) (.ref a) H := by
  refine ⟨a, _, rfl, DGet.k (k := Sum.inl m) h, ?_⟩
  rw [mkD_get]
  by_cases e : m ∈ ks
  · rw [if_pos e]
    rw [decide_eq_true e] at q
    exact q
  · rw [if_neg e]
    rw [decide_eq_false e] at q
    exact q
end
/-- all of which each make comes, as tables -/
structure OldsAt (H : Hp) (o : Addr) (ds : List Addr) (rows : List (List Int)) (n : Nat) : Prop where
  hp : H o = some (.lst (ds.map V.ref))
  len : ds.length = n
  at' : ∀ (i : Nat) (d : Addr), ds[i]? = some d → ∃ L : List Int, H d = some (.dK (mkD L)) ∧ L.Nodup ∧ ∀ k, k ∈ L ↔ 0 ≤ k ∧ Cm rows i k.toNat
theorem OldsAt.same {H H' : Hp} {o : Addr} {ds : List Addr} {rows : List (List Int)} {n : Nat} (O : OldsAt H o ds rows n) (s : Same H H') : OldsAt H' o ds rows n := ⟨s _ _ O.hp, O.len, fun i d h => by
  obtain ⟨L, h1, h2⟩ := O.at' i d h
  exact ⟨L, s _ _ h1, h2⟩⟩
def spFromL : Sp := fun vs H Q _ => ∃ (p : Addr) (bs : List Addr) (rows : List (List Int)), vs = [.ref p] ∧ NetAt H p bs rows ∧ RowsOk rows ∧ rows.length ≤ 40 ∧
  ∀ (o : Addr) (ds : List Addr) (H' : Hp), Same H H' → OldsAt H' o ds rows rows.length → H o = none → (∀ d ∈ ds, H d = none) → Q (.ref o) H'
theorem cm_row {rows : List (List Int)} {y : Nat} {row : List Int} (ok : RowsOk rows) (h : rows[y]? = some row) {k : Int} : (0 ≤ k ∧ Cm rows y k.toNat) ↔ k = (y : Int) ∨ ∃ x ∈ row, 0 ≤ k ∧ Cm rows x.toNat k.toNat := by
  rw [cm_iff h]
  constructor
  · rintro ⟨k0, rfl | ⟨e, he, c⟩⟩
    · exact .inl (by omega)
    · exact .inr ⟨_, he, k0, by simpa using c⟩
  · rintro (rfl | ⟨x, hx, k0, c⟩)
    · exact ⟨by omega, .inl (by simp)⟩
    · have := ((ok _ _ h).2.2 x hx).1
      have e : ((x.toNat : Nat) : Int) = x := by omega
      exact ⟨k0, .inr ⟨x.toNat, by rw [e]; exact hx, c⟩⟩
/-! ### trials -/
def answersS : List Str := ["bad", "good", "cannot"]
structure TrAt (K : PySem.W.Frag) (kd : Bool) (H : Hp) (a : Addr) (as : List Addr) (ts : List (Int × Str)) : Prop where
  hp : SqK K kd H a (as.map V.ref)
  len : as.length = ts.length
  at' : ∀ (i : Nat) (b : Addr) (t : Int × Str), as[i]? = some b → ts[i]? = some t → SqT K H b [.int t.1, .str t.2]
theorem TrAt.same {K : PySem.W.Frag} {kd : Bool} {H H' : Hp} {a : Addr} {as : List Addr} {ts : List (Int × Str)} (T : TrAt K kd H a as ts) (s : Same H H') : TrAt K kd H' a as ts := ⟨sqk_new s T.hp, T.len, fun i b t h1 h2 => s.tup (T.at' i b t h1 h2)⟩
def GoodT (n : Nat) (t : Int × Str) : Prop := goodM n t.1 ∧ t.2 ∈ answersS
/-- a trial speaks against a make -/
noncomputable def spk (rows : List (List Int)) (t : Int × Str) (m : Nat) : Bool := decide (t.2 = if Cm rows t.1.toNat m then ("good" : Str) else "bad")
noncomputable def places (rows : List (List Int)) (ts : List (Int × Str)) (m : Nat) : List Int := ((List.range ts.length).filter fun i => spk rows (ts.getD i (0, "")) m).map fun (i : Nat) => (i : Int)
def spNeedT (K : PySem.W.Frag) : Sp := fun vs H Q _ => ∃ (kd : Bool) (p a : Addr) (xs : List V) (as : List Addr) (ts : List (Int × Str)), vs = [.ref p, .ref a] ∧ SqT K H p xs ∧ TrAt K kd H a as ts ∧ (∀ t ∈ ts, GoodT xs.length t) ∧ ∀ H', Same H H' → Q .non H'
def spLie : Sp := fun vs H Q _ => ∃ b : Bool, vs = [.bl b] ∧ Q (.str (if b then "good" else "bad")) H
def spAgainst (K : PySem.W.Frag) (C : Addr) : Sp := fun vs H Q E => ∃ (kd : Bool) (p a : Addr) (bs as : List Addr) (rows : List (List Int)) (ts : List (Int × Str)) (m : Int), vs = [.ref p, .ref a, .int m] ∧ NetAt H p bs rows ∧ RowsOk rows ∧ rows.length ≤ 40 ∧ TrAt K kd H a as ts ∧ (∀ t ∈ ts, GoodT rows.length t) ∧ ts.length ≤ 1000 ∧ smallI m ∧
  (∀ m' : Nat, m = (m' : Int) → m' < rows.length → ∀ (l : Addr) (H' : Hp), Same H H' → H l = none → H' l = some (.lst ((places rows ts m').map V.int)) → Q (.ref l) H') ∧ badE C rows.length [m] H E
def spSpeaksX (K : PySem.W.Frag) (C : Addr) : Sp := fun vs H Q E => ∃ (p t : Addr) (bs : List Addr) (rows : List (List Int)) (x : Int × Str) (m : Int), vs = [.ref p, .ref t, .int m] ∧ NetAt H p bs rows ∧ RowsOk rows ∧ rows.length ≤ 40 ∧ SqT K H t [.int x.1, .str x.2] ∧ GoodT rows.length x ∧ smallI m ∧
  (∀ m' : Nat, m = (m' : Int) → m' < rows.length → ∀ H', Same H H' → Q (.bl (spk rows x m')) H') ∧ badE C rows.length [m] H E
theorem places_one (rows : List (List Int)) (x : Int × Str) (m : Nat) : places rows [x] m = if spk rows x m then [0] else [] := by
  unfold places
  show (([0] : List Nat).filter _).map _ = _
  by_cases h : spk rows x m = true
  · rw [if_pos h, List.filter_cons, if_pos (by simpa using h)]
    rfl
  · rw [if_neg h, List.filter_cons, if_neg (by simpa using h)]
    rfl
noncomputable def placesTo (rows : List (List Int)) (ts : List (Int × Str)) (m j : Nat) : List Int := ((List.range j).filter fun i => spk rows (ts.getD i (0, "")) m).map fun (i : Nat) => (i : Int)
theorem placesTo_snoc {rows : List (List Int)} {ts : List (Int × Str)} {m j : Nat} {t : Int × Str} (h : ts[j]? = some t) : placesTo rows ts m (j + 1) = if spk rows t m then placesTo rows ts m j ++ [(j : Int)] else placesTo rows ts m j := by
  unfold placesTo
  rw [List.range_succ, List.filter_append, List.map_append]
  have e : ts.getD j (0, "") = t := by rw [List.getD_eq_getElem?_getD, h]; rfl
  rw [List.filter_cons, e]
  by_cases g : spk rows t m = true
  · rw [if_pos g, if_pos g]
    rfl
  · rw [if_neg g, if_neg g]
    simp
theorem placesTo_len (rows : List (List Int)) (ts : List (Int × Str)) (m j : Nat) : (placesTo rows ts m j).length ≤ j := by
  unfold placesTo
  rw [List.length_map]
  refine Nat.le_trans (List.length_filter_le _ _) ?_
  rw [List.length_range]
  exact Nat.le_refl _
end Bk
/-! what the law of single trials asks -/
namespace Bk
open PySem PySem.Spec PyProof.Rows L2
/-- a refusal is due, and is told -/
def spRefused10 (K : PySem.W.Frag) : Sp := fun vs H Q _ => ∃ (p t : Addr) (bs : List Addr) (rows : List (List Int)) (x : Int × Str) (m : Int), vs = [.ref p, .ref t, .int m] ∧ NetAt H p bs rows ∧ RowsOk rows ∧ rows.length ≤ 40 ∧ SqT K H t [.int x.1, .str x.2] ∧ GoodT rows.length x ∧ smallI m ∧ ¬ goodM rows.length m ∧
  ∀ H', Same H H' → Q (.bl true) H'
def spRight10 (K : PySem.W.Frag) : Sp := fun vs H Q _ => ∃ (p o t : Addr) (bs ds : List Addr) (rows : List (List Int)) (x : Int × Str) (m : Nat), vs = [.ref p, .ref o, .ref t, .int (m : Nat)] ∧ NetAt H p bs rows ∧ RowsOk rows ∧ rows.length ≤ 40 ∧ OldsAt H o ds rows rows.length ∧ SqT K H t [.int x.1, .str x.2] ∧ GoodT rows.length x ∧ m < rows.length ∧
  ∀ H', Same H H' → Q (.bl true) H'
theorem k_eqTold {K : PySem.W.Frag} {H : Hp} {Q : VK} {p q : Addr} {a : Int} (h : H p = some (toldL a)) (k : H q = some (toldL a)) (hq : Q (.bl true) H) : rEqD K (.ref p) (.ref q) H Q := by
  have sh : SeqAt.shaped (toldD a) = true := by simp [SeqAt.shaped, toldD, PyData.canLay0, PyData.canLayAll0, PyData.depth, PyData.depthAll]
  refine k_eqD (dp_told h) (dp_told k) sh sh ?_
  rw [SeqAt.eqv_refl _ (SeqAt.canLay_of_shaped sh)]
  exact hq
theorem spk_good {rows : List (List Int)} {x : Int} {m : Nat} : spk rows (x, "good") m = decide (Cm rows x.toNat m) := by
  unfold spk
  by_cases c : Cm rows x.toNat m
  · simp [c]
  · simp only [if_neg c, decide_eq_false c]
    exact decide_eq_false (by decide +kernel)
theorem spk_bad {rows : List (List Int)} {x : Int} {m : Nat} : spk rows (x, "bad") m = !decide (Cm rows x.toNat m) := by
  unfold spk
  by_cases c : Cm rows x.toNat m
  · simp only [if_pos c, decide_eq_true c]
    exact decide_eq_false (by decide +kernel)
  · simp [c]
theorem spk_cannot {rows : List (List Int)} {x : Int} {m : Nat} : spk rows (x, "cannot") m = false := by
  unfold spk
  by_cases c : Cm rows x.toNat m
  · simp only [if_pos c]
    exact decide_eq_false (by decide +kernel)
  · simp only [if_neg c]
    exact decide_eq_false (by decide +kernel)
theorem ans3 {s : Str} (h : s ∈ answersS) : s = "bad" ∨ s = "good" ∨ s = "cannot" := by simpa [answersS] using h
theorem sqt_pair {K : PySem.W.Frag} {H : Hp} {t : Addr} {x : Int × Str} (h : H t = some (.tup [.int x.1, .str x.2])) : SqT K H t [.int x.1, .str x.2] := sqt_tup h
end Bk
namespace Bk
open PySem PySem.Spec PyProof.Rows L2
theorem FeedL.ne {G H : Hp} {d b : Addr} (F : FeedL G H d) (h : H b = none) : b ≠ d := by
  rintro rfl
  obtain ⟨_, _, _, e⟩ := F.ex
  rw [e] at h
  cases h
theorem FeedL.olds {G H H' : Hp} {d o : Addr} {ds : List Addr} {rows : List (List Int)} {n : Nat} (F : FeedL G H d) (s : Same H H') (O : OldsAt H' o ds rows n) (o0 : H o = none) (dn : ∀ d ∈ ds, H d = none) :
    ∃ G2, FeedL G2 H' d ∧ Same G G2 ∧ OldsAt G2 o ds rows n := by
  obtain ⟨G2, F2, sG, t⟩ := F.max s
  refine ⟨G2, F2, sG, t _ _ O.hp (F.ne o0), O.len, fun i b h => ?_⟩
  obtain ⟨L, h1, h2⟩ := O.at' i b h
  exact ⟨L, t _ _ h1 (F.ne (dn b (List.mem_of_getElem? h))), h2⟩
end Bk
/-! trials drawn, compared, barred ones -/
namespace Bk
open PySem PySem.Spec PyProof.Rows L2
def spSpeaksL (K : PySem.W.Frag) : Sp := fun vs H Q _ => ∃ (o t : Addr) (ds : List Addr) (rows : List (List Int)) (x : Int × Str) (m : Nat), vs = [.ref o, .ref t, .int (m : Nat)] ∧ OldsAt H o ds rows rows.length ∧ SqT K H t [.int x.1, .str x.2] ∧ GoodT rows.length x ∧ m < rows.length ∧ Q (.bl (spk rows x m)) H
def spWhole : Sp := fun vs H Q _ => ∃ i : Int, vs = [.int i] ∧ Q (.bl true) H
def spTrialsL : Sp := fun vs H Q _ => ∃ (G : Hp) (d p o : Addr) (bs ds : List Addr) (rows : List (List Int)) (lies : Int), vs = [.ref d, .ref p, .ref o, .int lies] ∧ FeedL G H d ∧ NetAt G p bs rows ∧ RowsOk rows ∧ OldsAt G o ds rows rows.length ∧ 1 ≤ rows.length ∧ rows.length ≤ 40 ∧
  ∀ (tp l : Addr) (first : Int) (as : List Addr) (ts : List (Int × Str)) (G' H' : Hp), Same G G' → G' tp = some (.tup [.int first, .ref l]) → goodM rows.length first → G' l = some (.lst (as.map V.ref)) → as.length = ts.length → (∀ (i : Nat) (b : Addr) (t : Int × Str), as[i]? = some b → ts[i]? = some t → G' b = some (.tup [.int t.1, .str t.2])) →
    (∀ t ∈ ts, GoodT rows.length t) → ts.length ≤ 60 → FeedL G' H' d → Q (.ref tp) H'
def spBarred (K : PySem.W.Frag) : Sp := fun vs H Q _ => ∃ (kd : Bool) (p a : Addr) (xs : List V) (as : List Addr) (ts : List (Int × Str)), vs = [.ref p, .ref a] ∧ SqT K H p xs ∧ xs.length ≤ 40 ∧ TrAt K kd H a as ts ∧ (∀ t ∈ ts, GoodT xs.length t) ∧ ts.length ≤ 1000 ∧
  ∀ (t : Addr) (ns : List Int) (H' : Hp), Same H H' → H t = none → H' t = some (.tup (ns.map V.int)) → ns.Pairwise (· < ·) → (∀ k, k ∈ ns ↔ (k, ("cannot" : Str)) ∈ ts) → Q (.ref t) H'
/-! ### as data -/
def trD1 (t : Int × Str) : PyData := .tuple [.int t.1, .str t.2]
def trD (ts : List (Int × Str)) : PyData := .list (ts.map trD1)
theorem dp_trA {K : PySem.W.Frag} {H : Hp} : ∀ {as : List Addr} {ts : List (Int × Str)}, as.length = ts.length → (∀ (i : Nat) (b : Addr) (t : Int × Str), as[i]? = some b → ts[i]? = some t → SqT K H b [.int t.1, .str t.2]) → DpAll K H (as.map V.ref) (ts.map trD1)
  | [], [], _, _ => .nil
  | [], _ :: _, h, _ => by simp at h
  | _ :: _, [], h, _ => by simp at h
  | a :: as, t :: ts, h, k => .cons (.tup (k 0 a t rfl rfl) (.cons (.int _) (.cons (.str _) .nil))) (dp_trA (by simpa using h) fun i b t h1 h2 => k (i + 1) b t (by simpa using h1) (by simpa using h2))
theorem TrAt.dp {K : PySem.W.Frag} {H : Hp} {a : Addr} {as : List Addr} {ts : List (Int × Str)} (T : TrAt K false H a as ts) : Dp K H (.ref a) (trD ts) := .lst T.hp (dp_trA T.len T.at')
theorem ansOk {s : Str} (h : s ∈ answersS) : PyData.strOk s = true := by
  rcases ans3 h with e | e | e <;> subst e <;> decide +kernel
theorem sh_trA : ∀ ts : List (Int × Str), (∀ t ∈ ts, t.2 ∈ answersS) → PyData.canLayAll0 (ts.map trD1) = true ∧ PyData.depthAll (ts.map trD1) ≤ 1
  | [], _ => ⟨rfl, Nat.zero_le _⟩
  | t :: ts, h => by
    obtain ⟨h1, h2⟩ := sh_trA ts fun u hu => h u (List.mem_cons_of_mem _ hu)
    have h3 := ansOk (h t (by simp))
    constructor
    · simp [PyData.canLayAll0, PyData.canLay0, trD1, h1, h3]
    · simp [PyData.depthAll, PyData.depth, trD1]
      omega
theorem sh_tr (ts : List (Int × Str)) (h : ∀ t ∈ ts, t.2 ∈ answersS) : SeqAt.shaped (trD ts) = true := by
  obtain ⟨h1, h2⟩ := sh_trA ts h
  simp [SeqAt.shaped, trD, PyData.canLay0, PyData.depth, h1]
  omega
theorem k_neTr {K : PySem.W.Frag} {H : Hp} {Q : VK} {a b : Addr} {as bs : List Addr} {ts : List (Int × Str)} (h1 : TrAt K false H a as ts) (h2 : TrAt K false H b bs ts) (h : ∀ t ∈ ts, t.2 ∈ answersS) (q : Q (.bl false) H) : rNeD K (.ref a) (.ref b) H Q := by
  refine k_neD h1.dp h2.dp (sh_tr ts h) (sh_tr ts h) ?_
  rw [SeqAt.eqv_refl _ (SeqAt.canLay_of_shaped (sh_tr ts h))]
  exact q
theorem k_eqInts {K : PySem.W.Frag} {H : Hp} {Q : VK} {p q : Addr} {ns : List Int} (h1 : SqL K H p (ns.map V.int)) (h2 : SqL K H q (ns.map V.int)) (h : Q (.bl true) H) : rEqD K (.ref p) (.ref q) H Q := by
  refine k_eqD (.lst h1 (dp_ints ns)) (.lst h2 (dp_ints ns)) (sh_ints ns) (sh_ints ns) ?_
  rw [SeqAt.eqv_refl _ (SeqAt.canLay_of_shaped (sh_ints ns))]
  exact h
theorem sh_intsT (ns : List Int) : SeqAt.shaped (PyData.tuple (ns.map PyData.int)) = true := by
  obtain ⟨h1, h2⟩ := sh_intsA ns
  simp [SeqAt.shaped, PyData.canLay0, PyData.depth, h1, h2]
theorem k_eqIntsT {K : PySem.W.Frag} {H : Hp} {Q : VK} {p q : Addr} {ns : List Int} (h1 : SqT K H p (ns.map V.int)) (h2 : SqT K H q (ns.map V.int)) (h : Q (.bl true) H) : rEqD K (.ref p) (.ref q) H Q := by
  refine k_eqD (.tup h1 (dp_ints ns)) (.tup h2 (dp_ints ns)) (sh_intsT ns) (sh_intsT ns) ?_
  rw [SeqAt.eqv_refl _ (SeqAt.canLay_of_shaped (sh_intsT ns))]
  exact h
/-! ### (make, answer) in trials -/
theorem ob_inD {X : Cx} {K : PySem.W.Frag} (hK : X.K = K) (hu : X.A.units + 65 < cLine) : OpR X (compareOp .In) (rInD K) := by subst hK; exact op_inD hu
theorem tr_eqv (t u : Int × Str) : PyData.eqv (trD1 t) (trD1 u) = decide (t = u) := by
  obtain ⟨a, s⟩ := t
  obtain ⟨b, r⟩ := u
  unfold trD1
  simp only [PyData.eqv, PyData.eqvAll, Bool.and_true]
  by_cases e : a = b
  · by_cases e2 : s = r
    · subst e e2
      simp
    · simp [e2]
  · simp [e]
theorem tr_any (ts : List (Int × Str)) (u : Int × Str) : ((ts.map trD1).any fun z => PyData.eqv z (trD1 u)) = decide (u ∈ ts) := by
  apply Bool.eq_iff_iff.mpr
  rw [List.any_map, List.any_eq_true, decide_eq_true_eq]
  constructor
  · rintro ⟨t, ht, e⟩
    have e2 : PyData.eqv (trD1 t) (trD1 u) = true := e
    rw [tr_eqv] at e2
    exact of_decide_eq_true e2 ▸ ht
  · intro h
    exact ⟨u, h, by show PyData.eqv (trD1 u) (trD1 u) = true; rw [tr_eqv]; simp⟩
theorem sh_tr1 (t : Int × Str) (h : t.2 ∈ answersS) : SeqAt.shaped (trD1 t) = true := by simp [ansOk h, SeqAt.shaped, trD1, PyData.canLay0, PyData.canLayAll0, PyData.depth, PyData.depthAll]
theorem k_inTr {K : PySem.W.Frag} {H : Hp} {Q : VK} {a b : Addr} {as : List Addr} {ts : List (Int × Str)} {u : Int × Str} (h : TrAt K false H a as ts) (hb : SqT K H b [.int u.1, .str u.2]) (hu : u.2 ∈ answersS) (ht : ∀ t ∈ ts, t.2 ∈ answersS) (q : Q (.bl (decide (u ∈ ts))) H) : rInD K (.ref b) (.ref a) H Q :=
  ⟨trD1 u, ts.map trD1, .tup hb (.cons (.int _) (.cons (.str _) .nil)), h.dp, sh_tr1 u hu, sh_tr ts ht, by rw [tr_any]; exact q⟩
/-! ### how many unlike ones -/
def ddp : List Int → List Int
  | [] => []
  | n :: r => if n ∈ r then ddp r else n :: ddp r
theorem ddp_mem : ∀ {ns : List Int} {k : Int}, k ∈ ddp ns ↔ k ∈ ns
  | [], k => by simp [ddp]
  | n :: r, k => by
    unfold ddp
    split
    · rename_i h
      rw [ddp_mem, List.mem_cons]
      exact ⟨.inr, fun z => z.elim (fun e => e ▸ h) id⟩
    · rw [List.mem_cons, List.mem_cons, ddp_mem]
theorem ddp_nodup : ∀ ns : List Int, (ddp ns).Nodup
  | [] => List.nodup_nil
  | n :: r => by
    unfold ddp
    split
    · exact ddp_nodup r
    · rename_i h
      exact List.nodup_cons.mpr ⟨fun z => h (ddp_mem.mp z), ddp_nodup r⟩
theorem ddp_len : ∀ ns : List Int, (ddp ns).length = unl ns
  | [] => rfl
  | n :: r => by
    unfold ddp unl
    split
    · exact ddp_len r
    · rw [List.length_cons, ddp_len r]
theorem unl_bound {ns : List Int} {n : Nat} (h : ∀ k ∈ ns, 0 ≤ k ∧ k < (n : Int)) : unl ns ≤ n := by
  rw [← ddp_len]
  exact nodup_bound (ddp_nodup ns) fun k hk => h k (ddp_mem.mp hk)
/-- the barred ones, as a law lists them -/
def barL (n : Nat) (ts : List (Int × Str)) : List Int := ((List.range n).filter fun m => decide ((((m : Nat) : Int), ("cannot" : Str)) ∈ ts)).map fun (m : Nat) => (m : Int)
theorem barL_succ (n : Nat) (ts : List (Int × Str)) : barL (n + 1) ts = if (((n : Nat) : Int), ("cannot" : Str)) ∈ ts then barL n ts ++ [((n : Nat) : Int)] else barL n ts := by
  unfold barL
  rw [List.range_succ, List.filter_append, List.map_append, List.filter_cons]
  by_cases h : (((n : Nat) : Int), ("cannot" : Str)) ∈ ts
  · rw [if_pos h, if_pos (by simpa using h)]
    rfl
  · rw [if_neg h, if_neg (by simpa using h)]
    simp
theorem barL_mem {n : Nat} {ts : List (Int × Str)} {k : Int} : k ∈ barL n ts ↔ (0 ≤ k ∧ k < (n : Int)) ∧ (k, ("cannot" : Str)) ∈ ts := by
  unfold barL
  rw [List.mem_map]
  constructor
  · rintro ⟨m, hm, rfl⟩
    obtain ⟨h1, h2⟩ := List.mem_filter.mp hm
    rw [List.mem_range] at h1
    exact ⟨⟨by omega, by omega⟩, of_decide_eq_true h2⟩
  · rintro ⟨⟨h1, h2⟩, h3⟩
    have e : ((k.toNat : Nat) : Int) = k := by omega
    exact ⟨k.toNat, List.mem_filter.mpr ⟨List.mem_range.mpr (by omega), by rw [e]; simpa using h3⟩, e⟩
theorem barL_sorted (n : Nat) (ts : List (Int × Str)) : (barL n ts).Pairwise (· < ·) := by
  induction n with
  | zero => simp [barL]
  | succ n ih =>
    rw [barL_succ]
    split
    · rw [List.pairwise_append]
      refine ⟨ih, by simp, fun a ha b hb => ?_⟩
      have := (barL_mem.mp ha).1
      simp at hb
      omega
    · exact ih
theorem barL_len (n : Nat) (ts : List (Int × Str)) : (barL n ts).length ≤ n := by
  unfold barL
  rw [List.length_map]
  refine Nat.le_trans (List.length_filter_le _ _) ?_
  rw [List.length_range]
  exact Nat.le_refl _
end Bk
namespace Bk
open PySem PySem.Spec PyProof.Rows L2
def spRefused11 (K : PySem.W.Frag) : Sp := fun vs H Q _ => ∃ (p l : Addr) (bs as : List Addr) (rows : List (List Int)) (ts : List (Int × Str)) (m : Int), vs = [.ref p, .ref l, .int m] ∧ NetAt H p bs rows ∧ RowsOk rows ∧ rows.length ≤ 40 ∧ TrAt K false H l as ts ∧ (∀ t ∈ ts, GoodT rows.length t) ∧ ts.length ≤ 60 ∧ smallI m ∧ ¬ goodM rows.length m ∧
  ∀ H', Same H H' → Q (.bl true) H'
def spRight11 (K : PySem.W.Frag) : Sp := fun vs H Q _ => ∃ (p l u : Addr) (bs as : List Addr) (rows : List (List Int)) (ts : List (Int × Str)) (m : Nat), vs = [.ref p, .ref l, .int (m : Nat), .ref u] ∧ NetAt H p bs rows ∧ RowsOk rows ∧ rows.length ≤ 40 ∧ H l = some (.lst (as.map V.ref)) ∧ TrAt K false H l as ts ∧ (∀ t ∈ ts, GoodT rows.length t) ∧ ts.length ≤ 60 ∧ m < rows.length ∧
  H u = some (.lst ((places rows ts m).map V.int)) ∧ ∀ H', Same H H' → Q (.bl true) H'
def spBarredR (K : PySem.W.Frag) : Sp := fun vs H Q _ => ∃ (p l : Addr) (bs as : List Addr) (rows : List (List Int)) (ts : List (Int × Str)), vs = [.ref p, .ref l] ∧ NetAt H p bs rows ∧ RowsOk rows ∧ rows.length ≤ 40 ∧ H l = some (.lst (as.map V.ref)) ∧ TrAt K false H l as ts ∧ (∀ t ∈ ts, GoodT rows.length t) ∧ ts.length ≤ 60 ∧
  ∀ H', Same H H' → Q (.bl true) H'
end Bk
namespace Bk
open PySem L2
theorem units65 {k : Nat} {A : Around} (r : Room k A) : A.units + 65 < cLine := by have := r.un; omega
end Bk
/-! rows that may be no net: lists of lists, spoiled, what is due -/
namespace Bk
open PySem PySem.Spec PyProof.Rows L2
structure LL (H : Hp) (l : Addr) (as : List Addr) (rows : List (List Int)) : Prop where
  hl : H l = some (.lst (as.map V.ref))
  rw : Rw .lst H as rows
theorem LL.same {H H' : Hp} {l : Addr} {as : List Addr} {rows : List (List Int)} (h : LL H l as rows) (s : Same H H') : LL H' l as rows := ⟨s _ _ h.hl, h.rw.same s⟩
theorem GoodNet.of {rows : List (List Int)} (ok : RowsOk rows) (h1 : 1 ≤ rows.length) (h2 : rows.length ≤ 40) : GoodNet rows := ⟨h1, h2, fun j r hr => ⟨(ok j r hr).1, (ok j r hr).2.2⟩⟩
theorem due_not_good {rows : List (List Int)} {v : Int} (h : DueNet rows v) : ¬ GoodNet rows := fun g => by
  rcases h with ⟨_, h⟩ | ⟨_, _, i, row, _, hr, hb, _⟩
  · exact h ⟨g.1, g.2.1⟩
  · exact hb (g.2.2 i row hr)
theorem dueNet_unique {rows : List (List Int)} {v u : Int} (h : DueNet rows v) (k : DueNet rows u) : v = u := by
  rcases h with ⟨rfl, h⟩ | ⟨h1, h2, i, row, rfl, hr, hb, hg⟩
  · rcases k with ⟨rfl, _⟩ | ⟨k1, k2, _⟩
    · rfl
    · exact absurd ⟨k1, k2⟩ h
  · rcases k with ⟨_, k⟩ | ⟨_, _, j, row2, rfl, kr, kb, kg⟩
    · exact absurd ⟨h1, h2⟩ k
    · rcases Nat.lt_trichotomy i j with z | z | z
      · exact absurd (kg i row z hr) hb
      · rw [z]
      · exact absurd (hg j row2 z kr) kb
def spRow2 : Sp := fun vs H Q _ => ∃ (G : Hp) (d l : Addr) (as : List Addr) (rows : List (List Int)) (b : Nat), vs = [.ref d, .ref l] ∧ FeedAt G H d ∧ LL G l as rows ∧ 1 ≤ rows.length ∧ rows.length ≤ 40 ∧ (∀ r ∈ rows, r.length ≤ b) ∧ b ≤ 2000 ∧
  ∀ (l' : Addr) (as' : List Addr) (rows' : List (List Int)) (G' H' : Hp), Same G G' → LL G' l' as' rows' → rows'.length = rows.length → (∀ r ∈ rows', r.length ≤ b + 4) → FeedAt G' H' d → Q (.ref l') H'
def spDue2 (K : PySem.W.Frag) : Sp := fun vs H Q _ => ∃ (l : Addr) (as : List Addr) (rows : List (List Int)), vs = [.ref l] ∧ LL H l as rows ∧ rows.length ≤ 1000 ∧ (∀ r ∈ rows, r.length ≤ 4000) ∧
  (∀ v, DueNet rows v → ∀ H', Same H H' → Q (.int v) H') ∧ (GoodNet rows → ∀ H', Same H H' → Q .non H')
def spTold2 : Sp := fun vs H Q _ => ∃ (l : Addr) (as : List Addr) (rows : List (List Int)) (fixed : Bool), vs = [.ref l, .bl fixed] ∧ LL H l as rows ∧ rows.length ≤ 1000 ∧ (∀ r ∈ rows, r.length ≤ 4000) ∧
  (∀ v, DueNet rows v → ∀ H', Same H H' → Q (.int v) H') ∧ (GoodNet rows → ∀ H', Same H H' → Q .non H')
theorem cut_lo (xs : List V) (n : Nat) : cutV xs (some (n : Int)) none = xs.drop n := by
  unfold cutV
  rw [show HT.sIx xs.length 0 (some (n : Int)) = min n xs.length from HT.sIx_nat _ _ n, HT.sIx_none]
  by_cases h : n ≤ xs.length
  · rw [Nat.min_eq_left h]
    exact List.take_of_length_le (by rw [List.length_drop]; exact Nat.le_refl _)
  · rw [Nat.min_eq_right (by omega), List.drop_of_length_le (Nat.le_refl _), List.drop_of_length_le (by omega)]
    simp
theorem eqv_rows_nil (rows : List (List Int)) : PyData.eqv (rowsD rows) (.list []) = decide (rows = []) := by
  cases rows with
  | nil => rfl
  | cons a r => rfl
theorem k_eqRowsNil {K : PySem.W.Frag} {H : Hp} {Q : VK} {p q : Addr} {as : List Addr} {rows : List (List Int)} (h1 : LL H p as rows) (h2 : H q = some (.lst [])) (h : Q (.bl (decide (rows = []))) H) : rEqD K (.ref p) (.ref q) H Q := by
  refine k_eqD (dp_rows (sql_lst h1.hl) h1.rw.k) (.lst (sql_lst h2) .nil) (sh_rows rows) rfl ?_
  rw [eqv_rows_nil]
  exact h
/-- one row of a list of lists is exchanged -/
theorem LL.setRow {H : Hp} {as : List Addr} {rows : List (List Int)} {m : Nat} {r : Addr} {row : List Int} (h : Rw .lst H as rows) (hr : H r = some (.lst (row.map V.int))) (hm : m < rows.length) :
    Rw .lst H (as.take m ++ [r] ++ as.drop (m + 1)) (rows.take m ++ [row] ++ rows.drop (m + 1)) := by
  have hal := h.1
  refine ⟨by simp [hal], fun i b x h1 h2 => ?_⟩
  have lm : (as.take m).length = m := by rw [List.length_take]; omega
  have lr : (rows.take m).length = m := by rw [List.length_take]; omega
  rcases Nat.lt_trichotomy i m with z | z | z
  · rw [List.append_assoc, List.getElem?_append_left (by omega), List.getElem?_take_of_lt z] at h1 h2
    exact h.2 i b x h1 h2
  · subst z
    rw [List.append_assoc, List.getElem?_append_right (by omega)] at h1 h2
    rw [lm, Nat.sub_self] at h1
    rw [lr, Nat.sub_self] at h2
    cases h1
    cases h2
    exact hr
  · rw [List.getElem?_append_right (by simp; omega)] at h1 h2
    rw [List.length_append, lm, List.length_singleton, List.getElem?_drop] at h1
    rw [List.length_append, lr, List.length_singleton, List.getElem?_drop] at h2
    rw [show m + 1 + (i - (m + 1)) = i by omega] at h1 h2
    exact h.2 i b x h1 h2
theorem nodup_snoc {row : List Int} : row.Nodup ↔ ∀ k, k < row.length → ∀ x, row[k]? = some x → x ∉ row.take k := by
  constructor
  · intro h k hk x hx hm
    obtain ⟨j, hj⟩ := List.mem_iff_getElem?.mp hm
    have lj : j < k := by
      have := (List.getElem?_eq_some_iff.mp hj).1
      rw [List.length_take] at this
      omega
    rw [List.getElem?_take_of_lt lj] at hj
    exact absurd (nd_ix h hj hx) (by omega)
  · intro h
    have step : ∀ n, n ≤ row.length → (row.take n).Nodup := by
      intro n
      induction n with
      | zero => exact fun _ => by simp
      | succ n ih =>
        intro hn
        have hx := List.getElem?_eq_getElem (l := row) (i := n) (by omega)
        rw [take_next hx]
        refine List.nodup_append.mpr ⟨ih (by omega), by simp, fun y hy z hz e => ?_⟩
        simp at hz
        subst hz
        subst e
        exact h n (by omega) _ hx hy
    have := step row.length (Nat.le_refl _)
    rwa [List.take_length] at this
end Bk
namespace Bk
open PySem PySem.Spec PyProof.Rows L2
theorem k_chainVar {σ : L2.St} {H : Hp} {Q : VK} {j : Nat} {m b : Int} (h : σ[j]? = some (some (.int b))) (q : Q (.bl (decide (0 ≤ m ∧ m < b))) H) : kChain (rI0 fun i j => V.bl (decide (i < j))) (tVar j) σ (V.int m) Q (V.bl (decide (0 ≤ m))) H := by
  refine k_chain (fun h0 => ?_) (fun h0 => ?_)
  · refine r_var h (k_rI0 ?_)
    have e : decide (m < b) = decide (0 ≤ m ∧ m < b) := by
      have := of_decide_eq_true h0
      by_cases c : m < b <;> simp [c, this]
    rw [e]
    exact q
  · have e : false = decide (0 ≤ m ∧ m < b) := (decide_eq_false fun z => of_decide_eq_false h0 z.1).symm
    rw [e]
    exact q
theorem atI_int {row : List Int} {i : Int} {e : Int} (h0 : 0 ≤ i) (h : row[i.toNat]? = some e) : atI (row.map V.int) i = some (.int e) := by
  have ei : ((i.toNat : Nat) : Int) = i := by omega
  rw [← ei]
  refine atI_nat ?_
  rw [List.getElem?_map]
  have : (((i.toNat : Nat) : Int)).toNat = i.toNat := by omega
  simp [h]
end Bk
namespace Bk
open PySem PySem.Spec PyProof.Rows L2
/-- the value that is due of rows -/
def ValN (rows : List (List Int)) (u : V) : Prop := (∀ v, DueNet rows v → u = .int v) ∧ (GoodNet rows → u = .non) ∧ scal u u = true
theorem valN_ex (rows : List (List Int)) : ∃ u, ValN rows u := by
  rcases net_or rows with g | ⟨v, h⟩
  · exact ⟨.non, fun v h => absurd g (due_not_good h), fun _ => rfl, rfl⟩
  · exact ⟨.int v, fun v' h' => by rw [dueNet_unique h h'], fun g => absurd g (due_not_good h), rfl⟩
theorem valN_good {rows : List (List Int)} {u : V} (h : ValN rows u) (g : GoodNet rows) : u = .non := h.2.1 g
def spDue2u : Sp := fun vs H Q _ => ∃ (l : Addr) (as : List Addr) (rows : List (List Int)) (u : V), vs = [.ref l] ∧ LL H l as rows ∧ rows.length ≤ 1000 ∧ (∀ r ∈ rows, r.length ≤ 4000) ∧ ValN rows u ∧ ∀ H', Same H H' → Q u H'
def spTold2u : Sp := fun vs H Q _ => ∃ (l : Addr) (as : List Addr) (rows : List (List Int)) (fixed : Bool) (u : V), vs = [.ref l, .bl fixed] ∧ LL H l as rows ∧ rows.length ≤ 1000 ∧ (∀ r ∈ rows, r.length ≤ 4000) ∧ ValN rows u ∧ ∀ H', Same H H' → Q u H'
theorem due2_weak {K : PySem.W.Frag} {vs : List V} {H : Hp} {Q : VK} {E : XK} (h : spDue2u vs H Q E) : spDue2 K vs H Q E := by
  obtain ⟨l, as, rows, u, e, L, h1, h2, hu, q⟩ := h
  exact ⟨l, as, rows, e, L, h1, h2, fun v hv H' s => by rw [← hu.1 v hv]; exact q H' s, fun g H' s => by rw [← hu.2.1 g]; exact q H' s⟩
theorem told2_weak {vs : List V} {H : Hp} {Q : VK} {E : XK} (h : spTold2u vs H Q E) : spTold2 vs H Q E := by
  obtain ⟨l, as, rows, fixed, u, e, L, h1, h2, hu, q⟩ := h
  exact ⟨l, as, rows, fixed, e, L, h1, h2, fun v hv H' s => by rw [← hu.1 v hv]; exact q H' s, fun g H' s => by rw [← hu.2.1 g]; exact q H' s⟩
theorem rw_new {mk : List V → HO} {H : Hp} {cs : List Addr} {rows : List (List Int)} {c : Addr} {o : HO} (h : Rw mk H cs rows) (hc : H c = none) : Rw mk (upd H c o) cs rows := h.same (L2.Same.new hc)
end Bk
namespace Bk
open PySem PySem.Spec PyProof.Rows L2
theorem Rw.append {mk : List V → HO} {H : Hp} {as cs : List Addr} {rows rs : List (List Int)} (h : Rw mk H as rows) (k : Rw mk H cs rs) : Rw mk H (as ++ cs) (rows ++ rs) := by
  refine ⟨by simp [h.1, k.1], fun i b r h1 h2 => ?_⟩
  by_cases lt : i < as.length
  · rw [List.getElem?_append_left lt] at h1
    rw [List.getElem?_append_left (by rw [← h.1]; exact lt)] at h2
    exact h.2 i b r h1 h2
  · rw [List.getElem?_append_right (by omega)] at h1
    rw [List.getElem?_append_right (by rw [← h.1]; omega), ← h.1] at h2
    exact k.2 _ b r h1 h2
theorem mul_small {a b : Int} (a0 : 0 ≤ a) (a1 : a < 20) (b0 : 0 ≤ b) (b1 : b < 2) : 0 ≤ a * b ∧ a * b < 20 := by
  rcases (show b = 0 ∨ b = 1 by omega) with z | z <;> subst z <;> omega
end Bk
/-! defs with defaults -/
namespace Bk
open PySem PySem.Spec PyProof.Rows L2
structure DefAtD (K : PySem.W.Frag) (mg : Str → Option Value) (x : Str) (st : Stmt) (dvs : List V) : Prop where
  ex : ∃ f fd, FunD K x x (defArgs st) (defBody st) (defScope st) dvs [] f fd ∧ mg x = some (.ref f)
structure DefOkD (P : Program) (w : World) (K : PySem.W.Frag) (mg : Str → Option Value) (base : Heap) (CX : CXT) (k : Nat) (x : Str) (st : Stmt) (dvs : List V) (ps : List Str) (sp : Sp) : Prop where
  ex : ∃ f fd, FunD K x x (defArgs st) (defBody st) (defScope st) dvs [] f fd ∧ FnOk P w K mg base CX k f fd ps sp ∧ mg x = some (.ref f)
section
variable {P : Program} {w : World} {K : PySem.W.Frag} {mg : Str → Option Value} {base : Heap} {CX : CXT}
theorem DefAtD.okX {x : Str} {st : Stmt} {N ps : List Str} {dvs : List V} {k : Nat} {sp : Sp} (T : DefAtD K mg x st dvs) (S : FnScope N ps (defScope st)) (len : ∀ vs H Q E, sp vs H Q E → vs.length = ps.length)
    (hbody : ∀ (f : Addr) (cdv : Value) (A : Around) (outer : List Env) (s : Shared) (H : Hp) (vs : List V) (Q : VK) (E : XK), Room k (A.deeper (envOfC x (defScope st) s.heap.objs.size f cdv)) → sp vs H Q E →
      ∃ t, PSs (cxOf CX P w K mg base N x (defScope st) f cdv A outer s H E) (defBody st) t ∧ t { nx := fun _ H' => Q .non H', rt := Q } (start N vs) H) : DefOkD P w K mg base CX (k + 1) x st dvs ps sp := by
  obtain ⟨f, fd, F, hm⟩ := T.ex
  exact ⟨f, fd, F, F.ok S len fun cdv A outer s H vs Q E hr hsp => hbody f cdv A outer s H vs Q E hr hsp, hm⟩
theorem defAtD_mk {h : Heap} {x : Str} {st : Stmt} {f T : Addr} {oc : Value} {od an : Option Addr} {osl : Array (Option Value)} {kV doc pm cdv ct : Value} {dvs : List V} {o : Obj} {its : List Value} {n : Nat} (X : K.In h) (G : h.Ns mainGlobals mg)
    (a : PySem.W.nsIn K mainGlobals x = some (some (.ref f))) (l : K.lookup f = some ⟨oc, od, .func (PySem.W.fnOf x x (defArgs st) (defBody st) (defScope st) (.ref T) kV doc pm an cdv ct), osl⟩)
    (c : PySem.W.codeIn K cdv x = true) (k : PySem.W.keepIn K (.ref f) = true) (hd : dvs ≠ []) (lT : K.lookup T = some o) (oT : o.data = .seq its.toArray n) (v : Vals dvs its) : DefAtD K mg x st dvs :=
  ⟨f, _, ⟨⟨oc, od, .ref T, kV, doc, pm, an, cdv, ct, osl, rfl, l, c, .inr ⟨hd, T, o, its, n, rfl, lT, oT, v⟩, .inl rfl⟩, k⟩, PySem.W.mg_of X G a⟩
end
/-- how a def with defaults binds: all written -/
def BndA (x : Str) (st : Stmt) (ps : List Str) (m : Nat) : Prop := ∀ (T : Addr) (kV doc pm : Value) (an : Option Addr) (cdv ct : Value) (us its : List Value), us.length = ps.length → its.length = m →
  ∃ k, bindArgs (PySem.W.fnOf x x (defArgs st) (defBody st) (defScope st) (.ref T) kV doc pm an cdv ct) ⟨us, []⟩ = seqItems? (.ref T) >>= k ∧ k (some its.toArray) = pure (ps.zip us)
/-- .. the defaults fill up -/
def BndD (x : Str) (st : Stmt) (ps : List Str) (n m : Nat) : Prop := ∀ (T : Addr) (kV doc pm : Value) (an : Option Addr) (cdv ct : Value) (us its : List Value), us.length = n → its.length = m →
  ∃ k, bindArgs (PySem.W.fnOf x x (defArgs st) (defBody st) (defScope st) (.ref T) kV doc pm an cdv ct) ⟨us, []⟩ = seqItems? (.ref T) >>= k ∧ k (some its.toArray) = pure (ps.zip (us ++ its))
/-- .. the last ones by keywords -/
def BndK (x : Str) (st : Stmt) (ps ks : List Str) (n m : Nat) : Prop := ∀ (T : Addr) (kV doc pm : Value) (an : Option Addr) (cdv ct : Value) (us its ws : List Value), us.length = n → its.length = m → ws.length = ks.length →
  ∃ k, bindArgs (PySem.W.fnOf x x (defArgs st) (defBody st) (defScope st) (.ref T) kV doc pm an cdv ct) ⟨us, ks.zip ws⟩ = seqItems? (.ref T) >>= k ∧ k (some its.toArray) = pure (ps.zip (us ++ ws))
def kCallN (n m : Nat) (sp : Sp) (E : XK) (Q : VK) (vs zs : List V) (H2 : Hp) : Prop := vs.length = n ∧ zs.length = m ∧ sp (vs ++ zs) H2 Q E
section
variable {X : Cx} {CX : CXT} {k n : Nat} {ps ks : List Str} {dvs : List V} {sp : Sp} {E : XK} {x : Str} {st : Stmt} {p pos : Pos} {e : Expr} {es : List Expr} {kws : List Keyword} {t tk : TA}
theorem DefOkD.bindA {K : PySem.W.Frag} {f : Addr} {fd : FuncData} (F : FunD K x x (defArgs st) (defBody st) (defScope st) dvs [] f fd) (hd : dvs ≠ []) (b : BndA x st ps dvs.length) : Binds K fd ps [] := by
  obtain ⟨ds, v, hb⟩ := F.binds1 (ps := ps) ps.length dvs.length hd (by omega) fun T kV doc pm an cdv ct us its h1 h2 => by
    obtain ⟨k, e1, e2⟩ := b T kV doc pm an cdv ct us its h1 h2
    exact ⟨k, e1, by rw [e2, List.drop_of_length_le (by omega), List.append_nil]⟩
  rw [List.drop_of_length_le (Nat.le_refl _)] at v
  cases v
  exact hb
theorem pe_callDA (F : DefOkD X.prog X.w X.K X.mg X.base CX k x st dvs ps sp) (hd : dvs ≠ []) (b : BndA x st ps dvs.length) (hr : Room k X.A) (hg : Gl X x) (hx : Passes CX X E) (ha : PA X (e :: es) t) (hdb : (x == ("__debug__" : Str)) = false := by decide)
    (he : starEach (e :: es) X.env = (false, eval e X.env) :: starEach es X.env := by rfl) (hpl : (backTo pos (starEach es X.env)).any (·.1) = false := by rfl) : PE X (.Call (.Name x p) (e :: es) [] pos) (tCall sp [] E t) := by
  obtain ⟨f, fd, D, F, hm⟩ := F.ex
  exact pe_call F hr hg hm D.kp (DefOkD.bindA D hd b) .nil hx ha hdb he hpl
theorem pe_callDAS {E : L2.St → XK} (F : DefOkD X.prog X.w X.K X.mg X.base CX k x st dvs ps sp) (hd : dvs ≠ []) (b : BndA x st ps dvs.length) (hr : Room k X.A) (hg : Gl X x) (hx : ∀ σ, PassesAt CX X σ (E σ)) (ha : PA X (e :: es) t) (hdb : (x == ("__debug__" : Str)) = false := by decide)
    (he : starEach (e :: es) X.env = (false, eval e X.env) :: starEach es X.env := by rfl) (hpl : (backTo pos (starEach es X.env)).any (·.1) = false := by rfl) : PE X (.Call (.Name x p) (e :: es) [] pos) (tCallS sp E t) := by
  obtain ⟨f, fd, D, F, hm⟩ := F.ex
  exact pe_callS F hr hg hm D.kp (DefOkD.bindA D hd b) hx ha hdb he hpl
theorem pe_callDF (F : DefOkD X.prog X.w X.K X.mg X.base CX k x st dvs ps sp) (hd : dvs ≠ []) (n : Nat) (hn : n + dvs.length = ps.length) (b : BndD x st ps n dvs.length) (hr : Room k X.A) (hg : Gl X x) (hx : Passes CX X E) (ha : PA X (e :: es) t) (hdb : (x == ("__debug__" : Str)) = false := by decide)
    (he : starEach (e :: es) X.env = (false, eval e X.env) :: starEach es X.env := by rfl) (hpl : (backTo pos (starEach es X.env)).any (·.1) = false := by rfl) : PE X (.Call (.Name x p) (e :: es) [] pos) (tCall sp dvs E t) := by
  obtain ⟨f, fd, D, F, hm⟩ := F.ex
  obtain ⟨ds, v, hb⟩ := D.binds1 (ps := ps) n 0 hd (by omega) b
  exact pe_call F hr hg hm D.kp hb v hx ha hdb he hpl
theorem pe_callDK (F : DefOkD X.prog X.w X.K X.mg X.base CX k x st dvs ps sp) (hd : dvs ≠ []) (n : Nat) (b : BndK x st ps ks n dvs.length) (hr : Room k X.A) (hg : Gl X x) (hx : Passes CX X E) (ha : PA X (e :: es) t) (hkw : PK X kws tk)
    (hall : (backToKw pos (keywordEach kws X.env)).all (·.1.isSome) = true := by rfl) (hks : (backToKw pos (keywordEach kws X.env)).filterMap (·.1) = ks := by rfl) (hdb : (x == ("__debug__" : Str)) = false := by decide)
    (he : starEach (e :: es) X.env = (false, eval e X.env) :: starEach es X.env := by rfl) (hpl : ((backTo pos (starEach (e :: es) X.env)).any (·.1) || (backToKw pos (keywordEach kws X.env)).any (·.1.isNone)) = false := by rfl) :
    PE X (.Call (.Name x p) (e :: es) kws pos) (tCallN n ks.length sp (fun vs zs => vs ++ zs) E t tk) := by
  obtain ⟨f, fd, D, F, hm⟩ := F.ex
  obtain ⟨its, hb⟩ := D.kbindsD (ps := ps) n ks (fun us _ ws => us ++ ws) hd (fun r1 _ r3 => r1.append r3) b
  exact pe_callN F hr hg hm D.kp hb hx ha hkw hall hks hdb he hpl
end
section
variable {σ : L2.St} {H : Hp} {Q : VK}
theorem r_callN {n m : Nat} {sp : Sp} {E : XK} {t tk : TA} (h : t σ H fun vs H1 => tk σ H1 fun zs H2 => kCallN n m sp E Q vs zs H2) : tCallN n m sp (fun vs zs => vs ++ zs) E t tk σ H Q := h
theorem k_callN {n m : Nat} {sp : Sp} {E : XK} {vs zs : List V} (h1 : vs.length = n) (h2 : zs.length = m) (q : sp (vs ++ zs) H Q E) : kCallN n m sp E Q vs zs H := ⟨h1, h2, q⟩
end
/-! ### stands -/
structure StAt (K : PySem.W.Frag) (kd : Bool) (H : Hp) (a : Addr) (as : List Addr) (ps : List (Int × Int)) : Prop where
  hp : SqK K kd H a (as.map V.ref)
  len : as.length = ps.length
  at' : ∀ (i : Nat) (b : Addr) (t : Int × Int), as[i]? = some b → ps[i]? = some t → SqT K H b [.int t.1, .int t.2]
theorem StAt.same {K : PySem.W.Frag} {kd : Bool} {H H' : Hp} {a : Addr} {as : List Addr} {ps : List (Int × Int)} (T : StAt K kd H a as ps) (s : Same H H') : StAt K kd H' a as ps := ⟨sqk_new s T.hp, T.len, fun i b t h1 h2 => s.tup (T.at' i b t h1 h2)⟩
/-- pairs laid as tuples -/
def PrAt (H : Hp) (as : List Addr) (ps : List (Int × Int)) : Prop := as.length = ps.length ∧ ∀ (i : Nat) (b : Addr) (t : Int × Int), as[i]? = some b → ps[i]? = some t → H b = some (.tup [.int t.1, .int t.2])
theorem PrAt.same {H H' : Hp} {as : List Addr} {ps : List (Int × Int)} (h : PrAt H as ps) (s : Same H H') : PrAt H' as ps := ⟨h.1, fun i b t h1 h2 => s _ _ (h.2 i b t h1 h2)⟩
theorem PrAt.nil {H : Hp} : PrAt H [] [] := ⟨rfl, fun i b t h _ => by simp at h⟩
theorem PrAt.snoc {H : Hp} {as : List Addr} {ps : List (Int × Int)} {b : Addr} {t : Int × Int} (h : PrAt H as ps) (hb : H b = some (.tup [.int t.1, .int t.2])) : PrAt H (as ++ [b]) (ps ++ [t]) := by
  refine ⟨by simp [h.1], fun i c r h1 h2 => ?_⟩
  by_cases lt : i < as.length
  · rw [List.getElem?_append_left lt] at h1
    rw [List.getElem?_append_left (by rw [← h.1]; exact lt)] at h2
    exact h.2 i c r h1 h2
  · rw [List.getElem?_append_right (by omega)] at h1
    rw [List.getElem?_append_right (by rw [← h.1]; omega)] at h2
    rw [← h.1] at h2
    have e : i - as.length = 0 := by
      have := (List.getElem?_eq_some_iff.mp h1).1
      rw [List.length_singleton] at this
      omega
    rw [e] at h1 h2
    cases h1
    cases h2
    exact hb
theorem PrAt.other {H : Hp} {as : List Addr} {ps : List (Int × Int)} {p : Addr} {o u : HO} (h : PrAt H as ps) (hp : H p = some u) (hu : ∀ xs, u ≠ .tup xs) : PrAt (upd H p o) as ps := ⟨h.1, fun i b t h1 h2 => by
  have := h.2 i b t h1 h2
  have nb : b ≠ p := by
    rintro rfl
    rw [hp] at this
    cases this
    exact hu _ rfl
  rw [upd_ne nb]
  exact this⟩
theorem PrAt.st {K : PySem.W.Frag} {kd : Bool} {H : Hp} {a : Addr} {as : List Addr} {ps : List (Int × Int)} (h : PrAt H as ps) (ha : SqK K kd H a (as.map V.ref)) : StAt K kd H a as ps := ⟨ha, h.1, fun i b t h1 h2 => sqt_tup (h.2 i b t h1 h2)⟩
/-- what comes behind a trial -/
noncomputable def cnt (rows : List (List Int)) (x : Int × Str) (p : Int × Int) : Int × Int := (p.1, if spk rows x p.1.toNat then p.2 + 1 else p.2)
noncomputable def behL (rows : List (List Int)) (x : Int × Str) (lies : Int) (ps : List (Int × Int)) : List (Int × Int) := (ps.map (cnt rows x)).filter fun p => decide (p.2 ≤ lies)
def StOk (n : Nat) (lies : Int) (ps : List (Int × Int)) : Prop := ps.length ≤ 200 ∧ ∀ p ∈ ps, goodM n p.1 ∧ 0 ≤ p.2 ∧ p.2 ≤ lies
def spBehindBy (K : PySem.W.Frag) : Sp := fun vs H Q _ => ∃ (t a : Addr) (as : List Addr) (ns : List Int) (ps : List (Int × Int)) (s : Str) (lies : Int), vs = [.ref t, .ref a, .str s, .int lies] ∧ H t = some (.tup (ns.map V.int)) ∧ StAt K true H a as ps ∧ ps.length ≤ 200 ∧
  ∀ (l : Addr) (cs : List Addr) (H' : Hp), Same H H' → H l = none → H' l = some (.tup (cs.map V.ref)) → PrAt H' cs ((ps.map fun p => (p.1, if decide (p.1 ∈ ns) = decide (s = ("bad" : Str)) then p.2 else p.2 + 1)).filter fun p => decide (p.2 ≤ lies)) → Q (.ref l) H'
def spBehind (K : PySem.W.Frag) (C : Addr) : Sp := fun vs H Q E => ∃ (p a : Addr) (bs as : List Addr) (rows : List (List Int)) (ps : List (Int × Int)) (m : Int) (s : Str) (lies : Int), vs = [.ref p, .ref a, .int m, .str s, .int lies] ∧ NetAt H p bs rows ∧ RowsOk rows ∧ rows.length ≤ 40 ∧ H a = some (.tup (as.map V.ref)) ∧ PrAt H as ps ∧ StOk rows.length lies ps ∧ s ∈ answersS ∧ smallI m ∧
  (∀ m' : Nat, m = (m' : Int) → m' < rows.length → ∀ (l : Addr) (cs : List Addr) (H' : Hp), Same H H' → H' l = some (.tup (cs.map V.ref)) → PrAt H' cs (behL rows (m, s) lies ps) → Q (.ref l) H') ∧ badE C rows.length [m] H E
def spMakesOf (K : PySem.W.Frag) : Sp := fun vs H Q _ => ∃ (a : Addr) (as : List Addr) (ps : List (Int × Int)), vs = [.ref a] ∧ H a = some (.tup (as.map V.ref)) ∧ PrAt H as ps ∧ ps.length ≤ 200 ∧ ∀ (t : Addr) (H' : Hp), Same H H' → H t = none → H' t = some (.tup ((ps.map (·.1)).map V.int)) → Q (.ref t) H'
def spStandOf (K : PySem.W.Frag) : Sp := fun vs H Q _ => ∃ (kd : Bool) (a : Addr) (ms : List Int), vs = [.ref a] ∧ SqK K kd H a (ms.map V.int) ∧ ms.length ≤ 1000 ∧ (∀ m ∈ ms, 0 ≤ m ∧ m < 40) ∧
  ∀ (l : Addr) (cs : List Addr) (ns : List Int) (H' : Hp), Same H H' → H l = none → H' l = some (.tup (cs.map V.ref)) → ns.Pairwise (· < ·) → (∀ k, k ∈ ns ↔ k ∈ ms) → PrAt H' cs (ns.map fun k => (k, 0)) → Q (.ref l) H'
end Bk
namespace Bk
open PySem PySem.Spec PyProof.Rows L2
theorem k_eqB {H : Hp} {Q : VK} {a b : Bool} (h : Q (.bl (decide (a = b))) H) : rEq (.bl a) (.bl b) H Q := ⟨rfl, by
  have e : decide (V.bl a = V.bl b) = decide (a = b) := by
    by_cases q : a = b
    · simp [q]
    · have : ¬ V.bl a = V.bl b := fun z => q (V.bl.inj z)
      simp [q, this]
  rw [e]; exact h⟩
theorem k_cutIfE {σ : L2.St} {H : Hp} {Q : VK} {t u : TE} {b : Bool} (I : V → Hp → Prop) (h2 : ∀ v H, I v H → Q v H) (h1 : ∀ M : VK, (∀ v H, I v H → M v H) → kIfE t u σ M b H) : kIfE t u σ Q b H := h1 Q h2
def addA (ns : List Int) (s : Str) (p : Int × Int) : Int × Int := (p.1, if decide (p.1 ∈ ns) = decide (s = ("bad" : Str)) then p.2 else p.2 + 1)
end Bk
/-! stands compared -/
namespace Bk
open PySem PySem.Spec PyProof.Rows L2
def stD1 (t : Int × Int) : PyData := .tuple [.int t.1, .int t.2]
def stD (ps : List (Int × Int)) : PyData := .tuple (ps.map stD1)
theorem dp_stA {K : PySem.W.Frag} {H : Hp} : ∀ {as : List Addr} {ps : List (Int × Int)}, PrAt H as ps → DpAll K H (as.map V.ref) (ps.map stD1)
  | [], [], _ => .nil
  | [], _ :: _, h => by have := h.1; simp at this
  | _ :: _, [], h => by have := h.1; simp at this
  | a :: as, t :: ps, h => .cons (.tup (sqt_tup (h.2 0 a t rfl rfl)) (.cons (.int _) (.cons (.int _) .nil))) (dp_stA ⟨by have := h.1; simpa using this, fun i b t h1 h2 => h.2 (i + 1) b t (by simpa using h1) (by simpa using h2)⟩)
theorem sh_stA : ∀ ps : List (Int × Int), PyData.canLayAll0 (ps.map stD1) = true ∧ PyData.depthAll (ps.map stD1) ≤ 1
  | [] => ⟨rfl, Nat.zero_le _⟩
  | t :: ps => by
    obtain ⟨h1, h2⟩ := sh_stA ps
    constructor
    · simp [PyData.canLayAll0, PyData.canLay0, stD1, h1]
    · simp [PyData.depthAll, PyData.depth, stD1]
      omega
theorem sh_st (ps : List (Int × Int)) : SeqAt.shaped (stD ps) = true := by
  obtain ⟨h1, h2⟩ := sh_stA ps
  simp [SeqAt.shaped, stD, PyData.canLay0, PyData.depth, h1]
  omega
theorem dp_st {K : PySem.W.Frag} {H : Hp} {a : Addr} {as : List Addr} {ps : List (Int × Int)} (h : H a = some (.tup (as.map V.ref))) (R : PrAt H as ps) : Dp K H (.ref a) (stD ps) := .tup (sqt_tup h) (dp_stA R)
theorem k_neSt {K : PySem.W.Frag} {H : Hp} {Q : VK} {a b : Addr} {as bs : List Addr} {ps : List (Int × Int)} (h1 : H a = some (.tup (as.map V.ref))) (r1 : PrAt H as ps) (h2 : H b = some (.tup (bs.map V.ref))) (r2 : PrAt H bs ps) (q : Q (.bl false) H) : rNeD K (.ref a) (.ref b) H Q := by
  refine k_neD (dp_st h1 r1) (dp_st h2 r2) (sh_st ps) (sh_st ps) ?_
  rw [SeqAt.eqv_refl _ (SeqAt.canLay_of_shaped (sh_st ps))]
  exact q
theorem k_eqSt {K : PySem.W.Frag} {H : Hp} {Q : VK} {a b : Addr} {as bs : List Addr} {ps : List (Int × Int)} (h1 : H a = some (.tup (as.map V.ref))) (r1 : PrAt H as ps) (h2 : H b = some (.tup (bs.map V.ref))) (r2 : PrAt H bs ps) (q : Q (.bl true) H) : rEqD K (.ref a) (.ref b) H Q := by
  refine k_eqD (dp_st h1 r1) (dp_st h2 r2) (sh_st ps) (sh_st ps) ?_
  rw [SeqAt.eqv_refl _ (SeqAt.canLay_of_shaped (sh_st ps))]
  exact q
def spIsStand : Sp := fun vs H Q _ => ∃ (a : Addr) (as : List Addr) (ps : List (Int × Int)), vs = [.ref a] ∧ H a = some (.tup (as.map V.ref)) ∧ PrAt H as ps ∧ ∀ H', Same H H' → Q (.bl true) H'
def spBehR (K : PySem.W.Frag) : Sp := fun vs H Q _ => ∃ (p o a t : Addr) (bs ds as : List Addr) (rows : List (List Int)) (ps : List (Int × Int)) (x : Int × Str) (lies : Int), vs = [.ref p, .ref o, .ref a, .ref t, .int lies] ∧ NetAt H p bs rows ∧ RowsOk rows ∧ rows.length ≤ 40 ∧ OldsAt H o ds rows rows.length ∧ H a = some (.tup (as.map V.ref)) ∧ PrAt H as ps ∧ StOk rows.length lies ps ∧
  H t = some (.tup [.int x.1, .str x.2]) ∧ GoodT rows.length x ∧ 0 ≤ lies ∧ ∀ H', Same H H' → Q (.bl true) H'
def spMakesR : Sp := fun vs H Q _ => ∃ (G : Hp) (d a : Addr) (as : List Addr) (ps : List (Int × Int)) (n : Nat), vs = [.ref d, .ref a] ∧ FeedL G H d ∧ G a = some (.tup (as.map V.ref)) ∧ PrAt G as ps ∧ ps.length ≤ 40 ∧ n ≤ 40 ∧ (∀ p ∈ ps, goodM n p.1) ∧ (ps.map (·.1)).Pairwise (· < ·) ∧
  ∀ H', FeedL G H' d → Q (.bl true) H'
def spRefused16 : Sp := fun vs H Q _ => ∃ (p a : Addr) (bs as : List Addr) (rows : List (List Int)) (ps : List (Int × Int)) (m : Int), vs = [.ref p, .ref a, .int m] ∧ NetAt H p bs rows ∧ RowsOk rows ∧ rows.length ≤ 40 ∧ H a = some (.tup (as.map V.ref)) ∧ PrAt H as ps ∧ StOk rows.length 3 ps ∧ smallI m ∧ ¬ goodM rows.length m ∧
  ∀ H', Same H H' → Q (.bl true) H'
theorem cnt_eq {rows : List (List Int)} {x : Int × Str} {p : Int × Int} : cnt rows x p = (p.1, p.2 + (if spk rows x p.1.toNat then 1 else 0)) := by
  unfold cnt
  by_cases h : spk rows x p.1.toNat = true
  · rw [if_pos h, if_pos h]
  · rw [if_neg h, if_neg h]
    simp
end Bk
namespace Bk
open PySem L2
theorem k_orF' {σ : L2.St} {H : Hp} {u : TT} {Q : Bool → Hp → Prop} {b : Bool} (e : b = false) (h : u σ H Q) : kOr u σ Q b H := by subst e; exact k_orF h
theorem k_orT' {σ : L2.St} {H : Hp} {u : TT} {Q : Bool → Hp → Prop} {b : Bool} (e : b = true) (h : Q true H) : kOr u σ Q b H := by subst e; exact k_orT h
end Bk
/-! stands that are known -/
namespace Bk
open PySem PySem.Spec PyProof.Rows L2
/-- x not in a tuple of data -/
def rNotInDT (K : PySem.W.Frag) : R2 := fun x y H Q => ∃ d ds, Dp K H x d ∧ Dp K H y (.tuple ds) ∧ SeqAt.shaped d = true ∧ SeqAt.shaped (.tuple ds) = true ∧ Q (.bl (!ds.any fun z => PyData.eqv z d)) H
theorem op_notInDT {X : Cx} {K : PySem.W.Frag} (hK : X.K = K) (hu : X.A.units + 65 < cLine) : OpR X (compareOp .NotIn) (rNotInDT K) := by
  subst hK
  intro pins s σ H x y v u Q I rx ry h
  obtain ⟨d, ds, hd, he, sd, se, q⟩ := h
  obtain ⟨as, r1⟩ := Dp.reads I d x v hd rx
  obtain ⟨bs, r2⟩ := Dp.reads I (.tuple ds) y u he ry
  exact SeqAt.notIn_tuple_reads r2 r1 (SeqAt.canLay_of_shaped se) (SeqAt.canLay_of_shaped sd) (room_in_shaped sd hu) ⟨.bl _, H, I, rfl, q⟩
theorem st1_eqv (t u : Int × Int) : PyData.eqv (stD1 t) (stD1 u) = decide (t = u) := by
  obtain ⟨a, s⟩ := t
  obtain ⟨b, r⟩ := u
  unfold stD1
  simp only [PyData.eqv, PyData.eqvAll, Bool.and_true]
  by_cases e : a = b
  · by_cases e2 : s = r
    · subst e e2
      simp
    · simp [e2]
  · simp [e]
theorem sh_st1 (t : Int × Int) : SeqAt.shaped (stD1 t) = true := by simp [SeqAt.shaped, stD1, PyData.canLay0, PyData.canLayAll0, PyData.depth, PyData.depthAll]
theorem k_notInSt {K : PySem.W.Frag} {H : Hp} {Q : VK} {a b : Addr} {as : List Addr} {ps : List (Int × Int)} {u : Int × Int} (h : H a = some (.tup (as.map V.ref))) (R : PrAt H as ps) (hb : H b = some (.tup [.int u.1, .int u.2])) (hm : u ∈ ps) (q : Q (.bl false) H) : rNotInDT K (.ref b) (.ref a) H Q := by
  refine ⟨stD1 u, ps.map stD1, .tup (sqt_tup hb) (.cons (.int _) (.cons (.int _) .nil)), dp_st h R, sh_st1 u, sh_st ps, ?_⟩
  have e : ((ps.map stD1).any fun z => PyData.eqv z (stD1 u)) = true := by
    rw [List.any_map, List.any_eq_true]
    exact ⟨u, hm, by show PyData.eqv (stD1 u) (stD1 u) = true; rw [st1_eqv]; simp⟩
  rw [e]
  exact q
/-! lists of pairs compared -/
def stDL (ps : List (Int × Int)) : PyData := .list (ps.map stD1)
theorem sh_stL (ps : List (Int × Int)) : SeqAt.shaped (stDL ps) = true := by
  obtain ⟨h1, h2⟩ := sh_stA ps
  simp [SeqAt.shaped, stDL, PyData.canLay0, PyData.depth, h1]
  omega
theorem dp_stL {K : PySem.W.Frag} {H : Hp} {a : Addr} {as : List Addr} {ps : List (Int × Int)} (h : H a = some (.lst (as.map V.ref))) (R : PrAt H as ps) : Dp K H (.ref a) (stDL ps) := .lst (sql_lst h) (dp_stA R)
theorem k_neStL {K : PySem.W.Frag} {H : Hp} {Q : VK} {a b : Addr} {as bs : List Addr} {ps : List (Int × Int)} (h1 : H a = some (.lst (as.map V.ref))) (r1 : PrAt H as ps) (h2 : H b = some (.lst (bs.map V.ref))) (r2 : PrAt H bs ps) (q : Q (.bl false) H) : rNeD K (.ref a) (.ref b) H Q := by
  refine k_neD (dp_stL h1 r1) (dp_stL h2 r2) (sh_stL ps) (sh_stL ps) ?_
  rw [SeqAt.eqv_refl _ (SeqAt.canLay_of_shaped (sh_stL ps))]
  exact q
/-! how many trials speak against a make -/
noncomputable def mny (rows : List (List Int)) (ts : List (Int × Str)) (m : Nat) : Nat := (ts.filter fun t => spk rows t m).length
theorem placesTo_many (rows : List (List Int)) (ts : List (Int × Str)) (m : Nat) : ∀ j, j ≤ ts.length → (placesTo rows ts m j).length = ((ts.take j).filter fun t => spk rows t m).length
  | 0, _ => by simp [placesTo]
  | j + 1, h => by
    have hj := List.getElem?_eq_getElem (l := ts) (i := j) (by omega)
    have ih := placesTo_many rows ts m j (by omega)
    rw [placesTo_snoc hj, take_next hj, List.filter_append, List.length_append, ← ih, List.filter_cons]
    by_cases g : spk rows ts[j] m = true
    · rw [if_pos g, if_pos g]
      simp
    · rw [if_neg g, if_neg g]
      simp
theorem places_mny (rows : List (List Int)) (ts : List (Int × Str)) (m : Nat) : (places rows ts m).length = mny rows ts m := by
  have := placesTo_many rows ts m ts.length (Nat.le_refl _)
  rw [List.take_length] at this
  exact this
theorem mny_len (rows : List (List Int)) (ts : List (Int × Str)) (m : Nat) : mny rows ts m ≤ ts.length := List.length_filter_le _ _
theorem mny_snoc (rows : List (List Int)) (ts : List (Int × Str)) (t : Int × Str) (m : Nat) : mny rows (ts ++ [t]) m = mny rows ts m + (if spk rows t m then 1 else 0) := by
  unfold mny
  rw [List.filter_append, List.length_append, List.filter_cons]
  by_cases g : spk rows t m = true
  · rw [if_pos g, if_pos g]
    simp
  · rw [if_neg g, if_neg g]
    simp
noncomputable def knA (rows : List (List Int)) (ts : List (Int × Str)) (j : Nat) : List (Int × Int) := (List.range j).map fun (m : Nat) => ((m : Int), (mny rows ts m : Int))
noncomputable def knTo (rows : List (List Int)) (ts : List (Int × Str)) (lies : Int) (j : Nat) : List (Int × Int) := (knA rows ts j).filter fun p => decide (p.2 ≤ lies)
theorem knTo_succ (rows : List (List Int)) (ts : List (Int × Str)) (lies : Int) (j : Nat) : knTo rows ts lies (j + 1) = if (mny rows ts j : Int) ≤ lies then knTo rows ts lies j ++ [((j : Int), (mny rows ts j : Int))] else knTo rows ts lies j := by
  unfold knTo knA
  rw [List.range_succ, List.map_append, List.filter_append, List.map_cons, List.map_nil, List.filter_cons]
  by_cases g : (mny rows ts j : Int) ≤ lies
  · rw [if_pos g, if_pos (by simpa using g)]
    rfl
  · rw [if_neg g, if_neg (by simpa using g)]
    simp
theorem knTo_len (rows : List (List Int)) (ts : List (Int × Str)) (lies : Int) (j : Nat) : (knTo rows ts lies j).length ≤ j := by
  unfold knTo
  refine Nat.le_trans (List.length_filter_le _ _) ?_
  unfold knA
  rw [List.length_map, List.length_range]
  exact Nat.le_refl _
theorem knTo_mem {rows : List (List Int)} {ts : List (Int × Str)} {lies : Int} {n m : Nat} (h : m < n) (k : (mny rows ts m : Int) ≤ lies) : (((m : Nat) : Int), (mny rows ts m : Int)) ∈ knTo rows ts lies n := by
  unfold knTo knA
  rw [List.mem_filter, List.mem_map]
  exact ⟨⟨m, List.mem_range.mpr h, rfl⟩, by simpa using k⟩
def spKnown (K : PySem.W.Frag) : Sp := fun vs H Q _ => ∃ (kd : Bool) (p a : Addr) (bs as : List Addr) (rows : List (List Int)) (ts : List (Int × Str)) (lies : Int) (m : Nat), vs = [.ref p, .ref a, .int lies] ∧ NetAt H p bs rows ∧ RowsOk rows ∧ rows.length ≤ 40 ∧ TrAt K kd H a as ts ∧ (∀ t ∈ ts, GoodT rows.length t) ∧ ts.length ≤ 200 ∧ m < rows.length ∧ (mny rows ts m : Int) ≤ lies ∧
  ∀ (l : Addr) (cs : List Addr) (H' : Hp), Same H H' → H l = none → H' l = some (.tup (cs.map V.ref)) → PrAt H' cs (knTo rows ts lies rows.length) → Q (.ref l) H'
def spRight14 (K : PySem.W.Frag) : Sp := fun vs H Q _ => ∃ (p a c : Addr) (bs as : List Addr) (rows : List (List Int)) (ts : List (Int × Str)) (lies : Int) (m : Nat), vs = [.ref p, .ref a, .ref c, .int lies] ∧ NetAt H p bs rows ∧ RowsOk rows ∧ rows.length ≤ 40 ∧ H a = some (.lst (as.map V.ref)) ∧ TrAt K false H a as ts ∧ (∀ t ∈ ts, GoodT rows.length t) ∧ ts.length ≤ 60 ∧
  H c = some (.lst (((List.range rows.length).map fun m => (mny rows ts m : Int)).map V.int)) ∧ m < rows.length ∧ (mny rows ts m : Int) ≤ lies ∧ ∀ H', Same H H' → Q (.bl true) H'
/-- trials drawn: at most so many of them speak against the first one -/
def spTrials14 : Sp := fun vs H Q _ => ∃ (G : Hp) (d p o : Addr) (bs ds : List Addr) (rows : List (List Int)) (lies : Int), vs = [.ref d, .ref p, .ref o, .int lies] ∧ FeedL G H d ∧ NetAt G p bs rows ∧ RowsOk rows ∧ OldsAt G o ds rows rows.length ∧ 1 ≤ rows.length ∧ rows.length ≤ 40 ∧ 0 ≤ lies ∧ lies ≤ 1000 ∧
  ∀ (tp l : Addr) (first : Int) (as : List Addr) (ts : List (Int × Str)) (G' H' : Hp), Same G G' → G' tp = some (.tup [.int first, .ref l]) → goodM rows.length first → G' l = some (.lst (as.map V.ref)) → as.length = ts.length → (∀ (i : Nat) (b : Addr) (t : Int × Str), as[i]? = some b → ts[i]? = some t → G' b = some (.tup [.int t.1, .str t.2])) →
    (∀ t ∈ ts, GoodT rows.length t) → ts.length ≤ 60 → (mny rows ts first.toNat : Int) ≤ lies → FeedL G' H' d → Q (.ref tp) H'
end Bk
/-! a deck drawn from: its count of mixes is bounded -/
namespace Bk
open PySem PySem.Spec PyProof.Rows L2
structure DeckL (G H : Hp) (d : Addr) (b : Nat) : Prop where
  same : Same G H
  d0 : G d = none
  ex : ∃ c t k : Int, H d = some (.lst [.int c, .int t, .int k]) ∧ 0 ≤ t ∧ t ≤ (b : Int)
theorem DeckL.le {G H : Hp} {d : Addr} {b e : Nat} (F : DeckL G H d b) (h : b ≤ e) : DeckL G H d e := by
  obtain ⟨c, t, k, q, q0, q1⟩ := F.ex
  exact ⟨F.same, F.d0, c, t, k, q, q0, by omega⟩
theorem DeckL.more {G H H' : Hp} {d : Addr} {b : Nat} (F : DeckL G H d b) (s : Same H H') : DeckL G H' d b := by
  obtain ⟨c, t, k, h, q⟩ := F.ex
  exact ⟨F.same.trans s, F.d0, c, t, k, s _ _ h, q⟩
theorem DeckL.less {G G' H : Hp} {d : Addr} {b : Nat} (F : DeckL G H d b) (s : Same G' G) : DeckL G' H d b := ⟨s.trans F.same, s.free F.d0, F.ex⟩
theorem DeckL.put {G H : Hp} {d : Addr} {b e : Nat} (F : DeckL G H d b) (c t k : Int) (h0 : 0 ≤ t) (h1 : t ≤ (e : Int)) : DeckL G (upd H d (.lst [.int c, .int t, .int k])) d e := ⟨F.same.mut F.d0, F.d0, c, t, k, upd_same, h0, h1⟩
theorem DeckL.new {G H : Hp} {d p : Addr} {o : HO} {b : Nat} (F : DeckL G H d b) (h : H p = none) : DeckL (upd G p o) (upd H p o) d b := by
  obtain ⟨c, t, k, e, q⟩ := F.ex
  have nd : d ≠ p := ne_of_none e h
  refine ⟨fun b u q => ?_, by rw [upd_ne nd]; exact F.d0, c, t, k, by rw [upd_ne nd]; exact e, q⟩
  by_cases z : b = p
  · subst z; rw [upd_same] at q; cases q; exact upd_same
  · rw [upd_ne z] at q; rw [upd_ne z]; exact F.same b u q
theorem DeckL.set {G H : Hp} {d p : Addr} {o u : HO} {b : Nat} (F : DeckL G H d b) (h : G p = some u) : DeckL (upd G p o) (upd H p o) d b := by
  obtain ⟨c, t, k, e, q⟩ := F.ex
  have nd : d ≠ p := (ne_of_none h F.d0).symm
  refine ⟨fun b u q => ?_, by rw [upd_ne nd]; exact F.d0, c, t, k, by rw [upd_ne nd]; exact e, q⟩
  by_cases z : b = p
  · subst z; rw [upd_same] at q; cases q; exact upd_same
  · rw [upd_ne z] at q; rw [upd_ne z]; exact F.same b u q
theorem DeckL.set' {G H : Hp} {d p : Addr} {o u : HO} {b : Nat} (F : DeckL (upd G p u) H d b) : DeckL (upd G p o) (upd H p o) d b := by
  have h := DeckL.set (o := o) F upd_same
  rw [upd_upd] at h
  exact h
theorem DeckL.got {G H : Hp} {d p : Addr} {u : HO} {b : Nat} (F : DeckL (upd G p u) H d b) : H p = some u := F.same _ _ upd_same
/-- how many may be drawn before the count is too great for the rules -/
def manyD : Nat := 1000000000000
def spDeck (K : PySem.W.Frag) : Sp := fun vs H Q _ => ∃ (a : Addr) (ns : List Int) (k : Int), vs = [.ref a, .int k] ∧ SqL K H a (ns.map V.int) ∧ 0 ≤ k ∧ k < 1000 ∧ ∀ (d : Addr) (H' : Hp), DeckL H H' d 0 → Q (.ref d) H'
def spDraw : Sp := fun vs H Q _ => ∃ (G : Hp) (d : Addr) (b : Nat) (most : Int), vs = [.ref d, .int most] ∧ DeckL G H d b ∧ b ≤ manyD ∧ 0 < most ∧ most.natAbs.log2 < 9000 ∧ ∀ (r : Int) (H' : Hp), 0 ≤ r → r < most → DeckL G H' d (b + 1) → Q (.int r) H'
def spIsElder : Sp := fun vs H Q _ => ∃ (G : Hp) (d : Addr) (b : Nat) (way make elder : Int), vs = [.ref d, .int way, .int make, .int elder] ∧ DeckL G H d b ∧ b ≤ manyD ∧ 0 ≤ way ∧ way < 8 ∧ 0 ≤ make ∧ make < 1000 ∧ 0 ≤ elder ∧ elder < make ∧ ∀ (t : Bool) (H' : Hp), DeckL G H' d (b + 1) → Q (.bl t) H'
def spNetD : Sp := fun vs H Q _ => ∃ (G : Hp) (d : Addr) (most greatest : Int), vs = [.ref d, .int most, .int greatest] ∧ DeckL G H d 0 ∧ 1 ≤ most ∧ most ≤ 40 ∧ 1 ≤ greatest ∧ greatest ≤ 40 ∧
  ∀ (p : Addr) (bs : List Addr) (rows : List (List Int)) (G' H' : Hp), Same G G' → NetAt G' p bs rows → RowsOk rows → 1 ≤ rows.length → rows.length ≤ 40 → DeckL G' H' d 10000 → Q (.ref p) H'
end Bk
/-! comprehensions over zip; which make comes of which, as rows of truths -/
namespace Bk
open PySem PySem.Spec PyProof.Rows L2
section
variable {σ : L2.St} {H : Hp} {Q : VK} {K : PySem.W.Frag}
theorem k_lcZ {k1 k2 : Bool} {a b : Addr} {xs ys : List V} {g : TG} {tt : TT} {te : TE} {vs : List Nat} (Pv : Addr → Nat → Hp → Prop) (el : xs.length = ys.length) (h0 : ∀ Dl, H Dl = none → Pv Dl 0 (upd H Dl (.lst []))) (hl : ∀ Dl i H', H Dl = none → Pv Dl i H' → SqK K k1 H' a xs ∧ SqK K k2 H' b ys)
    (hs : ∀ Dl i x y T H', H Dl = none → xs[i]? = some x → ys[i]? = some y → Pv Dl i H' → H' T = none → kLcT g tt te vs σ Dl (Pv Dl (i + 1)) (.ref T) (upd H' T (.tup [x, y]))) (hd : ∀ Dl H', H Dl = none → Pv Dl xs.length H' → Q (.ref Dl) H') : kLc (ItzK K k1 k2 a b) g tt te vs σ Q H := by
  intro Dl hD
  refine ⟨fun i m H' => m + i = xs.length ∧ Pv Dl i H', ⟨xs.length, by omega, h0 Dl hD⟩, ?_⟩
  rintro i m H' ⟨em, p⟩
  obtain ⟨qx, qy⟩ := hl Dl i H' hD p
  by_cases lt : i < xs.length
  · have ex := List.getElem?_eq_getElem lt
    have ey := List.getElem?_eq_getElem (l := ys) (i := i) (by omega)
    refine .inr ⟨⟨xs, ys, _, _, qx, qy, ex, ey⟩, Pv Dl (i + 1), fun H' p' => ⟨m - 1, by omega, by omega, p'⟩, ?_⟩
    rintro v H2 ⟨T, x, y, rfl, hT, rfl, f1, f2⟩
    exact hs Dl i x y T H' hD (f1 xs qx) (f2 ys qy) p hT
  · have e : i = xs.length := by omega
    subst e
    exact .inl ⟨⟨xs, ys, qx, qy, by omega, by omega, .inl rfl⟩, hd Dl H' hD p⟩
end
/-- truths of a function, one for each number -/
def tru (n : Nat) (f : Nat → Bool) : List V := (List.range n).map fun k => V.bl (f k)
theorem tru_len (n : Nat) (f : Nat → Bool) : (tru n f).length = n := by simp [tru]
theorem tru_get {n : Nat} {f : Nat → Bool} {k : Nat} {x : V} (h : (tru n f)[k]? = some x) : k < n ∧ x = V.bl (f k) := by
  have lt : k < n := by
    have := (List.getElem?_eq_some_iff.mp h).1
    rwa [tru_len] at this
  refine ⟨lt, ?_⟩
  unfold tru at h
  rw [List.getElem?_map, List.getElem?_range lt] at h
  cases h
  rfl
theorem tru_at {n : Nat} {f : Nat → Bool} {k : Nat} (h : k < n) : (tru n f)[k]? = some (V.bl (f k)) := by
  unfold tru
  rw [List.getElem?_map, List.getElem?_range h]
  rfl
theorem tru_succ (n : Nat) (f : Nat → Bool) : tru (n + 1) f = tru n f ++ [V.bl (f n)] := by simp [tru, List.range_succ]
structure ReachAt (H : Hp) (o : Addr) (rs : List Addr) (rows : List (List Int)) (m : Nat) : Prop where
  hp : H o = some (.lst (rs.map V.ref))
  len : rs.length = m
  at' : ∀ (i : Nat) (b : Addr), rs[i]? = some b → b ≠ o ∧ H b = some (.lst (tru rows.length fun k => decide (Cm rows i k)))
theorem ReachAt.same {H H' : Hp} {o : Addr} {rs : List Addr} {rows : List (List Int)} {m : Nat} (R : ReachAt H o rs rows m) (s : Same H H') : ReachAt H' o rs rows m := ⟨s _ _ R.hp, R.len, fun i b h => ⟨(R.at' i b h).1, s _ _ (R.at' i b h).2⟩⟩
def spReach : Sp := fun vs H Q _ => ∃ (p : Addr) (bs : List Addr) (rows : List (List Int)), vs = [.ref p] ∧ NetAt H p bs rows ∧ RowsOk rows ∧ rows.length ≤ 40 ∧ ∀ (o : Addr) (rs : List Addr) (H' : Hp), Same H H' → ReachAt H' o rs rows rows.length → Q (.ref o) H'
end Bk
/-! asked the same; sides -/
namespace Bk
open PySem PySem.Spec PyProof.Rows L2
theorem bk_isiT {X : Cx} {K : PySem.W.Frag} (hK : X.K = K) : CallR X (.builtin "isinstance") (rIsiT K) := by subst hK; exact call_isiT
section
variable {H : Hp} {Q : VK} {K : PySem.W.Frag}
theorem kitAny2 {a n1 n2 : String} {b1 b2 : Bool} (e1 : kitB a n1 = some b1) (e2 : kitB a n2 = some b2) : PySem.W.kitAny K (.type a) [.type n1, .type n2] = some (b1 || b2) := by
  unfold PySem.W.kitAny PySem.W.kitAny PySem.W.kitAny
  rw [kit_ty e1, kit_ty e2]
  cases b1 <;> cases b2 <;> rfl
theorem k_isiT2 {x : V} {tp : Addr} {a n1 n2 : String} {b1 b2 : Bool} (ty : TyX K H x (.type a)) (e1 : kitB a n1 = some b1) (e2 : kitB a n2 = some b2) (hT : H tp = some (.tup [.ty n1, .ty n2])) (q : Q (.bl (b1 || b2)) H) : rIsiT K [x, .ref tp] H Q :=
  ⟨x, tp, _, _, _, _, rfl, hT, .cons (.ty n1) (.cons (.ty n2) .nil), ty, kitAny2 e1 e2, q⟩
theorem k_neNilT {p q : Addr} {ns : List Int} (h1 : H p = some (.tup (ns.map V.int))) (h2 : H q = some (.tup [])) (h : Q (.bl (!decide (ns = []))) H) : rNeD K (.ref p) (.ref q) H Q := by
  refine k_neD (d := .tuple (ns.map PyData.int)) (e := .tuple []) (.tup (sqt_tup h1) (dp_ints ns)) (.tup (sqt_tup h2) .nil) ?_ ?_ ?_
  · exact sh_intsT ns
  · rfl
  · cases ns with
    | nil => exact h
    | cons a r => exact h
end
theorem k_notInIT {K : PySem.W.Frag} {H : Hp} {Q : VK} {p : Addr} {ns : List Int} {x : Int} (h : SqT K H p (ns.map V.int)) (q : Q (.bl (!decide (x ∈ ns))) H) : rIn K true (.int x) (.ref p) H Q := ⟨p, _, rfl, .inr h, rfl, flat_ints ns, by rw [inV_ints]; exact q⟩
def spMakesD : Sp := fun vs H Q _ => ∃ (G : Hp) (d : Addr) (b many : Nat), vs = [.ref d, .int (many : Nat)] ∧ DeckL G H d b ∧ b ≤ 1000000 ∧ 1 ≤ many ∧ many ≤ 40 ∧
  ∀ (l : Addr) (ms : List Int) (G' H' : Hp), Same G G' → G' l = some (.lst (ms.map V.int)) → ms.length ≤ 50 → (∀ m ∈ ms, goodM many m) → DeckL G' H' d (b + 200) → Q (.ref l) H'
def spNever : Sp := fun _ _ _ _ => False
def spSame0 : Sp := fun vs H Q _ => ((∃ i : Int, vs = [.int i, .int i]) ∨ (∃ b : Bool, vs = [.bl b, .bl b])) ∧ ∀ H', Same H H' → Q (.bl true) H'
def spSame1 : Sp := fun vs H Q _ => ∃ (a b : Addr) (ns : List Int), vs = [.ref a, .ref b] ∧ H a = some (.tup (ns.map V.int)) ∧ H b = some (.tup (ns.map V.int)) ∧ ns.length ≤ 1000 ∧ ∀ H', Same H H' → Q (.bl true) H'
def spSame2 : Sp := fun vs H Q _ => ∃ (a b a1 a2 b1 b2 : Addr) (ns ms : List Int), vs = [.ref a, .ref b] ∧ H a = some (.tup [.ref a1, .ref a2]) ∧ H b = some (.tup [.ref b1, .ref b2]) ∧ H a1 = some (.tup (ns.map V.int)) ∧ H b1 = some (.tup (ns.map V.int)) ∧ H a2 = some (.tup (ms.map V.int)) ∧ H b2 = some (.tup (ms.map V.int)) ∧ ns.length ≤ 1000 ∧ ms.length ≤ 1000 ∧
  ∀ H', Same H H' → Q (.bl true) H'
/-- both sides of what is arranged -/
noncomputable def badL (rows : List (List Int)) (m : Nat) (ns : List Int) : List Int := ns.filter fun k => decide (Cm rows m k.toNat)
noncomputable def goodL (rows : List (List Int)) (m : Nat) (ns : List Int) : List Int := ns.filter fun k => !decide (Cm rows m k.toNat)
structure SidesAt (H : Hp) (u a b : Addr) (xs ys : List Int) : Prop where
  hu : H u = some (.tup [.ref a, .ref b])
  ha : H a = some (.tup (xs.map V.int))
  hb : H b = some (.tup (ys.map V.int))
theorem SidesAt.same {H H' : Hp} {u a b : Addr} {xs ys : List Int} (S : SidesAt H u a b xs ys) (s : Same H H') : SidesAt H' u a b xs ys := ⟨s _ _ S.hu, s _ _ S.ha, s _ _ S.hb⟩
def spSidesBy : Sp := fun vs H Q _ => ∃ (t l : Addr) (es ns : List Int), vs = [.ref t, .ref l] ∧ H t = some (.tup (es.map V.int)) ∧ H l = some (.lst (ns.map V.int)) ∧ ns.length ≤ 1000 ∧ ∀ (u a b : Addr) (H' : Hp), Same H H' → SidesAt H' u a b (ns.filter fun k => decide (k ∈ es)) (ns.filter fun k => !decide (k ∈ es)) → Q (.ref u) H'
def spSidesX (K : PySem.W.Frag) (C : Addr) : Sp := fun vs H Q E => ∃ (kd : Bool) (p l : Addr) (bs : List Addr) (rows : List (List Int)) (ms : List Int) (m : Nat), vs = [.ref p, .ref l, .int (m : Nat)] ∧ NetAt H p bs rows ∧ RowsOk rows ∧ rows.length ≤ 40 ∧ SqK K kd H l (ms.map V.int) ∧ ms.length ≤ 50 ∧ (∀ k ∈ ms, goodM rows.length k) ∧ m < rows.length ∧
  ∀ ns : List Int, ns.Pairwise (· < ·) → (∀ k, k ∈ ns ↔ k ∈ ms) → ∀ (u a b : Addr) (H' : Hp), Same H H' → SidesAt H' u a b (badL rows m ns) (goodL rows m ns) → Q (.ref u) H'
def spPartsX (K : PySem.W.Frag) : Sp := fun vs H Q E => ∃ (kd : Bool) (p l : Addr) (bs : List Addr) (rows : List (List Int)) (ms : List Int) (m : Nat), vs = [.ref p, .ref l, .int (m : Nat)] ∧ NetAt H p bs rows ∧ RowsOk rows ∧ rows.length ≤ 40 ∧ SqK K kd H l (ms.map V.int) ∧ ms.length ≤ 50 ∧ (∀ k ∈ ms, goodM rows.length k) ∧ m < rows.length ∧
  ∀ ns : List Int, ns.Pairwise (· < ·) → (∀ k, k ∈ ns ↔ k ∈ ms) → ∀ H' : Hp, Same H H' → Q (.bl (!decide (badL rows m ns = []) && !decide (goodL rows m ns = []))) H'
def spSidesL : Sp := fun vs H Q _ => ∃ (o l : Addr) (rs : List Addr) (rows : List (List Int)) (ms : List Int) (m : Nat), vs = [.ref o, .ref l, .int (m : Nat)] ∧ ReachAt H o rs rows rows.length ∧ rows.length ≤ 40 ∧ H l = some (.lst (ms.map V.int)) ∧ ms.length ≤ 50 ∧ (∀ k ∈ ms, goodM rows.length k) ∧ m < rows.length ∧
  ∀ ns : List Int, ns.Pairwise (· < ·) → (∀ k, k ∈ ns ↔ k ∈ ms) → ∀ (u a b : Addr) (H' : Hp), Same H H' → SidesAt H' u a b (badL rows m ns) (goodL rows m ns) → Q (.ref u) H'
end Bk
/-! tables comprehended; or by truth; tables of what may be tried -/
namespace Bk
open PySem PySem.Spec PyProof.Rows L2
def kDcA (D : Addr) (N : Hp → Prop) (y z : V) (H5 : Hp) : Prop := ∃ kvs k, y = kV k ∧ H5 D = some (.dK kvs) ∧ kvs.length < sizeLine ∧ N (upd H5 D (.dK (putK kvs k z)))
def kDcB (tk tv : TE) (σ2 : L2.St) (D : Addr) (N : Hp → Prop) (b : Bool) (H3 : Hp) : Prop := if b = true then tk σ2 H3 fun y H4 => tv σ2 H4 fun z H5 => kDcA D N y z H5 else N H3
def kDcT (g : TG) (tt : TT) (tk tv : TE) (vs : List Nat) (σ : L2.St) (D : Addr) (N : Hp → Prop) (x : V) (H : Hp) : Prop := g x (wipe σ vs) H fun σ2 H2 => wipe σ2 vs = wipe σ vs ∧ tt σ2 H2 fun b H3 => kDcB tk tv σ2 D N b H3
def kDc (J : It) (g : TG) (tt : TT) (tk tv : TE) (vs : List Nat) (σ : L2.St) (Q : VK) (H1 : Hp) : Prop := ∀ D, H1 D = none → ∃ W : Nat → Nat → Hp → Prop, (∃ m, W 0 m (upd H1 D (.dK []))) ∧ ∀ i m H, W i m H →
  (J.stop i H ∧ Q (.ref D) H) ∨ (J.go i H ∧ ∃ Nx : Hp → Prop, (∀ H', Nx H' → ∃ m', m' < m ∧ W (i + 1) m' H') ∧ ∀ x H', J.yld i H x H' → kDcT g tt tk tv vs σ D Nx x H')
section
variable {σ : L2.St} {H : Hp} {Q : VK} {K : PySem.W.Frag}
theorem r_dc {wi : TI} {g : TG} {tt : TT} {tk tv : TE} {vs : List Nat} (h : wi σ H fun J H1 => kDc J g tt tk tv vs σ Q H1) : tDc wi g tt tk tv vs σ H Q := h
theorem k_dct {j : Nat} {tt : TT} {tk tv : TE} {vs : List Nat} {D : Addr} {N : Hp → Prop} {x : V} {σ' : L2.St} (e : (wipe σ vs).set j (some x) = σ') (w : wipe σ' vs = wipe σ vs) (h : tt σ' H fun b H3 => kDcB tk tv σ' D N b H3) : kDcT (gName j) tt tk tv vs σ D N x H := by
  subst e
  exact ⟨w, h⟩
theorem k_dcbT {tk tv : TE} {σ2 : L2.St} {D : Addr} {N : Hp → Prop} (h : tk σ2 H fun y H4 => tv σ2 H4 fun z H5 => kDcA D N y z H5) : kDcB tk tv σ2 D N true H := by
  unfold kDcB
  rw [if_pos rfl]
  exact h
theorem k_dca {D : Addr} {N : Hp → Prop} {z : V} {kvs : List (Key × V)} {m : Int} (h : H D = some (.dK kvs)) (hz : kvs.length < sizeLine) (q : N (upd H D (.dK (putK kvs (Sum.inl m) z)))) : kDcA D N (.int m) z H := ⟨kvs, Sum.inl m, rfl, h, hz, q⟩
theorem k_dcTu {a : Addr} {xs : List V} {g : TG} {tt : TT} {tk tv : TE} {vs : List Nat} (Pv : Addr → Nat → Hp → Prop) (h0 : ∀ D, H D = none → Pv D 0 (upd H D (.dK []))) (hl : ∀ D i H', H D = none → Pv D i H' → SqT K H' a xs)
    (hs : ∀ D i x H', H D = none → xs[i]? = some x → Pv D i H' → kDcT g tt tk tv vs σ D (Pv D (i + 1)) x H') (hd : ∀ D H', H D = none → Pv D xs.length H' → Q (.ref D) H') : kDc (Itt K a) g tt tk tv vs σ Q H := by
  intro D hD
  refine ⟨fun i m H' => m + i = xs.length ∧ Pv D i H', ⟨xs.length, by omega, h0 D hD⟩, ?_⟩
  rintro i m H' ⟨em, p⟩
  have qx := hl D i H' hD p
  by_cases lt : i < xs.length
  · refine .inr ⟨⟨xs, xs[i], qx, by simp [lt]⟩, Pv D (i + 1), fun H' p' => ⟨m - 1, by omega, by omega, p'⟩, fun x H2 y => ?_⟩
    obtain ⟨e, y⟩ := y
    subst e
    exact hs D i x _ hD (y xs qx) p
  · have e : i = xs.length := by omega
    subst e
    exact .inl ⟨⟨xs, qx, Nat.le_refl _⟩, hd D H' hD p⟩
theorem k_dcL {a : Addr} {xs : List V} {g : TG} {tt : TT} {tk tv : TE} {vs : List Nat} (Pv : Addr → Nat → Hp → Prop) (h0 : ∀ D, H D = none → Pv D 0 (upd H D (.dK []))) (hl : ∀ D i H', H D = none → Pv D i H' → SqL K H' a xs)
    (hs : ∀ D i x H', H D = none → xs[i]? = some x → Pv D i H' → kDcT g tt tk tv vs σ D (Pv D (i + 1)) x H') (hd : ∀ D H', H D = none → Pv D xs.length H' → Q (.ref D) H') : kDc (Itl K a) g tt tk tv vs σ Q H := by
  intro D hD
  refine ⟨fun i m H' => m + i = xs.length ∧ Pv D i H', ⟨xs.length, by omega, h0 D hD⟩, ?_⟩
  rintro i m H' ⟨em, p⟩
  have qx := hl D i H' hD p
  by_cases lt : i < xs.length
  · refine .inr ⟨⟨xs, xs[i], qx, by simp [lt]⟩, Pv D (i + 1), fun H' p' => ⟨m - 1, by omega, by omega, p'⟩, fun x H2 y => ?_⟩
    obtain ⟨e, y⟩ := y
    subst e
    exact hs D i x _ hD (y xs qx) p
  · have e : i = xs.length := by omega
    subst e
    exact .inl ⟨⟨xs, qx, Nat.le_refl _⟩, hd D H' hD p⟩
/-! or by truth -/
def kOrT (K : PySem.W.Frag) (tb : TE) (σ : L2.St) (Q : VK) (x : V) (H1 : Hp) : Prop := ∃ k, TruV K x H1 k ∧ if k = true then Q x H1 else tb σ H1 Q
theorem r_orT {ta tb : TE} (h : ta σ H fun x H1 => kOrT K tb σ Q x H1) : tOrT K ta tb σ H Q := h
theorem k_orTT {tb : TE} {x : V} (e : TruV K x H true) (q : Q x H) : kOrT K tb σ Q x H := ⟨true, e, by rw [if_pos rfl]; exact q⟩
theorem k_orTF {tb : TE} {x : V} (e : TruV K x H false) (q : tb σ H Q) : kOrT K tb σ Q x H := ⟨false, e, by rw [if_neg (by simp)]; exact q⟩
end
/-- barred ones as they are handed -/
def BarAt (K : PySem.W.Frag) (H : Hp) (v : V) (gs : List Int) : Prop := (v = .non ∧ gs = []) ∨ ∃ (kd : Bool) (a : Addr), v = .ref a ∧ SqK K kd H a (gs.map V.int)
/-- for each make to try the table of those of which it comes -/
structure TriesAt (H : Hp) (t : Addr) (fs : List Int) (es : List Addr) (rows : List (List Int)) : Prop where
  hp : H t = some (.dK ((fs.map (Sum.inl : Int → Key)).zip (es.map V.ref)))
  len : es.length = fs.length
  at' : ∀ (i : Nat) (f : Int) (e : Addr), fs[i]? = some f → es[i]? = some e → ∃ L : List Int, H e = some (.dK (mkD L)) ∧ L.Nodup ∧ ∀ k, k ∈ L ↔ 0 ≤ k ∧ Cm rows f.toNat k.toNat
theorem TriesAt.same {H H' : Hp} {t : Addr} {fs : List Int} {es : List Addr} {rows : List (List Int)} (T : TriesAt H t fs es rows) (s : Same H H') : TriesAt H' t fs es rows := ⟨s _ _ T.hp, T.len, fun i f e h1 h2 => by
  obtain ⟨L, h, r⟩ := T.at' i f e h1 h2
  exact ⟨L, s _ _ h, r⟩⟩
/-- what is not barred, rising -/
def freeL (n : Nat) (gs : List Int) : List Int := ((List.range n).filter fun k => !decide (((k : Nat) : Int) ∈ gs)).map fun (k : Nat) => (k : Int)
theorem freeL_succ (n : Nat) (gs : List Int) : freeL (n + 1) gs = if ((n : Nat) : Int) ∈ gs then freeL n gs else freeL n gs ++ [(n : Int)] := by
  unfold freeL
  rw [List.range_succ, List.filter_append, List.map_append, List.filter_cons]
  by_cases h : ((n : Nat) : Int) ∈ gs
  · rw [if_pos h, if_neg (by simp [h])]
    simp
  · rw [if_neg h, if_pos (by simp [h])]
    rfl
theorem freeL_mem {n : Nat} {gs : List Int} {k : Int} : k ∈ freeL n gs ↔ 0 ≤ k ∧ k < (n : Int) ∧ k ∉ gs := by
  unfold freeL
  rw [List.mem_map]
  constructor
  · rintro ⟨j, hj, rfl⟩
    rw [List.mem_filter, List.mem_range] at hj
    exact ⟨by omega, by omega, by simpa using hj.2⟩
  · rintro ⟨h0, h1, h2⟩
    refine ⟨k.toNat, ?_, by omega⟩
    have e : ((k.toNat : Nat) : Int) = k := by omega
    rw [List.mem_filter, List.mem_range]
    exact ⟨by omega, by rw [e]; simpa using h2⟩
theorem freeL_sorted (gs : List Int) : ∀ n, (freeL n gs).Pairwise (· < ·)
  | 0 => by simp [freeL]
  | n + 1 => by
    rw [freeL_succ]
    split
    · exact freeL_sorted gs n
    · refine List.pairwise_append.mpr ⟨freeL_sorted gs n, by simp, fun a ha b hb => ?_⟩
      have := (freeL_mem.mp ha).2.1
      simp at hb
      omega
theorem freeL_len (n : Nat) (gs : List Int) : (freeL n gs).length ≤ n := by
  unfold freeL
  rw [List.length_map]
  refine Nat.le_trans (List.length_filter_le _ _) ?_
  rw [List.length_range]
  exact Nat.le_refl _
theorem valV_zip {fs : List Int} {vs : List V} {k : Int} (h : k ∉ fs) : valV ((fs.map (Sum.inl : Int → Key)).zip vs) (Sum.inl k) = none := by
  induction fs generalizing vs with
  | nil => rfl
  | cons f r ih =>
    cases vs with
    | nil => rfl
    | cons v vs =>
      rw [List.map_cons, List.zip_cons_cons, valV_neg (fun q => by
        have := Sum.inl.inj q
        subst this
        exact h (by simp)), ih (fun z => h (List.mem_cons_of_mem _ z))]
theorem k_cutOrT {K : PySem.W.Frag} {σ : L2.St} {H : Hp} {Q : VK} {tb : TE} {x : V} (I : V → Hp → Prop) (h2 : ∀ v H, I v H → Q v H) (h1 : ∀ M : VK, (∀ v H, I v H → M v H) → kOrT K tb σ M x H) : kOrT K tb σ Q x H := h1 Q h2
theorem pe_orTK {X : Cx} {K : PySem.W.Frag} {a b : Expr} {ta tb : TE} {rest : List Expr} {pos : Pos} (hK : X.K = K) (ha : PE X a ta) (hb : PE X (.BoolOp .Or (b :: rest) pos) tb) : PE X (.BoolOp .Or (a :: b :: rest) pos) (tOrT K ta tb) := by subst hK; exact pe_orT ha hb
theorem truK {K : PySem.W.Frag} {kd : Bool} {H : Hp} {a : Addr} {xs : List V} (h : SqK K kd H a xs) : TruV K (.ref a) H (!xs.isEmpty) := by
  cases kd with
  | true => exact .inr (.inl ⟨xs, h, rfl⟩)
  | false => exact .inl ⟨xs, h, rfl⟩
theorem BarAt.kd {K : PySem.W.Frag} {H : Hp} {v : V} {gs : List Int} (h : BarAt K H v gs) : ∃ kd : Bool, (gs = [] ∧ kd = false ∧ TruV K v H false) ∨ ∃ a : Addr, v = .ref a ∧ SqK K kd H a (gs.map V.int) ∧ TruV K v H true := by
  rcases h with ⟨rfl, rfl⟩ | ⟨kd, a, rfl, q⟩
  · exact ⟨false, .inl ⟨rfl, rfl, rfl⟩⟩
  · have t := truK q
    cases gs with
    | nil => exact ⟨false, .inl ⟨rfl, rfl, t⟩⟩
    | cons g gs => exact ⟨kd, .inr ⟨a, rfl, q, t⟩⟩
def spTries (K : PySem.W.Frag) : Sp := fun vs H Q _ => ∃ (p : Addr) (v : V) (bs : List Addr) (rows : List (List Int)) (gs : List Int), vs = [.ref p, v] ∧ NetAt H p bs rows ∧ RowsOk rows ∧ rows.length ≤ 40 ∧ BarAt K H v gs ∧ gs.length ≤ 1000 ∧ (∀ g ∈ gs, goodM rows.length g) ∧
  ∀ (t : Addr) (es : List Addr) (H' : Hp), Same H H' → TriesAt H' t (freeL rows.length gs) es rows → Q (.ref t) H'
end Bk
/-! a table's items walked; what is useful -/
namespace Bk
open PySem PySem.Spec PyProof.Rows L2
section
variable {σ : L2.St} {H : Hp} {Q : VK} {D : Ends}
def kItems (R : It → Hp → Prop) (x : V) (H1 : Hp) : Prop := ∃ d o kvs, x = .ref d ∧ H1 d = some (.frz o (.dK kvs)) ∧ R (Iti d o kvs) H1
theorem r_iItems {td : TE} {R : It → Hp → Prop} (h : td σ H fun x H1 => kItems R x H1) : iItems td σ H R := h
theorem k_iItems {R : It → Hp → Prop} {d : Addr} {o : Obj} {kvs : List (Key × V)} (h : H d = some (.frz o (.dK kvs))) (q : R (Iti d o kvs) H) : kItems R (.ref d) H := ⟨d, o, kvs, rfl, h, q⟩
theorem k_forItems {d : Addr} {o : Obj} {kvs : List (Key × V)} {g : TG} {tb : TS} (Pv : Nat → L2.St → Hp → Prop) (h0 : Pv 0 σ H) (hl : ∀ i σ H, Pv i σ H → H d = some (.frz o (.dK kvs)))
    (hs : ∀ i k v T σ H, kvs[i]? = some (k, v) → Pv i σ H → H T = none → g (.ref T) σ (upd H T (.tup [kV k, v])) fun σ2 H2 => tb { D with nx := Pv (i + 1), ct := Pv (i + 1), bk := D.nx } σ2 H2) (hd : ∀ σ H, Pv kvs.length σ H → D.nx σ H) : kFor (Iti d o kvs) g tb D σ H := by
  refine ⟨fun i m σ H => m + i = kvs.length ∧ Pv i σ H, ⟨kvs.length, by omega, h0⟩, ?_⟩
  rintro i m σ H ⟨em, p⟩
  have hz := hl i σ H p
  by_cases lt : i < kvs.length
  · refine .inr ⟨⟨hz, lt⟩, Pv (i + 1), fun σ' H' p' => ⟨m - 1, by omega, by omega, p'⟩, ?_⟩
    rintro x H' ⟨T, k, v, hk, rfl, hT, rfl⟩
    exact hs i k v T σ _ hk p hT
  · have e : i = kvs.length := by omega
    subst e
    exact .inl ⟨⟨hz, Nat.le_refl _⟩, hd σ H p⟩
end
def spSidesByD : Sp := fun vs H Q _ => ∃ (t l : Addr) (es ns : List Int), vs = [.ref t, .ref l] ∧ H t = some (.dK (mkD es)) ∧ H l = some (.lst (ns.map V.int)) ∧ ns.length ≤ 1000 ∧ ∀ (u a b : Addr) (H' : Hp), Same H H' → SidesAt H' u a b (ns.filter fun k => decide (k ∈ es)) (ns.filter fun k => !decide (k ∈ es)) → Q (.ref u) H'
/-- those that part what is arranged -/
noncomputable def usefL (rows : List (List Int)) (ns fs : List Int) : List Int := fs.filter fun f => !decide (badL rows f.toNat ns = []) && !decide (goodL rows f.toNat ns = [])
structure UsAt (H : Hp) (u : Addr) (as : List Addr) (fs : List Int) : Prop where
  hp : H u = some (.lst (as.map V.ref))
  len : as.length = fs.length
  at' : ∀ (i : Nat) (a : Addr) (f : Int), as[i]? = some a → fs[i]? = some f → ∃ b g : Addr, H a = some (.tup [.int f, .ref b, .ref g])
def spUsSides (K : PySem.W.Frag) : Sp := fun vs H Q _ => ∃ (kd : Bool) (t l : Addr) (fs ms : List Int) (es : List Addr) (rows : List (List Int)), vs = [.ref t, .ref l] ∧ TriesAt H t fs es rows ∧ fs.length ≤ 40 ∧ SqK K kd H l (ms.map V.int) ∧ ms.length ≤ 1000 ∧ (∀ m ∈ ms, 0 ≤ m ∧ m < 40) ∧
  ∀ ns : List Int, ns.Pairwise (· < ·) → (∀ k, k ∈ ns ↔ k ∈ ms) → ∀ (u : Addr) (as : List Addr) (H' : Hp), Same H H' → UsAt H' u as (usefL rows ns fs) → Q (.ref u) H'
end Bk
/-! the least that parts two -/
namespace Bk
open PySem PySem.Spec PyProof.Rows L2
theorem k_neBB {H : Hp} {Q : VK} {a b : Bool} (h : Q (.bl (!decide (a = b))) H) : rNe (.bl a) (.bl b) H Q := ⟨rfl, by
  have e : decide (V.bl a = V.bl b) = decide (a = b) := by
    by_cases q : a = b
    · simp [q]
    · have : ¬ V.bl a = V.bl b := fun z => q (V.bl.inj z)
      simp [q, this]
  rw [e]; exact h⟩
noncomputable def prt (rows : List (List Int)) (x y : Nat) (f : Int) : Bool := !decide (decide (Cm rows f.toNat x) = decide (Cm rows f.toNat y))
def headV : List Int → V
  | [] => .non
  | f :: _ => .int f
noncomputable def leastV (rows : List (List Int)) (x y : Nat) (gs : List Int) : V := headV ((freeL rows.length gs).filter (prt rows x y))
theorem usefL_prt {rows : List (List Int)} {x y : Nat} {ns fs : List Int} (h : ∀ k, k ∈ ns ↔ k = (x : Int) ∨ k = (y : Int)) : usefL rows ns fs = fs.filter (prt rows x y) := by
  refine List.filter_congr fun f _ => ?_
  have hb : badL rows f.toNat ns = [] ↔ ¬ Cm rows f.toNat x ∧ ¬ Cm rows f.toNat y := by
    unfold badL
    rw [List.filter_eq_nil_iff]
    constructor
    · intro z
      exact ⟨fun c => z (x : Int) ((h _).mpr (.inl rfl)) (by simpa using c), fun c => z (y : Int) ((h _).mpr (.inr rfl)) (by simpa using c)⟩
    · rintro ⟨z1, z2⟩ k hk
      rcases (h k).mp hk with rfl | rfl
      · simpa using z1
      · simpa using z2
  have hg : goodL rows f.toNat ns = [] ↔ Cm rows f.toNat x ∧ Cm rows f.toNat y := by
    unfold goodL
    rw [List.filter_eq_nil_iff]
    constructor
    · intro z
      have a := z (x : Int) ((h _).mpr (.inl rfl))
      have b := z (y : Int) ((h _).mpr (.inr rfl))
      simpa using And.intro a b
    · rintro ⟨z1, z2⟩ k hk
      rcases (h k).mp hk with rfl | rfl
      · simpa using z1
      · simpa using z2
  have hb' : decide (badL rows f.toNat ns = []) = (!decide (Cm rows f.toNat x) && !decide (Cm rows f.toNat y)) := by
    apply Bool.eq_iff_iff.mpr
    rw [decide_eq_true_eq, hb]
    simp
  have hg' : decide (goodL rows f.toNat ns = []) = (decide (Cm rows f.toNat x) && decide (Cm rows f.toNat y)) := by
    apply Bool.eq_iff_iff.mpr
    rw [decide_eq_true_eq, hg]
    simp
  unfold prt
  rw [hb', hg']
  cases decide (Cm rows f.toNat x) <;> cases decide (Cm rows f.toNat y) <;> rfl
theorem freeL_pre (gs : List Int) : ∀ n i, i ≤ n → ∃ r, freeL n gs = freeL i gs ++ r
  | 0, i, h => by
    obtain rfl : i = 0 := by omega
    exact ⟨[], by simp⟩
  | n + 1, i, h => by
    by_cases e : i = n + 1
    · subst e
      exact ⟨[], by simp⟩
    · obtain ⟨r, hr⟩ := freeL_pre gs n i (by omega)
      rw [freeL_succ]
      split
      · exact ⟨r, hr⟩
      · exact ⟨r ++ [(n : Int)], by rw [hr, List.append_assoc]⟩
theorem least_hit {rows : List (List Int)} {x y : Nat} {gs : List Int} {i : Nat} (hi : i < rows.length) (h0 : (freeL i gs).filter (prt rows x y) = []) (hg : ((i : Nat) : Int) ∉ gs) (hp : prt rows x y (i : Int) = true) : leastV rows x y gs = .int (i : Int) := by
  unfold leastV
  obtain ⟨r, hr⟩ := freeL_pre gs rows.length (i + 1) hi
  rw [hr, freeL_succ, if_neg hg, List.filter_append, List.filter_append, h0, List.filter_cons, if_pos hp]
  rfl
theorem least_non {rows : List (List Int)} {x y : Nat} {gs : List Int} (h0 : (freeL rows.length gs).filter (prt rows x y) = []) : leastV rows x y gs = .non := by
  unfold leastV
  rw [h0]
  rfl
theorem prt_comm (rows : List (List Int)) (x y : Nat) : prt rows x y = prt rows y x := by
  funext f
  unfold prt
  congr 1
  exact decide_eq_decide.mpr eq_comm
theorem least_plain {rows : List (List Int)} (ok : RowsOk rows) {x y : Nat} (hx : x < rows.length) (hy : y < rows.length) : leastV rows x y [] = .non ↔ x = y := by
  constructor
  · intro h
    by_cases e : x = y
    · exact e
    · exfalso
      have mem : (((min x y : Nat) : Int)) ∈ (freeL rows.length []).filter (prt rows x y) := by
        rw [List.mem_filter]
        refine ⟨freeL_mem.mpr ⟨by omega, by omega, by simp⟩, ?_⟩
        unfold prt
        have tn : (((min x y : Nat) : Int)).toNat = min x y := by omega
        rw [tn]
        rcases Nat.lt_or_gt_of_ne e with lt | lt
        · rw [Nat.min_eq_left (by omega)]
          have c1 : Cm rows x x := (cm_iff (List.getElem?_eq_getElem hx)).mpr (.inl rfl)
          have c2 : ¬ Cm rows x y := fun c => by have := c.le ok; omega
          simp [c1, c2]
        · rw [Nat.min_eq_right (by omega)]
          have c1 : Cm rows y y := (cm_iff (List.getElem?_eq_getElem hy)).mpr (.inl rfl)
          have c2 : ¬ Cm rows y x := fun c => by have := c.le ok; omega
          simp [c1, c2]
      unfold leastV at h
      cases hl : (freeL rows.length []).filter (prt rows x y) with
      | nil =>
        rw [hl] at mem
        cases mem
      | cons a r =>
        rw [hl] at h
        cases h
  · rintro rfl
    refine least_non ?_
    rw [List.filter_eq_nil_iff]
    intro a _
    simp [prt]
theorem headV_or (xs : List Int) : headV xs = .non ∨ ∃ i, headV xs = .int i := by
  cases xs with
  | nil => exact .inl rfl
  | cons a r => exact .inr ⟨a, rfl⟩
theorem cut_sub (ms : List Int) (lo hi : Option Int) : ∃ rs : List Int, cutV (ms.map V.int) lo hi = rs.map V.int ∧ rs.length ≤ ms.length ∧ ∀ m ∈ rs, m ∈ ms := by
  unfold cutV
  refine ⟨_, by rw [← List.map_drop, ← List.map_take], ?_, fun m hm => ?_⟩
  · rw [List.length_take, List.length_drop]
    omega
  · exact List.mem_of_mem_drop (List.mem_of_mem_take hm)
def spBarred22 : Sp := fun vs H Q _ => ∃ (G : Hp) (d : Addr) (b many : Nat), vs = [.ref d, .int (many : Nat)] ∧ DeckL G H d b ∧ b ≤ 1000000 ∧ 1 ≤ many ∧ many ≤ 40 ∧
  ∀ (l : Addr) (ms : List Int) (G' H' : Hp), Same G G' → G' l = some (.lst (ms.map V.int)) → ms.length ≤ 100 → (∀ m ∈ ms, goodM many m) → DeckL G' H' d (b + 200) → Q (.ref l) H'
def spUseful (K : PySem.W.Frag) : Sp := fun vs H Q _ => ∃ (kd : Bool) (p l : Addr) (v : V) (bs : List Addr) (rows : List (List Int)) (ms gs : List Int), vs = [.ref p, .ref l, v] ∧ NetAt H p bs rows ∧ RowsOk rows ∧ rows.length ≤ 40 ∧ SqK K kd H l (ms.map V.int) ∧ ms.length ≤ 1000 ∧ (∀ m ∈ ms, goodM rows.length m) ∧ BarAt K H v gs ∧ gs.length ≤ 1000 ∧ (∀ g ∈ gs, goodM rows.length g) ∧
  ∀ ns : List Int, ns.Pairwise (· < ·) → (∀ k, k ∈ ns ↔ k ∈ ms) → ∀ (u : Addr) (H' : Hp), Same H H' → H u = none → H' u = some (.lst ((usefL rows ns (freeL rows.length gs)).map V.int)) → Q (.ref u) H'
def spParting (K : PySem.W.Frag) : Sp := fun vs H Q _ => ∃ (p : Addr) (v : V) (bs : List Addr) (rows : List (List Int)) (gs : List Int) (x y : Nat), vs = [.ref p, .int (x : Nat), .int (y : Nat), v] ∧ NetAt H p bs rows ∧ RowsOk rows ∧ rows.length ≤ 40 ∧ x < rows.length ∧ y < rows.length ∧ BarAt K H v gs ∧ gs.length ≤ 1000 ∧ (∀ g ∈ gs, goodM rows.length g) ∧
  ∀ H' : Hp, Same H H' → Q (leastV rows x y gs) H'
def spLeast : Sp := fun vs H Q _ => ∃ (o l : Addr) (rs : List Addr) (rows : List (List Int)) (gs : List Int) (x y : Nat), vs = [.ref o, .int (x : Nat), .int (y : Nat), .ref l] ∧ ReachAt H o rs rows rows.length ∧ rows.length ≤ 40 ∧ H l = some (.lst (gs.map V.int)) ∧ x < rows.length ∧ y < rows.length ∧ ∀ H' : Hp, Same H H' → Q (leastV rows x y gs) H'
def spSameN : Sp := fun vs H Q _ => (∃ xs : List Int, vs = [headV xs, headV xs]) ∧ ∀ H', Same H H' → Q (.bl true) H'
end Bk
/-! what is arranged; sides, parts, parting that refuse -/
namespace Bk
open PySem PySem.Spec PyProof.Rows L2
def spRising (K : PySem.W.Frag) : Sp := fun vs H Q _ => ∃ (kd : Bool) (l : Addr) (ms : List Int), vs = [.ref l] ∧ SqK K kd H l (ms.map V.int) ∧ ms.length ≤ 1000 ∧ (∀ m ∈ ms, 0 ≤ m ∧ m < 40) ∧
  ∀ ns : List Int, ns.Pairwise (· < ·) → (∀ k, k ∈ ns ↔ k ∈ ms) → ns.length ≤ 40 → ∀ (t : Addr) (H' : Hp), Same H H' → H t = none → H' t = some (.tup (ns.map V.int)) → Q (.ref t) H'
def spSidesByT : Sp := fun vs H Q _ => ∃ (t l : Addr) (es ns : List Int), vs = [.ref t, .ref l] ∧ H t = some (.tup (es.map V.int)) ∧ H l = some (.tup (ns.map V.int)) ∧ ns.length ≤ 1000 ∧ ∀ (u a b : Addr) (H' : Hp), Same H H' → SidesAt H' u a b (ns.filter fun k => decide (k ∈ es)) (ns.filter fun k => !decide (k ∈ es)) → Q (.ref u) H'
def spSidesByDT : Sp := fun vs H Q _ => ∃ (t l : Addr) (es ns : List Int), vs = [.ref t, .ref l] ∧ H t = some (.dK (mkD es)) ∧ H l = some (.tup (ns.map V.int)) ∧ ns.length ≤ 1000 ∧ ∀ (u a b : Addr) (H' : Hp), Same H H' → SidesAt H' u a b (ns.filter fun k => decide (k ∈ es)) (ns.filter fun k => !decide (k ∈ es)) → Q (.ref u) H'
def spSidesR (K : PySem.W.Frag) (C : Addr) : Sp := fun vs H Q E => ∃ (kd : Bool) (p l : Addr) (bs : List Addr) (rows : List (List Int)) (ms : List Int) (m : Int), vs = [.ref p, .ref l, .int m] ∧ NetAt H p bs rows ∧ RowsOk rows ∧ rows.length ≤ 40 ∧ SqK K kd H l (ms.map V.int) ∧ ms.length ≤ 1000 ∧ (∀ k ∈ ms, goodM rows.length k) ∧ smallI m ∧
  (∀ m' : Nat, m = (m' : Int) → m' < rows.length → ∀ ns : List Int, ns.Pairwise (· < ·) → (∀ k, k ∈ ns ↔ k ∈ ms) → ∀ (u a b : Addr) (H' : Hp), Same H H' → SidesAt H' u a b (badL rows m' ns) (goodL rows m' ns) → Q (.ref u) H') ∧ badE C rows.length [m] H E
def spPartsR (K : PySem.W.Frag) (C : Addr) : Sp := fun vs H Q E => ∃ (kd : Bool) (p l : Addr) (bs : List Addr) (rows : List (List Int)) (ms : List Int) (m : Int), vs = [.ref p, .ref l, .int m] ∧ NetAt H p bs rows ∧ RowsOk rows ∧ rows.length ≤ 40 ∧ SqK K kd H l (ms.map V.int) ∧ ms.length ≤ 1000 ∧ (∀ k ∈ ms, goodM rows.length k) ∧ smallI m ∧
  (∀ m' : Nat, m = (m' : Int) → m' < rows.length → ∀ ns : List Int, ns.Pairwise (· < ·) → (∀ k, k ∈ ns ↔ k ∈ ms) → ∀ H' : Hp, Same H H' → Q (.bl (!decide (badL rows m' ns = []) && !decide (goodL rows m' ns = []))) H') ∧ badE C rows.length [m] H E
def spPartingR (K : PySem.W.Frag) (C : Addr) : Sp := fun vs H Q E => ∃ (p : Addr) (v : V) (bs : List Addr) (rows : List (List Int)) (gs : List Int) (x y : Int), vs = [.ref p, .int x, .int y, v] ∧ NetAt H p bs rows ∧ RowsOk rows ∧ rows.length ≤ 40 ∧ smallI x ∧ smallI y ∧ BarAt K H v gs ∧ gs.length ≤ 1000 ∧ (∀ g ∈ gs, goodM rows.length g) ∧
  (∀ x' y' : Nat, x = (x' : Int) → y = (y' : Int) → x' < rows.length → y' < rows.length → ∀ H' : Hp, Same H H' → Q (leastV rows x' y' gs) H') ∧ badE C rows.length [x, y] H E
/-- which numbers are asked by a way -/
def asked24 (way x y : Int) : List Int := if way < 2 then [x] else [x, y]
def T24 (way x y : Int) (v : V) (H' : Hp) : Prop := (way = 0 → ∃ (u a b : Addr) (xs ys : List Int), v = .ref u ∧ SidesAt H' u a b xs ys) ∧ (way = 1 → ∃ b : Bool, v = .bl b) ∧ (way = 2 → x = y → v = .non)
def spTold24 (C : Addr) : Sp := fun vs H Q E => ∃ (p l : Addr) (bs : List Addr) (rows : List (List Int)) (ms : List Int) (way x y : Int), vs = [.int way, .ref p, .ref l, .int x, .int y] ∧ NetAt H p bs rows ∧ RowsOk rows ∧ rows.length ≤ 40 ∧ H l = some (.lst (ms.map V.int)) ∧ ms.length ≤ 1000 ∧ (∀ k ∈ ms, goodM rows.length k) ∧ smallI x ∧ smallI y ∧ 0 ≤ way ∧ way < 3 ∧
  ((∀ m ∈ asked24 way x y, goodM rows.length m) → ∀ (v : V) (H' : Hp), Same H H' → T24 way x y v H' → Q v H') ∧ badE C rows.length (asked24 way x y) H E
def spRef24 : Sp := fun vs H Q _ => ∃ (p l : Addr) (bs : List Addr) (rows : List (List Int)) (ms : List Int) (way x y b : Int), vs = [.int way, .ref p, .ref l, .int x, .int y] ∧ NetAt H p bs rows ∧ RowsOk rows ∧ rows.length ≤ 40 ∧ H l = some (.lst (ms.map V.int)) ∧ ms.length ≤ 1000 ∧ (∀ k ∈ ms, goodM rows.length k) ∧ smallI x ∧ smallI y ∧ 0 ≤ way ∧ way < 3 ∧ FirstBad rows.length (asked24 way x y) b ∧
  ∀ H' : Hp, Same H H' → Q (.int b) H'
def spNoMk (K : PySem.W.Frag) (C : Addr) : Sp := fun vs H Q _ => ∃ (a d : Addr) (fs : List (Str × V)), vs = [.ref a] ∧ XAt K H a C d fs ∧ ∀ H', Same H H' → Q (.bl true) H'
def spNumD : Sp := fun vs H Q _ => ∃ (G : Hp) (d : Addr) (b many : Nat), vs = [.ref d, .int (many : Nat)] ∧ DeckL G H d b ∧ b ≤ 1000000 ∧ 1 ≤ many ∧ many ≤ 40 ∧ ∀ (m : Int) (H' : Hp), ¬ goodM many m → smallI m → DeckL G H' d (b + 2) → Q (.int m) H'
theorem leastV_self {rows : List (List Int)} {x : Nat} {gs : List Int} : leastV rows x x gs = .non := by
  refine least_non ?_
  rw [List.filter_eq_nil_iff]
  intro a _
  simp [prt]
theorem kitAny_no {K : PySem.W.Frag} {C : Addr} : ∀ cs : List Addr, (∀ c ∈ cs, PySem.W.kitOne K (.ref C) (.ref c) = some false) → PySem.W.kitAny K (.ref C) (cs.map Value.ref) = some false
  | [], _ => rfl
  | c :: cs, h => by
    rw [List.map_cons]
    unfold PySem.W.kitAny
    rw [h c (by simp), kitAny_no cs fun d hd => h d (List.mem_cons_of_mem _ hd)]
end Bk
namespace Bk
open PySem PySem.Spec PyProof.Rows L2
/-- the useful ones, with their sides -/
structure UsS (H : Hp) (u : Addr) (as : List Addr) (rows : List (List Int)) (ns fs : List Int) : Prop where
  hp : H u = some (.lst (as.map V.ref))
  len : as.length = fs.length
  at' : ∀ (i : Nat) (a : Addr) (f : Int), as[i]? = some a → fs[i]? = some f → ∃ b g : Addr, H a = some (.tup [.int f, .ref b, .ref g]) ∧ H b = some (.tup ((badL rows f.toNat ns).map V.int)) ∧ H g = some (.tup ((goodL rows f.toNat ns).map V.int))
theorem UsS.same {H H' : Hp} {u : Addr} {as : List Addr} {rows : List (List Int)} {ns fs : List Int} (U : UsS H u as rows ns fs) (s : Same H H') : UsS H' u as rows ns fs := ⟨s _ _ U.hp, U.len, fun i a f h1 h2 => by
  obtain ⟨b, g, q1, q2, q3⟩ := U.at' i a f h1 h2
  exact ⟨b, g, s _ _ q1, s _ _ q2, s _ _ q3⟩⟩
def spUsS (K : PySem.W.Frag) : Sp := fun vs H Q _ => ∃ (kd : Bool) (t l : Addr) (fs ms : List Int) (es : List Addr) (rows : List (List Int)), vs = [.ref t, .ref l] ∧ TriesAt H t fs es rows ∧ fs.length ≤ 40 ∧ SqK K kd H l (ms.map V.int) ∧ ms.length ≤ 1000 ∧ (∀ m ∈ ms, 0 ≤ m ∧ m < 40) ∧
  ∀ ns : List Int, ns.Pairwise (· < ·) → (∀ k, k ∈ ns ↔ k ∈ ms) → ns.length ≤ 40 → ∀ (u : Addr) (as : List Addr) (H' : Hp), Same H H' → UsS H' u as rows ns (usefL rows ns fs) → Q (.ref u) H'
end Bk
/-! dicts with tuples as keys: setdefault, values walked -/
namespace Bk
open PySem PySem.Spec PyProof.Rows L2
section
variable {X : Cx} {pins : List (Addr × Obj)} {σ : L2.St} {H : Hp} {s : Shared} {a : Addr} {r : Value} {d : V} {A : Around} {E : Value → Shared → Prop}
theorem d_setdT {kvs : List (List L2.Key × V)} {k : List L2.Key} {b : Addr} {Q : Value → Shared → Prop} (hu : A.units + 1 < cLine) (I : Inv X pins σ H s) (e : H a = some (.dT kvs)) (eb : H b = some (.tup (k.map kV))) (rd : RelV d r) (hl : kvs.length < sizeLine)
    (h1 : ∀ v, valV kvs k = some v → ∀ (w' : Value) (s' : Shared), Inv X pins σ H s' → RelV v w' → Q w' s') (h2 : valV kvs k = none → ∀ (w' : Value) (s' : Shared), Inv X pins σ (upd H a (.dT (putK kvs k d))) s' → RelV d w' → Q w' s') :
    wpAny (model X.prog X.w) A (call (.builtin "dict.setdefault") [.ref a, .ref b, r]) Q E s := by
  obtain ⟨z, hd, xs, rel, dd⟩ := dt_of I.hok e
  have hz : xs.length ≤ sizeLine := by rw [← Paired.length rel]; exact z
  have hl2 : (putK kvs k d).length ≤ sizeLine := by have := length_putK kvs k d; omega
  have q := rel.val k
  refine call_setdefault_heap (hsz := hz) (tupleKind_room_in1 hu) (key_of I.hok eb) hd dd (fun p hp => ?_) fun hn h' dd' hs => ?_
  · rw [hp] at q
    cases q0 : valV kvs k with
    | none =>
      rw [q0] at q
      exact (show False from q).elim
    | some v0 =>
      rw [q0] at q
      exact h1 v0 q0 _ _ (I.tok _) q
  · rw [hn] at q
    cases q0 : valV kvs k with
    | some v0 =>
      rw [q0] at q
      exact (show False from q).elim
    | none =>
      obtain ⟨q', es, ep, hq, g2, g3, g4, _, g5⟩ := dd'
      refine h2 q0 _ _ (d_write I (by rw [e]; exact True.intro) hs ⟨q', hq⟩ ⟨hl2, hd, _, (rel.put k eb rd).keeps fun c ys ec => ?_, q', es, ep, hq, g2, g3, g4, g5⟩) rd
      rw [upd_ne (ne_of ec e (fun z => nomatch z))]
      exact ec
end
/-- d.setdefault((..), z) -/
def kDSetdT (Q : VK) (a : Addr) (y z : V) (H3 : Hp) : Prop := ∃ (kvs : List (List L2.Key × V)) (k : List L2.Key) (b : Addr), H3 a = some (.dT kvs) ∧ y = .ref b ∧ H3 b = some (.tup (k.map kV)) ∧ kvs.length < sizeLine ∧
  (∀ v, valV kvs k = some v → Q v H3) ∧ (valV kvs k = none → Q z (upd H3 a (.dT (putK kvs k z))))
def kDSetdX (ty tx : TE) (σ : L2.St) (Q : VK) (x : V) (H1 : Hp) : Prop := ∃ a, x = .ref a ∧ IsD H1 a ∧ ty σ H1 fun y H2 => tx σ H2 fun z H3 => kDSetdT Q a y z H3
def tDSetdT (td ty tx : TE) : TE := fun σ H Q => td σ H fun x H1 => kDSetdX ty tx σ Q x H1
section
variable {X : Cx} {o e f : Expr} {td ty tx : TE} {apos cpos : Pos}
theorem pe_dsetdT (hu : X.A.units + 1 < cLine) (ho : PE X o td) (he : PE X e ty) (hf : PE X f tx) (m : M2 X o "setdefault" apos e f cpos) : PE X (.Call (.Attribute o "setdefault" apos) [e, f] [] cpos) (tDSetdT td ty tx) := by
  refine ⟨fun pins s σ H Q I h => ?_⟩
  refine wpAny_Call_method m.base m.few m.line PySem.F.plainAttrs_dict PySem.F.slot_dict_setdefault PySem.F.type_dict_setdefault (thn (ho.run pins s σ H _ I h) fun u s1 ⟨x, H1, I1, rx, a, ex, d, q1⟩ => ?_)
  subst ex
  obtain rfl : u = Value.ref a := rx
  obtain ⟨t1, t2, _⟩ := isD_at I1 d
  refine ⟨t1, t2, ?_⟩
  rw [m.trees]
  refine Calls.callWith_builtin rfl (Calls.evalArgs_plain (Calls.spliced_cons (thn (he.run pins s1 σ H1 _ I1 q1) fun iv s2 ⟨y, H2, I2, ry, q2⟩ =>
    Calls.spliced_cons (thn (hf.run pins s2 σ H2 _ I2 q2) fun fv s3 ⟨z, H3, I3, rz, kvs, k, b, ea, ey, eb, hl, q3, q4⟩ => Calls.spliced_nil ?_))))
  subst ey
  cases (show iv = Value.ref b from ry)
  exact d_setdT hu I3 ea eb rz hl (fun v hv w' s4 I4 rw' => ⟨v, _, I4, rw', q3 v hv⟩) fun hn w' s4 I4 rw' => ⟨z, _, I4, rw', q4 hn⟩
end
section
variable {σ : L2.St} {H : Hp} {Q : VK}
theorem r_dsetdT {td ty tx : TE} (h : td σ H fun x H1 => kDSetdX ty tx σ Q x H1) : tDSetdT td ty tx σ H Q := h
theorem k_dsetdX {ty tx : TE} {a : Addr} {kvs : List (List L2.Key × V)} (hd : H a = some (.dT kvs)) (h : ty σ H fun y H2 => tx σ H2 fun z H3 => kDSetdT Q a y z H3) : kDSetdX ty tx σ Q (.ref a) H := ⟨a, rfl, .inr ⟨kvs, .inl hd⟩, h⟩
theorem k_dsetdT {a b : Addr} {z : V} {kvs : List (List L2.Key × V)} {k : List L2.Key} (hd : H a = some (.dT kvs)) (hb : H b = some (.tup (k.map kV))) (hl : kvs.length < sizeLine) (h1 : ∀ v, valV kvs k = some v → Q v H) (h2 : valV kvs k = none → Q z (upd H a (.dT (putK kvs k z)))) : kDSetdT Q a (.ref b) z H := ⟨kvs, k, b, hd, rfl, hb, hl, h1, h2⟩
end
/-! ### for v in d.values(), d with tuples as keys -/
def Itdt (d : Addr) (o : Obj) (kvs : List (List L2.Key × V)) : It :=
  ⟨fun i H => H d = some (.frz o (.dT kvs)) ∧ i < kvs.length, fun i H x H' => H' = H ∧ ∃ k, kvs[i]? = some (k, x), fun i H => H d = some (.frz o (.dT kvs)) ∧ kvs.length ≤ i⟩
section
variable {X : Cx} {pins : List (Addr × Obj)} {σ : L2.St} {H : Hp} {s : Shared} {d : Addr} {o : Obj}
theorem frzTV {kvs : List (List L2.Key × V)} (I : Inv X pins σ H s) (h : H d = some (.frz o (.dT kvs))) :
    (d == sysModules) = false ∧ s.heap.get? d = some o ∧ o.ExactDict ∧ ∃ (es : Array DictEntry) (ep : Nat), o.data = .dict es ep ∧ es.size = kvs.length ∧
      ∀ (i : Nat) (k : List L2.Key) (v : V), kvs[i]? = some (k, v) → ∃ en : DictEntry, es[i]? = some en ∧ RelV v en.val := by
  obtain ⟨hd, z, hs, xs, pr, o', es, ep, ho, hx, hdt, he, _⟩ := I.hok d _ h
  rw [hd] at ho
  cases ho
  refine ⟨hs, hd, hx, es, ep, hdt, ?_, fun i k v e => ?_⟩
  · have l1 : es.size = xs.length := size_of_entries he
    have l2 : kvs.length = xs.length := Paired.length pr
    omega
  · obtain ⟨b, hb, e1, e2, e3⟩ := paired_get pr e
    have q := entry_at he i
    rw [hb] at q
    exact ⟨_, q, e3⟩
end
section
variable {P : Program} {w : World} {K : PySem.W.Frag} {tg : Expr} {d : Addr} {o : Obj} {es : Array DictEntry} {ep : Nat}
theorem turn_valsT {kvs : List (List L2.Key × V)} (it : Addr) (hod : o.data = .dict es ep) : Turn P w K tg (Itdt d o kvs) [it] it (fun i h => h.IsValIter it d i kvs.length ep) where
  mem := by simp
  obj := fun i h st b hb => by
    have e : b = it := by simpa using hb
    subst e
    obtain ⟨oi, e, c, dd⟩ := st
    exact ⟨oi, e, fun v z => by rw [dd] at z; cases z⟩
  keep := fun i h h' st k => st.at fun oi e => k it (by simp) oi e
  item := by
    intro X hP hw hK hc i pins s σ H E I hf st hg
    subst hP hw hK
    obtain ⟨hd, hi⟩ := hg
    obtain ⟨f0, f1, f2, f3, f4, f5⟩ := hf it (by simp)
    obtain ⟨hs, hgd, hx, es', ep', hdt, hsz, ent⟩ := frzTV I hd
    obtain ⟨rfl, rfl⟩ := dict_ep hod hdt
    obtain ⟨⟨k, v⟩, hkv⟩ : ∃ p, kvs[i]? = some p := ⟨kvs[i], List.getElem?_eq_getElem hi⟩
    obtain ⟨en, hen, rv⟩ := ent i k v hkv
    have raw : s.heap.DictRaw d es' ep' := ⟨o, hgd, hx, hdt⟩
    rw [← hsz] at st
    have lt : i < es'.size := by omega
    have ev : es'[i] = en := by
      rw [Array.getElem?_eq_getElem lt] at hen
      exact Option.some.inj hen
    refine wpAny_pyNext_values_item_raw st raw lt fun h' st' sb => ?_
    have I1 : Inv X pins σ H { s with heap := h' } := I.turned (t' := s.toks) (fun b ob hb e => (sb.2 b hb).trans e) f0 f1 f3 f4 f5
    obtain ⟨oi, e, c, dd⟩ := id st'
    refine ⟨es'[i].val, rfl, go_of (s := { s with heap := h' }) e c dd (by decide) ⟨v, H, I1, by rw [ev]; exact rv, ⟨rfl, k, hkv⟩, ?_, fun b hb => (hf b hb).1⟩⟩
    show h'.IsValIter it d (i + 1) kvs.length _
    rw [← hsz]
    exact st'
  done := by
    intro X hP hw hK hc i pins s σ H E I hf st hg
    subst hP hw hK
    obtain ⟨hd, hi⟩ := hg
    obtain ⟨f0, f1, f2, f3, f4, f5⟩ := hf it (by simp)
    obtain ⟨hs, hgd, hx, es', ep', hdt, hsz, ent⟩ := frzTV I hd
    obtain ⟨rfl, rfl⟩ := dict_ep hod hdt
    have raw : s.heap.DictRaw d es' ep' := ⟨o, hgd, hx, hdt⟩
    rw [← hsz] at st
    exact wpAny_pyNext_values_end_raw (I.ok.hd hc) st raw (by omega) fun h' eb => ⟨rfl, I.turned (t' := s.toks) (fun b ob hb e => eb b ob hb e) f0 f1 f3 f4 f5⟩
  self := fun A i s Q E st h => wpAny_pyIter_valiter st h
end
def kValsT (R : It → Hp → Prop) (x : V) (H1 : Hp) : Prop := ∃ d o kvs, x = .ref d ∧ H1 d = some (.frz o (.dT kvs)) ∧ R (Itdt d o kvs) H1
def iValsT (td : TE) : TI := fun σ H R => td σ H fun x H1 => kValsT R x H1
section
variable {X : Cx} {tg e : Expr} {td : TE} {apos cpos : Pos}
theorem pi_valuesT (he : PE X e td) (hbase : attributeBase e "values" X.env (eval e X.env) = eval e X.env := by rfl) (hline : (apos.endLine == cpos.line) = true := by rfl) : PI X tg (.Call (.Attribute e "values" apos) [] [] cpos) (iValsT td) := by
  refine ⟨fun pins s σ H R I h => ?_⟩
  refine wpAny_Call_method (T := "dict") (id := "dict.values") hbase rfl hline F.plainAttrs_dict F.slot_dict_values F.type_dict_values (thn (he.run pins s σ H _ I h) fun u s1 ⟨x, H1, I1, rx, d, o, kvs, ex, hd, q⟩ => ?_)
  subst ex
  obtain rfl : u = Value.ref d := rx
  obtain ⟨hs, hgd, hx, es, ep, hdt, hsz, ent⟩ := frzTV I1 hd
  have raw : s1.heap.DictRaw d es ep := ⟨o, hgd, hx, hdt⟩
  refine ⟨raw.typeIs, fun b q => by cases q; exact ⟨o, hgd, hx.2.1⟩, ?_⟩
  have I2 : Inv X pins σ H1 { s1 with heap := s1.heap.push { cls := .type "dict_values", data := .fields #[.ref d] } } := I1.kept (t' := s1.toks) fun b ob q => Heap.get?_push_of_some _ q
  have fin : wpAny (model X.prog X.w) X.A (pyIter (.ref s1.heap.objs.size)) (PIE X pins σ tg R) X.xe { s1 with heap := s1.heap.push { cls := .type "dict_values", data := .fields #[.ref d] } } := by
    refine wpAny_pyIter_values_raw (d := d) ⟨_, Heap.get?_push_size _ rfl, rfl, rfl⟩ (raw.at fun o e => Heap.get?_push_of_some _ e) (pi_one (tk := s1.toks) I2 _ (turn_valsT _ hdt) ⟨_, Heap.get?_push_size _ rfl, rfl, ?_⟩ q)
    rw [hsz] <;> rfl
  show wpAny _ _ (callWith cpos (.builtin "dict.values") [.ref d] [] []) _ X.xe s1
  exact method_meetsIn F.slot_dict_values F.entry_dict_values rfl (PySem.evalArgs_none ⟨rfl, raw.typeIs, F.args_dict_values_1 _, _, meets_dict_values_raw d hs, ⟨⟨es, ep, raw⟩, fin⟩⟩)
end
section
variable {σ : L2.St} {H : Hp} {Q : VK} {D : Ends}
theorem r_iValsT {td : TE} {R : It → Hp → Prop} (h : td σ H fun x H1 => kValsT R x H1) : iValsT td σ H R := h
theorem k_iValsT {R : It → Hp → Prop} {d : Addr} {o : Obj} {kvs : List (List L2.Key × V)} (h : H d = some (.frz o (.dT kvs))) (q : R (Itdt d o kvs) H) : kValsT R (.ref d) H := ⟨d, o, kvs, rfl, h, q⟩
theorem k_lcVT {d : Addr} {o : Obj} {kvs : List (List L2.Key × V)} {g : TG} {tt : TT} {te : TE} {vs : List Nat} (Pv : Addr → Nat → Hp → Prop) (h0 : ∀ Dl, H Dl = none → Pv Dl 0 (upd H Dl (.lst []))) (hl : ∀ Dl i H', H Dl = none → Pv Dl i H' → H' d = some (.frz o (.dT kvs)))
    (hs : ∀ Dl i k x H', H Dl = none → kvs[i]? = some (k, x) → Pv Dl i H' → kLcT g tt te vs σ Dl (Pv Dl (i + 1)) x H') (hd : ∀ Dl H', H Dl = none → Pv Dl kvs.length H' → Q (.ref Dl) H') : kLc (Itdt d o kvs) g tt te vs σ Q H := by
  intro Dl hD
  refine ⟨fun i m H' => m + i = kvs.length ∧ Pv Dl i H', ⟨kvs.length, by omega, h0 Dl hD⟩, ?_⟩
  rintro i m H' ⟨em, p⟩
  have hz := hl Dl i H' hD p
  by_cases lt : i < kvs.length
  · refine .inr ⟨⟨hz, lt⟩, Pv Dl (i + 1), fun H' p' => ⟨m - 1, by omega, by omega, p'⟩, ?_⟩
    rintro x H2 ⟨rfl, k, hk⟩
    exact hs Dl i k x _ hD hk p
  · have e : i = kvs.length := by omega
    subst e
    exact .inl ⟨⟨hz, Nat.le_refl _⟩, hd Dl H' hD p⟩
def kLockE (t : TE) (σ : L2.St) (H : Hp) (Q : VK) : Prop := tLockE t σ H Q
theorem k_lockE {t : TE} {d : Addr} {u : HO} (hd : H d = some u) (hm : Mut (some u)) (h : ∀ od, t σ (upd H d (.frz od u)) fun v H' => H' d = some (.frz od u) ∧ Q v (upd H' d u)) : tLockE t σ H Q := ⟨d, u, hd, hm, h⟩
end
end Bk
/-! classes of makes that are alike -/
namespace Bk
open PySem PySem.Spec PyProof.Rows L2
theorem r_dnewT {H : Hp} {σ : L2.St} {Q : VK} (h : ∀ p, H p = none → Q (.ref p) (upd H p (.dT []))) : tDNewT σ H Q := h
theorem pw_ext : ∀ {xs ys : List Int}, xs.Pairwise (· < ·) → ys.Pairwise (· < ·) → (∀ k, k ∈ xs ↔ k ∈ ys) → xs = ys
  | [], [], _, _, _ => rfl
  | [], y :: ys, _, _, h => absurd ((h y).mpr (by simp)) (by simp)
  | x :: xs, [], _, _, h => absurd ((h x).mp (by simp)) (by simp)
  | x :: xs, y :: ys, hx, hy, h => by
    rw [List.pairwise_cons] at hx hy
    have exy : x = y := by
      rcases List.mem_cons.mp ((h x).mp (by simp)) with e | e
      · exact e
      · rcases List.mem_cons.mp ((h y).mpr (by simp)) with e2 | e2
        · exact e2.symm
        · have h1 := hy.1 _ e
          have h2 := hx.1 _ e2
          omega
    subst exy
    rw [pw_ext hx.2 hy.2 fun k => ⟨fun hk => ?_, fun hk => ?_⟩]
    · rcases List.mem_cons.mp ((h k).mp (List.mem_cons_of_mem _ hk)) with e | e
      · have := hx.1 _ hk
        omega
      · exact e
    · rcases List.mem_cons.mp ((h k).mpr (List.mem_cons_of_mem _ hk)) with e | e
      · have := hy.1 _ hk
        omega
      · exact e
theorem DefAtD.okN {P : Program} {w : World} {K : PySem.W.Frag} {mg : Str → Option Value} {base : Heap} {x : Str} {st : Stmt} {N ps : List Str} {dvs : List V} {k : Nat} {sp : Sp} (T : DefAtD K mg x st dvs) (S : FnScope N ps (defScope st)) (len : ∀ vs H Q E, sp vs H Q E → vs.length = ps.length)
    (hbody : ∀ (f : Addr) (cdv : Value) (A : Around) (outer : List Env) (s : Shared) (H : Hp) (vs : List V) (Q : VK) (E : XK), Room k (A.deeper (envOfC x (defScope st) s.heap.objs.size f cdv)) → sp vs H Q E →
      ∃ t, PSs (cxOf CX0 P w K mg base N x (defScope st) f cdv A outer s H E).nox (defBody st) t ∧ t { nx := fun _ H' => Q .non H', rt := Q } (start N vs) H) : DefOkD P w K mg base CX0 (k + 1) x st dvs ps sp := by
  obtain ⟨f, fd, F, hm⟩ := T.ex
  refine ⟨f, fd, F, F.ok S len fun cdv A outer s H vs Q E hr hsp => ?_, hm⟩
  obtain ⟨t, h, q⟩ := hbody f cdv A outer s H vs Q E hr hsp
  exact ⟨t, h.nox, q⟩
/-- which of these tell of a make -/
noncomputable def tellL (rows : List (List Int)) (fs : List Int) (m : Int) : List Int := fs.filter fun f => decide (Cm rows f.toNat m.toNat)
theorem tell_eq {rows : List (List Int)} {fs : List Int} {a b : Int} : tellL rows fs a = tellL rows fs b ↔ ∀ f ∈ fs, (Cm rows f.toNat a.toNat ↔ Cm rows f.toNat b.toNat) := by
  constructor
  · intro h f hf
    have := congrArg (fun l => f ∈ l) h
    simp only [tellL, List.mem_filter, decide_eq_true_eq, eq_iff_iff] at this
    exact ⟨fun c => (this.mp ⟨hf, c⟩).2, fun c => (this.mpr ⟨hf, c⟩).2⟩
  · intro h
    exact List.filter_congr fun f hf => decide_eq_decide.mpr (h f hf)
/-- a make laid to its class -/
def clsAdd (tell : Int → List Int) : List (List Int) → Int → List (List Int)
  | [], m => [[m]]
  | r :: rs, m => if tell (r.headD 0) = tell m then (r ++ [m]) :: rs else r :: clsAdd tell rs m
def clsL (tell : Int → List Int) (ns : List Int) : List (List Int) := ns.foldl (clsAdd tell) []
theorem clsL_snoc (tell : Int → List Int) (ns : List Int) (m : Int) : clsL tell (ns ++ [m]) = clsAdd tell (clsL tell ns) m := by
  unfold clsL
  rw [List.foldl_append]
  rfl
theorem clsAdd_hit {tell : Int → List Int} {m : Int} : ∀ {rs : List (List Int)} {i : Nat} {r : List Int}, rs[i]? = some r → tell (r.headD 0) = tell m → (∀ j < i, ∀ s, rs[j]? = some s → tell (s.headD 0) ≠ tell m) → clsAdd tell rs m = rs.set i (r ++ [m])
  | [], i, r, h, _, _ => by simp at h
  | x :: xs, 0, r, h, e, _ => by
    simp at h
    subst h
    unfold clsAdd
    rw [if_pos e]
    rfl
  | x :: xs, i + 1, r, h, e, g => by
    unfold clsAdd
    rw [if_neg (g 0 (by omega) x rfl), clsAdd_hit (by simpa using h) e fun j hj s hs => g (j + 1) (by omega) s (by simpa using hs)]
    rfl
theorem clsAdd_miss {tell : Int → List Int} {m : Int} : ∀ {rs : List (List Int)}, (∀ s ∈ rs, tell (s.headD 0) ≠ tell m) → clsAdd tell rs m = rs ++ [[m]]
  | [], _ => rfl
  | x :: xs, g => by
    unfold clsAdd
    rw [if_neg (g x (by simp)), clsAdd_miss fun s hs => g s (List.mem_cons_of_mem _ hs)]
    rfl
structure ClsI (tell : Int → List Int) (ns : List Int) (rs : List (List Int)) : Prop where
  ne : ∀ r ∈ rs, r ≠ []
  same : ∀ r ∈ rs, ∀ x ∈ r, tell x = tell (r.headD 0)
  ap : (rs.map fun r => tell (r.headD 0)).Nodup
  perm : rs.flatten.Perm ns
theorem headD_app {r : List Int} {m : Int} (h : r ≠ []) : (r ++ [m]).headD 0 = r.headD 0 := by
  cases r with
  | nil => exact absurd rfl h
  | cons a r => rfl
theorem clsAdd_heads {tell : Int → List Int} {m : Int} : ∀ {rs : List (List Int)}, (∀ r ∈ rs, r ≠ []) → ((clsAdd tell rs m).map fun r => tell (r.headD 0)) = if tell m ∈ rs.map (fun r => tell (r.headD 0)) then rs.map (fun r => tell (r.headD 0)) else rs.map (fun r => tell (r.headD 0)) ++ [tell m]
  | [], _ => by simp [clsAdd]
  | x :: xs, h => by
    have hx := h x (by simp)
    have ih := clsAdd_heads (tell := tell) (m := m) (rs := xs) fun r hr => h r (List.mem_cons_of_mem _ hr)
    unfold clsAdd
    by_cases e : tell (x.headD 0) = tell m
    · rw [if_pos e, if_pos (by rw [List.map_cons]; exact List.mem_cons.mpr (.inl e.symm)), List.map_cons, List.map_cons, headD_app hx]
    · rw [if_neg e, List.map_cons, List.map_cons, ih]
      by_cases e2 : tell m ∈ xs.map fun r => tell (r.headD 0)
      · rw [if_pos e2, if_pos (List.mem_cons_of_mem _ e2)]
      · rw [if_neg e2, if_neg (by
          intro z
          rcases List.mem_cons.mp z with z | z
          · exact e z.symm
          · exact e2 z)]
        rfl
theorem clsAdd_perm {tell : Int → List Int} {m : Int} : ∀ {rs : List (List Int)}, (clsAdd tell rs m).flatten.Perm (rs.flatten ++ [m])
  | [] => by simp [clsAdd]
  | x :: xs => by
    unfold clsAdd
    split
    · rw [List.flatten_cons, List.flatten_cons, List.append_assoc, List.append_assoc]
      exact List.Perm.append_left _ List.perm_append_comm
    · rw [List.flatten_cons, List.flatten_cons, List.append_assoc]
      exact List.Perm.append_left _ clsAdd_perm
theorem clsAdd_mem {tell : Int → List Int} {m : Int} : ∀ {rs : List (List Int)} {r : List Int}, r ∈ clsAdd tell rs m → r ∈ rs ∨ r = [m] ∨ ∃ s ∈ rs, r = s ++ [m] ∧ tell (s.headD 0) = tell m
  | [], r, h => by
    simp [clsAdd] at h
    exact .inr (.inl h)
  | x :: xs, r, h => by
    unfold clsAdd at h
    split at h
    · rename_i e
      rcases List.mem_cons.mp h with z | z
      · exact .inr (.inr ⟨x, by simp, z, e⟩)
      · exact .inl (List.mem_cons_of_mem _ z)
    · rcases List.mem_cons.mp h with z | z
      · exact .inl (by rw [z]; simp)
      · rcases clsAdd_mem z with y | y | ⟨s, hs, y⟩
        · exact .inl (List.mem_cons_of_mem _ y)
        · exact .inr (.inl y)
        · exact .inr (.inr ⟨s, List.mem_cons_of_mem _ hs, y⟩)
theorem ClsI.add {tell : Int → List Int} {ns : List Int} {rs : List (List Int)} (I : ClsI tell ns rs) (m : Int) : ClsI tell (ns ++ [m]) (clsAdd tell rs m) := by
  refine ⟨fun r hr => ?_, fun r hr x hx => ?_, ?_, ?_⟩
  · rcases clsAdd_mem hr with z | z | ⟨s, hs, z, _⟩
    · exact I.ne r z
    · rw [z]; simp
    · rw [z]; simp
  · rcases clsAdd_mem hr with z | z | ⟨s, hs, z, e⟩
    · exact I.same r z x hx
    · subst z
      simp at hx
      subst hx
      rfl
    · subst z
      rw [headD_app (I.ne s hs)]
      rcases List.mem_append.mp hx with y | y
      · exact I.same s hs x y
      · simp at y
        subst y
        exact e.symm
  · rw [clsAdd_heads I.ne]
    split
    · exact I.ap
    · rename_i h
      refine List.nodup_append.mpr ⟨I.ap, by simp, fun a ha b hb z => ?_⟩
      simp at hb
      subst hb
      exact h (z ▸ ha)
  · exact clsAdd_perm.trans (I.perm.append_right _)
theorem clsI_from (tell : Int → List Int) : ∀ (ns pre : List Int) (rs : List (List Int)), ClsI tell pre rs → ClsI tell (pre ++ ns) (ns.foldl (clsAdd tell) rs)
  | [], pre, rs, h => by simpa using h
  | n :: ns, pre, rs, h => by
    have := clsI_from tell ns (pre ++ [n]) _ (h.add n)
    rw [List.append_assoc] at this
    exact this
theorem clsI (tell : Int → List Int) (ns : List Int) : ClsI tell ns (clsL tell ns) := clsI_from tell ns [] [] ⟨by simp, by simp, by simp, by simp⟩
theorem ClsI.mem {tell : Int → List Int} {ns : List Int} {rs : List (List Int)} (I : ClsI tell ns rs) {r : List Int} {x : Int} (hr : r ∈ rs) (hx : x ∈ r) : x ∈ ns := I.perm.mem_iff.mp (List.mem_flatten.mpr ⟨r, hr, hx⟩)
theorem ClsI.head {tell : Int → List Int} {ns : List Int} {rs : List (List Int)} (I : ClsI tell ns rs) {r : List Int} (hr : r ∈ rs) : r.headD 0 ∈ r := by
  have := I.ne r hr
  cases r with
  | nil => exact absurd rfl this
  | cons a r => simp
theorem cls_one {tell : Int → List Int} {ns : List Int} : (clsL tell ns).length ≤ 1 ↔ ∀ a ∈ ns, ∀ b ∈ ns, tell a = tell b := by
  have I := clsI tell ns
  generalize clsL tell ns = rs at I
  constructor
  · intro h a ha b hb
    obtain ⟨r, hr, har⟩ := List.mem_flatten.mp (I.perm.mem_iff.mpr ha)
    obtain ⟨s, hs, hbs⟩ := List.mem_flatten.mp (I.perm.mem_iff.mpr hb)
    have e : r = s := by
      match rs, h, hr, hs with
      | [x], _, hr, hs => rw [List.mem_singleton.mp hr, List.mem_singleton.mp hs]
    subst e
    rw [I.same r hr a har, I.same r hr b hbs]
  · intro h
    match rs, I with
    | [], _ => simp
    | [x], _ => simp
    | x :: y :: rest, I =>
      have ap := I.ap
      rw [List.map_cons, List.map_cons, List.nodup_cons] at ap
      refine absurd ?_ ap.1
      rw [h _ (I.mem (by simp) (I.head (r := x) (by simp))) _ (I.mem (by simp) (I.head (r := y) (by simp)))]
      simp
theorem clsL_len {tell : Int → List Int} {ns : List Int} : (clsL tell ns).length ≤ ns.length := by
  have I := clsI tell ns
  have hl := I.perm.length_eq
  rw [← hl]
  have ne := I.ne
  generalize clsL tell ns = rs at ne
  clear I hl
  induction rs with
  | nil => simp
  | cons r rs ih =>
    rw [List.flatten_cons, List.length_append, List.length_cons]
    have := ih fun s hs => ne s (List.mem_cons_of_mem _ hs)
    have h2 := ne r (by simp)
    have : 0 < r.length := List.length_pos_iff.mpr h2
    omega
theorem clsL_row {tell : Int → List Int} {ns : List Int} {r : List Int} (h : r ∈ clsL tell ns) : r.length ≤ ns.length := by
  have I := clsI tell ns
  rw [← I.perm.length_eq]
  exact (List.sublist_flatten_of_mem h).length_le
/-- settled: just where nothing is useful -/
theorem settled_iff {rows : List (List Int)} {ns fs : List Int} : (clsL (tellL rows fs) ns).length ≤ 1 ↔ usefL rows ns fs = [] := by
  rw [cls_one]
  unfold usefL
  rw [List.filter_eq_nil_iff]
  constructor
  · intro h f hf z
    simp only [Bool.and_eq_true, Bool.not_eq_eq_eq_not, Bool.not_true, decide_eq_false_iff_not] at z
    obtain ⟨zb, zg⟩ := z
    obtain ⟨a, ha⟩ := List.exists_mem_of_ne_nil _ zb
    obtain ⟨b, hb⟩ := List.exists_mem_of_ne_nil _ zg
    unfold badL at ha
    unfold goodL at hb
    rw [List.mem_filter, decide_eq_true_eq] at ha
    rw [List.mem_filter] at hb
    have := (tell_eq.mp (h a ha.1 b hb.1) f hf).mp ha.2
    simp [this] at hb
  · intro h a ha b hb
    refine tell_eq.mpr fun f hf => ?_
    have := h f hf
    simp only [Bool.and_eq_true, Bool.not_eq_eq_eq_not, Bool.not_true, decide_eq_false_iff_not, not_and, Decidable.not_not] at this
    by_cases eb : badL rows f.toNat ns = []
    · unfold badL at eb
      rw [List.filter_eq_nil_iff] at eb
      have h1 := eb a ha
      have h2 := eb b hb
      simp at h1 h2
      exact ⟨fun c => absurd c h1, fun c => absurd c h2⟩
    · have eg := this eb
      unfold goodL at eg
      rw [List.filter_eq_nil_iff] at eg
      have h1 := eg a ha
      have h2 := eg b hb
      simp at h1 h2
      exact ⟨fun _ => h2, fun _ => h1⟩
/-- rows laid as tuples -/
def TupsAt (H : Hp) (as : List Addr) (rs : List (List Int)) : Prop := as.length = rs.length ∧ ∀ (i : Nat) (a : Addr) (r : List Int), as[i]? = some a → rs[i]? = some r → H a = some (.tup (r.map V.int))
theorem TupsAt.same {H H' : Hp} {as : List Addr} {rs : List (List Int)} (T : TupsAt H as rs) (s : Same H H') : TupsAt H' as rs := ⟨T.1, fun i a r h1 h2 => s _ _ (T.2 i a r h1 h2)⟩
theorem TupsAt.nil {H : Hp} : TupsAt H [] [] := ⟨rfl, fun i b t h _ => by simp at h⟩
theorem snoc_get {α β : Type} {as : List α} {bs : List β} {a : α} {b : β} (l : as.length = bs.length) {i : Nat} {x : α} {y : β} (h1 : (as ++ [a])[i]? = some x) (h2 : (bs ++ [b])[i]? = some y) : (as[i]? = some x ∧ bs[i]? = some y) ∨ (x = a ∧ y = b ∧ i = as.length) := by
  by_cases lt : i < as.length
  · rw [List.getElem?_append_left lt] at h1
    rw [List.getElem?_append_left (by omega)] at h2
    exact .inl ⟨h1, h2⟩
  · rw [List.getElem?_append_right (by omega)] at h1
    rw [List.getElem?_append_right (by omega), ← l] at h2
    have e : i - as.length = 0 := by
      have := (List.getElem?_eq_some_iff.mp h1).1
      rw [List.length_singleton] at this
      omega
    rw [e] at h1 h2
    cases h1
    cases h2
    exact .inr ⟨rfl, rfl, by omega⟩
theorem TupsAt.snoc {H : Hp} {as : List Addr} {rs : List (List Int)} {a : Addr} {r : List Int} (T : TupsAt H as rs) (h : H a = some (.tup (r.map V.int))) : TupsAt H (as ++ [a]) (rs ++ [r]) := by
  refine ⟨by simp [T.1], fun i b t h1 h2 => ?_⟩
  rcases snoc_get T.1 h1 h2 with ⟨g1, g2⟩ | ⟨rfl, rfl, _⟩
  · exact T.2 i b t g1 g2
  · exact h
def keyL (l : List Int) : List L2.Key := l.map Sum.inl
theorem keyL_kV (l : List Int) : (keyL l).map kV = l.map V.int := by
  unfold keyL
  rw [List.map_map]
  rfl
theorem keyL_inj {a b : List Int} (h : keyL a = keyL b) : a = b := by
  unfold keyL at h
  exact (List.map_inj_right fun x y e => Sum.inl.inj e).mp h
theorem valV_zipT {ks : List (List L2.Key)} {vs : List V} {k : List L2.Key} (l : ks.length = vs.length) : (∃ (i : Nat) (v : V), ks[i]? = some k ∧ vs[i]? = some v ∧ valV (ks.zip vs) k = some v ∧ ∀ j < i, ks[j]? ≠ some k) ∨ (k ∉ ks ∧ valV (ks.zip vs) k = none) := by
  induction ks generalizing vs with
  | nil => exact .inr ⟨by simp, by rfl⟩
  | cons x xs ih =>
    cases vs with
    | nil => simp at l
    | cons v vs =>
      by_cases e : x = k
      · subst e
        exact .inl ⟨0, v, rfl, rfl, by rw [List.zip_cons_cons, valV_pos rfl], fun j h => absurd h (by omega)⟩
      · rw [List.zip_cons_cons, valV_neg (show ¬ (x, v).1 = k from e)]
        rcases ih (vs := vs) (by simpa using l) with ⟨i, u, h1, h2, h3, h4⟩ | ⟨h1, h2⟩
        · refine .inl ⟨i + 1, u, by simpa using h1, by simpa using h2, h3, fun j hj => ?_⟩
          cases j with
          | zero => simpa using e
          | succ j => simpa using h4 j (by omega)
        · exact .inr ⟨by
            intro z
            rcases List.mem_cons.mp z with z | z
            · exact e z.symm
            · exact h1 z, h2⟩
def spClasses (K : PySem.W.Frag) : Sp := fun vs H Q _ => ∃ (kd : Bool) (p l : Addr) (v : V) (bs : List Addr) (rows : List (List Int)) (ms gs : List Int), vs = [.ref p, .ref l, v] ∧ NetAt H p bs rows ∧ RowsOk rows ∧ rows.length ≤ 40 ∧ SqK K kd H l (ms.map V.int) ∧ ms.length ≤ 1000 ∧ (∀ m ∈ ms, goodM rows.length m) ∧ BarAt K H v gs ∧ gs.length ≤ 1000 ∧ (∀ g ∈ gs, goodM rows.length g) ∧
  ∀ ns : List Int, ns.Pairwise (· < ·) → (∀ k, k ∈ ns ↔ k ∈ ms) → ns.length ≤ 40 → ∀ (u : Addr) (as : List Addr) (H' : Hp), Same H H' → H u = none → H' u = some (.lst (as.map V.ref)) → TupsAt H' as (clsL (tellL rows (freeL rows.length gs)) ns) → Q (.ref u) H'
def spSettled (K : PySem.W.Frag) : Sp := fun vs H Q _ => ∃ (kd : Bool) (p l : Addr) (v : V) (bs : List Addr) (rows : List (List Int)) (ms gs : List Int), vs = [.ref p, .ref l, v] ∧ NetAt H p bs rows ∧ RowsOk rows ∧ rows.length ≤ 40 ∧ SqK K kd H l (ms.map V.int) ∧ ms.length ≤ 1000 ∧ (∀ m ∈ ms, goodM rows.length m) ∧ BarAt K H v gs ∧ gs.length ≤ 1000 ∧ (∀ g ∈ gs, goodM rows.length g) ∧
  ∀ ns : List Int, ns.Pairwise (· < ·) → (∀ k, k ∈ ns ↔ k ∈ ms) → ns.length ≤ 40 → ∀ H' : Hp, Same H H' → Q (.bl (decide (usefL rows ns (freeL rows.length gs) = []))) H'
theorem valV_zipI {m : Int} : ∀ {fs : List Int} {vs : List V}, vs.length = fs.length → (valV ((fs.map (Sum.inl : Int → Key)).zip vs) (Sum.inl m)).isSome = decide (m ∈ fs)
  | [], vs, _ => by cases vs <;> rfl
  | f :: fs, [], h => by simp at h
  | f :: fs, v :: vs, h => by
    rw [List.map_cons, List.zip_cons_cons]
    by_cases e : f = m
    · subst e
      rw [valV_pos rfl]
      simp
    · rw [valV_neg (fun q => e (Sum.inl.inj q)), valV_zipI (by simpa using h)]
      apply Bool.eq_iff_iff.mpr
      simp [Ne.symm e, eq_comm]
theorem k_dinZ {H : Hp} {Q : VK} {a : Addr} {fs : List Int} {vs : List V} {m : Int} (h : H a = some (.dK ((fs.map (Sum.inl : Int → Key)).zip vs))) (l : vs.length = fs.length) (q : Q (.bl (decide (m ∈ fs))) H) : kDIn Q (.int m) (.ref a) H :=
  ⟨a, _, rfl, DGet.k (k := Sum.inl m) h, by rw [valV_zipI l]; exact q⟩
/-- a table of classes as it grows -/
structure ClsT (G H : Hp) (a : Addr) (ks : List Addr) (tell : Int → List Int) (rs : List (List Int)) : Prop where
  hp : H a = some (.dT ((rs.map fun r => keyL (tell (r.headD 0))).zip (ks.map V.ref)))
  len : ks.length = rs.length
  nd : ks.Nodup
  fr : ∀ k ∈ ks, k ≠ a ∧ G k = none
  at' : ∀ (i : Nat) (k : Addr) (r : List Int), ks[i]? = some k → rs[i]? = some r → H k = some (.lst (r.map V.int))
theorem ClsT.same {G H H' : Hp} {a : Addr} {ks : List Addr} {tell : Int → List Int} {rs : List (List Int)} (C : ClsT G H a ks tell rs) (s : Same H H') : ClsT G H' a ks tell rs := ⟨s _ _ C.hp, C.len, C.nd, C.fr, fun i k r h1 h2 => s _ _ (C.at' i k r h1 h2)⟩
theorem ClsT.hit {G H : Hp} {a k : Addr} {ks : List Addr} {tell : Int → List Int} {rs : List (List Int)} {i : Nat} {r : List Int} {m : Int} (C : ClsT G H a ks tell rs) (hk : ks[i]? = some k) (hr : rs[i]? = some r) (ne : r ≠ []) :
    ClsT G (upd H k (.lst ((r ++ [m]).map V.int))) a ks tell (rs.set i (r ++ [m])) := by
  obtain ⟨nka, _⟩ := C.fr k (List.mem_of_getElem? hk)
  have li := (List.getElem?_eq_some_iff.mp hr).1
  refine ⟨?_, by simp [C.len], C.nd, C.fr, fun j k' r' h1 h2 => ?_⟩
  · rw [upd_ne nka.symm, C.hp]
    have e : (rs.set i (r ++ [m])).map (fun r => keyL (tell (r.headD 0))) = rs.map (fun r => keyL (tell (r.headD 0))) := by
      refine List.ext_getElem? fun j => ?_
      rw [List.getElem?_map, List.getElem?_map, List.getElem?_set]
      split
      · rename_i ej
        subst ej
        rw [hr]
        show some (keyL (tell ((r ++ [m]).headD 0))) = some (keyL (tell (r.headD 0)))
        rw [headD_app ne]
      · rfl
    rw [e]
  · by_cases ej : j = i
    · subst ej
      rw [hk] at h1
      cases h1
      rw [List.getElem?_set, if_pos rfl, if_pos li] at h2
      cases h2
      exact upd_same
    · have nk : k' ≠ k := by
        rintro rfl
        have lj := (List.getElem?_eq_some_iff.mp h1).1
        have lk := (List.getElem?_eq_some_iff.mp hk).1
        exact ej ((List.getElem?_inj lj C.nd).mp (h1.trans hk.symm))
      rw [List.getElem?_set, if_neg (fun z => ej z.symm)] at h2
      rw [upd_ne nk]
      exact C.at' j k' r' h1 h2
theorem ClsT.miss {G H : Hp} {a e : Addr} {ks : List Addr} {tell : Int → List Int} {rs : List (List Int)} {m : Int} (C : ClsT G H a ks tell rs) (s : Same G H) (he : H e = none)
    (hn : valV ((rs.map fun r => keyL (tell (r.headD 0))).zip (ks.map V.ref)) (keyL (tell m)) = none) :
    ClsT G (upd (upd (upd H e (.lst [])) a (.dT (putK ((rs.map fun r => keyL (tell (r.headD 0))).zip (ks.map V.ref)) (keyL (tell m)) (.ref e)))) e (.lst [.int m])) a (ks ++ [e]) tell (rs ++ [[m]]) := by
  have nea : a ≠ e := ne_of_none C.hp he
  refine ⟨?_, by simp [C.len], ?_, fun k hk => ?_, fun i k r h1 h2 => ?_⟩
  · rw [upd_ne nea, upd_same, putK_new _ hn, List.map_append, List.map_append, List.zip_append (by simp [C.len])]
    rfl
  · refine List.nodup_append.mpr ⟨C.nd, by simp, fun x hx y hy z => ?_⟩
    simp at hy
    subst hy
    subst z
    obtain ⟨j, hj⟩ := List.getElem?_of_mem hx
    have lj := (List.getElem?_eq_some_iff.mp hj).1
    have := C.at' j x _ hj (List.getElem?_eq_getElem (by rw [← C.len]; exact lj))
    rw [he] at this
    cases this
  · rcases List.mem_append.mp hk with z | z
    · exact C.fr k z
    · simp at z
      subst z
      exact ⟨nea.symm, s.free he⟩
  · rcases snoc_get C.len h1 h2 with ⟨g1, g2⟩ | ⟨rfl, rfl, _⟩
    · have hk := C.at' i k r g1 g2
      have n1 : k ≠ e := ne_of_none hk he
      have n2 := (C.fr k (List.mem_of_getElem? g1)).1
      rw [upd_ne n1, upd_ne n2, upd_ne n1]
      exact hk
    · exact upd_same
theorem tell_of_heirs {rows : List (List Int)} {gs hs : List Int} {m : Nat} (pw : hs.Pairwise (· < ·)) (hk : ∀ k, k ∈ hs ↔ 0 ≤ k ∧ k < (rows.length : Int) ∧ Cm rows k.toNat m) : (hs.filter fun x => decide (x ∈ freeL rows.length gs)) = tellL rows (freeL rows.length gs) (m : Int) := by
  refine pw_ext (pw.filter _) ((freeL_sorted gs rows.length).filter _) fun k => ?_
  unfold tellL
  rw [List.mem_filter, List.mem_filter, decide_eq_true_eq, decide_eq_true_eq, hk]
  have e : (((m : Nat) : Int)).toNat = m := by omega
  rw [e]
  constructor
  · rintro ⟨⟨h0, h1, h2⟩, h3⟩
    exact ⟨h3, h2⟩
  · rintro ⟨h3, h2⟩
    have := freeL_mem.mp h3
    exact ⟨⟨this.1, this.2.1, h2⟩, h3⟩
end Bk
/-! what laws ask of lists of useful makes -/
namespace Bk
open PySem PySem.Spec PyProof.Rows L2
def spSame1L : Sp := fun vs H Q _ => ∃ (a b : Addr) (ns : List Int), vs = [.ref a, .ref b] ∧ H a = some (.lst (ns.map V.int)) ∧ H b = some (.lst (ns.map V.int)) ∧ ns.length ≤ 1000 ∧ ∀ H', Same H H' → Q (.bl true) H'
section
variable {K : PySem.W.Frag} {H : Hp} {Q : VK}
theorem k_eqNil {p q : Addr} {ns : List Int} (h1 : H p = some (.lst (ns.map V.int))) (h2 : H q = some (.lst [])) (h : Q (.bl (decide (ns = []))) H) : rEqD K (.ref p) (.ref q) H Q := by
  refine k_eqD (d := .list (ns.map PyData.int)) (e := .list []) (.lst (sql_lst h1) (dp_ints ns)) (.lst (sql_lst h2) .nil) ?_ ?_ ?_
  · exact sh_ints ns
  · rfl
  · cases ns with
    | nil => exact h
    | cons a r => exact h
theorem sh_ll2 (xs ys : List Int) : SeqAt.shaped (PyData.list [.list (xs.map PyData.int), .list (ys.map PyData.int)]) = true := by
  obtain ⟨h1, h2⟩ := sh_intsA xs
  obtain ⟨h3, h4⟩ := sh_intsA ys
  simp [SeqAt.shaped, PyData.canLay0, PyData.canLayAll0, PyData.depth, PyData.depthAll, h1, h2, h3, h4]
theorem k_neLL2 {p q a b c d : Addr} {xs ys : List Int} (hp : H p = some (.lst [.ref a, .ref b])) (ha : H a = some (.lst (xs.map V.int))) (hb : H b = some (.lst (ys.map V.int))) (hq : H q = some (.lst [.ref c, .ref d])) (hc : H c = some (.lst (xs.map V.int))) (hd : H d = some (.lst (ys.map V.int))) (h : Q (.bl false) H) : rNeD K (.ref p) (.ref q) H Q := by
  refine k_neD (.lst (sql_lst hp) (.cons (.lst (sql_lst ha) (dp_ints xs)) (.cons (.lst (sql_lst hb) (dp_ints ys)) .nil))) (.lst (sql_lst hq) (.cons (.lst (sql_lst hc) (dp_ints xs)) (.cons (.lst (sql_lst hd) (dp_ints ys)) .nil))) (sh_ll2 xs ys) (sh_ll2 xs ys) ?_
  rw [SeqAt.eqv_refl _ (SeqAt.canLay_of_shaped (sh_ll2 xs ys))]
  exact h
end
theorem badL_nil {rows : List (List Int)} {m : Nat} {ns : List Int} : badL rows m ns = [] ↔ ∀ k ∈ ns, ¬ Cm rows m k.toNat := by
  unfold badL
  rw [List.filter_eq_nil_iff]
  simp
theorem goodL_nil {rows : List (List Int)} {m : Nat} {ns : List Int} : goodL rows m ns = [] ↔ ∀ k ∈ ns, Cm rows m k.toNat := by
  unfold goodL
  rw [List.filter_eq_nil_iff]
  simp
theorem usefL_mem {rows : List (List Int)} {ns ms fs : List Int} (h : ∀ k, k ∈ ns ↔ k ∈ ms) : usefL rows ns fs = usefL rows ms fs := by
  refine List.filter_congr fun f _ => ?_
  have e1 : decide (badL rows f.toNat ns = []) = decide (badL rows f.toNat ms = []) := decide_eq_decide.mpr (badL_nil.trans ⟨fun z k hk => z k ((h k).mpr hk), fun z k hk => z k ((h k).mp hk)⟩ |>.trans badL_nil.symm)
  have e2 : decide (goodL rows f.toNat ns = []) = decide (goodL rows f.toNat ms = []) := decide_eq_decide.mpr (goodL_nil.trans ⟨fun z k hk => z k ((h k).mpr hk), fun z k hk => z k ((h k).mp hk)⟩ |>.trans goodL_nil.symm)
  rw [e1, e2]
/-- the truths of a row at these -/
noncomputable def truths (rows : List (List Int)) (i : Nat) (ms : List Int) : List Bool := ms.map fun m => decide (Cm rows i m.toNat)
theorem truths_t {rows : List (List Int)} {i : Nat} {ms : List Int} : decide (true ∈ truths rows i ms) = !decide (badL rows i ms = []) := by
  apply Bool.eq_iff_iff.mpr
  rw [decide_eq_true_eq, Bool.not_eq_true', decide_eq_false_iff_not, badL_nil]
  unfold truths
  rw [List.mem_map]
  constructor
  · rintro ⟨m, hm, e⟩ z
    exact z m hm (of_decide_eq_true e)
  · intro z
    refine Classical.byContradiction fun n => z fun m hm c => n ⟨m, hm, decide_eq_true c⟩
theorem truths_f {rows : List (List Int)} {i : Nat} {ms : List Int} : decide (false ∈ truths rows i ms) = !decide (goodL rows i ms = []) := by
  apply Bool.eq_iff_iff.mpr
  rw [decide_eq_true_eq, Bool.not_eq_true', decide_eq_false_iff_not, goodL_nil]
  unfold truths
  rw [List.mem_map]
  constructor
  · rintro ⟨m, hm, e⟩ z
    exact of_decide_eq_false e (z m hm)
  · intro z
    refine Classical.byContradiction fun n => z fun m hm => ?_
    refine Classical.byContradiction fun c => n ⟨m, hm, decide_eq_false c⟩
theorem usefL_succ {rows : List (List Int)} {ms gs : List Int} {i : Nat} : usefL rows ms (freeL (i + 1) gs) = if ((i : Nat) : Int) ∉ gs ∧ badL rows i ms ≠ [] ∧ goodL rows i ms ≠ [] then usefL rows ms (freeL i gs) ++ [(i : Int)] else usefL rows ms (freeL i gs) := by
  have e : (((i : Nat) : Int)).toNat = i := by omega
  rw [freeL_succ]
  by_cases g : ((i : Nat) : Int) ∈ gs
  · rw [if_pos g, if_neg (fun z => z.1 g)]
  · rw [if_neg g]
    unfold usefL
    rw [List.filter_append, List.filter_cons, e]
    by_cases b : badL rows i ms = []
    · rw [if_neg (by simp [b]), if_neg (fun z => z.2.1 b)]
      simp
    · by_cases gd : goodL rows i ms = []
      · rw [if_neg (by simp [gd]), if_neg (fun z => z.2.2 gd)]
        simp
      · rw [if_pos (by simp [b, gd]), if_pos ⟨g, b, gd⟩]
        rfl
def spUsefulL : Sp := fun vs H Q _ => ∃ (o l g : Addr) (rs : List Addr) (rows : List (List Int)) (ms gs : List Int), vs = [.ref o, .ref l, .ref g] ∧ ReachAt H o rs rows rows.length ∧ rows.length ≤ 40 ∧ H l = some (.lst (ms.map V.int)) ∧ ms.length ≤ 1000 ∧ (∀ k ∈ ms, goodM rows.length k) ∧ H g = some (.lst (gs.map V.int)) ∧
  ∀ (u : Addr) (H' : Hp), Same H H' → H u = none → H' u = some (.lst ((usefL rows ms (freeL rows.length gs)).map V.int)) → Q (.ref u) H'
end Bk
/-! lists of tuples and of lists compared; classes as a law tells them -/
namespace Bk
open PySem PySem.Spec PyProof.Rows L2
theorem LTfacts : ∀ rs : List (List Int), PyData.canLayAll0 (rs.map fun r => PyData.tuple (r.map PyData.int)) = true ∧ PyData.depthAll (rs.map fun r => PyData.tuple (r.map PyData.int)) ≤ 1
  | [] => ⟨rfl, Nat.zero_le _⟩
  | r :: rs => by
    obtain ⟨h1, h2⟩ := LTfacts rs
    obtain ⟨h3, h4⟩ := sh_intsA r
    constructor
    · simp [PyData.canLayAll0, PyData.canLay0, h1, h3]
    · simp [PyData.depthAll, PyData.depth, h4]
      omega
theorem LLfacts : ∀ rs : List (List Int), PyData.canLayAll0 (rs.map fun r => PyData.list (r.map PyData.int)) = true ∧ PyData.depthAll (rs.map fun r => PyData.list (r.map PyData.int)) ≤ 1
  | [] => ⟨rfl, Nat.zero_le _⟩
  | r :: rs => by
    obtain ⟨h1, h2⟩ := LLfacts rs
    obtain ⟨h3, h4⟩ := sh_intsA r
    constructor
    · simp [PyData.canLayAll0, PyData.canLay0, h1, h3]
    · simp [PyData.depthAll, PyData.depth, h4]
      omega
theorem sh_LT (rs : List (List Int)) : SeqAt.shaped (PyData.list (rs.map fun r => PyData.tuple (r.map PyData.int))) = true := by
  obtain ⟨h1, h2⟩ := LTfacts rs
  simp [SeqAt.shaped, PyData.canLay0, PyData.depth, h1]
  omega
theorem sh_LL (rs : List (List Int)) : SeqAt.shaped (PyData.list (rs.map fun r => PyData.list (r.map PyData.int))) = true := by
  obtain ⟨h1, h2⟩ := LLfacts rs
  simp [SeqAt.shaped, PyData.canLay0, PyData.depth, h1]
  omega
/-- rows laid as lists -/
def LstsAt (H : Hp) (as : List Addr) (rs : List (List Int)) : Prop := as.length = rs.length ∧ ∀ (i : Nat) (a : Addr) (r : List Int), as[i]? = some a → rs[i]? = some r → H a = some (.lst (r.map V.int))
theorem dpT {K : PySem.W.Frag} {H : Hp} : ∀ {as : List Addr} {rs : List (List Int)}, TupsAt H as rs → DpAll K H (as.map V.ref) (rs.map fun r => PyData.tuple (r.map PyData.int))
  | [], [], _ => .nil
  | [], r :: rs, T => absurd T.1 (by simp)
  | a :: as, [], T => absurd T.1 (by simp)
  | a :: as, r :: rs, T => .cons (.tup (sqt_tup (T.2 0 a r rfl rfl)) (dp_ints r)) (dpT ⟨by simpa using T.1, fun i b t h1 h2 => T.2 (i + 1) b t (by simpa using h1) (by simpa using h2)⟩)
theorem dpL {K : PySem.W.Frag} {H : Hp} : ∀ {as : List Addr} {rs : List (List Int)}, LstsAt H as rs → DpAll K H (as.map V.ref) (rs.map fun r => PyData.list (r.map PyData.int))
  | [], [], _ => .nil
  | [], r :: rs, T => absurd T.1 (by simp)
  | a :: as, [], T => absurd T.1 (by simp)
  | a :: as, r :: rs, T => .cons (.lst (sql_lst (T.2 0 a r rfl rfl)) (dp_ints r)) (dpL ⟨by simpa using T.1, fun i b t h1 h2 => T.2 (i + 1) b t (by simpa using h1) (by simpa using h2)⟩)
section
variable {K : PySem.W.Frag} {H : Hp} {Q : VK}
theorem k_neLT {p q : Addr} {as bs : List Addr} {rs : List (List Int)} (hp : H p = some (.lst (as.map V.ref))) (ta : TupsAt H as rs) (hq : H q = some (.lst (bs.map V.ref))) (tb : TupsAt H bs rs) (h : Q (.bl false) H) : rNeD K (.ref p) (.ref q) H Q := by
  refine k_neD (.lst (sql_lst hp) (dpT ta)) (.lst (sql_lst hq) (dpT tb)) (sh_LT rs) (sh_LT rs) ?_
  rw [SeqAt.eqv_refl _ (SeqAt.canLay_of_shaped (sh_LT rs))]
  exact h
theorem k_eqNilLL {p q : Addr} {as : List Addr} {rs : List (List Int)} (hp : H p = some (.lst (as.map V.ref))) (ta : LstsAt H as rs) (hq : H q = some (.lst [])) (h : Q (.bl (decide (as = []))) H) : rEqD K (.ref p) (.ref q) H Q := by
  refine k_eqD (d := .list (rs.map fun r => PyData.list (r.map PyData.int))) (e := .list []) (.lst (sql_lst hp) (dpL ta)) (.lst (sql_lst hq) .nil) (sh_LL rs) rfl ?_
  have l := ta.1
  cases as with
  | nil =>
    cases rs with
    | nil => exact h
    | cons r rs => simp at l
  | cons a as =>
    cases rs with
    | nil => simp at l
    | cons r rs => exact h
end
def spSame2T : Sp := fun vs H Q _ => ∃ (a b : Addr) (as bs : List Addr) (rs : List (List Int)), vs = [.ref a, .ref b] ∧ H a = some (.lst (as.map V.ref)) ∧ H b = some (.lst (bs.map V.ref)) ∧ TupsAt H as rs ∧ TupsAt H bs rs ∧ rs.length ≤ 1000 ∧ (∀ r ∈ rs, r.length ≤ 1000) ∧ ∀ H', Same H H' → Q (.bl true) H'
def spAlike : Sp := fun vs H Q _ => ∃ (o g : Addr) (rs : List Addr) (rows : List (List Int)) (gs : List Int) (x y : Int), vs = [.ref o, .int x, .int y, .ref g] ∧ ReachAt H o rs rows rows.length ∧ rows.length ≤ 40 ∧ H g = some (.lst (gs.map V.int)) ∧ goodM rows.length x ∧ goodM rows.length y ∧
  ∀ H' : Hp, Same H H' → Q (.bl (decide (tellL rows (freeL rows.length gs) x = tellL rows (freeL rows.length gs) y))) H'
def spClassesL : Sp := fun vs H Q _ => ∃ (o l g : Addr) (rs : List Addr) (rows : List (List Int)) (ms gs : List Int), vs = [.ref o, .ref l, .ref g] ∧ ReachAt H o rs rows rows.length ∧ rows.length ≤ 40 ∧ H l = some (.lst (ms.map V.int)) ∧ ms.length ≤ 1000 ∧ (∀ k ∈ ms, goodM rows.length k) ∧ H g = some (.lst (gs.map V.int)) ∧
  ∀ ns : List Int, ns.Pairwise (· < ·) → (∀ k, k ∈ ns ↔ k ∈ ms) → ns.length ≤ 40 → ∀ (u : Addr) (as : List Addr) (H' : Hp), Same H H' → H u = none → H' u = some (.lst (as.map V.ref)) → TupsAt H' as (clsL (tellL rows (freeL rows.length gs)) ns) → Q (.ref u) H'
theorem freeL_in {n : Nat} {gs : List Int} {f : Int} (i : Nat) (h : f ∈ freeL i gs) (hi : i ≤ n) : f ∈ freeL n gs := by
  have := freeL_mem.mp h
  exact freeL_mem.mpr ⟨this.1, by omega, this.2.2⟩
/-- those of the lists that begin alike -/
def thereL (tl : Int → List Int) (m : Int) (ks : List Addr) (rs : List (List Int)) : List Addr := ((ks.zip rs).filter fun q => decide (tl (q.2.headD 0) = tl m)).map (·.1)
theorem thereL_or {tl : Int → List Int} {m : Int} : ∀ {ks : List Addr} {rs : List (List Int)}, ks.length = rs.length → (thereL tl m ks rs = [] ∧ ∀ r ∈ rs, tl (r.headD 0) ≠ tl m) ∨ ∃ (j : Nat) (k : Addr) (r : List Int) (rest : List Addr), thereL tl m ks rs = k :: rest ∧ ks[j]? = some k ∧ rs[j]? = some r ∧ tl (r.headD 0) = tl m ∧ ∀ i < j, ∀ s, rs[i]? = some s → tl (s.headD 0) ≠ tl m
  | [], [], _ => .inl ⟨rfl, by simp⟩
  | [], r :: rs, h => by simp at h
  | k :: ks, [], h => by simp at h
  | k :: ks, r :: rs, h => by
    by_cases e : tl (r.headD 0) = tl m
    · refine .inr ⟨0, k, r, thereL tl m ks rs, ?_, rfl, rfl, e, fun i hi => absurd hi (by omega)⟩
      unfold thereL
      rw [List.zip_cons_cons, List.filter_cons, if_pos (by simpa using e)]
      rfl
    · have ee : thereL tl m (k :: ks) (r :: rs) = thereL tl m ks rs := by
        unfold thereL
        rw [List.zip_cons_cons, List.filter_cons, if_neg (by simpa using e)]
      rw [ee]
      rcases thereL_or (tl := tl) (m := m) (ks := ks) (rs := rs) (by simpa using h) with ⟨h1, h2⟩ | ⟨j, k', r', rest, h1, h2, h3, h4, h5⟩
      · refine .inl ⟨h1, fun s hs => ?_⟩
        rcases List.mem_cons.mp hs with z | z
        · rw [z]; exact e
        · exact h2 s z
      · refine .inr ⟨j + 1, k', r', rest, h1, by simpa using h2, by simpa using h3, h4, fun i hi s hs => ?_⟩
        cases i with
        | zero =>
          simp at hs
          rw [← hs]
          exact e
        | succ i => exact h5 i (by omega) s (by simpa using hs)
theorem thereL_succ {tl : Int → List Int} {m : Int} {ks : List Addr} {rs : List (List Int)} {j : Nat} {k : Addr} {r : List Int} (hk : ks[j]? = some k) (hr : rs[j]? = some r) : thereL tl m (ks.take (j + 1)) (rs.take (j + 1)) = if tl (r.headD 0) = tl m then thereL tl m (ks.take j) (rs.take j) ++ [k] else thereL tl m (ks.take j) (rs.take j) := by
  have l1 := (List.getElem?_eq_some_iff.mp hk).1
  have l2 := (List.getElem?_eq_some_iff.mp hr).1
  unfold thereL
  rw [take_next hk, take_next hr, List.zip_append (by rw [List.length_take, List.length_take]; omega), List.filter_append, List.map_append]
  rw [List.zip_cons_cons, List.filter_cons]
  split
  · rename_i h
    rw [if_pos (by simpa using h)]
    rfl
  · rename_i h
    rw [if_neg (by simpa using h)]
    simp
theorem thereL_len {tl : Int → List Int} {m : Int} {ks : List Addr} {rs : List (List Int)} : (thereL tl m ks rs).length ≤ ks.length := by
  unfold thereL
  rw [List.length_map]
  refine Nat.le_trans (List.length_filter_le _ _) ?_
  rw [List.length_zip]
  omega
theorem thereL_sub {tl : Int → List Int} {m : Int} {ks : List Addr} {rs : List (List Int)} {k : Addr} (h : k ∈ thereL tl m ks rs) : ∃ (j : Nat) (r : List Int), ks[j]? = some k ∧ rs[j]? = some r := by
  unfold thereL at h
  obtain ⟨q, hq, rfl⟩ := List.mem_map.mp h
  obtain ⟨j, hj⟩ := List.getElem?_of_mem (List.mem_filter.mp hq).1
  obtain ⟨h1, h2⟩ := List.getElem?_zip_eq_some.mp hj
  exact ⟨j, q.2, h1, h2⟩
/-- lists that grow to classes -/
structure ClsG (G H : Hp) (u : Addr) (ks : List Addr) (rs : List (List Int)) : Prop where
  hp : H u = some (.lst (ks.map V.ref))
  nd : ks.Nodup
  fr : ∀ k ∈ ks, k ≠ u ∧ G k = none
  ls : LstsAt H ks rs
theorem ClsG.same {G H H' : Hp} {u : Addr} {ks : List Addr} {rs : List (List Int)} (C : ClsG G H u ks rs) (s : Same H H') : ClsG G H' u ks rs := ⟨s _ _ C.hp, C.nd, C.fr, C.ls.1, fun i k r h1 h2 => s _ _ (C.ls.2 i k r h1 h2)⟩
theorem ClsG.hit {G H : Hp} {u k : Addr} {ks : List Addr} {rs : List (List Int)} {i : Nat} {r : List Int} {m : Int} (C : ClsG G H u ks rs) (hk : ks[i]? = some k) (hr : rs[i]? = some r) : ClsG G (upd H k (.lst ((r ++ [m]).map V.int))) u ks (rs.set i (r ++ [m])) := by
  obtain ⟨nku, _⟩ := C.fr k (List.mem_of_getElem? hk)
  have li := (List.getElem?_eq_some_iff.mp hr).1
  refine ⟨by rw [upd_ne nku.symm]; exact C.hp, C.nd, C.fr, by simp [C.ls.1], fun j k' r' h1 h2 => ?_⟩
  by_cases ej : j = i
  · subst ej
    rw [hk] at h1
    cases h1
    rw [List.getElem?_set, if_pos rfl, if_pos li] at h2
    cases h2
    exact upd_same
  · have nk : k' ≠ k := by
      rintro rfl
      have lj := (List.getElem?_eq_some_iff.mp h1).1
      exact ej ((List.getElem?_inj lj C.nd).mp (h1.trans hk.symm))
    rw [List.getElem?_set, if_neg (fun z => ej z.symm)] at h2
    rw [upd_ne nk]
    exact C.ls.2 j k' r' h1 h2
theorem ClsG.miss {G H : Hp} {u e : Addr} {ks : List Addr} {rs : List (List Int)} {m : Int} (C : ClsG G H u ks rs) (s : Same G H) (he : H e = none) : ClsG G (upd (upd H e (.lst [.int m])) u (.lst ((ks ++ [e]).map V.ref))) u (ks ++ [e]) (rs ++ [[m]]) := by
  have neu : u ≠ e := ne_of_none C.hp he
  refine ⟨upd_same, ?_, fun k hk => ?_, by simp [C.ls.1], fun i k r h1 h2 => ?_⟩
  · refine List.nodup_append.mpr ⟨C.nd, by simp, fun x hx y hy z => ?_⟩
    simp at hy
    subst hy
    subst z
    obtain ⟨j, hj⟩ := List.getElem?_of_mem hx
    have lj := (List.getElem?_eq_some_iff.mp hj).1
    have := C.ls.2 j x _ hj (List.getElem?_eq_getElem (by rw [← C.ls.1]; exact lj))
    rw [he] at this
    cases this
  · rcases List.mem_append.mp hk with z | z
    · exact C.fr k z
    · simp at z
      subst z
      exact ⟨neu.symm, s.free he⟩
  · rcases snoc_get C.ls.1 h1 h2 with ⟨g1, g2⟩ | ⟨rfl, rfl, _⟩
    · have hk := C.ls.2 i k r g1 g2
      have n1 : k ≠ e := ne_of_none hk he
      rw [upd_ne (C.fr k (List.mem_of_getElem? g1)).1, upd_ne n1]
      exact hk
    · rw [upd_ne neu.symm]
      exact upd_same
theorem clsL_single {tell : Int → List Int} : ∀ {ns : List Int}, (∀ a ∈ ns, ∀ b ∈ ns, tell a = tell b → a = b) → ns.Nodup → clsL tell ns = ns.map fun m => [m] := by
  intro ns
  have go : ∀ (ns pre : List Int), (∀ a ∈ pre ++ ns, ∀ b ∈ pre ++ ns, tell a = tell b → a = b) → (pre ++ ns).Nodup → ns.foldl (clsAdd tell) (pre.map fun m => [m]) = (pre ++ ns).map fun m => [m] := by
    intro ns
    induction ns with
    | nil =>
      intro pre _ _
      simp
    | cons n ns ih =>
      intro pre inj nd
      have e : clsAdd tell (pre.map fun m => [m]) n = (pre ++ [n]).map fun m => [m] := by
        rw [clsAdd_miss fun s hs => ?_]
        · simp
        · obtain ⟨m, hm, rfl⟩ := List.mem_map.mp hs
          intro z
          have := inj m (by simp [hm]) n (by simp) z
          subst this
          have := (List.nodup_append.mp nd).2.2 m hm m (by simp)
          exact this rfl
      have := ih (pre ++ [n]) (by simpa using inj) (by simpa using nd)
      rw [List.foldl_cons, e, this]
      simp
  intro inj nd
  exact go ns [] (by simpa using inj) (by simpa using nd)
theorem tell_plain {rows : List (List Int)} (ok : RowsOk rows) {a b : Int} (ha : goodM rows.length a) (hb : goodM rows.length b) (h : tellL rows (freeL rows.length []) a = tellL rows (freeL rows.length []) b) : a = b := by
  obtain ⟨x, rfl, hx⟩ := ha.nat
  obtain ⟨y, rfl, hy⟩ := hb.nat
  have g := tell_eq.mp h
  have cx : Cm rows x x := (cm_iff (List.getElem?_eq_getElem hx)).mpr (.inl rfl)
  have cy : Cm rows y y := (cm_iff (List.getElem?_eq_getElem hy)).mpr (.inl rfl)
  have h1 := (g (x : Int) (freeL_mem.mpr ⟨by omega, by omega, by simp⟩)).mp (by simpa using cx)
  have h2 := (g (y : Int) (freeL_mem.mpr ⟨by omega, by omega, by simp⟩)).mpr (by simpa using cy)
  simp at h1 h2
  have := h1.le ok
  have := h2.le ok
  omega
theorem thereL_lsts {H : Hp} {tl : Int → List Int} {m : Int} {ks : List Addr} {rs : List (List Int)} (L : LstsAt H ks rs) : ∃ rs' : List (List Int), LstsAt H (thereL tl m ks rs) rs' := by
  refine ⟨((ks.zip rs).filter fun q => decide (tl (q.2.headD 0) = tl m)).map (·.2), by unfold thereL; rw [List.length_map, List.length_map], fun i a r h1 h2 => ?_⟩
  unfold thereL at h1
  obtain ⟨q, hq, rfl⟩ := map_get h1
  rw [List.getElem?_map, hq] at h2
  cases h2
  obtain ⟨j, hj⟩ := List.getElem?_of_mem (List.mem_filter.mp (List.mem_of_getElem? hq)).1
  obtain ⟨g1, g2⟩ := List.getElem?_zip_eq_some.mp hj
  exact L.2 j _ _ g1 g2
theorem atI_head {r : List Int} (h : r ≠ []) : atI (r.map V.int) 0 = some (.int (r.headD 0)) := by
  cases r with
  | nil => exact absurd rfl h
  | cons a r => exact atI_0
end Bk
/-! plans: as trees of lists that grow, as tuples -/
namespace Bk
open PySem PySem.Spec PyProof.Rows L2
inductive Pln where
  | left (ms : List Int)
  | tri (m : Int) (b g : Pln)
def Pln.dep : Pln → Nat
  | .left _ => 0
  | .tri _ b g => 1 + max b.dep g.dep
def mOk (m : Int) : Prop := 0 ≤ m ∧ m < 40
def msOk (ms : List Int) : Prop := 1 ≤ ms.length ∧ ms.length ≤ 4 ∧ ∀ m ∈ ms, mOk m
def Pln.ok : Pln → Prop
  | .left ms => msOk ms
  | .tri m b g => mOk m ∧ b.ok ∧ g.ok
/-- as lists -/
def LsAt (H : Hp) : Pln → Addr → Prop
  | .left ms, a => ∃ t, H a = some (.lst [.str ("left" : Str), .ref t]) ∧ H t = some (.tup (ms.map V.int))
  | .tri m b g, a => ∃ x y, H a = some (.lst [.str ("try" : Str), .int m, .ref x, .ref y]) ∧ LsAt H b x ∧ LsAt H g y
/-- as tuples -/
def TpAt (H : Hp) : Pln → Addr → Prop
  | .left ms, a => ∃ t, H a = some (.tup [.str ("left" : Str), .ref t]) ∧ H t = some (.tup (ms.map V.int))
  | .tri m b g, a => ∃ x y, H a = some (.tup [.str ("try" : Str), .int m, .ref x, .ref y]) ∧ TpAt H b x ∧ TpAt H g y
theorem LsAt.same {H H' : Hp} (s : Same H H') : ∀ {p : Pln} {a : Addr}, LsAt H p a → LsAt H' p a
  | .left _, _, ⟨t, h1, h2⟩ => ⟨t, s _ _ h1, s _ _ h2⟩
  | .tri _ _ _, _, ⟨x, y, h1, h2, h3⟩ => ⟨x, y, s _ _ h1, LsAt.same s h2, LsAt.same s h3⟩
theorem TpAt.same {H H' : Hp} (s : Same H H') : ∀ {p : Pln} {a : Addr}, TpAt H p a → TpAt H' p a
  | .left _, _, ⟨t, h1, h2⟩ => ⟨t, s _ _ h1, s _ _ h2⟩
  | .tri _ _ _, _, ⟨x, y, h1, h2, h3⟩ => ⟨x, y, s _ _ h1, TpAt.same s h2, TpAt.same s h3⟩
/-- as data -/
def plD : Pln → PyData
  | .left ms => .tuple [.str ("left" : Str), .tuple (ms.map PyData.int)]
  | .tri m b g => .tuple [.str ("try" : Str), .int m, plD b, plD g]
theorem plD_facts : ∀ p : Pln, PyData.canLay0 (plD p) = true ∧ PyData.depth (plD p) ≤ p.dep + 2
  | .left ms => by
    obtain ⟨h1, h2⟩ := sh_intsA ms
    constructor
    · simp only [plD, PyData.canLay0, PyData.canLayAll0, h1]
      decide +kernel
    · simp only [plD, PyData.depth, PyData.depthAll, h2, Pln.dep]
      omega
  | .tri m b g => by
    obtain ⟨h1, h2⟩ := plD_facts b
    obtain ⟨h3, h4⟩ := plD_facts g
    constructor
    · simp only [plD, PyData.canLay0, PyData.canLayAll0, h1, h3]
      decide +kernel
    · simp only [plD, PyData.depth, PyData.depthAll, Pln.dep]
      omega
theorem TpAt.dp {K : PySem.W.Frag} {H : Hp} : ∀ {p : Pln} {a : Addr}, TpAt H p a → Dp K H (.ref a) (plD p)
  | .left ms, _, ⟨t, h1, h2⟩ => .tup (sqt_tup h1) (.cons (.str _) (.cons (.tup (sqt_tup h2) (dp_ints ms)) .nil))
  | .tri m b g, _, ⟨x, y, h1, h2, h3⟩ => .tup (sqt_tup h1) (.cons (.str _) (.cons (.int m) (.cons (TpAt.dp h2) (.cons (TpAt.dp h3) .nil))))
/-! ### a grove: lists that grow to a tree -/
inductive Nd where
  | leaf (t : Addr) (ms : List Int)
  | tri (m : Int) (l r : Nat)
def Nd.isTri : Nd → Bool
  | .leaf _ _ => false
  | .tri _ _ _ => true
def ndV (A : List Addr) : Nd → List V
  | .leaf t _ => [.str ("left" : Str), .ref t]
  | .tri m l r => [.str ("try" : Str), .int m, .ref (A.getD l 0), .ref (A.getD r 0)]
structure Grove (G H : Hp) (A : List Addr) (C : List Nd) : Prop where
  len : A.length = C.length
  nd : A.Nodup
  fr : ∀ a ∈ A, G a = none
  at' : ∀ (i : Nat) (a : Addr) (c : Nd), A[i]? = some a → C[i]? = some c → H a = some (.lst (ndV A c))
  lf : ∀ (i : Nat) (t : Addr) (ms : List Int), C[i]? = some (.leaf t ms) → H t = some (.tup (ms.map V.int)) ∧ msOk ms
  tr : ∀ (i : Nat) (m : Int) (l r : Nat), C[i]? = some (.tri m l r) → i < l ∧ i < r ∧ l < C.length ∧ r < C.length ∧ mOk m
theorem Grove.same {G H H' : Hp} {A : List Addr} {C : List Nd} (g : Grove G H A C) (s : Same H H') : Grove G H' A C := ⟨g.len, g.nd, g.fr, fun i a c h1 h2 => s _ _ (g.at' i a c h1 h2), fun i t ms h => ⟨s _ _ (g.lf i t ms h).1, (g.lf i t ms h).2⟩, g.tr⟩
/-- another list changes -/
theorem Grove.other {G H : Hp} {A : List Addr} {C : List Nd} {p : Addr} {xs : List V} {o : HO} (g : Grove G H A C) (hp : H p = some (.lst xs)) (np : p ∉ A) : Grove G (upd H p o) A C :=
  ⟨g.len, g.nd, g.fr, fun i a c h1 h2 => by
    rw [upd_ne (show a ≠ p from fun z => np (by rw [← z]; exact List.mem_of_getElem? h1))]
    exact g.at' i a c h1 h2, fun i t ms h => ⟨by
    have := (g.lf i t ms h).1
    rw [upd_ne (ne_of this hp (by intro z; cases z))]
    exact this, (g.lf i t ms h).2⟩, g.tr⟩
theorem Grove.mem {G H : Hp} {A : List Addr} {C : List Nd} {x : Addr} (g : Grove G H A C) (hx : H x = none) : x ∉ A := fun h => by
  obtain ⟨j, hj⟩ := List.getElem?_of_mem h
  have lj := (List.getElem?_eq_some_iff.mp hj).1
  have := g.at' j x _ hj (List.getElem?_eq_getElem (by rw [← g.len]; exact lj))
  rw [hx] at this
  cases this
theorem getD_app {A B : List Addr} {l : Nat} (h : l < A.length) : (A ++ B).getD l 0 = A.getD l 0 := by
  rw [List.getD_eq_getElem?_getD, List.getD_eq_getElem?_getD, List.getElem?_append_left h]
theorem Grove.grow {G H H' : Hp} {A : List Addr} {C : List Nd} {i : Nat} {a x y t0 t1 t2 : Addr} {m0 m1 m2 : List Int} {m : Int} (g : Grove G H A C) (ha : A[i]? = some a) (hc : C[i]? = some (.leaf t0 m0)) (hx : x ∉ A) (hy : y ∉ A) (nxy : x ≠ y) (gx : G x = none) (gy : G y = none)
    (vx : H x = some (.lst [.str ("left" : Str), .ref t1])) (wx : H t1 = some (.tup (m1.map V.int))) (o1 : msOk m1) (vy : H y = some (.lst [.str ("left" : Str), .ref t2])) (wy : H t2 = some (.tup (m2.map V.int))) (o2 : msOk m2) (om : mOk m)
    (hn : H' a = some (.lst [.str ("try" : Str), .int m, .ref x, .ref y])) (hk : ∀ c o, c ≠ a → H c = some o → H' c = some o) :
    Grove G H' (A ++ [x, y]) (C.set i (.tri m C.length (C.length + 1)) ++ [.leaf t1 m1, .leaf t2 m2]) := by
  have li := (List.getElem?_eq_some_iff.mp hc).1
  have aA := List.mem_of_getElem? ha
  have nax : x ≠ a := fun z => hx (z ▸ aA)
  have nay : y ≠ a := fun z => hy (z ▸ aA)
  have haL := g.at' i a _ ha hc
  have tk : ∀ {t : Addr} {xs : List V}, H t = some (.tup xs) → H' t = some (.tup xs) := fun {t xs} h => hk t _ (ne_of h haL (by intro z; cases z)) h
  have gx2 : (A ++ [x, y]).getD C.length 0 = x := by
    rw [List.getD_eq_getElem?_getD, List.getElem?_append_right (by rw [g.len]; omega), g.len, Nat.sub_self]
    rfl
  have gy2 : (A ++ [x, y]).getD (C.length + 1) 0 = y := by
    rw [List.getD_eq_getElem?_getD, List.getElem?_append_right (by rw [g.len]; omega), g.len, Nat.add_sub_cancel_left]
    rfl
  have look : ∀ (j : Nat) (c : Nd), (C.set i (.tri m C.length (C.length + 1)) ++ [.leaf t1 m1, .leaf t2 m2])[j]? = some c → (j = i ∧ c = .tri m C.length (C.length + 1)) ∨ (j ≠ i ∧ j < C.length ∧ C[j]? = some c) ∨ (j = C.length ∧ c = .leaf t1 m1) ∨ (j = C.length + 1 ∧ c = .leaf t2 m2) := fun j c h => by
    by_cases lt : j < C.length
    · rw [List.getElem?_append_left (by rw [List.length_set]; exact lt), List.getElem?_set] at h
      by_cases e : i = j
      · subst e
        rw [if_pos rfl, if_pos li] at h
        cases h
        exact .inl ⟨rfl, rfl⟩
      · rw [if_neg e] at h
        exact .inr (.inl ⟨fun z => e z.symm, lt, h⟩)
    · rw [List.getElem?_append_right (by rw [List.length_set]; omega), List.length_set] at h
      have lt2 := (List.getElem?_eq_some_iff.mp h).1
      simp only [List.length_cons, List.length_nil] at lt2
      rcases (show j = C.length ∨ j = C.length + 1 by omega) with e | e
      · subst e
        rw [Nat.sub_self] at h
        cases h
        exact .inr (.inr (.inl ⟨rfl, rfl⟩))
      · subst e
        rw [Nat.add_sub_cancel_left] at h
        cases h
        exact .inr (.inr (.inr ⟨rfl, rfl⟩))
  refine ⟨by simp [g.len], ?_, fun b hb => ?_, fun j b c h1 h2 => ?_, fun j t ms h => ?_, fun j m' l r h => ?_⟩
  · refine List.nodup_append.mpr ⟨g.nd, by simp [nxy], fun u hu v hv z => ?_⟩
    subst z
    simp only [List.mem_cons, List.not_mem_nil, or_false] at hv
    rcases hv with rfl | rfl
    · exact hx hu
    · exact hy hu
  · rcases List.mem_append.mp hb with z | z
    · exact g.fr b z
    · simp only [List.mem_cons, List.not_mem_nil, or_false] at z
      rcases z with rfl | rfl
      · exact gx
      · exact gy
  · rcases look j c h2 with ⟨rfl, rfl⟩ | ⟨nj, lj, hj⟩ | ⟨rfl, rfl⟩ | ⟨rfl, rfl⟩
    · rw [List.getElem?_append_left (by rw [g.len]; exact li), ha] at h1
      cases h1
      show H' a = some (.lst [.str ("try" : Str), .int m, .ref ((A ++ [x, y]).getD C.length 0), .ref ((A ++ [x, y]).getD (C.length + 1) 0)])
      rw [gx2, gy2]
      exact hn
    · rw [List.getElem?_append_left (by rw [g.len]; exact lj)] at h1
      have nb : b ≠ a := by
        rintro rfl
        exact nj ((List.getElem?_inj (by rw [g.len]; exact lj) g.nd).mp (h1.trans ha.symm))
      have := hk b _ nb (g.at' j b c h1 hj)
      rw [this]
      cases c with
      | leaf t ms => rfl
      | tri m' l r =>
        obtain ⟨_, _, h3, h4, _⟩ := g.tr j m' l r hj
        show some (HO.lst [V.str ("try" : Str), .int m', .ref (A.getD l 0), .ref (A.getD r 0)]) = some (HO.lst [V.str ("try" : Str), .int m', .ref ((A ++ [x, y]).getD l 0), .ref ((A ++ [x, y]).getD r 0)])
        rw [getD_app (by rw [g.len]; exact h3), getD_app (by rw [g.len]; exact h4)]
    · rw [List.getElem?_append_right (by rw [g.len]; omega), g.len, Nat.sub_self] at h1
      cases h1
      exact hk _ _ nax vx
    · rw [List.getElem?_append_right (by rw [g.len]; omega), g.len, Nat.add_sub_cancel_left] at h1
      cases h1
      exact hk _ _ nay vy
  · rcases look j _ h with ⟨_, z⟩ | ⟨_, _, hj⟩ | ⟨_, z⟩ | ⟨_, z⟩
    · cases z
    · exact ⟨tk (g.lf j t ms hj).1, (g.lf j t ms hj).2⟩
    · cases z
      exact ⟨tk wx, o1⟩
    · cases z
      exact ⟨tk wy, o2⟩
  · rw [List.length_append, List.length_set, List.length_cons, List.length_cons, List.length_nil]
    rcases look j _ h with ⟨rfl, z⟩ | ⟨_, _, hj⟩ | ⟨_, z⟩ | ⟨_, z⟩
    · cases z
      exact ⟨by omega, by omega, by omega, by omega, om⟩
    · obtain ⟨h1, h2, h3, h4, h5⟩ := g.tr j m' l r hj
      exact ⟨h1, h2, by omega, by omega, h5⟩
    · cases z
    · cases z
theorem cnt_set : ∀ (C : List Nd) (i : Nat) (c : Nd), (C.set i c).countP Nd.isTri ≤ C.countP Nd.isTri + 1
  | [], _, _ => by simp
  | x :: xs, 0, c => by
    rw [List.set_cons_zero, List.countP_cons, List.countP_cons]
    split <;> split <;> omega
  | x :: xs, i + 1, c => by
    rw [List.set_cons_succ, List.countP_cons, List.countP_cons]
    have := cnt_set xs i c
    omega
theorem cnt_grow {C : List Nd} {i : Nat} {c : Nd} {t1 t2 : Addr} {m1 m2 : List Int} : (C.set i c ++ [Nd.leaf t1 m1, Nd.leaf t2 m2]).countP Nd.isTri ≤ C.countP Nd.isTri + 1 := by
  rw [List.countP_append]
  have := cnt_set C i c
  have e : ([Nd.leaf t1 m1, Nd.leaf t2 m2]).countP Nd.isTri = 0 := rfl
  omega
theorem Grove.tree {G H : Hp} {A : List Addr} {C : List Nd} (g : Grove G H A C) : ∀ (n i : Nat), C.length - i ≤ n → i < C.length → ∃ p : Pln, LsAt H p (A.getD i 0) ∧ p.dep ≤ (C.drop i).countP Nd.isTri ∧ p.ok
  | 0, i, h, lt => by omega
  | n + 1, i, h, lt => by
    have hc := List.getElem?_eq_getElem lt
    have ha : A[i]? = some (A.getD i 0) := by
      rw [List.getD_eq_getElem?_getD, List.getElem?_eq_getElem (by rw [g.len]; exact lt)]
      rfl
    have e : C.drop i = C[i] :: C.drop (i + 1) := List.drop_eq_getElem_cons lt
    generalize C[i] = c at hc e
    have hn := g.at' i _ c ha hc
    cases c with
    | leaf t ms =>
      obtain ⟨h1, h2⟩ := g.lf i t ms hc
      exact ⟨.left ms, ⟨t, hn, h1⟩, Nat.zero_le _, h2⟩
    | tri m l r =>
      obtain ⟨h1, h2, h3, h4, h5⟩ := g.tr i m l r hc
      obtain ⟨b, b1, b2, b3⟩ := Grove.tree g n l (by omega) h3
      obtain ⟨d, d1, d2, d3⟩ := Grove.tree g n r (by omega) h4
      refine ⟨.tri m b d, ⟨_, _, hn, b1, d1⟩, ?_, h5, b3, d3⟩
      have sub : ∀ j, i < j → (C.drop j).countP Nd.isTri ≤ (C.drop (i + 1)).countP Nd.isTri := fun j hj => by
        have : C.drop j = (C.drop (i + 1)).drop (j - (i + 1)) := by rw [List.drop_drop]; congr 1; omega
        rw [this]
        exact List.Sublist.countP_le (List.drop_sublist _ _)
      have s1 := sub l h1
      have s2 := sub r h2
      rw [e, List.countP_cons, if_pos (show (Nd.tri m l r).isTri = true from rfl)]
      show 1 + max b.dep d.dep ≤ _
      omega
/-! ### methods of lists -/
section
variable {H : Hp} {Q : VK}
theorem k_popAt {l : Addr} {xs : List V} {i : Int} {k : Nat} {y : V} (hl : H l = some (.lst xs)) (e : ((k : Nat) : Int) = i) (hy : xs[k]? = some y) (hz : xs.length ≤ 100000) (q : Q y (upd H l (.lst (xs.eraseIdx k)))) : rPopAt (.ref l) [.int i] H Q := by
  have lt := (List.getElem?_eq_some_iff.mp hy).1
  subst e
  refine ⟨l, xs, _, k, y, rfl, rfl, hl, by omega, by omega, ?_, hy, q⟩
  unfold seqIndex?
  simp
  omega
theorem k_clear {l : Addr} {xs : List V} (hl : H l = some (.lst xs)) (q : Q .non (upd H l (.lst []))) : rClear (.ref l) [] H Q := ⟨l, xs, rfl, rfl, hl, q⟩
theorem k_extend {l b : Addr} {xs zs : List V} (hl : H l = some (.lst xs)) (hb : H b = some (.lst zs)) (hz : xs.length + zs.length ≤ 100000) (q : Q .non (upd H l (.lst (xs ++ zs)))) : rExtend (.ref l) [.ref b] H Q := ⟨l, b, xs, zs, rfl, rfl, hl, hb, smallE hz, q⟩
end
/-! ### promises -/
def spPen (K : PySem.W.Frag) : Sp := fun vs H Q _ => ∃ (a : Addr) (ns : List Int) (k : Int), vs = [.ref a, .int k] ∧ SqL K H a (ns.map V.int) ∧ ns.length ≤ 63 ∧ 0 ≤ k ∧ k < 1000 ∧ ∀ (d : Addr) (H' : Hp), DeckL H H' d 0 → Q (.ref d) H'
def spLeftP : Sp := fun vs H Q _ => ∃ (G : Hp) (d : Addr) (b : Nat), vs = [.ref d] ∧ DeckL G H d b ∧ b ≤ 1000000 ∧
  ∀ (l t : Addr) (ms : List Int) (G' H' : Hp), Same G G' → G l = none → G' l = some (.lst [.str ("left" : Str), .ref t]) → G' t = some (.tup (ms.map V.int)) → msOk ms → DeckL G' H' d (b + 2) → Q (.ref l) H'
def spGrown : Sp := fun vs H Q _ => ∃ (G : Hp) (d : Addr) (b : Nat), vs = [.ref d] ∧ DeckL G H d b ∧ b ≤ 100000 ∧
  ∀ (top : Addr) (p : Pln) (G' H' : Hp), Same G G' → LsAt G' p top → p.dep ≤ 59 → p.ok → DeckL G' H' d (b + 1000) → Q (.ref top) H'
def spPlan (n : Nat) : Sp := fun vs H Q _ => ∃ (a : Addr) (p : Pln), vs = [.ref a] ∧ LsAt H p a ∧ p.dep ≤ n ∧ ∀ (v : Addr) (H' : Hp), Same H H' → H v = none → TpAt H' p v → Q (.ref v) H'
theorem er_map {α β : Type} (f : α → β) : ∀ (L : List α) (k : Nat), (L.map f).eraseIdx k = (L.eraseIdx k).map f
  | [], _ => rfl
  | x :: xs, 0 => rfl
  | x :: xs, k + 1 => by
    rw [List.map_cons, List.eraseIdx_cons_succ, List.eraseIdx_cons_succ, List.map_cons, er_map f xs k]
theorem er_mem {α : Type} : ∀ {L : List α} {k : Nat} {j : α}, j ∈ L.eraseIdx k → j ∈ L
  | [], _, _, h => by simp at h
  | x :: xs, 0, j, h => List.mem_cons_of_mem _ h
  | x :: xs, k + 1, j, h => by
    rw [List.eraseIdx_cons_succ] at h
    rcases List.mem_cons.mp h with z | z
    · rw [z]; simp
    · exact List.mem_cons_of_mem _ (er_mem z)
theorem er_nodup {α : Type} : ∀ {L : List α} {k : Nat} {i : α}, L.Nodup → L[k]? = some i → (L.eraseIdx k).Nodup ∧ i ∉ L.eraseIdx k
  | [], _, _, _, h => by simp at h
  | x :: xs, 0, i, nd, h => by
    simp at h
    subst h
    rw [List.nodup_cons] at nd
    exact ⟨nd.2, nd.1⟩
  | x :: xs, k + 1, i, nd, h => by
    rw [List.nodup_cons] at nd
    have hx : xs[k]? = some i := by simpa using h
    obtain ⟨h1, h2⟩ := er_nodup nd.2 hx
    rw [List.eraseIdx_cons_succ]
    refine ⟨List.nodup_cons.mpr ⟨fun z => nd.1 (er_mem z), h1⟩, fun z => ?_⟩
    rcases List.mem_cons.mp z with z | z
    · subst z
      exact nd.1 (List.mem_of_getElem? hx)
    · exact h2 z
end Bk
/-! plans copied and followed -/
namespace Bk
open PySem PySem.Spec PyProof.Rows L2
def spPlanF : Nat → Sp
  | 0 => spNever
  | n + 1 => spPlan n
theorem sTL : ¬ (("try" : Str) = "left") := by decide +kernel
theorem sLT : ¬ (("left" : Str) = "try") := by decide +kernel
theorem sGB : ¬ (("good" : Str) = "bad") := by decide +kernel
theorem sBG : ¬ (("bad" : Str) = "good") := by decide +kernel
def agV (t : Bool) : Str := if t then "good" else "bad"
theorem agV_bad (t : Bool) : decide (agV t = ("bad" : Str)) = !t := by cases t <;> simp [agV, sGB]
theorem agV_good (t : Bool) : decide (agV t = ("good" : Str)) = t := by cases t <;> simp [agV, sBG]
theorem TpAt.tup {H : Hp} : ∀ {p : Pln} {a : Addr}, TpAt H p a → ∃ xs, H a = some (.tup xs)
  | .left _, _, ⟨_, h, _⟩ => ⟨_, h⟩
  | .tri _ _ _, _, ⟨_, _, h, _⟩ => ⟨_, h⟩
def stepF (s : List Int × Pln) (t : Bool) : List Int × Pln := match s.2 with
  | .left _ => s
  | .tri m b g => (s.1 ++ [m], if t then g else b)
def flS (p : Pln) (as : List Bool) : List Int × Pln := as.foldl stepF ([], p)
theorem flS_snoc (p : Pln) (as : List Bool) (t : Bool) : flS p (as ++ [t]) = stepF (flS p as) t := by
  unfold flS
  rw [List.foldl_append]
  rfl
theorem step_left {s : List Int × Pln} {ms : List Int} (h : s.2 = .left ms) (t : Bool) : stepF s t = s := by
  unfold stepF
  rw [h]
theorem step_tri {s : List Int × Pln} {m : Int} {b g : Pln} (h : s.2 = .tri m b g) (t : Bool) : stepF s t = (s.1 ++ [m], if t then g else b) := by
  unfold stepF
  rw [h]
theorem fold_left {s : List Int × Pln} {ms : List Int} (h : s.2 = .left ms) : ∀ as : List Bool, as.foldl stepF s = s
  | [] => rfl
  | t :: as => by
    rw [List.foldl_cons, step_left h, fold_left h as]
theorem flS_stop {p : Pln} {as : List Bool} {i : Nat} {ms : List Int} (h : (flS p (as.take i)).2 = .left ms) : flS p as = flS p (as.take i) := by
  have e : as = as.take i ++ as.drop i := (List.take_append_drop i as).symm
  rw [e]
  show (as.take i ++ as.drop i).foldl stepF ([], p) = _
  rw [List.foldl_append, ← e]
  exact fold_left h _
theorem fold_pre : ∀ (as : List Bool) (t : List Int) (p : Pln), as.foldl stepF (t, p) = (t ++ (flS p as).1, (flS p as).2)
  | [], t, p => by simp [flS]
  | a :: as, t, p => by
    cases p with
    | left ms =>
      rw [fold_left (ms := ms) rfl]
      show _ = (t ++ ((a :: as).foldl stepF ([], Pln.left ms)).1, ((a :: as).foldl stepF ([], Pln.left ms)).2)
      rw [fold_left (ms := ms) rfl]
      simp
    | tri m b g =>
      rw [List.foldl_cons, step_tri rfl]
      show _ = (t ++ ((a :: as).foldl stepF ([], Pln.tri m b g)).1, ((a :: as).foldl stepF ([], Pln.tri m b g)).2)
      rw [List.foldl_cons, step_tri rfl, fold_pre as (t ++ [m]), fold_pre as ([] ++ [m])]
      simp
theorem flS_len : ∀ (as : List Bool) (p : Pln), (flS p as).1.length ≤ as.length
  | [], p => by simp [flS]
  | a :: as, p => by
    show ((a :: as).foldl stepF ([], p)).1.length ≤ _
    rw [List.foldl_cons]
    cases p with
    | left ms =>
      rw [step_left rfl, fold_left (ms := ms) rfl]
      simp
    | tri m b g =>
      rw [step_tri rfl, fold_pre]
      have := flS_len as (if a then g else b)
      simp
      omega
theorem flS_full : ∀ (as : List Bool) (p : Pln), (flS p as).1.length = as.length ∨ ∃ ms, (flS p as).2 = .left ms
  | [], p => .inl (by simp [flS])
  | a :: as, p => by
    show ((a :: as).foldl stepF ([], p)).1.length = _ ∨ ∃ ms, ((a :: as).foldl stepF ([], p)).2 = .left ms
    rw [List.foldl_cons]
    cases p with
    | left ms =>
      rw [step_left rfl, fold_left (ms := ms) rfl]
      exact .inr ⟨ms, rfl⟩
    | tri m b g =>
      rw [step_tri rfl, fold_pre]
      rcases flS_full as (if a then g else b) with h | h
      · exact .inl (by simp [h])
      · exact .inr h
/-- the first so many answers, and the rest of them -/
theorem flS_cut (p : Pln) (as : List Bool) (c : Nat) : (flS p as).1 = (flS p (as.take c)).1 ++ (flS (flS p (as.take c)).2 (as.drop (flS p (as.take c)).1.length)).1 ∧ (flS p as).2 = (flS (flS p (as.take c)).2 (as.drop (flS p (as.take c)).1.length)).2 := by
  have e : as = as.take c ++ as.drop c := (List.take_append_drop c as).symm
  have full : flS p as = ((flS p (as.take c)).1 ++ (flS (flS p (as.take c)).2 (as.drop c)).1, (flS (flS p (as.take c)).2 (as.drop c)).2) := by
    conv => lhs; rw [e]
    show (as.take c ++ as.drop c).foldl stepF ([], p) = _
    rw [List.foldl_append]
    exact fold_pre _ _ _
  rcases flS_full (as.take c) p with h | ⟨ms, h⟩
  · by_cases lc : c ≤ as.length
    · rw [h, List.length_take, Nat.min_eq_left lc, full]
      exact ⟨rfl, rfl⟩
    · have e1 : as.take c = as := List.take_of_length_le (by omega)
      rw [e1] at h ⊢
      rw [h, List.drop_of_length_le (Nat.le_refl _)]
      exact ⟨by simp [flS], rfl⟩
  · have go : ∀ xs, flS (flS p (as.take c)).2 xs = ([], .left ms) := fun xs => by
      rw [h]
      exact fold_left (ms := ms) rfl xs
    rw [full, go, go]
    exact ⟨rfl, rfl⟩
theorem stepF_dep {s : List Int × Pln} {t : Bool} {n : Nat} (h : s.2.dep ≤ n) : (stepF s t).2.dep ≤ n := by
  unfold stepF
  split
  · exact h
  · rename_i m b g e
    rw [e] at h
    simp only [Pln.dep] at h
    cases t
    · show b.dep ≤ n
      omega
    · show g.dep ≤ n
      omega
theorem flS_dep : ∀ (as : List Bool) {p : Pln} {n : Nat}, p.dep ≤ n → (flS p as).2.dep ≤ n := by
  intro as p n h
  have go : ∀ (as : List Bool) (s : List Int × Pln), s.2.dep ≤ n → (as.foldl stepF s).2.dep ≤ n := by
    intro as
    induction as with
    | nil => exact fun _ h => h
    | cons a as ih => exact fun s h => ih _ (stepF_dep h)
  exact go as _ h
/-- answers as texts -/
def agL (as : List Bool) : List V := as.map fun t => .str (agV t)
def spPartOf : Sp := fun vs H Q _ => ∃ (a : Addr) (t : Bool) (m : Int) (b g : Pln), vs = [.ref a, .str (agV t)] ∧ TpAt H (.tri m b g) a ∧ ∀ x : Addr, TpAt H (if t then g else b) x → Q (.ref x) H
structure FlAt (H : Hp) (u l v : Addr) (t : List Int) (p : Pln) (n : Int) : Prop where
  hu : H u = some (.tup [.ref l, .ref v, .int n])
  hl : H l = some (.lst (t.map V.int))
  hv : TpAt H p v
theorem FlAt.same {H H' : Hp} {u l v : Addr} {t : List Int} {p : Pln} {n : Int} (F : FlAt H u l v t p n) (s : Same H H') : FlAt H' u l v t p n := ⟨s _ _ F.hu, s _ _ F.hl, F.hv.same s⟩
def spFollowed (K : PySem.W.Frag) : Sp := fun vs H Q _ => ∃ (kd : Bool) (a c : Addr) (p : Pln) (as : List Bool), vs = [.ref a, .ref c] ∧ TpAt H p a ∧ SqK K kd H c (agL as) ∧ as.length ≤ 100 ∧ ∀ (u l v : Addr) (H' : Hp), Same H H' → H l = none → FlAt H' u l v (flS p as).1 (flS p as).2 ((flS p as).1.length : Nat) → Q (.ref u) H'
def spDueF (K : PySem.W.Frag) : Sp := fun vs H Q _ => ∃ (a c : Addr) (p : Pln) (as : List Bool), vs = [.ref a, .ref c] ∧ LsAt H p a ∧ p.dep ≤ 59 ∧ SqL K H c (agL as) ∧ as.length ≤ 100 ∧ ∀ (u l v : Addr) (H' : Hp), Same H H' → H l = none → FlAt H' u l v (flS p as).1 (flS p as).2 ((flS p as).1.length : Nat) → Q (.ref u) H'
def spAnswersP : Sp := fun vs H Q _ => ∃ (G : Hp) (d a : Addr) (b : Nat) (p : Pln), vs = [.ref d, .ref a] ∧ DeckL G H d b ∧ b ≤ 100000 ∧ LsAt G p a ∧ ∀ (l : Addr) (as : List Bool) (G' H' : Hp), Same G G' → G' l = some (.lst (agL as)) → as.length ≤ 65 → DeckL G' H' d (b + 1000) → Q (.ref l) H'
def spRightF : Sp := fun vs H Q _ => ∃ (u l v u2 l2 v2 : Addr) (t : List Int) (p : Pln) (n : Int), vs = [.ref u, .ref u2] ∧ FlAt H u l v t p n ∧ FlAt H u2 l2 v2 t p n ∧ t.length ≤ 1000 ∧ p.dep ≤ 59 ∧ ∀ H' : Hp, Same H H' → Q (.bl true) H'
theorem flD_sh {t : List Int} {p : Pln} {n : Int} (h : p.dep ≤ 59) : SeqAt.shaped (PyData.tuple [.list (t.map PyData.int), plD p, .int n]) = true := by
  obtain ⟨h1, h2⟩ := sh_intsA t
  obtain ⟨h3, h4⟩ := plD_facts p
  simp [SeqAt.shaped, PyData.canLay0, PyData.canLayAll0, PyData.depth, PyData.depthAll, h1, h2, h3]
  omega
theorem plD_sh {p : Pln} (h : p.dep ≤ 59) : SeqAt.shaped (plD p) = true := by
  obtain ⟨h3, h4⟩ := plD_facts p
  simp [SeqAt.shaped, h3]
  omega
theorem agD_sh (as : List Bool) : SeqAt.shaped (PyData.list (as.map fun t => PyData.str (agV t))) = true := by
  have go : ∀ as : List Bool, PyData.canLayAll0 (as.map fun t => PyData.str (agV t)) = true ∧ PyData.depthAll (as.map fun t => PyData.str (agV t)) = 0 := by
    intro as
    induction as with
    | nil => exact ⟨rfl, rfl⟩
    | cons a as ih =>
      have ok : PyData.strOk (agV a) = true := by cases a <;> decide +kernel
      constructor
      · simp [PyData.canLayAll0, PyData.canLay0, ih.1, ok]
      · simp [PyData.depthAll, PyData.depth, ih.2]
  obtain ⟨h1, h2⟩ := go as
  simp [SeqAt.shaped, PyData.canLay0, PyData.depth, h1, h2]
theorem dp_ans {K : PySem.W.Frag} {H : Hp} : ∀ as : List Bool, DpAll K H (agL as) (as.map fun t => PyData.str (agV t))
  | [] => .nil
  | a :: as => .cons (.str _) (dp_ans as)
section
variable {K : PySem.W.Frag} {H : Hp} {Q : VK}
theorem k_eqFl {u l v u2 l2 v2 : Addr} {t : List Int} {p : Pln} {n : Int} (F : FlAt H u l v t p n) (F2 : FlAt H u2 l2 v2 t p n) (hp : p.dep ≤ 59) (h : Q (.bl true) H) : rEqD K (.ref u) (.ref u2) H Q := by
  refine k_eqD (.tup (sqt_tup F.hu) (.cons (.lst (sql_lst F.hl) (dp_ints t)) (.cons F.hv.dp (.cons (.int n) .nil)))) (.tup (sqt_tup F2.hu) (.cons (.lst (sql_lst F2.hl) (dp_ints t)) (.cons F2.hv.dp (.cons (.int n) .nil)))) (flD_sh hp) (flD_sh hp) ?_
  rw [SeqAt.eqv_refl _ (SeqAt.canLay_of_shaped (flD_sh hp))]
  exact h
theorem k_nePl {u v : Addr} {p : Pln} (F : TpAt H p u) (F2 : TpAt H p v) (hp : p.dep ≤ 59) (h : Q (.bl false) H) : rNeD K (.ref u) (.ref v) H Q := by
  refine k_neD F.dp F2.dp (plD_sh hp) (plD_sh hp) ?_
  rw [SeqAt.eqv_refl _ (SeqAt.canLay_of_shaped (plD_sh hp))]
  exact h
theorem k_neAns {u v : Addr} {as : List Bool} (h1 : H u = some (.lst (agL as))) (h2 : H v = some (.lst (agL as))) (h : Q (.bl false) H) : rNeD K (.ref u) (.ref v) H Q := by
  refine k_neD (.lst (sql_lst h1) (dp_ans as)) (.lst (sql_lst h2) (dp_ans as)) (agD_sh as) (agD_sh as) ?_
  rw [SeqAt.eqv_refl _ (SeqAt.canLay_of_shaped (agD_sh as))]
  exact h
end
theorem cut_take (xs : List V) (c : Nat) : cutV xs none (some (c : Int)) = xs.take c := by
  unfold cutV
  rw [HT.sIx_none, show HT.sIx xs.length xs.length (some (c : Int)) = min c xs.length from HT.sIx_nat _ _ c, List.drop_zero, Nat.sub_zero]
  by_cases h : c ≤ xs.length
  · rw [Nat.min_eq_left h]
  · rw [Nat.min_eq_right (by omega), List.take_length, List.take_of_length_le (by omega)]
theorem cut_drop (xs : List V) (c : Nat) : cutV xs (some (c : Int)) none = xs.drop c := by
  unfold cutV
  rw [HT.sIx_none, show HT.sIx xs.length 0 (some (c : Int)) = min c xs.length from HT.sIx_nat _ _ c]
  by_cases h : c ≤ xs.length
  · rw [Nat.min_eq_left h, List.take_of_length_le (by rw [List.length_drop]; omega)]
  · rw [Nat.min_eq_right (by omega), List.drop_length, List.drop_of_length_le (by omega)]
    simp
theorem agL_take (as : List Bool) (c : Nat) : (agL as).take c = agL (as.take c) := by unfold agL; rw [List.map_take]
theorem agL_drop (as : List Bool) (c : Nat) : (agL as).drop c = agL (as.drop c) := by unfold agL; rw [List.map_drop]
theorem agL_len (as : List Bool) : (agL as).length = as.length := by unfold agL; rw [List.length_map]
theorem TpAt.lst {H : Hp} {l : Addr} {xs : List V} {o : HO} (hl : H l = some (.lst xs)) : ∀ {p : Pln} {a : Addr}, TpAt H p a → TpAt (upd H l o) p a
  | .left _, _, ⟨t, h1, h2⟩ => ⟨t, by rw [upd_ne (ne_of h1 hl (by intro z; cases z))]; exact h1, by rw [upd_ne (ne_of h2 hl (by intro z; cases z))]; exact h2⟩
  | .tri _ _ _, _, ⟨x, y, h1, h2, h3⟩ => ⟨x, y, by rw [upd_ne (ne_of h1 hl (by intro z; cases z))]; exact h1, TpAt.lst hl h2, TpAt.lst hl h3⟩
theorem k_cutAndT {σ : L2.St} {H : Hp} {u : TT} {Q : Bool → Hp → Prop} {b : Bool} (I : Bool → Hp → Prop) (h2 : ∀ b H, I b H → Q b H) (h1 : ∀ M : Bool → Hp → Prop, (∀ b H, I b H → M b H) → kAnd u σ M b H) : kAnd u σ Q b H := h1 Q h2
theorem LsAt.head {H : Hp} : ∀ {p : Pln} {a : Addr}, LsAt H p a → ∃ s xs, H a = some (.lst (.str s :: xs))
  | .left _, _, ⟨_, h, _⟩ => ⟨_, _, h⟩
  | .tri _ _ _, _, ⟨_, _, h, _⟩ => ⟨_, _, h⟩
theorem TpAt.less {H G : Hp} (s : ∀ b xs, H b = some (.tup xs) → G b = some (.tup xs)) : ∀ {p : Pln} {a : Addr}, TpAt H p a → TpAt G p a
  | .left _, _, ⟨t, h1, h2⟩ => ⟨t, s _ _ h1, s _ _ h2⟩
  | .tri _ _ _, _, ⟨x, y, h1, h2, h3⟩ => ⟨x, y, s _ _ h1, TpAt.less s h2, TpAt.less s h3⟩
theorem DeckL.told {G H H' : Hp} {d : Addr} {b : Nat} (F : DeckL G H d b) (s : Same H H') : ∃ G' : Hp, DeckL G' H' d b ∧ Same G G' ∧ H' d ≠ none ∧ ∀ c o, c ≠ d → H' c = some o → G' c = some o := by
  obtain ⟨c, t, k, e, t0, t1⟩ := (F.more s).ex
  refine ⟨hide H' [d], ⟨same_hide _ _, hide_none (by simp), c, t, k, e, t0, t1⟩, fun b o hb => ?_, by rw [e]; simp, fun b o nb hb => ?_⟩
  · have nb : b ≠ d := ne_of_none hb F.d0
    rw [hide_get (by simp [nb])]
    exact (F.more s).same _ _ hb
  · rw [hide_get (by simp [nb])]
    exact hb
theorem DeckL.lst {G H : Hp} {d : Addr} {b : Nat} (F : DeckL G H d b) : ∃ xs, H d = some (.lst xs) := by
  obtain ⟨c, t, k, e, t0, t1⟩ := F.ex
  exact ⟨_, e⟩
theorem TpAt.up {G H : Hp} {d : Addr} {xs : List V} (hd : H d = some (.lst xs)) (up : ∀ c o, c ≠ d → H c = some o → G c = some o) {p : Pln} {a : Addr} (h : TpAt H p a) : TpAt G p a := h.less fun b ys hb => up _ _ (ne_of hb hd (by intro z; cases z)) hb
theorem FlAt.up {G H : Hp} {d : Addr} {xs : List V} (hd : H d = some (.lst xs)) (up : ∀ c o, c ≠ d → H c = some o → G c = some o) {u l v : Addr} {t : List Int} {p : Pln} {n : Int} (nl : l ≠ d) (F : FlAt H u l v t p n) : FlAt G u l v t p n := ⟨up _ _ (ne_of F.hu hd (by intro z; cases z)) F.hu, up _ _ nl F.hl, F.hv.up hd up⟩
end Bk
/-! what plans cost at worst -/
namespace Bk
open PySem PySem.Spec PyProof.Rows L2
section
variable {σ : L2.St} {H : Hp} {Q : VK} {D : Ends} {K : PySem.W.Frag}
/-! ### while -/
def kWh (W : Nat → L2.St → Hp → Prop) (m : Nat) (tb : TS) (D : Ends) (σ : L2.St) (b : Bool) (H1 : Hp) : Prop :=
  if b = true then ∃ N : L2.St → Hp → Prop, (∀ σ' H', N σ' H' → ∃ m', m' < m ∧ W m' σ' H') ∧ tb { D with nx := N, ct := N, bk := D.nx } σ H1 else D.nx σ H1
theorem r_while {c : TT} {tb : TS} (W : Nat → L2.St → Hp → Prop) (m0 : Nat) (h0 : W m0 σ H) (hs : ∀ m σ H, W m σ H → c σ H fun b H1 => kWh W m tb D σ b H1) : tWhile c tb D σ H := ⟨W, ⟨m0, h0⟩, hs⟩
theorem k_whT {W : Nat → L2.St → Hp → Prop} {m : Nat} {tb : TS} {b : Bool} (e : b = true) (h : tb { D with nx := fun σ' H' => ∃ m', m' < m ∧ W m' σ' H', ct := fun σ' H' => ∃ m', m' < m ∧ W m' σ' H', bk := D.nx } σ H) : kWh W m tb D σ b H := by
  subst e
  unfold kWh
  rw [if_pos rfl]
  exact ⟨_, fun _ _ h => h, h⟩
theorem k_whF {W : Nat → L2.St → Hp → Prop} {m : Nat} {tb : TS} {b : Bool} (e : b = false) (h : D.nx σ H) : kWh W m tb D σ b H := by
  subst e
  unfold kWh
  rw [if_neg Bool.false_ne_true]
  exact h
theorem k_pop {l : Addr} {xs : List V} {y : V} (hl : H l = some (.lst (xs ++ [y]))) (q : Q y (upd H l (.lst xs))) : rPop (.ref l) [] H Q := ⟨l, xs ++ [y], y, rfl, rfl, hl, by simp, by rw [List.dropLast_concat]; exact q⟩
theorem k_ixKd {kd : Bool} {p : Addr} {xs : List V} {i : Int} {v : V} (h : SqK K kd H p xs) (hi : atI xs i = some v) (q : Q v H) : rIx K (.ref p) (.int i) H Q := by
  cases kd with
  | true => exact .inr (.inl (k_ixT h hi q))
  | false => exact .inl (k_ixL h hi q)
end
/-! ### costs -/
def wrs (c : Int → Int) : Pln → Int
  | .left _ => 0
  | .tri m b g => c m + max (wrs c b) (wrs c g)
theorem wrs_congr {c c' : Int → Int} (h : ∀ m, mOk m → c m = c' m) : ∀ {p : Pln}, p.ok → wrs c p = wrs c' p
  | .left _, _ => rfl
  | .tri m b g, ⟨h1, h2, h3⟩ => by
    unfold wrs
    rw [h m h1, wrs_congr h h2, wrs_congr h h3]
theorem wrs_pos {c : Int → Int} (h : ∀ m, mOk m → 0 ≤ c m) : ∀ {p : Pln}, p.ok → 0 ≤ wrs c p
  | .left _, _ => Int.le_refl _
  | .tri m b g, ⟨h1, h2, h3⟩ => by
    have := h m h1
    have := wrs_pos h h2
    unfold wrs
    omega
def costF (cs : List Int) (m : Int) : Int := cs.getD m.toNat 0
def CostOk (cs : List Int) : Prop := cs.length = 40 ∧ ∀ x ∈ cs, 1 ≤ x
theorem costF_at {cs : List Int} {m : Int} (h : CostOk cs) (hm : mOk m) : atI (cs.map V.int) m = some (.int (costF cs m)) := by
  obtain ⟨m0, m1⟩ := hm
  have e : ((m.toNat : Nat) : Int) = m := by omega
  have lt : m.toNat < cs.length := by rw [h.1]; omega
  rw [← e]
  refine atI_nat ?_
  rw [List.getElem?_map, List.getElem?_eq_getElem lt]
  unfold costF
  rw [List.getD_eq_getElem?_getD, Int.toNat_natCast, List.getElem?_eq_getElem lt]
  rfl
theorem costF_pos {cs : List Int} {m : Int} (h : CostOk cs) (hm : mOk m) : 1 ≤ costF cs m := by
  obtain ⟨m0, m1⟩ := hm
  have lt : m.toNat < cs.length := by rw [h.1]; omega
  unfold costF
  rw [List.getD_eq_getElem?_getD, List.getElem?_eq_getElem lt]
  exact h.2 _ (List.getElem_mem lt)
def PricesAt (K : PySem.W.Frag) (H : Hp) (v : V) (c : Int → Int) : Prop := (v = .non ∧ c = fun _ => 1) ∨ ∃ (kd : Bool) (a : Addr) (cs : List Int), v = .ref a ∧ SqK K kd H a (cs.map V.int) ∧ CostOk cs ∧ c = costF cs
def spPrice (K : PySem.W.Frag) : Sp := fun vs H Q _ => ∃ (m : Int) (v : V) (c : Int → Int), vs = [.int m, v] ∧ PricesAt K H v c ∧ mOk m ∧ Q (.int (c m)) H
def spWorst (K : PySem.W.Frag) (n : Nat) : Sp := fun vs H Q _ => ∃ (a : Addr) (v : V) (p : Pln) (c : Int → Int), vs = [.ref a, v] ∧ TpAt H p a ∧ p.dep ≤ n ∧ p.ok ∧ PricesAt K H v c ∧ Q (.int (wrs c p)) H
def spWorstF (K : PySem.W.Frag) : Nat → Sp
  | 0 => spNever
  | n + 1 => spWorst K n
/-! ### ways, one by one -/
def Pln.sz : Pln → Nat
  | .left _ => 1
  | .tri _ b g => 1 + b.sz + g.sz
def totW (c : Int → Int) (m : Int) (es : List (Pln × Int)) : Int := es.foldl (fun a e => max a (e.2 + wrs c e.1)) m
theorem totW_snoc (c : Int → Int) (m : Int) (es : List (Pln × Int)) (e : Pln × Int) : totW c m (es ++ [e]) = max (totW c m es) (e.2 + wrs c e.1) := by
  unfold totW
  rw [List.foldl_append]
  rfl
theorem totW_max (c : Int → Int) : ∀ (es : List (Pln × Int)) (m s : Int), totW c (max m s) es = max (totW c m es) s
  | [], m, s => rfl
  | e :: es, m, s => by
    show totW c (max (max m s) (e.2 + wrs c e.1)) es = max (totW c (max m (e.2 + wrs c e.1)) es) s
    rw [← totW_max c es, Int.max_assoc, Int.max_assoc, Int.max_comm s]
def szW (es : List (Pln × Int)) : Nat := (es.map fun e => e.1.sz).sum
theorem szW_snoc (es : List (Pln × Int)) (e : Pln × Int) : szW (es ++ [e]) = szW es + e.1.sz := by simp [szW]
def plL : Pln → PyData
  | .left ms => .list [.str ("left" : Str), .tuple (ms.map PyData.int)]
  | .tri m b g => .list [.str ("try" : Str), .int m, plL b, plL g]
theorem plL_facts : ∀ p : Pln, PyData.canLay0 (plL p) = true ∧ PyData.depth (plL p) ≤ p.dep + 2
  | .left ms => by
    obtain ⟨h1, h2⟩ := sh_intsA ms
    constructor
    · simp only [plL, PyData.canLay0, PyData.canLayAll0, h1]
      decide +kernel
    · simp only [plL, PyData.depth, PyData.depthAll, h2, Pln.dep]
      omega
  | .tri m b g => by
    obtain ⟨h1, h2⟩ := plL_facts b
    obtain ⟨h3, h4⟩ := plL_facts g
    constructor
    · simp only [plL, PyData.canLay0, PyData.canLayAll0, h1, h3]
      decide +kernel
    · simp only [plL, PyData.depth, PyData.depthAll, Pln.dep]
      omega
theorem LsAt.dp {K : PySem.W.Frag} {H : Hp} : ∀ {p : Pln} {a : Addr}, LsAt H p a → Dp K H (.ref a) (plL p)
  | .left ms, _, ⟨t, h1, h2⟩ => .lst (sql_lst h1) (.cons (.str _) (.cons (.tup (sqt_tup h2) (dp_ints ms)) .nil))
  | .tri m b g, _, ⟨x, y, h1, h2, h3⟩ => .lst (sql_lst h1) (.cons (.str _) (.cons (.int m) (.cons (LsAt.dp h2) (.cons (LsAt.dp h3) .nil))))
/-- entries that wait, as tuples -/
def WtAt (G H : Hp) (ws : List Addr) (es : List (Pln × Int)) : Prop := ws.length = es.length ∧ ∀ (i : Nat) (w : Addr) (e : Pln × Int), ws[i]? = some w → es[i]? = some e → ∃ a : Addr, H w = some (.tup [.ref a, .int e.2]) ∧ LsAt G e.1 a ∧ e.1.ok ∧ e.1.dep + i ≤ 59
theorem WtAt.lst {G H : Hp} {l : Addr} {xs : List V} {o : HO} {ws : List Addr} {es : List (Pln × Int)} (W : WtAt G H ws es) (hl : H l = some (.lst xs)) : WtAt G (upd H l o) ws es := ⟨W.1, fun i w e h1 h2 => by
  obtain ⟨a, g1, g2⟩ := W.2 i w e h1 h2
  exact ⟨a, by rw [upd_ne (ne_of g1 hl (by intro z; cases z))]; exact g1, g2⟩⟩
theorem WtAt.same {G H H' : Hp} {ws : List Addr} {es : List (Pln × Int)} (W : WtAt G H ws es) (s : Same H H') : WtAt G H' ws es := ⟨W.1, fun i w e h1 h2 => by
  obtain ⟨a, g1, g2⟩ := W.2 i w e h1 h2
  exact ⟨a, s _ _ g1, g2⟩⟩
theorem WtAt.snoc {G H : Hp} {ws : List Addr} {es : List (Pln × Int)} {w a : Addr} {e : Pln × Int} (W : WtAt G H ws es) (h : H w = some (.tup [.ref a, .int e.2])) (g : LsAt G e.1 a) (o : e.1.ok) (d : e.1.dep + ws.length ≤ 59) : WtAt G H (ws ++ [w]) (es ++ [e]) := by
  refine ⟨by simp [W.1], fun i w' e' h1 h2 => ?_⟩
  rcases snoc_get W.1 h1 h2 with ⟨g1, g2⟩ | ⟨rfl, rfl, rfl⟩
  · exact W.2 i w' e' g1 g2
  · exact ⟨a, h, g, o, d⟩
theorem WtAt.init {G H : Hp} {ws : List Addr} {es : List (Pln × Int)} {w : Addr} {e : Pln × Int} (W : WtAt G H (ws ++ [w]) (es ++ [e])) : WtAt G H ws es ∧ ∃ a : Addr, H w = some (.tup [.ref a, .int e.2]) ∧ LsAt G e.1 a ∧ e.1.ok ∧ e.1.dep + ws.length ≤ 59 := by
  have l : ws.length = es.length := by have := W.1; simp at this; exact this
  refine ⟨⟨l, fun i w' e' h1 h2 => W.2 i w' e' ?_ ?_⟩, W.2 ws.length w e ?_ ?_⟩
  · rw [List.getElem?_append_left (List.getElem?_eq_some_iff.mp h1).1]; exact h1
  · rw [List.getElem?_append_left (List.getElem?_eq_some_iff.mp h2).1]; exact h2
  · rw [List.getElem?_append_right (Nat.le_refl _), Nat.sub_self]; rfl
  · rw [l, List.getElem?_append_right (Nat.le_refl _), Nat.sub_self]; rfl
theorem WtD {K : PySem.W.Frag} {G H : Hp} (s : Same G H) : ∀ {ws : List Addr} {es : List (Pln × Int)} {j : Nat}, ws.length = es.length → (∀ (i : Nat) (w : Addr) (e : Pln × Int), ws[i]? = some w → es[i]? = some e → ∃ a : Addr, H w = some (.tup [.ref a, .int e.2]) ∧ LsAt G e.1 a ∧ e.1.ok ∧ e.1.dep + j ≤ 59) → DpAll K H (ws.map V.ref) (es.map fun e => PyData.tuple [plL e.1, .int e.2]) ∧ PyData.canLayAll0 (es.map fun e => PyData.tuple [plL e.1, .int e.2]) = true ∧ PyData.depthAll (es.map fun e => PyData.tuple [plL e.1, .int e.2]) ≤ 62
  | [], [], _, _, _ => ⟨.nil, rfl, Nat.zero_le _⟩
  | [], e :: es, _, h, _ => by simp at h
  | w :: ws, [], _, h, _ => by simp at h
  | w :: ws, e :: es, j, h, g => by
    obtain ⟨a, g1, g2, g3, g4⟩ := g 0 w e rfl rfl
    obtain ⟨d1, d2, d3⟩ := WtD s (ws := ws) (es := es) (j := j) (by simpa using h) (fun i w' e' h1 h2 => g (i + 1) w' e' (by simpa using h1) (by simpa using h2))
    obtain ⟨f1, f2⟩ := plL_facts e.1
    refine ⟨.cons (.tup (sqt_tup g1) (.cons (LsAt.dp (g2.same s)) (.cons (.int _) .nil))) d1, ?_, ?_⟩
    · simp [PyData.canLayAll0, PyData.canLay0, f1, d2]
    · simp [PyData.depthAll, PyData.depth]
      omega
theorem k_neW {K : PySem.W.Frag} {G H : Hp} {Q : VK} {l q : Addr} {ws : List Addr} {es : List (Pln × Int)} (s : Same G H) (hl : H l = some (.lst (ws.map V.ref))) (W : WtAt G H ws es) (hq : H q = some (.lst [])) (h : Q (.bl (!decide (es = []))) H) : rNeD K (.ref l) (.ref q) H Q := by
  obtain ⟨d1, d2, d3⟩ := WtD (K := K) s (j := 0) W.1 (fun i w e h1 h2 => by
    obtain ⟨a, g1, g2, g3, g4⟩ := W.2 i w e h1 h2
    exact ⟨a, g1, g2, g3, by omega⟩)
  refine k_neD (.lst (sql_lst hl) d1) (e := .list []) (.lst (sql_lst hq) .nil) ?_ rfl ?_
  · simp [SeqAt.shaped, PyData.canLay0, PyData.depth, d2]
    omega
  · cases es with
    | nil => exact h
    | cons e es => exact h
def spMost (K : PySem.W.Frag) : Sp := fun vs H Q _ => ∃ (a l : Addr) (p : Pln) (cs : List Int), vs = [.ref a, .ref l] ∧ LsAt H p a ∧ p.dep ≤ 59 ∧ p.ok ∧ H l = some (.lst (cs.map V.int)) ∧ CostOk cs ∧ ∀ H' : Hp, Same H H' → Q (.int (wrs (costF cs) p)) H'
def spPricesP : Sp := fun vs H Q _ => ∃ (G : Hp) (d : Addr) (b : Nat), vs = [.ref d] ∧ DeckL G H d b ∧ b ≤ 100000 ∧ ∀ (l : Addr) (cs : List Int) (G' H' : Hp), Same G G' → G' l = some (.lst (cs.map V.int)) → CostOk cs → DeckL G' H' d (b + 200) → Q (.ref l) H'
def spRightN : Sp := fun vs H Q _ => ∃ i : Int, vs = [.int i, .int i] ∧ Q (.bl true) H
end Bk
/-! the true answers at all makes that are not barred -/
namespace Bk
open PySem PySem.Spec PyProof.Rows L2
theorem ob_notInD {X : Cx} {K : PySem.W.Frag} (hK : X.K = K) (hu : X.A.units + 65 < cLine) : OpR X (compareOp .NotIn) (rNotInD K) := by subst hK; exact op_notInD hu
section
variable {H : Hp} {Q : VK} {K : PySem.W.Frag}
theorem k_notB {a b : Bool} (h : Q (.bl (!decide (a = b))) H) : rNotB (.bl a) (.bl b) H Q := ⟨a, b, rfl, rfl, h⟩
theorem k_neTT {p q : Addr} {as bs : List Addr} {rs : List (List Int)} (hp : H p = some (.tup (as.map V.ref))) (ta : TupsAt H as rs) (hq : H q = some (.tup (bs.map V.ref))) (tb : TupsAt H bs rs) (h : Q (.bl false) H) : rNeD K (.ref p) (.ref q) H Q := by
  have sh : SeqAt.shaped (PyData.tuple (rs.map fun r => PyData.tuple (r.map PyData.int))) = true := by
    obtain ⟨h1, h2⟩ := LTfacts rs
    simp [SeqAt.shaped, PyData.canLay0, PyData.depth, h1]
    omega
  refine k_neD (.tup (sqt_tup hp) (dpT ta)) (.tup (sqt_tup hq) (dpT tb)) sh sh ?_
  rw [SeqAt.eqv_refl _ (SeqAt.canLay_of_shaped sh)]
  exact h
theorem k_notInLT {a p : Addr} {as : List Addr} {rs : List (List Int)} {r : List Int} (ha : H a = some (.tup (r.map V.int))) (hp : H p = some (.lst (as.map V.ref))) (ta : TupsAt H as rs) (hr : r ∈ rs) (h : Q (.bl false) H) : rNotInD K (.ref a) (.ref p) H Q := by
  refine ⟨.tuple (r.map PyData.int), rs.map fun r => PyData.tuple (r.map PyData.int), .tup (sqt_tup ha) (dp_ints r), .lst (sql_lst hp) (dpT ta), sh_intsT r, sh_LT rs, ?_⟩
  have e : ((rs.map fun r => PyData.tuple (r.map PyData.int)).any fun z => PyData.eqv z (.tuple (r.map PyData.int))) = true := by
    rw [List.any_eq_true]
    exact ⟨_, List.mem_map.mpr ⟨r, hr, rfl⟩, SeqAt.eqv_refl _ (SeqAt.canLay_of_shaped (sh_intsT r))⟩
  rw [e]
  exact h
end
theorem PrAt.tups {H : Hp} {cs : List Addr} {ns : List Int} (P : PrAt H cs (ns.map fun k => (k, 0))) : TupsAt H cs (ns.map fun k => [k, 0]) := by
  refine ⟨by have := P.1; simpa using this, fun i a r h1 h2 => ?_⟩
  obtain ⟨k, hk, rfl⟩ := map_get h2
  exact P.2 i a (k, 0) h1 (by rw [List.getElem?_map, hk]; rfl)
/-- list(range(n)) -/
def kLR1 (Q : VK) (x : V) (H1 : Hp) : Prop := ∃ n, x = .int n ∧ RgOk 0 n ∧ ∀ q, H1 q = none → Q (.ref q) (upd H1 q (.lst (rgV 0 n)))
theorem r_LR1 {te : TE} {σ : L2.St} {H : Hp} {Q : VK} (h : te σ H fun x H1 => kLR1 Q x H1) : tLstRg (tRg1 te) σ H Q := h
def allL (n : Nat) : List Int := (List.range n).map fun (k : Nat) => (k : Int)
theorem k_LR1 {H : Hp} {Q : VK} {n : Nat} (h : n ≤ 1000) (q : ∀ p, H p = none → Q (.ref p) (upd H p (.lst ((allL n).map V.int)))) : kLR1 Q (.int (n : Nat)) H := by
  refine ⟨_, rfl, RgOk.of_le (by omega) (by omega) (by omega) (by omega), ?_⟩
  have e : rgV 0 (n : Nat) = (allL n).map V.int := by
    unfold rgV allL
    rw [List.map_map, show (((n : Nat) : Int) - 0).toNat = n by omega]
    refine List.map_congr_left fun k _ => ?_
    show V.int (0 + (k : Int)) = V.int (k : Int)
    rw [Int.zero_add]
  rw [e]
  exact q
theorem allL_mem {n : Nat} {k : Int} : k ∈ allL n ↔ goodM n k := by
  unfold allL goodM
  rw [List.mem_map]
  constructor
  · rintro ⟨j, hj, rfl⟩
    rw [List.mem_range] at hj
    exact ⟨by omega, by omega⟩
  · rintro ⟨h0, h1⟩
    exact ⟨k.toNat, List.mem_range.mpr (by omega), by omega⟩
theorem allL_pw (n : Nat) : (allL n).Pairwise (· < ·) := by
  unfold allL
  rw [List.pairwise_map]
  exact List.pairwise_lt_range.imp fun h => by omega
/-- each class is all that are alike with its least -/
structure ClsS (tell : Int → List Int) (ns : List Int) (rs : List (List Int)) : Prop where
  i : ClsI tell ns rs
  all : ∀ r ∈ rs, r = ns.filter fun x => decide (tell x = tell (r.headD 0))
theorem ClsS.add {tell : Int → List Int} {ns : List Int} {rs : List (List Int)} (S : ClsS tell ns rs) (m : Int) : ClsS tell (ns ++ [m]) (clsAdd tell rs m) := by
  refine ⟨S.i.add m, fun r hr => ?_⟩
  have I' := S.i.add m
  have one : ∀ r ∈ clsAdd tell rs m, tell (r.headD 0) = tell m → m ∈ r := fun r hr e => by
    obtain ⟨s, hs, hms⟩ := List.mem_flatten.mp (I'.perm.mem_iff.mpr (show m ∈ ns ++ [m] by simp))
    have es := I'.same s hs m hms
    have : r = s := by
      have ap := I'.ap
      obtain ⟨i, hi⟩ := List.getElem?_of_mem hr
      obtain ⟨j, hj⟩ := List.getElem?_of_mem hs
      have hi' : ((clsAdd tell rs m).map fun r => tell (r.headD 0))[i]? = some (tell m) := by rw [List.getElem?_map, hi, Option.map_some, e]
      have hj' : ((clsAdd tell rs m).map fun r => tell (r.headD 0))[j]? = some (tell m) := by rw [List.getElem?_map, hj, Option.map_some, es]
      have := (List.getElem?_inj (List.getElem?_eq_some_iff.mp hi').1 ap).mp (hi'.trans hj'.symm)
      subst this
      rw [hi] at hj
      exact Option.some.inj hj
    rw [this]
    exact hms
  rw [List.filter_append, List.filter_cons]
  rcases clsAdd_mem hr with z | z | ⟨s, hs, z, e⟩
  · by_cases e : tell m = tell (r.headD 0)
    · have hm := one r hr e.symm
      have nodup_case : ∀ s ∈ rs, tell (s.headD 0) ≠ tell m → True := fun _ _ _ => trivial
      exfalso
      have cnt : ((clsAdd tell rs m).map fun r => tell (r.headD 0)) = rs.map fun r => tell (r.headD 0) := by
        rw [clsAdd_heads S.i.ne, if_pos (List.mem_map.mpr ⟨r, z, e.symm⟩)]
      obtain ⟨i, hi⟩ := List.getElem?_of_mem z
      have mn : ∀ j < i, ∀ s, rs[j]? = some s → tell (s.headD 0) ≠ tell m := fun j hj s hs2 e2 => by
        have h1 : (rs.map fun r => tell (r.headD 0))[j]? = some (tell m) := by rw [List.getElem?_map, hs2, Option.map_some, e2]
        have h2 : (rs.map fun r => tell (r.headD 0))[i]? = some (tell m) := by rw [List.getElem?_map, hi, Option.map_some, e]
        have := (List.getElem?_inj (List.getElem?_eq_some_iff.mp h1).1 S.i.ap).mp (h1.trans h2.symm)
        omega
      rw [clsAdd_hit hi e.symm mn] at hr
      obtain ⟨j, hj⟩ := List.getElem?_of_mem hr
      rw [List.getElem?_set] at hj
      by_cases ej : i = j
      · subst ej
        rw [if_pos rfl, if_pos (List.getElem?_eq_some_iff.mp hi).1] at hj
        have := congrArg List.length (Option.some.inj hj)
        simp at this
      · rw [if_neg ej] at hj
        have h1 : (rs.map fun r => tell (r.headD 0))[j]? = some (tell (r.headD 0)) := by rw [List.getElem?_map, hj]; rfl
        have h2 : (rs.map fun r => tell (r.headD 0))[i]? = some (tell (r.headD 0)) := by rw [List.getElem?_map, hi]; rfl
        exact ej ((List.getElem?_inj (List.getElem?_eq_some_iff.mp h2).1 S.i.ap).mp (h2.trans h1.symm))
    · rw [if_neg (by simpa using e)]
      simpa using S.all r z
  · subst z
    have e0 : ns.filter (fun x => decide (tell x = tell (([m] : List Int).headD 0))) = [] := by
      rw [List.filter_eq_nil_iff]
      intro x hx
      simp only [decide_eq_true_eq]
      intro e
      obtain ⟨s, hs, hxs⟩ := List.mem_flatten.mp (S.i.perm.mem_iff.mpr hx)
      have es : tell (s.headD 0) = tell m := by rw [← S.i.same s hs x hxs]; exact e
      have heads := clsAdd_heads (tell := tell) (m := m) S.i.ne
      rw [if_pos (List.mem_map.mpr ⟨s, hs, es⟩)] at heads
      have l := congrArg List.length heads
      rw [List.length_map, List.length_map] at l
      obtain ⟨i, hi⟩ := List.getElem?_of_mem hs
      have mn : ∀ j < i, ∀ s2, rs[j]? = some s2 → tell (s2.headD 0) ≠ tell m := fun j hj s2 hs2 e2 => by
        have h1 : (rs.map fun r => tell (r.headD 0))[j]? = some (tell m) := by rw [List.getElem?_map, hs2, Option.map_some, e2]
        have h2 : (rs.map fun r => tell (r.headD 0))[i]? = some (tell m) := by rw [List.getElem?_map, hi, Option.map_some, es]
        have := (List.getElem?_inj (List.getElem?_eq_some_iff.mp h1).1 S.i.ap).mp (h1.trans h2.symm)
        omega
      rw [clsAdd_hit hi es mn] at hr
      obtain ⟨j, hj⟩ := List.getElem?_of_mem hr
      rw [List.getElem?_set] at hj
      have li := (List.getElem?_eq_some_iff.mp hi).1
      by_cases ej : i = j
      · subst ej
        rw [if_pos rfl, if_pos li] at hj
        have := congrArg List.length (Option.some.inj hj)
        have ne := S.i.ne s hs
        cases s with
        | nil => exact ne rfl
        | cons a s => simp at this
      · rw [if_neg ej] at hj
        have h1 : (rs.map fun r => tell (r.headD 0))[j]? = some (tell m) := by rw [List.getElem?_map, hj]; rfl
        have h2 : (rs.map fun r => tell (r.headD 0))[i]? = some (tell m) := by rw [List.getElem?_map, hi, Option.map_some, es]
        exact ej ((List.getElem?_inj (List.getElem?_eq_some_iff.mp h2).1 S.i.ap).mp (h2.trans h1.symm))
    rw [e0, if_pos (by simp)]
    rfl
  · subst z
    rw [headD_app (S.i.ne s hs), if_pos (by simpa using e.symm)]
    have := S.all s hs
    rw [← this]
    rfl
theorem clsS (tell : Int → List Int) (ns : List Int) : ClsS tell ns (clsL tell ns) := by
  have go : ∀ (ns pre : List Int) (rs : List (List Int)), ClsS tell pre rs → ClsS tell (pre ++ ns) (ns.foldl (clsAdd tell) rs) := by
    intro ns
    induction ns with
    | nil => exact fun pre rs h => by simpa using h
    | cons n ns ih =>
      intro pre rs h
      have := ih (pre ++ [n]) _ (h.add n)
      rw [List.append_assoc] at this
      exact this
  exact go ns [] [] ⟨⟨by simp, by simp, by simp, by simp⟩, by simp⟩
/-- a make's class is there -/
theorem cls_of {tell : Int → List Int} {ns : List Int} {x : Int} (h : x ∈ ns) : (ns.filter fun y => decide (tell y = tell x)) ∈ clsL tell ns := by
  have S := clsS tell ns
  obtain ⟨r, hr, hx⟩ := List.mem_flatten.mp (S.i.perm.mem_iff.mpr h)
  have e := S.i.same r hr x hx
  have := S.all r hr
  rw [← e] at this
  rw [← this]
  exact hr
/-! ### trials -/
def OkT (rows : List (List Int)) (gs : List Int) (first : Nat) (t : Int × Str) : Prop := goodM rows.length t.1 ∧ ((t.1 ∈ gs ∧ t.2 = ("cannot" : Str)) ∨ (t.1 ∉ gs ∧ t.2 = ansS rows t.1.toNat first))
def Cov (gs : List Int) (ts : List (Int × Str)) (i : Nat) : Prop := ∀ m : Nat, m < i → (m : Int) ∉ gs → ∃ t ∈ ts, t.1 = (m : Int)
theorem sCG : ¬ (("cannot" : Str) = "good") := by decide +kernel
theorem sCB : ¬ (("cannot" : Str) = "bad") := by decide +kernel
theorem spk_ok {rows : List (List Int)} {gs : List Int} {first x : Nat} {t : Int × Str} (h : OkT rows gs first t) : spk rows t x = true ↔ t.1 ∉ gs ∧ ¬ (Cm rows t.1.toNat x ↔ Cm rows t.1.toNat first) := by
  unfold spk
  rw [decide_eq_true_eq]
  rcases h.2 with ⟨h1, h2⟩ | ⟨h1, h2⟩
  · rw [h2]
    constructor
    · intro z
      split at z
      · exact absurd z sCG
      · exact absurd z sCB
    · rintro ⟨z, _⟩
      exact absurd h1 z
  · rw [h2]
    unfold ansS
    by_cases a : Cm rows t.1.toNat first <;> by_cases b : Cm rows t.1.toNat x <;> simp [a, b, h1, sBG, sGB]
theorem mny_zero {rows : List (List Int)} {gs : List Int} {first x : Nat} {ts : List (Int × Str)} (h : ∀ t ∈ ts, OkT rows gs first t) (cv : Cov gs ts rows.length) : mny rows ts x = 0 ↔ tellL rows (freeL rows.length gs) (x : Int) = tellL rows (freeL rows.length gs) (first : Int) := by
  unfold mny
  rw [List.length_eq_zero_iff, List.filter_eq_nil_iff, tell_eq]
  have ex : (((x : Nat) : Int)).toNat = x := by omega
  have ef : (((first : Nat) : Int)).toNat = first := by omega
  rw [ex, ef]
  constructor
  · intro z f hf
    obtain ⟨f0, f1, f2⟩ := freeL_mem.mp hf
    obtain ⟨t, ht, et⟩ := cv f.toNat (by omega) (by rw [show ((f.toNat : Nat) : Int) = f by omega]; exact f2)
    have := z t ht
    rw [spk_ok (h t ht)] at this
    rw [et] at this
    have e : (((f.toNat : Nat) : Int)).toNat = f.toNat := by omega
    rw [e] at this
    refine Classical.byContradiction fun n => this ⟨?_, n⟩
    rw [show ((f.toNat : Nat) : Int) = f by omega]
    exact f2
  · intro z t ht
    rw [spk_ok (h t ht)]
    rintro ⟨n1, n2⟩
    have g := (h t ht).1
    exact n2 (z t.1 (freeL_mem.mpr ⟨g.1, g.2, n1⟩))
theorem mny_some {rows : List (List Int)} {gs : List Int} {first x : Nat} {ts : List (Int × Str)} (h : ∀ t ∈ ts, OkT rows gs first t) (e : tellL rows (freeL rows.length gs) (x : Int) = tellL rows (freeL rows.length gs) (first : Int)) : mny rows ts x = 0 := by
  unfold mny
  rw [List.length_eq_zero_iff, List.filter_eq_nil_iff]
  have ex : (((x : Nat) : Int)).toNat = x := by omega
  have ef : (((first : Nat) : Int)).toNat = first := by omega
  intro t ht
  rw [spk_ok (h t ht)]
  rintro ⟨n1, n2⟩
  have g := (h t ht).1
  have := tell_eq.mp e t.1 (freeL_mem.mpr ⟨g.1, g.2, n1⟩)
  rw [ex, ef] at this
  exact n2 this
/-- those alike with the first bad one -/
noncomputable def dueL (rows : List (List Int)) (gs : List Int) (first : Nat) (j : Nat) : List Int := ((List.range j).map fun (k : Nat) => (k : Int)).filter fun x => decide (tellL rows (freeL rows.length gs) x = tellL rows (freeL rows.length gs) (first : Int))
theorem dueL_succ {rows : List (List Int)} {gs : List Int} {first j : Nat} : dueL rows gs first (j + 1) = if tellL rows (freeL rows.length gs) (j : Int) = tellL rows (freeL rows.length gs) (first : Int) then dueL rows gs first j ++ [(j : Int)] else dueL rows gs first j := by
  unfold dueL
  rw [List.range_succ, List.map_append, List.filter_append, List.map_cons, List.map_nil, List.filter_cons]
  split
  · rename_i h
    rw [if_pos (by simpa using h)]
    rfl
  · rename_i h
    rw [if_neg (by simpa using h)]
    simp
theorem dueL_mem {rows : List (List Int)} {gs : List Int} {first j : Nat} {x : Int} : x ∈ dueL rows gs first j ↔ 0 ≤ x ∧ x < (j : Int) ∧ tellL rows (freeL rows.length gs) x = tellL rows (freeL rows.length gs) (first : Int) := by
  unfold dueL
  rw [List.mem_filter, List.mem_map, decide_eq_true_eq]
  constructor
  · rintro ⟨⟨k, hk, rfl⟩, e⟩
    rw [List.mem_range] at hk
    exact ⟨by omega, by omega, e⟩
  · rintro ⟨h0, h1, e⟩
    exact ⟨⟨x.toNat, List.mem_range.mpr (by omega), by omega⟩, e⟩
theorem dueL_len {rows : List (List Int)} {gs : List Int} {first j : Nat} : (dueL rows gs first j).length ≤ j := by
  unfold dueL
  refine Nat.le_trans (List.length_filter_le _ _) ?_
  simp
theorem knTo_due {rows : List (List Int)} {gs : List Int} {first : Nat} {ts : List (Int × Str)} (h : ∀ t ∈ ts, OkT rows gs first t) (cv : Cov gs ts rows.length) : ∀ j, knTo rows ts 0 j = (dueL rows gs first j).map fun k => (k, 0)
  | 0 => rfl
  | j + 1 => by
    rw [knTo_succ, dueL_succ, knTo_due h cv j]
    by_cases e : tellL rows (freeL rows.length gs) (j : Int) = tellL rows (freeL rows.length gs) (first : Int)
    · have z := (mny_zero h cv).mpr e
      rw [if_pos e, if_pos (by rw [z]; exact Int.le_refl _), List.map_append, z]
      rfl
    · have z : mny rows ts j ≠ 0 := fun z => e ((mny_zero h cv).mp z)
      rw [if_neg e, if_neg (by omega)]
theorem knTo_in0 {rows : List (List Int)} {ts : List (Int × Str)} {m : Nat} (h : mny rows ts m = 0) : ∀ j, m < j → ((m : Int), (0 : Int)) ∈ knTo rows ts 0 j
  | 0, z => by omega
  | j + 1, z => by
    rw [knTo_succ]
    by_cases e : m = j
    · subst e
      rw [if_pos (by rw [h]; exact Int.le_refl _), h]
      simp
    · have := knTo_in0 h j (by omega)
      split
      · exact List.mem_append_left _ this
      · exact this
def spTrials25 : Sp := fun vs H Q _ => ∃ (G : Hp) (d o g : Addr) (b : Nat) (rs : List Addr) (rows : List (List Int)) (gs : List Int) (first : Nat), vs = [.ref d, .ref o, .int (first : Nat), .ref g] ∧ DeckL G H d b ∧ b ≤ 100000 ∧ ReachAt G o rs rows rows.length ∧ rows.length ≤ 40 ∧ first < rows.length ∧ G g = some (.lst (gs.map V.int)) ∧
  ∀ (l : Addr) (zs : List (Addr × (Int × Str))) (G' H' : Hp), Same G G' → G' l = some (.lst (zs.map fun z => V.ref z.1)) → (∀ z ∈ zs, G' z.1 = some (.tup [.int z.2.1, .str z.2.2])) → (∀ t ∈ zs.map (·.2), OkT rows gs first t) → Cov gs (zs.map (·.2)) rows.length → zs.length ≤ 80 → DeckL G' H' d (b + 1000) → Q (.ref l) H'
theorem TrZ {K : PySem.W.Frag} {kd : Bool} {H : Hp} {l : Addr} {zs : List (Addr × (Int × Str))} (hl : SqK K kd H l (zs.map fun z => V.ref z.1)) (h : ∀ z ∈ zs, H z.1 = some (.tup [.int z.2.1, .str z.2.2])) : TrAt K kd H l (zs.map (·.1)) (zs.map (·.2)) := by
  refine ⟨by rw [List.map_map]; exact hl, by simp, fun i b t h1 h2 => ?_⟩
  obtain ⟨z, hz, rfl⟩ := map_get h1
  rw [List.getElem?_map, hz] at h2
  cases h2
  exact sqt_tup (h z (List.mem_of_getElem? hz))
theorem OkT.good {rows : List (List Int)} {gs : List Int} {first : Nat} {t : Int × Str} (h : OkT rows gs first t) : GoodT rows.length t := by
  refine ⟨h.1, ?_⟩
  rcases h.2 with ⟨_, e⟩ | ⟨_, e⟩
  · rw [e]
    simp [answersS]
  · rw [e]
    unfold ansS
    split <;> simp [answersS]
def spSame2P : Sp := fun vs H Q _ => ∃ (a b : Addr) (as bs : List Addr) (rs : List (List Int)), vs = [.ref a, .ref b] ∧ H a = some (.tup (as.map V.ref)) ∧ H b = some (.tup (bs.map V.ref)) ∧ TupsAt H as rs ∧ TupsAt H bs rs ∧ rs.length ≤ 1000 ∧ (∀ r ∈ rs, r.length ≤ 1000) ∧ ∀ H', Same H H' → Q (.bl true) H'
theorem k_cutOrB {σ : L2.St} {H : Hp} {u : TT} {Q : Bool → Hp → Prop} {b : Bool} (I : Bool → Hp → Prop) (h2 : ∀ b H, I b H → Q b H) (h1 : ∀ M : Bool → Hp → Prop, (∀ b H, I b H → M b H) → kOr u σ M b H) : kOr u σ Q b H := h1 Q h2
end Bk
/-! led by the truth -/
namespace Bk
open PySem PySem.Spec PyProof.Rows L2
theorem DeckL.mutO {G H : Hp} {d p : Addr} {o : HO} {b : Nat} (F : DeckL G H d b) (h : G p = none) (n : p ≠ d) : DeckL G (upd H p o) d b := by
  obtain ⟨c, t, k, e, t0, t1⟩ := F.ex
  exact ⟨F.same.mut h, F.d0, c, t, k, by rw [upd_ne n.symm]; exact e, t0, t1⟩
/-- all that are tried lie below this number -/
def Pln.lt (n : Nat) : Pln → Prop
  | .left _ => True
  | .tri m b g => (0 ≤ m ∧ m < (n : Int)) ∧ b.lt n ∧ g.lt n
def ledL (f : Int → Bool) : Pln → List Int
  | .left _ => []
  | .tri m b g => m :: (if f m then ledL f b else ledL f g)
def ledM (f : Int → Bool) : Pln → List Int
  | .left ms => ms
  | .tri m b g => if f m then ledM f b else ledM f g
theorem ledL_tri {f : Int → Bool} {m : Int} {b g : Pln} : ledL f (.tri m b g) = m :: ledL f (if f m then b else g) := by
  simp only [ledL]
  cases f m <;> rfl
theorem ledM_tri {f : Int → Bool} {m : Int} {b g : Pln} : ledM f (.tri m b g) = ledM f (if f m then b else g) := by
  simp only [ledM]
  cases f m <;> rfl
theorem ledL_len {f : Int → Bool} : ∀ p : Pln, (ledL f p).length ≤ p.dep
  | .left _ => Nat.le_refl _
  | .tri m b g => by
    have h1 := ledL_len (f := f) b
    have h2 := ledL_len (f := f) g
    rw [ledL_tri]
    simp only [Pln.dep, List.length_cons]
    cases f m
    · show (ledL f g).length + 1 ≤ _
      omega
    · show (ledL f b).length + 1 ≤ _
      omega
theorem ledM_ok {f : Int → Bool} : ∀ {p : Pln}, p.ok → msOk (ledM f p)
  | .left _, h => h
  | .tri m b g, ⟨_, h1, h2⟩ => by
    rw [ledM_tri]
    cases f m
    · exact ledM_ok h2
    · exact ledM_ok h1
def ltN (n : Nat) (C : List Nd) : Prop := ∀ (i : Nat) (m : Int) (l r : Nat), C[i]? = some (.tri m l r) → m < (n : Int)
theorem ltN.grow {n : Nat} {C : List Nd} {i : Nat} {m : Int} {l r : Nat} {t1 t2 : Addr} {m1 m2 : List Int} (h : ltN n C) (hm : m < (n : Int)) : ltN n (C.set i (.tri m l r) ++ [.leaf t1 m1, .leaf t2 m2]) := fun j m' l' r' hj => by
  by_cases lt : j < C.length
  · rw [List.getElem?_append_left (by rw [List.length_set]; exact lt), List.getElem?_set] at hj
    by_cases e : i = j
    · subst e
      rw [if_pos rfl, if_pos lt] at hj
      cases hj
      exact hm
    · rw [if_neg e] at hj
      exact h j m' l' r' hj
  · rw [List.getElem?_append_right (by rw [List.length_set]; omega), List.length_set] at hj
    have lt2 := (List.getElem?_eq_some_iff.mp hj).1
    simp only [List.length_cons, List.length_nil] at lt2
    rcases (show j - C.length = 0 ∨ j - C.length = 1 by omega) with e | e
    · rw [e] at hj
      cases hj
    · rw [e] at hj
      cases hj
theorem Grove.tree2 {G H : Hp} {A : List Addr} {C : List Nd} {N : Nat} (g : Grove G H A C) (hN : ltN N C) : ∀ (n i : Nat), C.length - i ≤ n → i < C.length → ∃ p : Pln, LsAt H p (A.getD i 0) ∧ p.dep ≤ (C.drop i).countP Nd.isTri ∧ p.ok ∧ p.lt N
  | 0, i, h, lt => by omega
  | n + 1, i, h, lt => by
    have hc := List.getElem?_eq_getElem lt
    have ha : A[i]? = some (A.getD i 0) := by
      rw [List.getD_eq_getElem?_getD, List.getElem?_eq_getElem (by rw [g.len]; exact lt)]
      rfl
    have e : C.drop i = C[i] :: C.drop (i + 1) := List.drop_eq_getElem_cons lt
    generalize C[i] = c at hc e
    have hn := g.at' i _ c ha hc
    cases c with
    | leaf t ms =>
      obtain ⟨h1, h2⟩ := g.lf i t ms hc
      exact ⟨.left ms, ⟨t, hn, h1⟩, Nat.zero_le _, h2, trivial⟩
    | tri m l r =>
      obtain ⟨h1, h2, h3, h4, h5⟩ := g.tr i m l r hc
      obtain ⟨b, b1, b2, b3, b4⟩ := Grove.tree2 g hN n l (by omega) h3
      obtain ⟨d, d1, d2, d3, d4⟩ := Grove.tree2 g hN n r (by omega) h4
      refine ⟨.tri m b d, ⟨_, _, hn, b1, d1⟩, ?_, ⟨h5, b3, d3⟩, ⟨h5.1, hN i m l r hc⟩, b4, d4⟩
      have sub : ∀ j, i < j → (C.drop j).countP Nd.isTri ≤ (C.drop (i + 1)).countP Nd.isTri := fun j hj => by
        have : C.drop j = (C.drop (i + 1)).drop (j - (i + 1)) := by rw [List.drop_drop]; congr 1; omega
        rw [this]
        exact List.Sublist.countP_le (List.drop_sublist _ _)
      have s1 := sub l h1
      have s2 := sub r h2
      rw [e, List.countP_cons, if_pos (show (Nd.tri m l r).isTri = true from rfl)]
      show 1 + max b.dep d.dep ≤ _
      omega
def spLeft2 : Sp := fun vs H Q _ => ∃ (G : Hp) (d : Addr) (b n : Nat), vs = [.ref d, .int (n : Int)] ∧ DeckL G H d b ∧ b ≤ 1000000 ∧ 1 ≤ n ∧ n ≤ 40 ∧
  ∀ (l t : Addr) (ms : List Int) (G' H' : Hp), Same G G' → G l = none → G' l = some (.lst [.str ("left" : Str), .ref t]) → G' t = some (.tup (ms.map V.int)) → msOk ms → DeckL G' H' d (b + 5) → Q (.ref l) H'
def spGrown2 : Sp := fun vs H Q _ => ∃ (G : Hp) (d : Addr) (b n : Nat), vs = [.ref d, .int (n : Int)] ∧ DeckL G H d b ∧ b ≤ 100000 ∧ 1 ≤ n ∧ n ≤ 40 ∧
  ∀ (top : Addr) (p : Pln) (G' H' : Hp), Same G G' → LsAt G' p top → p.dep ≤ 59 → p.ok → p.lt n → DeckL G' H' d (b + 1000) → Q (.ref top) H'
def spNetP : Sp := fun vs H Q _ => ∃ (G : Hp) (d : Addr), vs = [.ref d] ∧ DeckL G H d 0 ∧
  ∀ (p : Addr) (bs : List Addr) (rows : List (List Int)) (G' H' : Hp), Same G G' → NetAt G' p bs rows → RowsOk rows → 1 ≤ rows.length → rows.length ≤ 40 → DeckL G' H' d 10000 → Q (.ref p) H'
structure LedAt (H : Hp) (u l t : Addr) (xs ms : List Int) : Prop where
  hu : H u = some (.tup [.ref l, .ref t])
  hl : H l = some (.lst (xs.map V.int))
  ht : H t = some (.tup (ms.map V.int))
theorem LedAt.same {H H' : Hp} {u l t : Addr} {xs ms : List Int} (L : LedAt H u l t xs ms) (s : Same H H') : LedAt H' u l t xs ms := ⟨s _ _ L.hu, s _ _ L.hl, s _ _ L.ht⟩
/-- whether the tried one comes of the first one -/
noncomputable def leadF (rows : List (List Int)) (m : Nat) (x : Int) : Bool := decide (0 ≤ x ∧ x < (rows.length : Int) ∧ Cm rows x.toNat m)
def spLed (C : Addr) : Sp := fun vs H Q E => ∃ (p a : Addr) (bs : List Addr) (rows : List (List Int)) (pl : Pln) (m : Int), vs = [.ref p, .ref a, .int m] ∧ NetAt H p bs rows ∧ RowsOk rows ∧ rows.length ≤ 40 ∧ smallI m ∧ TpAt H pl a ∧ pl.dep ≤ 59 ∧
  (∀ m' : Nat, m = (m' : Int) → m' < rows.length → ∀ (u l t : Addr) (H' : Hp), Same H H' → H l = none → LedAt H' u l t (ledL (leadF rows m') pl) (ledM (leadF rows m') pl) → Q (.ref u) H') ∧ badE C rows.length [m] H E
def spDueLed : Sp := fun vs H Q _ => ∃ (o a : Addr) (rs : List Addr) (rows : List (List Int)) (pl : Pln) (m : Nat), vs = [.ref o, .ref a, .int (m : Int)] ∧ ReachAt H o rs rows rows.length ∧ LsAt H pl a ∧ pl.dep ≤ 59 ∧ pl.lt rows.length ∧ m < rows.length ∧
  ∀ (u l t : Addr) (H' : Hp), Same H H' → H l = none → LedAt H' u l t (ledL (leadF rows m) pl) (ledM (leadF rows m) pl) → Q (.ref u) H'
def spRightLed : Sp := fun vs H Q _ => ∃ (u l t u2 l2 t2 : Addr) (xs ms : List Int), vs = [.ref u, .ref u2] ∧ LedAt H u l t xs ms ∧ LedAt H u2 l2 t2 xs ms ∧ xs.length ≤ 1000 ∧ ms.length ≤ 1000 ∧ ∀ H' : Hp, Same H H' → Q (.bl true) H'
def spRefLed : Sp := fun vs H Q _ => ∃ (p a : Addr) (bs : List Addr) (rows : List (List Int)) (pl : Pln) (m : Int), vs = [.ref p, .ref a, .int m] ∧ NetAt H p bs rows ∧ RowsOk rows ∧ rows.length ≤ 40 ∧ smallI m ∧ TpAt H pl a ∧ pl.dep ≤ 59 ∧ ¬ goodM rows.length m ∧
  ∀ H' : Hp, Same H H' → Q (.int m) H'
theorem ledD_sh {xs ms : List Int} : SeqAt.shaped (PyData.tuple [.list (xs.map PyData.int), .tuple (ms.map PyData.int)]) = true := by
  obtain ⟨h1, h2⟩ := sh_intsA xs
  obtain ⟨h3, h4⟩ := sh_intsA ms
  simp [SeqAt.shaped, PyData.canLay0, PyData.canLayAll0, PyData.depth, PyData.depthAll, h1, h2, h3, h4]
theorem k_eqLed {K : PySem.W.Frag} {H : Hp} {Q : VK} {u l t u2 l2 t2 : Addr} {xs ms : List Int} (F : LedAt H u l t xs ms) (F2 : LedAt H u2 l2 t2 xs ms) (h : Q (.bl true) H) : rEqD K (.ref u) (.ref u2) H Q := by
  refine k_eqD (.tup (sqt_tup F.hu) (.cons (.lst (sql_lst F.hl) (dp_ints xs)) (.cons (.tup (sqt_tup F.ht) (dp_ints ms)) .nil))) (.tup (sqt_tup F2.hu) (.cons (.lst (sql_lst F2.hl) (dp_ints xs)) (.cons (.tup (sqt_tup F2.ht) (dp_ints ms)) .nil))) ledD_sh ledD_sh ?_
  rw [SeqAt.eqv_refl _ (SeqAt.canLay_of_shaped ledD_sh)]
  exact h
theorem tru_set {n i : Nat} {t : Bool} {f : Nat → Bool} : (tru n f).set i (.bl t) = tru n fun k => if k = i then t else f k := by
  unfold tru
  refine List.ext_getElem? fun j => ?_
  rw [List.getElem?_set, List.getElem?_map, List.getElem?_map, List.length_map, List.length_range]
  by_cases lt : j < n
  · rw [List.getElem?_range lt]
    by_cases e : i = j
    · subst e
      simp [lt]
    · have e' : ¬ j = i := fun z => e z.symm
      simp [e, e']
  · have hn : (List.range n)[j]? = none := List.getElem?_eq_none (by rw [List.length_range]; omega)
    rw [hn]
    by_cases e : i = j
    · subst e
      simp [lt]
    · simp [e]
theorem ReachAt.up {G H : Hp} {d : Addr} {c t k : Int} (hd : H d = some (.lst [.int c, .int t, .int k])) (up : ∀ c o, c ≠ d → H c = some o → G c = some o) {o : Addr} {rs : List Addr} {rows : List (List Int)} {m : Nat} (R : ReachAt H o rs rows m) : ReachAt G o rs rows m := by
  have no : o ≠ d := fun e => by
    subst e
    have h := R.hp
    rw [hd] at h
    cases rs with
    | nil => simp at h
    | cons x xs => simp at h
  refine ⟨up _ _ no R.hp, R.len, fun i b hb => ?_⟩
  obtain ⟨n1, h1⟩ := R.at' i b hb
  have nb : b ≠ d := fun e => by
    subst e
    rw [hd] at h1
    cases hn : rows.length with
    | zero => rw [hn] at h1; simp [tru] at h1
    | succ n => rw [hn] at h1; simp [tru, List.range_succ_eq_map] at h1
  exact ⟨n1, up _ _ nb h1⟩
end Bk
/-! round plans: trees of lists with rows, how deep they are -/
namespace Bk
open PySem PySem.Spec PyProof.Rows L2
theorem sRL : ¬ (("round" : Str) = "left") := by decide +kernel
theorem sLR : ¬ (("left" : Str) = "round") := by decide +kernel
def mxN (ks : List Nat) : Nat := ks.foldl max 0
/-- a round plan as lists: its depth, its size -/
inductive LsR (H : Hp) : Addr → Nat → Nat → Prop
  | left {a t : Addr} {ms : List Int} : H a = some (.lst [.str ("left" : Str), .ref t]) → H t = some (.tup (ms.map V.int)) → LsR H a 0 1
  | round {a t rw : Addr} {ms : List Int} {rs ans xs : List Addr} {ks ss : List Nat} : H a = some (.lst [.str ("round" : Str), .ref t, .ref rw]) → H t = some (.tup (ms.map V.int)) → H rw = some (.lst (rs.map V.ref)) →
    ans.length = rs.length → xs.length = rs.length → ks.length = rs.length → ss.length = rs.length → 1 ≤ rs.length → rs.length ≤ 4 →
    (∀ (i : Nat) (r an x : Addr), rs[i]? = some r → ans[i]? = some an → xs[i]? = some x → H r = some (.lst [.ref an, .ref x])) →
    (∀ (i : Nat) (an : Addr), ans[i]? = some an → ∃ as : List Bool, H an = some (.tup (agL as))) →
    (∀ (i : Nat) (x : Addr) (k s : Nat), xs[i]? = some x → ks[i]? = some k → ss[i]? = some s → LsR H x k s) → LsR H a (1 + mxN ks) (1 + ss.sum)
/-- a round plan as tuples: its depth -/
inductive TpR (H : Hp) : Addr → Nat → Prop
  | left {a t : Addr} : H a = some (.tup [.str ("left" : Str), .ref t]) → TpR H a 0
  | round {a t rw : Addr} {rs ans xs : List Addr} {ks : List Nat} : H a = some (.tup [.str ("round" : Str), .ref t, .ref rw]) → H rw = some (.tup (rs.map V.ref)) →
    ans.length = rs.length → xs.length = rs.length → ks.length = rs.length → 1 ≤ rs.length → rs.length ≤ 4 →
    (∀ (i : Nat) (r an x : Addr), rs[i]? = some r → ans[i]? = some an → xs[i]? = some x → H r = some (.tup [.ref an, .ref x])) →
    (∀ (i : Nat) (x : Addr) (k : Nat), xs[i]? = some x → ks[i]? = some k → TpR H x k) → TpR H a (1 + mxN ks)
theorem LsR.same {H H' : Hp} (s : Same H H') {a : Addr} {k z : Nat} (h : LsR H a k z) : LsR H' a k z := by
  induction h with
  | left h1 h2 => exact .left (s _ _ h1) (s _ _ h2)
  | round h1 h2 h3 l1 l2 l3 l4 l5 l6 h4 h5 _ ih => exact .round (s _ _ h1) (s _ _ h2) (s _ _ h3) l1 l2 l3 l4 l5 l6 (fun i r an x a b c => s _ _ (h4 i r an x a b c)) (fun i an h => (h5 i an h).imp fun as e => s _ _ e) ih
theorem TpR.less {H G : Hp} (s : ∀ b xs, H b = some (.tup xs) → G b = some (.tup xs)) {a : Addr} {k : Nat} (h : TpR H a k) : TpR G a k := by
  induction h with
  | left h1 => exact .left (s _ _ h1)
  | round h1 h3 l1 l2 l3 l5 l6 h4 _ ih => exact .round (s _ _ h1) (s _ _ h3) l1 l2 l3 l5 l6 (fun i r an x a b c => s _ _ (h4 i r an x a b c)) ih
theorem TpR.same {H H' : Hp} (s : Same H H') {a : Addr} {k : Nat} (h : TpR H a k) : TpR H' a k := h.less fun b xs e => s _ _ e
theorem TpR.lst {H : Hp} {l : Addr} {xs : List V} {o : HO} (hl : H l = some (.lst xs)) {a : Addr} {k : Nat} (h : TpR H a k) : TpR (upd H l o) a k := h.less fun b ys e => by rw [upd_ne (ne_of e hl (by intro z; cases z))]; exact e
theorem foldl_max (ks : List Nat) : ∀ m : Nat, ks.foldl max m = max m (mxN ks) := by
  induction ks with
  | nil => intro m; simp [mxN]
  | cons k ks ih =>
    intro m
    show ks.foldl max (max m k) = max m (ks.foldl max (max 0 k))
    rw [ih, ih]
    omega
theorem mxN_cons (k : Nat) (ks : List Nat) : mxN (k :: ks) = max k (mxN ks) := by
  show ks.foldl max (max 0 k) = _
  rw [foldl_max]
  omega
theorem mxN_le {ks : List Nat} {n : Nat} (h : ∀ k ∈ ks, k ≤ n) : mxN ks ≤ n := by
  induction ks with
  | nil => exact Nat.zero_le _
  | cons k ks ih =>
    rw [mxN_cons]
    have := h k (by simp)
    have := ih fun x hx => h x (List.mem_cons_of_mem _ hx)
    omega
theorem le_mxN {ks : List Nat} {k : Nat} (h : k ∈ ks) : k ≤ mxN ks := by
  induction ks with
  | nil => simp at h
  | cons x ks ih =>
    rw [mxN_cons]
    rcases List.mem_cons.mp h with e | e
    · omega
    · have := ih e
      omega
/-! ### promises -/
def spPlanR (n : Nat) : Sp := fun vs H Q _ => ∃ (a : Addr) (k z : Nat), vs = [.ref a] ∧ LsR H a k z ∧ k ≤ n ∧ ∀ (v : Addr) (H' : Hp), Same H H' → H v = none → TpR H' v k → Q (.ref v) H'
def spPlanRF : Nat → Sp
  | 0 => spNever
  | n + 1 => spPlanR n
def spDepth (n : Nat) : Sp := fun vs H Q _ => ∃ (a : Addr) (k : Nat), vs = [.ref a] ∧ TpR H a k ∧ k ≤ n ∧ ∀ H', Same H H' → Q (.int (k : Int)) H'
def spDepthF : Nat → Sp
  | 0 => spNever
  | n + 1 => spDepth n
def spMostR : Sp := fun vs H Q _ => ∃ (a : Addr) (k z : Nat), vs = [.ref a] ∧ LsR H a k z ∧ k ≤ 30 ∧ ∀ H', Same H H' → Q (.int (k : Int)) H'
def spGrownR : Sp := fun vs H Q _ => ∃ (G : Hp) (d : Addr) (b : Nat), vs = [.ref d] ∧ DeckL G H d b ∧ b ≤ 100000 ∧
  ∀ (top : Addr) (k z : Nat) (G' H' : Hp), Same G G' → LsR G' top k z → k ≤ 30 → DeckL G' H' d (b + 2000) → Q (.ref top) H'
/-! ### a list set against the empty one, however deep -/
def rNeM (K : PySem.W.Frag) : L2.R2 := fun x y H Q => ∃ d e, Dp K H x d ∧ Dp K H y e ∧ d.canLay0 = true ∧ e.canLay0 = true ∧ min d.depth e.depth ≤ 64 ∧ Q (.bl (!PyData.eqv d e)) H
theorem ob_neM {X : Cx} {K : PySem.W.Frag} (hK : X.K = K) (hu : X.A.units + 64 < cLine) : OpR X (compareOp .NotEq) (rNeM K) := by
  subst hK
  intro pins s σ H x y v u Q I rx ry h
  obtain ⟨d, e, hd, he, sd, se, dd, q⟩ := h
  obtain ⟨as, r1⟩ := Dp.reads I d x v hd rx
  obtain ⟨bs, r2⟩ := Dp.reads I e y u he ry
  exact SeqAt.compareNe_reads r1 r2 sd se (by omega) ⟨.bl _, H, I, rfl, q⟩
theorem k_lstG {K : PySem.W.Frag} {σ : L2.St} {H : Hp} {n : Nat} {t : TGs} {a : Addr} {xs : List V} {Q : L2.St → Hp → Prop} (h : SqL K H a xs) (hl : xs.length = n) (q : t xs σ H Q) : gLst K n t (.ref a) σ H Q := ⟨a, xs, rfl, h, hl, q⟩
theorem dpAll_of {K : PySem.W.Frag} {H : Hp} : ∀ vs : List V, (∀ v ∈ vs, ∃ D, Dp K H v D ∧ D.canLay0 = true) → ∃ ds, DpAll K H vs ds ∧ PyData.canLayAll0 ds = true
  | [], _ => ⟨[], .nil, rfl⟩
  | v :: vs, h => by
    obtain ⟨D, h1, h2⟩ := h v (by simp)
    obtain ⟨ds, h3, h4⟩ := dpAll_of vs fun x hx => h x (List.mem_cons_of_mem _ hx)
    exact ⟨D :: ds, .cons h1 h3, by simp only [PyData.canLayAll0, h2, h4]; rfl⟩
theorem ans_lay (as : List Bool) : PyData.canLayAll0 (as.map fun t => PyData.str (agV t)) = true := by
  induction as with
  | nil => rfl
  | cons a as ih =>
    have ok : PyData.strOk (agV a) = true := by cases a <;> decide +kernel
    simp [PyData.canLayAll0, PyData.canLay0, ih, ok]
theorem LsR.dp {K : PySem.W.Frag} {H : Hp} {a : Addr} {k z : Nat} (h : LsR H a k z) : ∃ D, Dp K H (.ref a) D ∧ D.canLay0 = true := by
  induction h with
  | @left a t ms h1 h2 =>
    refine ⟨_, .lst (sql_lst h1) (.cons (.str _) (.cons (.tup (sqt_tup h2) (dp_ints ms)) .nil)), ?_⟩
    have := (sh_intsA ms).1
    simp only [PyData.canLay0, PyData.canLayAll0, this]
    decide +kernel
  | @round a t rw ms rs ans xs ks ss h1 h2 h3 l1 l2 l3 l4 l5 l6 h4 h5 _ ih =>
    obtain ⟨ds, g1, g2⟩ := dpAll_of (K := K) (H := H) (rs.map V.ref) fun v hv => by
      obtain ⟨r, hr, rfl⟩ := List.mem_map.mp hv
      obtain ⟨i, hi⟩ := List.getElem?_of_mem hr
      have lt := (List.getElem?_eq_some_iff.mp hi).1
      obtain ⟨an, ha⟩ : ∃ an, ans[i]? = some an := ⟨_, List.getElem?_eq_getElem (by omega)⟩
      obtain ⟨x, hx⟩ : ∃ x, xs[i]? = some x := ⟨_, List.getElem?_eq_getElem (by omega)⟩
      obtain ⟨k, hk⟩ : ∃ k, ks[i]? = some k := ⟨_, List.getElem?_eq_getElem (by omega)⟩
      obtain ⟨s, hs⟩ : ∃ s, ss[i]? = some s := ⟨_, List.getElem?_eq_getElem (by omega)⟩
      obtain ⟨as, ga⟩ := h5 i an ha
      obtain ⟨D, d1, d2⟩ := ih i x k s hx hk hs
      refine ⟨_, .lst (sql_lst (h4 i r an x hi ha hx)) (.cons (.tup (sqt_tup ga) (dp_ans as)) (.cons d1 .nil)), ?_⟩
      simp only [PyData.canLay0, PyData.canLayAll0, ans_lay as, d2]
      rfl
    refine ⟨_, .lst (sql_lst h1) (.cons (.str _) (.cons (.tup (sqt_tup h2) (dp_ints ms)) (.cons (.lst (sql_lst h3) g1) .nil))), ?_⟩
    have := (sh_intsA ms).1
    simp only [PyData.canLay0, PyData.canLayAll0, this, g2]
    decide +kernel
/-! ### entries that wait: depth, size, how many ahead -/
abbrev Ent := Nat × Nat × Nat
def totR (m : Nat) (es : List Ent) : Nat := es.foldl (fun a e => max a (e.2.2 + e.1)) m
def szR (es : List Ent) : Nat := (es.map fun e => e.2.1).sum
theorem totR_max : ∀ (es : List Ent) (m s : Nat), totR (max m s) es = max (totR m es) s
  | [], m, s => rfl
  | e :: es, m, s => by
    show totR (max (max m s) (e.2.2 + e.1)) es = max (totR (max m (e.2.2 + e.1)) es) s
    rw [← totR_max es, Nat.max_assoc, Nat.max_assoc, Nat.max_comm s]
theorem totR_app (m : Nat) (es fs : List Ent) : totR m (es ++ fs) = totR (totR m es) fs := by
  unfold totR
  rw [List.foldl_append]
theorem totR_new (m n : Nat) : ∀ (ks ss : List Nat), ks.length = ss.length → 1 ≤ ks.length → totR m ((ks.zip ss).map fun q => (q.1, q.2, n + 1)) = max m (n + (1 + mxN ks))
  | [], _, _, h => by simp at h
  | k :: ks, [], h, _ => by simp at h
  | [k], [s], _, _ => by
    show max m (n + 1 + k) = _
    rw [mxN_cons]
    simp only [mxN, List.foldl_nil]
    omega
  | k :: k2 :: ks, s :: s2 :: ss, h, _ => by
    show totR (max m (n + 1 + k)) (((k2 :: ks).zip (s2 :: ss)).map fun q => (q.1, q.2, n + 1)) = _
    rw [totR_new (max m (n + 1 + k)) n (k2 :: ks) (s2 :: ss) (by simpa using h) (by simp), mxN_cons k]
    omega
  | [k], s :: s2 :: ss, h, _ => by simp at h
  | k :: k2 :: ks, [s], h, _ => by simp at h
theorem szR_app (es fs : List Ent) : szR (es ++ fs) = szR es + szR fs := by simp [szR]
theorem szR_new (n : Nat) : ∀ (ks ss : List Nat), ks.length = ss.length → szR ((ks.zip ss).map fun q => (q.1, q.2, n + 1)) = ss.sum
  | [], [], _ => rfl
  | k :: ks, s :: ss, h => by
    have := szR_new n ks ss (by simpa using h)
    simp [szR] at this ⊢
    omega
  | [], s :: ss, h => by simp at h
  | k :: ks, [], h => by simp at h
def WtR (G H : Hp) (o : Nat) (ws : List Addr) (es : List Ent) : Prop := ws.length = es.length ∧ ∀ (i : Nat) (w : Addr) (e : Ent), ws[i]? = some w → es[i]? = some e → ∃ a : Addr, H w = some (.tup [.ref a, .int (e.2.2 : Nat)]) ∧ LsR G a e.1 e.2.1 ∧ 3 * e.1 + (o + i) ≤ 90
theorem WtR.lst {G H : Hp} {l : Addr} {xs : List V} {u : HO} {o : Nat} {ws : List Addr} {es : List Ent} (W : WtR G H o ws es) (hl : H l = some (.lst xs)) : WtR G (upd H l u) o ws es := ⟨W.1, fun i w e h1 h2 => by
  obtain ⟨a, g1, g2⟩ := W.2 i w e h1 h2
  exact ⟨a, by rw [upd_ne (ne_of g1 hl (by intro z; cases z))]; exact g1, g2⟩⟩
theorem WtR.same {G H H' : Hp} {o : Nat} {ws : List Addr} {es : List Ent} (W : WtR G H o ws es) (s : Same H H') : WtR G H' o ws es := ⟨W.1, fun i w e h1 h2 => by
  obtain ⟨a, g1, g2⟩ := W.2 i w e h1 h2
  exact ⟨a, s _ _ g1, g2⟩⟩
theorem WtR.app {G H : Hp} {o : Nat} {ws us : List Addr} {es fs : List Ent} (W : WtR G H o ws es) (U : WtR G H (o + ws.length) us fs) : WtR G H o (ws ++ us) (es ++ fs) := by
  refine ⟨by simp [W.1, U.1], fun i w e h1 h2 => ?_⟩
  have l := W.1
  by_cases lt : i < ws.length
  · rw [List.getElem?_append_left lt] at h1
    rw [List.getElem?_append_left (by omega)] at h2
    exact W.2 i w e h1 h2
  · rw [List.getElem?_append_right (by omega)] at h1 h2
    rw [← l] at h2
    obtain ⟨a, g1, g2, g3⟩ := U.2 _ w e h1 h2
    exact ⟨a, g1, g2, by omega⟩
theorem WtR.init {G H : Hp} {o : Nat} {ws : List Addr} {es : List Ent} {w : Addr} {e : Ent} (W : WtR G H o (ws ++ [w]) (es ++ [e])) : WtR G H o ws es ∧ ∃ a : Addr, H w = some (.tup [.ref a, .int (e.2.2 : Nat)]) ∧ LsR G a e.1 e.2.1 ∧ 3 * e.1 + (o + ws.length) ≤ 90 := by
  have l : ws.length = es.length := by have := W.1; simp at this; exact this
  refine ⟨⟨l, fun i w' e' h1 h2 => W.2 i w' e' ?_ ?_⟩, W.2 ws.length w e ?_ ?_⟩
  · rw [List.getElem?_append_left (List.getElem?_eq_some_iff.mp h1).1]; exact h1
  · rw [List.getElem?_append_left (List.getElem?_eq_some_iff.mp h2).1]; exact h2
  · rw [List.getElem?_append_right (Nat.le_refl _), Nat.sub_self]; rfl
  · rw [l, List.getElem?_append_right (Nat.le_refl _), Nat.sub_self]; rfl
theorem k_neWR {K : PySem.W.Frag} {G H : Hp} {Q : VK} {l q : Addr} {ws : List Addr} {es : List Ent} (s : Same G H) (hl : H l = some (.lst (ws.map V.ref))) (W : WtR G H 0 ws es) (hq : H q = some (.lst [])) (h : Q (.bl (!decide (es = []))) H) : rNeM K (.ref l) (.ref q) H Q := by
  obtain ⟨ds, g1, g2⟩ := dpAll_of (K := K) (H := H) (ws.map V.ref) fun v hv => by
    obtain ⟨w, hw, rfl⟩ := List.mem_map.mp hv
    obtain ⟨i, hi⟩ := List.getElem?_of_mem hw
    have lt := (List.getElem?_eq_some_iff.mp hi).1
    have l := W.1
    obtain ⟨e, he⟩ : ∃ e, es[i]? = some e := ⟨_, List.getElem?_eq_getElem (by omega)⟩
    obtain ⟨a, h1, h2, _⟩ := W.2 i w e hi he
    obtain ⟨D, d1, d2⟩ := (h2.same s).dp (K := K)
    refine ⟨_, .tup (sqt_tup h1) (.cons d1 (.cons (.int _) .nil)), ?_⟩
    simp only [PyData.canLay0, PyData.canLayAll0, d2]
    rfl
  refine ⟨_, _, .lst (sql_lst hl) g1, .lst (sql_lst hq) .nil, by simp only [PyData.canLay0, g2], rfl, Nat.le_trans (Nat.min_le_right _ _) (by decide), ?_⟩
  have l := W.1
  cases ws with
  | nil =>
    cases es with
    | nil => cases g1; exact h
    | cons e es => simp at l
  | cons w ws =>
    cases es with
    | nil => simp at l
    | cons e es => cases g1; exact h
end Bk
/-! a grove of rounds: lists that grow to a tree -/
namespace Bk
open PySem PySem.Spec PyProof.Rows L2
inductive NdR where
  | leaf (t : Addr) (ms : List Int)
  | rnd (t rw : Addr) (ms : List Int) (rs ans : List Addr) (cs : List Nat)
def NdR.isRnd : NdR → Bool
  | .leaf _ _ => false
  | .rnd _ _ _ _ _ _ => true
def ndRV : NdR → List V
  | .leaf t _ => [.str ("left" : Str), .ref t]
  | .rnd t rw _ _ _ _ => [.str ("round" : Str), .ref t, .ref rw]
structure GroveR (G H : Hp) (lv : Addr) (A : List Addr) (C : List NdR) : Prop where
  len : A.length = C.length
  nd : A.Nodup
  fr : ∀ a ∈ A, G a = none
  nlv : lv ∉ A
  at' : ∀ (i : Nat) (a : Addr) (c : NdR), A[i]? = some a → C[i]? = some c → H a = some (.lst (ndRV c))
  lf : ∀ (i : Nat) (t : Addr) (ms : List Int), C[i]? = some (.leaf t ms) → H t = some (.tup (ms.map V.int))
  rn : ∀ (i : Nat) (t rw : Addr) (ms : List Int) (rs ans : List Addr) (cs : List Nat), C[i]? = some (.rnd t rw ms rs ans cs) → H t = some (.tup (ms.map V.int)) ∧ H rw = some (.lst (rs.map V.ref)) ∧ rw ≠ lv ∧ ans.length = rs.length ∧ cs.length = rs.length ∧ 1 ≤ rs.length ∧ rs.length ≤ 4
  rw' : ∀ (i : Nat) (t rw : Addr) (ms : List Int) (rs ans : List Addr) (cs : List Nat), C[i]? = some (.rnd t rw ms rs ans cs) → ∀ (j : Nat) (r an : Addr) (c : Nat), rs[j]? = some r → ans[j]? = some an → cs[j]? = some c → r ≠ lv ∧ H r = some (.lst [.ref an, .ref (A.getD c 0)]) ∧ (∃ as : List Bool, H an = some (.tup (agL as))) ∧ i < c ∧ c < C.length
theorem GroveR.same {G H H' : Hp} {lv : Addr} {A : List Addr} {C : List NdR} (g : GroveR G H lv A C) (s : Same H H') : GroveR G H' lv A C :=
  ⟨g.len, g.nd, g.fr, g.nlv, fun i a c h1 h2 => s _ _ (g.at' i a c h1 h2), fun i t ms h => s _ _ (g.lf i t ms h), fun i t rw ms rs ans cs h => by
    obtain ⟨h1, h2, h3⟩ := g.rn i t rw ms rs ans cs h
    exact ⟨s _ _ h1, s _ _ h2, h3⟩, fun i t rw ms rs ans cs h j r an c a1 a2 a3 => by
    obtain ⟨h1, h2, ⟨as, h3⟩, h4⟩ := g.rw' i t rw ms rs ans cs h j r an c a1 a2 a3
    exact ⟨h1, s _ _ h2, ⟨as, s _ _ h3⟩, h4⟩⟩
theorem GroveR.other {G H : Hp} {lv : Addr} {A : List Addr} {C : List NdR} {xs : List V} {o : HO} (g : GroveR G H lv A C) (hp : H lv = some (.lst xs)) : GroveR G (upd H lv o) lv A C := by
  have tp : ∀ {b : Addr} {ys : List V}, H b = some (.tup ys) → (upd H lv o) b = some (.tup ys) := fun {b ys} h => by
    rw [upd_ne (ne_of h hp (by intro z; cases z))]
    exact h
  exact ⟨g.len, g.nd, g.fr, g.nlv, fun i a c h1 h2 => by
    rw [upd_ne (show a ≠ lv from fun z => g.nlv (by rw [← z]; exact List.mem_of_getElem? h1))]
    exact g.at' i a c h1 h2, fun i t ms h => tp (g.lf i t ms h), fun i t rw ms rs ans cs h => by
    obtain ⟨h1, h2, h3, h4⟩ := g.rn i t rw ms rs ans cs h
    exact ⟨tp h1, by rw [upd_ne h3]; exact h2, h3, h4⟩, fun i t rw ms rs ans cs h j r an c a1 a2 a3 => by
    obtain ⟨h1, h2, ⟨as, h3⟩, h4⟩ := g.rw' i t rw ms rs ans cs h j r an c a1 a2 a3
    exact ⟨h1, by rw [upd_ne h1]; exact h2, ⟨as, tp h3⟩, h4⟩⟩
theorem GroveR.mem {G H : Hp} {lv : Addr} {A : List Addr} {C : List NdR} {x : Addr} (g : GroveR G H lv A C) (hx : H x = none) : x ∉ A := fun h => by
  obtain ⟨j, hj⟩ := List.getElem?_of_mem h
  have lj := (List.getElem?_eq_some_iff.mp hj).1
  have := g.at' j x _ hj (List.getElem?_eq_getElem (by rw [← g.len]; exact lj))
  rw [hx] at this
  cases this
/-- rows that are new: their answers, their leaves -/
structure NewR (H : Hp) (lv : Addr) (rs ans xs ts : List Addr) (mss : List (List Int)) : Prop where
  l1 : ans.length = rs.length
  l2 : xs.length = rs.length
  l3 : ts.length = rs.length
  l4 : mss.length = rs.length
  nd : xs.Nodup
  at' : ∀ (j : Nat) (r an x t : Addr) (ms : List Int), rs[j]? = some r → ans[j]? = some an → xs[j]? = some x → ts[j]? = some t → mss[j]? = some ms → r ≠ lv ∧ x ≠ lv ∧ H r = some (.lst [.ref an, .ref x]) ∧ (∃ as : List Bool, H an = some (.tup (agL as))) ∧ H x = some (.lst [.str ("left" : Str), .ref t]) ∧ H t = some (.tup (ms.map V.int))
theorem NewR.same {H H' : Hp} {lv : Addr} {rs ans xs ts : List Addr} {mss : List (List Int)} (N : NewR H lv rs ans xs ts mss) (s : Same H H') : NewR H' lv rs ans xs ts mss := ⟨N.l1, N.l2, N.l3, N.l4, N.nd, fun j r an x t ms a b c d e => by
  obtain ⟨h1, h2, h3, ⟨as, h4⟩, h5, h6⟩ := N.at' j r an x t ms a b c d e
  exact ⟨h1, h2, s _ _ h3, ⟨as, s _ _ h4⟩, s _ _ h5, s _ _ h6⟩⟩
theorem GroveR.grow {G H H' : Hp} {lv : Addr} {A : List Addr} {C : List NdR} {i : Nat} {a t0 t rw : Addr} {m0 ms : List Int} {rs ans xs ts : List Addr} {mss : List (List Int)} (g : GroveR G H lv A C) (ha : A[i]? = some a) (hc : C[i]? = some (.leaf t0 m0)) (N : NewR H lv rs ans xs ts mss)
    (n1 : 1 ≤ rs.length) (n4 : rs.length ≤ 4) (xA : ∀ x ∈ xs, x ∉ A) (gx : ∀ x ∈ xs, G x = none) (ht : H t = some (.tup (ms.map V.int))) (hrw : H rw = some (.lst (rs.map V.ref))) (nrw : rw ≠ lv)
    (hn : H' a = some (.lst [.str ("round" : Str), .ref t, .ref rw])) (hk : ∀ c o, c ≠ a → H c = some o → H' c = some o) :
    GroveR G H' lv (A ++ xs) (C.set i (.rnd t rw ms rs ans (List.range' C.length rs.length)) ++ List.zipWith NdR.leaf ts mss) := by
  have li := (List.getElem?_eq_some_iff.mp hc).1
  have aA := List.mem_of_getElem? ha
  have haL : H a = some (.lst [.str ("left" : Str), .ref t0]) := g.at' i a _ ha hc
  have tk : ∀ {b : Addr} {ys : List V}, H b = some (.tup ys) → H' b = some (.tup ys) := fun {b ys} h => hk b _ (ne_of h haL (by intro z; cases z)) h
  have rk : ∀ {b x y : Addr}, H b = some (.lst [.ref x, .ref y]) → H' b = some (.lst [.ref x, .ref y]) := fun {b x y} h => hk b _ (ne_of h haL (by intro z; cases z)) h
  have rwk : ∀ {b : Addr} {qs : List Addr}, 1 ≤ qs.length → H b = some (.lst (qs.map V.ref)) → H' b = some (.lst (qs.map V.ref)) := fun {b qs} l h => hk b _ (ne_of h haL (by
    intro z
    cases qs with
    | nil => simp at l
    | cons q qs => simp at z)) h
  have zl : (List.zipWith NdR.leaf ts mss).length = rs.length := by rw [List.length_zipWith, N.l3, N.l4]; omega
  have look : ∀ (j : Nat) (c : NdR), (C.set i (.rnd t rw ms rs ans (List.range' C.length rs.length)) ++ List.zipWith NdR.leaf ts mss)[j]? = some c → (j = i ∧ c = .rnd t rw ms rs ans (List.range' C.length rs.length)) ∨ (j ≠ i ∧ j < C.length ∧ C[j]? = some c) ∨ (C.length ≤ j ∧ ∃ t' m', ts[j - C.length]? = some t' ∧ mss[j - C.length]? = some m' ∧ c = .leaf t' m') := fun j c h => by
    by_cases lt : j < C.length
    · rw [List.getElem?_append_left (by rw [List.length_set]; exact lt), List.getElem?_set] at h
      by_cases e : i = j
      · subst e
        rw [if_pos rfl, if_pos li] at h
        cases h
        exact .inl ⟨rfl, rfl⟩
      · rw [if_neg e] at h
        exact .inr (.inl ⟨fun z => e z.symm, lt, h⟩)
    · rw [List.getElem?_append_right (by rw [List.length_set]; omega), List.length_set] at h
      have lt2 := (List.getElem?_eq_some_iff.mp h).1
      rw [zl] at lt2
      obtain ⟨t', ht'⟩ : ∃ t', ts[j - C.length]? = some t' := ⟨_, List.getElem?_eq_getElem (by rw [N.l3]; exact lt2)⟩
      obtain ⟨m', hm'⟩ : ∃ m', mss[j - C.length]? = some m' := ⟨_, List.getElem?_eq_getElem (by rw [N.l4]; exact lt2)⟩
      rw [List.getElem?_zipWith, ht', hm'] at h
      cases h
      exact .inr (.inr ⟨by omega, t', m', ht', hm', rfl⟩)
  have xget : ∀ j, j < rs.length → ∃ r an x t' m', rs[j]? = some r ∧ ans[j]? = some an ∧ xs[j]? = some x ∧ ts[j]? = some t' ∧ mss[j]? = some m' := fun j h => ⟨_, _, _, _, _, List.getElem?_eq_getElem h, List.getElem?_eq_getElem (by rw [N.l1]; exact h), List.getElem?_eq_getElem (by rw [N.l2]; exact h), List.getElem?_eq_getElem (by rw [N.l3]; exact h), List.getElem?_eq_getElem (by rw [N.l4]; exact h)⟩
  refine ⟨by simp [g.len, zl, N.l2, N.l3, N.l4], ?_, fun b hb => ?_, fun z => ?_, fun j b c h1 h2 => ?_, fun j t' m' h => ?_, fun j t' rw' m' rs' ans' cs' h => ?_, fun j t' rw' m' rs' ans' cs' h q r an c a1 a2 a3 => ?_⟩
  · exact List.nodup_append.mpr ⟨g.nd, N.nd, fun u hu v hv z => by subst z; exact xA u hv hu⟩
  · rcases List.mem_append.mp hb with z | z
    · exact g.fr b z
    · exact gx b z
  · rcases List.mem_append.mp z with z | z
    · exact g.nlv z
    · obtain ⟨j, hj⟩ := List.getElem?_of_mem z
      have lj := (List.getElem?_eq_some_iff.mp hj).1
      rw [N.l2] at lj
      obtain ⟨r, an, x, t', m', e1, e2, e3, e4, e5⟩ := xget j lj
      rw [hj] at e3
      cases e3
      exact (N.at' j r an _ t' m' e1 e2 hj e4 e5).2.1 rfl
  · rcases look j c h2 with ⟨rfl, rfl⟩ | ⟨nj, lj, hj⟩ | ⟨lj, t', m', e4, e5, rfl⟩
    · rw [List.getElem?_append_left (by rw [g.len]; exact li), ha] at h1
      cases h1
      exact hn
    · rw [List.getElem?_append_left (by rw [g.len]; exact lj)] at h1
      have nb : b ≠ a := by
        rintro rfl
        exact nj ((List.getElem?_inj (by rw [g.len]; exact lj) g.nd).mp (h1.trans ha.symm))
      exact hk b _ nb (g.at' j b c h1 hj)
    · rw [List.getElem?_append_right (by rw [g.len]; omega), g.len] at h1
      have lq := (List.getElem?_eq_some_iff.mp h1).1
      rw [N.l2] at lq
      obtain ⟨r, an, x, t2, m2, e1, e2, e3, _, _⟩ := xget _ lq
      obtain ⟨_, _, _, _, hx, _⟩ := N.at' _ r an b t' m' e1 e2 h1 e4 e5
      exact hk b _ (fun z => xA b (List.mem_of_getElem? h1) (by rw [z]; exact aA)) hx
  · rcases look j _ h with ⟨_, z⟩ | ⟨_, _, hj⟩ | ⟨lj, t2, m2, e4, e5, z⟩
    · cases z
    · exact tk (g.lf j t' m' hj)
    · cases z
      have lq := (List.getElem?_eq_some_iff.mp e4).1
      rw [N.l3] at lq
      obtain ⟨r, an, x, _, _, e1, e2, e3, _, _⟩ := xget _ lq
      exact tk (N.at' _ r an x t' m' e1 e2 e3 e4 e5).2.2.2.2.2
  · rcases look j _ h with ⟨_, z⟩ | ⟨_, _, hj⟩ | ⟨_, _, _, _, _, z⟩
    · cases z
      exact ⟨tk ht, rwk n1 hrw, nrw, N.l1, by rw [List.length_range'], n1, n4⟩
    · obtain ⟨h1, h2, h3, h4, h5, h6, h7⟩ := g.rn j t' rw' m' rs' ans' cs' hj
      exact ⟨tk h1, rwk h6 h2, h3, h4, h5, h6, h7⟩
    · cases z
  · rw [List.length_append, List.length_set, zl]
    rcases look j _ h with ⟨rfl, z⟩ | ⟨_, lj, hj⟩ | ⟨_, _, _, _, _, z⟩
    · cases z
      have lq := (List.getElem?_eq_some_iff.mp a1).1
      obtain ⟨_, _, x, t2, m2, e1, e2, e3, e4, e5⟩ := xget q lq
      rw [List.getElem?_range' lq] at a3
      cases a3
      obtain ⟨h1, h2, h3, ⟨as, h4⟩, h5, h6⟩ := N.at' q r an x t2 m2 a1 a2 e3 e4 e5
      have gd : (A ++ xs).getD (C.length + 1 * q) 0 = x := by
        rw [List.getD_eq_getElem?_getD, List.getElem?_append_right (by rw [g.len]; omega), g.len, show C.length + 1 * q - C.length = q by omega, e3]
        rfl
      exact ⟨h1, by rw [gd]; exact rk h3, ⟨as, tk h4⟩, by omega, by omega⟩
    · obtain ⟨h1, h2, ⟨as, h3⟩, h4, h5⟩ := g.rw' j t' rw' m' rs' ans' cs' hj q r an c a1 a2 a3
      exact ⟨h1, by rw [getD_app (by rw [g.len]; exact h5)]; exact rk h2, ⟨as, tk h3⟩, h4, by omega⟩
    · cases z
theorem cntR_set : ∀ (C : List NdR) (i : Nat) (c : NdR), (C.set i c).countP NdR.isRnd ≤ C.countP NdR.isRnd + 1
  | [], _, _ => by simp
  | x :: xs, 0, c => by
    rw [List.set_cons_zero, List.countP_cons, List.countP_cons]
    split <;> split <;> omega
  | x :: xs, i + 1, c => by
    rw [List.set_cons_succ, List.countP_cons, List.countP_cons]
    have := cntR_set xs i c
    omega
theorem cntR_leaf : ∀ (ts : List Addr) (mss : List (List Int)), (List.zipWith NdR.leaf ts mss).countP NdR.isRnd = 0
  | [], _ => rfl
  | _ :: _, [] => rfl
  | t :: ts, m :: mss => by
    rw [List.zipWith_cons_cons, List.countP_cons, cntR_leaf ts mss]
    rfl
theorem lists_of {p : Nat → Nat → Nat → Prop} : ∀ n : Nat, (∀ j, j < n → ∃ k z, p j k z) → ∃ ks ss : List Nat, ks.length = n ∧ ss.length = n ∧ ∀ j k s, ks[j]? = some k → ss[j]? = some s → p j k s
  | 0, _ => ⟨[], [], rfl, rfl, fun j k s h => by simp at h⟩
  | n + 1, h => by
    obtain ⟨ks, ss, h1, h2, h3⟩ := lists_of n fun j hj => h j (by omega)
    obtain ⟨k, z, hk⟩ := h n (by omega)
    refine ⟨ks ++ [k], ss ++ [z], by simp [h1], by simp [h2], fun j k' s' g1 g2 => ?_⟩
    rcases snoc_get (h1.trans h2.symm) g1 g2 with ⟨e1, e2⟩ | ⟨e1, e2, e3⟩
    · exact h3 j k' s' e1 e2
    · have ej : j = n := by omega
      have ek : k' = k := by first | exact e1 | exact e2 | exact e3
      have es : s' = z := by first | exact e1 | exact e2 | exact e3
      rw [ej, ek, es]
      exact hk
theorem GroveR.tree {G H : Hp} {lv : Addr} {A : List Addr} {C : List NdR} (g : GroveR G H lv A C) : ∀ (n i : Nat), C.length - i ≤ n → i < C.length → ∃ k z : Nat, LsR H (A.getD i 0) k z ∧ k ≤ (C.drop i).countP NdR.isRnd
  | 0, i, h, lt => by omega
  | n + 1, i, h, lt => by
    have hc := List.getElem?_eq_getElem lt
    have ha : A[i]? = some (A.getD i 0) := by
      rw [List.getD_eq_getElem?_getD, List.getElem?_eq_getElem (by rw [g.len]; exact lt)]
      rfl
    have e : C.drop i = C[i] :: C.drop (i + 1) := List.drop_eq_getElem_cons lt
    generalize C[i] = c at hc e
    have hn := g.at' i _ c ha hc
    cases c with
    | leaf t ms => exact ⟨0, 1, .left hn (g.lf i t ms hc), Nat.zero_le _⟩
    | rnd t rw ms rs ans cs =>
      obtain ⟨h1, h2, h3, h4, h5, h6, h7⟩ := g.rn i t rw ms rs ans cs hc
      have all := g.rw' i t rw ms rs ans cs hc
      have get : ∀ j, j < rs.length → ∃ r an c, rs[j]? = some r ∧ ans[j]? = some an ∧ cs[j]? = some c := fun j hj => ⟨_, _, _, List.getElem?_eq_getElem hj, List.getElem?_eq_getElem (by omega), List.getElem?_eq_getElem (by omega)⟩
      obtain ⟨ks, ss, lk, ls, hks⟩ := lists_of (p := fun j k z => ∃ c, cs[j]? = some c ∧ LsR H (A.getD c 0) k z ∧ k ≤ (C.drop (i + 1)).countP NdR.isRnd) rs.length fun j hj => by
        obtain ⟨r, an, c, e1, e2, e3⟩ := get j hj
        obtain ⟨f1, f2, f3, f4, f5⟩ := all j r an c e1 e2 e3
        obtain ⟨k, z, t1, t2⟩ := GroveR.tree g n c (by omega) f5
        refine ⟨k, z, c, e3, t1, Nat.le_trans t2 ?_⟩
        have : C.drop c = (C.drop (i + 1)).drop (c - (i + 1)) := by rw [List.drop_drop]; congr 1; omega
        rw [this]
        exact List.Sublist.countP_le (List.drop_sublist _ _)
      refine ⟨_, _, .round (xs := cs.map fun c => A.getD c 0) (ks := ks) (ss := ss) hn h1 h2 h4 (by rw [List.length_map]; omega) lk ls h6 h7 (fun j r an x a1 a2 a3 => ?_) (fun j an a2 => ?_) (fun j x k s a1 a2 a3 => ?_), ?_⟩
      · rw [List.getElem?_map] at a3
        cases hq : cs[j]? with
        | none => rw [hq] at a3; simp at a3
        | some c =>
          rw [hq] at a3
          cases a3
          exact (all j r an c a1 a2 hq).2.1
      · have lt := (List.getElem?_eq_some_iff.mp a2).1
        obtain ⟨r, an', c, e1, e2, e3⟩ := get j (by omega)
        rw [a2] at e2
        cases e2
        exact (all j r an c e1 a2 e3).2.2.1
      · obtain ⟨c, e1, e2, _⟩ := hks j k s a2 a3
        rw [List.getElem?_map, e1] at a1
        cases a1
        exact e2
      · have hm : mxN ks ≤ (C.drop (i + 1)).countP NdR.isRnd := mxN_le fun k hk => by
          obtain ⟨j, hj⟩ := List.getElem?_of_mem hk
          obtain ⟨s, hs⟩ : ∃ s, ss[j]? = some s := ⟨_, List.getElem?_eq_getElem (by have := (List.getElem?_eq_some_iff.mp hj).1; omega)⟩
          exact (hks j k s hj hs).choose_spec.2.2
        rw [e, List.countP_cons, if_pos (show (NdR.rnd t rw ms rs ans cs).isRnd = true from rfl)]
        omega
def spAnsR : Sp := fun vs H Q _ => ∃ n m : Int, vs = [.int n, .int m] ∧ 0 ≤ n ∧ n < 8 ∧ 1 ≤ m ∧ m ≤ 3 ∧ ∀ (t : Addr) (as : List Bool) (H' : Hp), Same H H' → H t = none → H' t = some (.tup (agL as)) → Q (.ref t) H'
theorem NewR.nil {H : Hp} {lv : Addr} : NewR H lv [] [] [] [] [] := ⟨rfl, rfl, rfl, rfl, by simp, fun j r an x t ms h => by simp at h⟩
theorem NewR.snoc {H : Hp} {lv : Addr} {rs ans xs ts : List Addr} {mss : List (List Int)} {r an x t : Addr} {ms : List Int} {as : List Bool} (N : NewR H lv rs ans xs ts mss) (hx : x ∉ xs) (n1 : r ≠ lv) (n2 : x ≠ lv) (h1 : H r = some (.lst [.ref an, .ref x])) (h2 : H an = some (.tup (agL as))) (h3 : H x = some (.lst [.str ("left" : Str), .ref t])) (h4 : H t = some (.tup (ms.map V.int))) : NewR H lv (rs ++ [r]) (ans ++ [an]) (xs ++ [x]) (ts ++ [t]) (mss ++ [ms]) := by
  have l1 := N.l1
  have l2 := N.l2
  have l3 := N.l3
  have l4 := N.l4
  refine ⟨by simp [l1], by simp [l2], by simp [l3], by simp [l4], List.nodup_append.mpr ⟨N.nd, by simp, fun u hu v hv z => by simp at hv; subst hv; subst z; exact hx hu⟩, fun j r' an' x' t' ms' a b c d e => ?_⟩
  by_cases lt : j < rs.length
  · rw [List.getElem?_append_left lt] at a
    rw [List.getElem?_append_left (by omega)] at b c d e
    exact N.at' j r' an' x' t' ms' a b c d e
  · have e0 : j = rs.length := by
      have := (List.getElem?_eq_some_iff.mp a).1
      simp at this
      omega
    subst e0
    rw [List.getElem?_append_right (by omega)] at a b c d e
    rw [Nat.sub_self] at a
    rw [show rs.length - ans.length = 0 by omega] at b
    rw [show rs.length - xs.length = 0 by omega] at c
    rw [show rs.length - ts.length = 0 by omega] at d
    rw [show rs.length - mss.length = 0 by omega] at e
    cases a
    cases b
    cases c
    cases d
    cases e
    exact ⟨n1, n2, h1, ⟨as, h2⟩, h3, h4⟩
/-- another list changes, that is none of these -/
theorem NewR.updL {H : Hp} {lv p : Addr} {ys : List V} {o : HO} {rs ans xs ts : List Addr} {mss : List (List Int)} (N : NewR H lv rs ans xs ts mss) (hp : H p = some (.lst ys)) (n1 : ∀ r ∈ rs, r ≠ p) (n2 : ∀ x ∈ xs, x ≠ p) : NewR (upd H p o) lv rs ans xs ts mss := ⟨N.l1, N.l2, N.l3, N.l4, N.nd, fun j r an x t ms a b c d e => by
  obtain ⟨h1, h2, h3, ⟨as, h4⟩, h5, h6⟩ := N.at' j r an x t ms a b c d e
  exact ⟨h1, h2, by rw [upd_ne (n1 r (List.mem_of_getElem? a))]; exact h3, ⟨as, by rw [upd_ne (ne_of h4 hp (by intro z; cases z))]; exact h4⟩, by rw [upd_ne (n2 x (List.mem_of_getElem? c))]; exact h5, by rw [upd_ne (ne_of h6 hp (by intro z; cases z))]; exact h6⟩⟩
theorem range_map {A xs : List Addr} {c n : Nat} (h : A.length = c) (hn : xs.length = n) : (List.range' c n).map (fun j => V.ref ((A ++ xs).getD j 0)) = xs.map V.ref := by
  refine List.ext_getElem? fun i => ?_
  rw [List.getElem?_map, List.getElem?_map]
  by_cases lt : i < n
  · rw [List.getElem?_range' lt, List.getElem?_eq_getElem (show i < xs.length by omega)]
    show some (V.ref ((A ++ xs).getD (c + 1 * i) 0)) = some (V.ref xs[i])
    rw [List.getD_eq_getElem?_getD, List.getElem?_append_right (by omega), show c + 1 * i - A.length = i by omega, List.getElem?_eq_getElem (show i < xs.length by omega)]
    rfl
  · rw [List.getElem?_eq_none (by rw [List.length_range']; omega), List.getElem?_eq_none (by omega)]
    rfl
theorem k_slA {K : PySem.W.Frag} {H : Hp} {Q : VK} {a : Addr} {xs : List V} {c : Nat} (h : SqT K H a xs) (ha : H a = some (.tup xs)) (q : ∀ (p : Addr) (H' : Hp), Same H H' → H' p = some (.tup (xs.take c)) → Q (.ref p) H') : rSlA K (.ref a) none (some (c : Int)) H Q := by
  refine ⟨a, xs, rfl, h, fun e => q a H (Same.refl _) ?_, fun _ p hp => ?_⟩
  · have e2 : HT.sIx xs.length xs.length (some (c : Int)) = min c xs.length := HT.sIx_nat _ _ c
    have e3 := e.2
    rw [e2] at e3
    rw [List.take_of_length_le (by omega)]
    exact ha
  · rw [cut_take]
    exact q p _ (L2.Same.new hp) upd_same
theorem ob_slA {X : Cx} {K : PySem.W.Frag} (hK : X.K = K) : SlR X (rSlA K) := by subst hK; exact sl_tupA
theorem NewR.mem {H : Hp} {lv x : Addr} {rs ans xs ts : List Addr} {mss : List (List Int)} (N : NewR H lv rs ans xs ts mss) (hx : H x = none) : x ∉ xs := fun h => by
  obtain ⟨j, hj⟩ := List.getElem?_of_mem h
  have lj := (List.getElem?_eq_some_iff.mp hj).1
  have l1 := N.l1
  have l2 := N.l2
  have l3 := N.l3
  have l4 := N.l4
  have := (N.at' j _ _ x _ _ (List.getElem?_eq_getElem (by omega)) (List.getElem?_eq_getElem (by omega)) hj (List.getElem?_eq_getElem (by omega)) (List.getElem?_eq_getElem (by omega))).2.2.2.2.1
  rw [hx] at this
  cases this
end Bk
/-! what plans spend by weights -/
namespace Bk
open PySem PySem.Spec PyProof.Rows L2
def bigN : Int := 10000000000000000000000000000000
/-- numbers for the makes, one for each -/
def NumsOk (n : Nat) (cs : List Int) : Prop := cs.length = n ∧ ∀ x ∈ cs, 0 ≤ x ∧ x ≤ bigN
theorem nums_at {n : Nat} {cs : List Int} {m : Int} (h : NumsOk n cs) (h0 : 0 ≤ m) (h1 : m < (n : Int)) : atI (cs.map V.int) m = some (.int (costF cs m)) ∧ 0 ≤ costF cs m ∧ costF cs m ≤ bigN := by
  have e : ((m.toNat : Nat) : Int) = m := by omega
  have lt : m.toNat < cs.length := by rw [h.1]; omega
  have ec : costF cs m = cs[m.toNat] := by
    unfold costF
    rw [List.getD_eq_getElem?_getD, List.getElem?_eq_getElem lt]
    rfl
  have ha : atI (cs.map V.int) ((m.toNat : Nat) : Int) = some (.int cs[m.toNat]) := atI_nat (by rw [List.getElem?_map, List.getElem?_eq_getElem lt]; rfl)
  rw [e] at ha
  refine ⟨by rw [ec]; exact ha, ?_⟩
  rw [ec]
  exact h.2 _ (List.getElem_mem lt)
def PlnN (n : Nat) : Pln → Prop
  | .left ms => ms.length ≤ 100 ∧ ∀ m ∈ ms, 0 ≤ m ∧ m < (n : Int)
  | .tri m b g => (0 ≤ m ∧ m < (n : Int)) ∧ PlnN n b ∧ PlnN n g
/-- what the makes weigh -/
def wtS (wt : Int → Int) (ms : List Int) : Int := (ms.map wt).sum
def sumP (c wt : Int → Int) : Pln → Int → Int
  | .left ms, s => s * wtS wt ms
  | .tri m b g, s => sumP c wt b (s + c m) + sumP c wt g (s + c m)
theorem wtS_le {wt : Int → Int} {ms : List Int} (h : ∀ m ∈ ms, 0 ≤ wt m ∧ wt m ≤ bigN) : 0 ≤ wtS wt ms ∧ wtS wt ms ≤ (ms.length : Int) * bigN := by
  induction ms with
  | nil => simp [wtS]
  | cons m ms ih =>
    obtain ⟨h1, h2⟩ := ih fun x hx => h x (List.mem_cons_of_mem _ hx)
    have h3 := h m (by simp)
    have e : wtS wt (m :: ms) = wt m + wtS wt ms := by simp [wtS]
    rw [e, List.length_cons]
    refine ⟨by omega, ?_⟩
    have : ((ms.length + 1 : Nat) : Int) * bigN = (ms.length : Int) * bigN + bigN := by
      rw [Int.natCast_add, Int.add_mul]
      simp
    omega
def PricesN (K : PySem.W.Frag) (H : Hp) (n : Nat) (v : V) (c : Int → Int) : Prop := (v = .non ∧ c = fun _ => 1) ∨ ∃ (kd : Bool) (a : Addr) (cs : List Int), v = .ref a ∧ SqK K kd H a (cs.map V.int) ∧ NumsOk n cs ∧ c = costF cs
theorem PricesN.le {K : PySem.W.Frag} {H : Hp} {n : Nat} {v : V} {c : Int → Int} (h : PricesN K H n v c) {m : Int} (h0 : 0 ≤ m) (h1 : m < (n : Int)) : 0 ≤ c m ∧ c m ≤ bigN := by
  rcases h with ⟨_, rfl⟩ | ⟨kd, a, cs, _, _, ok, rfl⟩
  · show (0 : Int) ≤ 1 ∧ (1 : Int) ≤ bigN
    decide
  · exact (nums_at ok h0 h1).2
theorem PricesN.same {K : PySem.W.Frag} {H H' : Hp} {n : Nat} {v : V} {c : Int → Int} (h : PricesN K H n v c) (s : Same H H') : PricesN K H' n v c := by
  rcases h with h | ⟨kd, a, cs, h1, h2, h3⟩
  · exact .inl h
  · exact .inr ⟨kd, a, cs, h1, sqk_new s h2, h3⟩
theorem bits_le {i : Int} (h0 : 0 ≤ i) (h : i ≤ 1000 * bigN) : (Builtin.Int.intBits i : Int) ≤ 9001 := by
  unfold Builtin.Int.intBits
  split
  · decide
  · rename_i ne
    have n0 : i ≠ 0 := fun z => ne (by rw [z]; rfl)
    have lt : i.natAbs < 2 ^ 200 := by
      unfold bigN at h
      omega
    have := (Nat.log2_lt (n := i.natAbs) (k := 200) (by omega)).mpr lt
    omega
def spPriceN (K : PySem.W.Frag) : Sp := fun vs H Q _ => ∃ (n : Nat) (m : Int) (v : V) (c : Int → Int), vs = [.int m, v] ∧ PricesN K H n v c ∧ 0 ≤ m ∧ m < (n : Int) ∧ Q (.int (c m)) H
def spWeightOf (K : PySem.W.Frag) : Sp := fun vs H Q _ => ∃ (n : Nat) (t wa : Addr) (kd : Bool) (ms ws : List Int), vs = [.ref t, .ref wa] ∧ SqT K H t (ms.map V.int) ∧ SqK K kd H wa (ws.map V.int) ∧ NumsOk n ws ∧ ms.length ≤ 100 ∧ (∀ m ∈ ms, 0 ≤ m ∧ m < (n : Int)) ∧ ∀ H', Same H H' → Q (.int (wtS (costF ws) ms)) H'
def spSumB (K : PySem.W.Frag) (d : Nat) : Sp := fun vs H Q _ => ∃ (n : Nat) (a wa : Addr) (kd : Bool) (v : V) (s : Int) (p : Pln) (ws : List Int) (c : Int → Int), vs = [.ref a, .ref wa, v, .int s] ∧ TpAt H p a ∧ p.dep ≤ d ∧ PlnN n p ∧ SqK K kd H wa (ws.map V.int) ∧ NumsOk n ws ∧ PricesN K H n v c ∧ 0 ≤ s ∧ s + (p.dep : Int) * bigN ≤ 1000 * bigN ∧
  ∀ H', Same H H' → Q (.int (sumP c (costF ws) p s)) H'
def spSumF (K : PySem.W.Frag) : Nat → Sp
  | 0 => spNever
  | d + 1 => spSumB K d
def spSumOf (K : PySem.W.Frag) : Sp := fun vs H Q _ => ∃ (n : Nat) (a wa : Addr) (kd : Bool) (v : V) (p : Pln) (ws : List Int) (c : Int → Int), vs = [.ref a, .ref wa, v] ∧ TpAt H p a ∧ p.dep ≤ 60 ∧ PlnN n p ∧ SqK K kd H wa (ws.map V.int) ∧ NumsOk n ws ∧ PricesN K H n v c ∧
  ∀ H', Same H H' → Q (.int (sumP c (costF ws) p 0)) H'
end Bk
/-! makes, weights and prices that are drawn -/
namespace Bk
open PySem PySem.Spec PyProof.Rows L2
def spFewD : Sp := fun vs H Q _ => ∃ (G : Hp) (d : Addr) (b many : Nat) (most : Int), vs = [.ref d, .int (many : Int), .int most] ∧ DeckL G H d b ∧ b ≤ 1000000 ∧ 1 ≤ many ∧ many ≤ 40 ∧ 1 ≤ most ∧ most ≤ 40 ∧
  ∀ (l : Addr) (ms : List Int) (G' H' : Hp), Same G G' → G' l = some (.lst (ms.map V.int)) → 1 ≤ ms.length → ms.length ≤ 50 → (∀ m ∈ ms, goodM many m) → DeckL G' H' d (b + 200) → Q (.ref l) H'
def spGreatD : Sp := fun vs H Q _ => ∃ (G : Hp) (d : Addr) (b : Nat) (most : Int), vs = [.ref d, .int most] ∧ DeckL G H d b ∧ b ≤ 10000000 ∧ 0 < most ∧ most ≤ bigN ∧ ∀ (r : Int) (H' : Hp), 0 ≤ r → r < most → DeckL G H' d (b + 5) → Q (.int r) H'
/-- numbers that may grow by one -/
def NumsLt (n : Nat) (cs : List Int) : Prop := cs.length = n ∧ ∀ x ∈ cs, 0 ≤ x ∧ x < bigN
theorem NumsLt.ok {n : Nat} {cs : List Int} (h : NumsLt n cs) : NumsOk n cs := ⟨h.1, fun x hx => ⟨(h.2 x hx).1, Int.le_of_lt (h.2 x hx).2⟩⟩
theorem NumsLt.more {n : Nat} {cs : List Int} (h : NumsLt n cs) {i : Nat} {x : Int} (hi : cs[i]? = some x) : NumsOk n (cs.set i (x + 1)) := ⟨by rw [List.length_set]; exact h.1, fun y hy => by
  have hx := h.2 x (List.mem_of_getElem? hi)
  rcases List.mem_or_eq_of_mem_set hy with z | z
  · have := h.2 y z
    omega
  · subst z
    omega⟩
def spWeightsD : Sp := fun vs H Q _ => ∃ (G : Hp) (d : Addr) (b many : Nat), vs = [.ref d, .int (many : Int)] ∧ DeckL G H d b ∧ b ≤ 1000000 ∧ 1 ≤ many ∧ many ≤ 40 ∧
  ∀ (l : Addr) (ws : List Int) (G' H' : Hp), Same G G' → G l = none → G' l = some (.lst (ws.map V.int)) → NumsLt many ws → DeckL G' H' d (b + 400) → Q (.ref l) H'
def spPricesD : Sp := fun vs H Q _ => ∃ (G : Hp) (d : Addr) (b many : Nat), vs = [.ref d, .int (many : Int)] ∧ DeckL G H d b ∧ b ≤ 1000000 ∧ 1 ≤ many ∧ many ≤ 40 ∧
  (∀ H' : Hp, DeckL G H' d (b + 400) → Q .non H') ∧ ∀ (l : Addr) (ws : List Int) (G' H' : Hp), Same G G' → G l = none → G' l = some (.lst (ws.map V.int)) → NumsOk many ws → DeckL G' H' d (b + 400) → Q (.ref l) H'
end Bk
/-! what a plan spends, leaf by leaf -/
namespace Bk
open PySem PySem.Spec PyProof.Rows L2
def totS (c wt : Int → Int) (es : List (Pln × Int)) : Int := (es.map fun e => sumP c wt e.1 e.2).sum
theorem totS_snoc (c wt : Int → Int) (es : List (Pln × Int)) (e : Pln × Int) : totS c wt (es ++ [e]) = totS c wt es + sumP c wt e.1 e.2 := by simp [totS]
def SpOk (n : Nat) (e : Pln × Int) : Prop := PlnN n e.1 ∧ 0 ≤ e.2 ∧ e.2 + (e.1.dep : Int) * bigN ≤ 1000 * bigN
/-- entries that wait: plans as tuples, what was spent -/
def WtS (G H : Hp) (n : Nat) (ws : List Addr) (es : List (Pln × Int)) : Prop := ws.length = es.length ∧ ∀ (i : Nat) (w : Addr) (e : Pln × Int), ws[i]? = some w → es[i]? = some e → ∃ a : Addr, H w = some (.tup [.ref a, .int e.2]) ∧ TpAt G e.1 a ∧ SpOk n e ∧ e.1.dep + i ≤ 60
theorem WtS.lst {G H : Hp} {l : Addr} {xs : List V} {o : HO} {n : Nat} {ws : List Addr} {es : List (Pln × Int)} (W : WtS G H n ws es) (hl : H l = some (.lst xs)) : WtS G (upd H l o) n ws es := ⟨W.1, fun i w e h1 h2 => by
  obtain ⟨a, g1, g2⟩ := W.2 i w e h1 h2
  exact ⟨a, by rw [upd_ne (ne_of g1 hl (by intro z; cases z))]; exact g1, g2⟩⟩
theorem WtS.same {G H H' : Hp} {n : Nat} {ws : List Addr} {es : List (Pln × Int)} (W : WtS G H n ws es) (s : Same H H') : WtS G H' n ws es := ⟨W.1, fun i w e h1 h2 => by
  obtain ⟨a, g1, g2⟩ := W.2 i w e h1 h2
  exact ⟨a, s _ _ g1, g2⟩⟩
theorem WtS.snoc {G H : Hp} {n : Nat} {ws : List Addr} {es : List (Pln × Int)} {w a : Addr} {e : Pln × Int} (W : WtS G H n ws es) (h : H w = some (.tup [.ref a, .int e.2])) (g : TpAt G e.1 a) (o : SpOk n e) (d : e.1.dep + ws.length ≤ 60) : WtS G H n (ws ++ [w]) (es ++ [e]) := by
  refine ⟨by simp [W.1], fun i w' e' h1 h2 => ?_⟩
  rcases snoc_get W.1 h1 h2 with ⟨g1, g2⟩ | ⟨rfl, rfl, rfl⟩
  · exact W.2 i w' e' g1 g2
  · exact ⟨a, h, g, o, d⟩
theorem WtS.init {G H : Hp} {n : Nat} {ws : List Addr} {es : List (Pln × Int)} {w : Addr} {e : Pln × Int} (W : WtS G H n (ws ++ [w]) (es ++ [e])) : WtS G H n ws es ∧ ∃ a : Addr, H w = some (.tup [.ref a, .int e.2]) ∧ TpAt G e.1 a ∧ SpOk n e ∧ e.1.dep + ws.length ≤ 60 := by
  have l : ws.length = es.length := by have := W.1; simp at this; exact this
  refine ⟨⟨l, fun i w' e' h1 h2 => W.2 i w' e' ?_ ?_⟩, W.2 ws.length w e ?_ ?_⟩
  · rw [List.getElem?_append_left (List.getElem?_eq_some_iff.mp h1).1]; exact h1
  · rw [List.getElem?_append_left (List.getElem?_eq_some_iff.mp h2).1]; exact h2
  · rw [List.getElem?_append_right (Nat.le_refl _), Nat.sub_self]; rfl
  · rw [l, List.getElem?_append_right (Nat.le_refl _), Nat.sub_self]; rfl
theorem k_neWS {K : PySem.W.Frag} {G H : Hp} {Q : VK} {l q : Addr} {n : Nat} {ws : List Addr} {es : List (Pln × Int)} (s : Same G H) (hl : H l = some (.lst (ws.map V.ref))) (W : WtS G H n ws es) (hq : H q = some (.lst [])) (h : Q (.bl (!decide (es = []))) H) : rNeM K (.ref l) (.ref q) H Q := by
  obtain ⟨ds, g1, g2⟩ := dpAll_of (K := K) (H := H) (ws.map V.ref) fun v hv => by
    obtain ⟨w, hw, rfl⟩ := List.mem_map.mp hv
    obtain ⟨i, hi⟩ := List.getElem?_of_mem hw
    have lt := (List.getElem?_eq_some_iff.mp hi).1
    have l := W.1
    obtain ⟨e, he⟩ : ∃ e, es[i]? = some e := ⟨_, List.getElem?_eq_getElem (by omega)⟩
    obtain ⟨a, h1, h2, _⟩ := W.2 i w e hi he
    refine ⟨_, .tup (sqt_tup h1) (.cons (h2.same s).dp (.cons (.int _) .nil)), ?_⟩
    simp only [PyData.canLay0, PyData.canLayAll0, (plD_facts e.1).1]
    rfl
  refine ⟨_, _, .lst (sql_lst hl) g1, .lst (sql_lst hq) .nil, by simp only [PyData.canLay0, g2], rfl, Nat.le_trans (Nat.min_le_right _ _) (by decide), ?_⟩
  have l := W.1
  cases ws with
  | nil =>
    cases es with
    | nil => cases g1; exact h
    | cons e es => simp at l
  | cons w ws =>
    cases es with
    | nil => simp at l
    | cons e es => cases g1; exact h
def spPriceL (K : PySem.W.Frag) : Sp := fun vs H Q _ => ∃ (n : Nat) (m : Int) (v : V) (c : Int → Int), vs = [v, .int m] ∧ PricesN K H n v c ∧ 0 ≤ m ∧ m < (n : Int) ∧ Q (.int (c m)) H
def spSumL (K : PySem.W.Frag) : Sp := fun vs H Q _ => ∃ (n : Nat) (a wa : Addr) (v : V) (p : Pln) (ws : List Int) (c : Int → Int), vs = [.ref a, .ref wa, v] ∧ TpAt H p a ∧ p.dep ≤ 60 ∧ PlnN n p ∧ H wa = some (.lst (ws.map V.int)) ∧ NumsOk n ws ∧ PricesN K H n v c ∧
  ∀ H', Same H H' → Q (.int (sumP c (costF ws) p 0)) H'
end Bk
/-! the sides of makes in a tuple or a list, the useful makes by the reach -/
namespace Bk
open PySem PySem.Spec PyProof.Rows L2
/-- whether the make one comes of make -/
def reachB (rows : List (List Int)) (mk one : Int) : Prop := Cm rows mk.toNat one.toNat
noncomputable def usefP (rows : List (List Int)) (ms gs : List Int) (mk : Nat) : Bool := !decide ((mk : Int) ∈ gs) && ms.any (fun o => decide (Cm rows mk o.toNat)) && ms.any (fun o => !decide (Cm rows mk o.toNat))
def spUsefulP (K : PySem.W.Frag) : Sp := fun vs H Q _ => ∃ (o l g : Addr) (kd : Bool) (rs : List Addr) (rows : List (List Int)) (ms gs : List Int), vs = [.ref o, .ref l, .ref g] ∧ ReachAt H o rs rows rows.length ∧ rows.length ≤ 40 ∧ SqK K kd H l (ms.map V.int) ∧ ms.length ≤ 1000 ∧ (∀ k ∈ ms, goodM rows.length k) ∧ H g = some (.lst (gs.map V.int)) ∧ gs.length ≤ 1000 ∧
  ∀ (u : Addr) (us : List Int) (H' : Hp), Same H H' → H u = none → H' u = some (.lst (us.map V.int)) → us.length ≤ 40 → (∀ k ∈ us, ∃ mk : Nat, k = (mk : Int) ∧ mk < rows.length ∧ usefP rows ms gs mk = true) → Q (.ref u) H'
end Bk
namespace Bk
open PySem PySem.Spec PyProof.Rows L2
/-- prices that a list has, or none -/
def CostsL (H : Hp) (n : Nat) (v : V) (c : Int → Int) : Prop := (v = .non ∧ c = fun _ => 1) ∨ ∃ (a : Addr) (cs : List Int), v = .ref a ∧ H a = some (.lst (cs.map V.int)) ∧ NumsOk n cs ∧ c = costF cs
theorem CostsL.prices {K : PySem.W.Frag} {H : Hp} {n : Nat} {v : V} {c : Int → Int} (h : CostsL H n v c) : PricesN K H n v c := by
  rcases h with h | ⟨a, cs, h1, h2, h3⟩
  · exact .inl h
  · exact .inr ⟨false, a, cs, h1, sql_lst h2, h3⟩
theorem CostsL.same {H H' : Hp} {n : Nat} {v : V} {c : Int → Int} (h : CostsL H n v c) (s : Same H H') : CostsL H' n v c := by
  rcases h with h | ⟨a, cs, h1, h2, h3⟩
  · exact .inl h
  · exact .inr ⟨a, cs, h1, s _ _ h2, h3⟩
theorem k_neHd {K : PySem.W.Frag} {H : Hp} {Q : VK} {p q a b : Addr} {ws : List Int} (hp : H p = some (.lst [.ref a, .non])) (ha : H a = some (.lst (ws.map V.int))) (hq : H q = some (.lst [.ref b, .non])) (hb : H b = some (.lst (ws.map V.int))) (h : Q (.bl false) H) : rNeD K (.ref p) (.ref q) H Q := by
  have sh : SeqAt.shaped (PyData.list [.list (ws.map PyData.int), .none]) = true := by
    obtain ⟨h1, h2⟩ := sh_intsA ws
    simp [SeqAt.shaped, PyData.canLay0, PyData.canLayAll0, PyData.depth, PyData.depthAll, h1, h2]
  refine k_neD (.lst (sql_lst hp) (.cons (.lst (sql_lst ha) (dp_ints ws)) (.cons .non .nil))) (.lst (sql_lst hq) (.cons (.lst (sql_lst hb) (dp_ints ws)) (.cons .non .nil))) sh sh ?_
  rw [SeqAt.eqv_refl _ (SeqAt.canLay_of_shaped sh)]
  exact h
def spRightS (K : PySem.W.Frag) : Sp := fun vs H Q _ => ∃ (n : Nat) (a wa : Addr) (v : V) (p : Pln) (ws : List Int) (c : Int → Int), vs = [.ref a, .ref wa, v] ∧ TpAt H p a ∧ p.dep ≤ 60 ∧ PlnN n p ∧ n ≤ 40 ∧ H wa = some (.lst (ws.map V.int)) ∧ NumsOk n ws ∧ CostsL H n v c ∧
  ∀ H', Same H H' → Q (.bl true) H'
end Bk
/-! the useful makes, of a list or a tuple -/
namespace Bk
open PySem PySem.Spec PyProof.Rows L2
def spUsefulK (K : PySem.W.Frag) : Sp := fun vs H Q _ => ∃ (o l g : Addr) (kd : Bool) (rs : List Addr) (rows : List (List Int)) (ms gs : List Int), vs = [.ref o, .ref l, .ref g] ∧ ReachAt H o rs rows rows.length ∧ rows.length ≤ 40 ∧ SqK K kd H l (ms.map V.int) ∧ ms.length ≤ 1000 ∧ (∀ k ∈ ms, goodM rows.length k) ∧ H g = some (.lst (gs.map V.int)) ∧
  ∀ (u : Addr) (H' : Hp), Same H H' → H u = none → H' u = some (.lst ((usefL rows ms (freeL rows.length gs)).map V.int)) → Q (.ref u) H'
def spSidesK (K : PySem.W.Frag) : Sp := fun vs H Q _ => ∃ (o l : Addr) (kd : Bool) (rs : List Addr) (rows : List (List Int)) (ms : List Int) (m : Nat), vs = [.ref o, .ref l, .int (m : Nat)] ∧ ReachAt H o rs rows rows.length ∧ rows.length ≤ 40 ∧ SqK K kd H l (ms.map V.int) ∧ ms.length ≤ 50 ∧ (∀ k ∈ ms, goodM rows.length k) ∧ m < rows.length ∧
  ∀ ns : List Int, ns.Pairwise (· < ·) → (∀ k, k ∈ ns ↔ k ∈ ms) → ∀ (u a b : Addr) (H' : Hp), Same H H' → SidesAt H' u a b (badL rows m ns) (goodL rows m ns) → Q (.ref u) H'
end Bk
/-! plans that are drawn -/
namespace Bk
open PySem PySem.Spec PyProof.Rows L2
theorem k_catT {K : PySem.W.Frag} {H : Hp} {Q : VK} {a b : Addr} {xs ys : List V} (h1 : SqT K H a xs) (h2 : SqT K H b ys) (nx : xs ≠ []) (ny : ys ≠ []) (hz : xs.length + ys.length ≤ 100000) (q : ∀ p, H p = none → Q (.ref p) (upd H p (.tup (xs ++ ys)))) : rCatT K (.ref a) (.ref b) H Q := ⟨a, b, xs, ys, rfl, rfl, h1, h2, nx, smallE hz, fun z => (ny z).elim, fun _ => q⟩
theorem parts_len (rows : List (List Int)) (m : Nat) : ∀ ns : List Int, (badL rows m ns).length + (goodL rows m ns).length = ns.length
  | [] => rfl
  | k :: ns => by
    have ih := parts_len rows m ns
    unfold badL goodL at ih ⊢
    rw [List.filter_cons, List.filter_cons, List.length_cons]
    by_cases h : Cm rows m k.toNat
    · rw [if_pos (by simpa using h), if_neg (by simpa using h), List.length_cons]
      omega
    · rw [if_neg (by simpa using h), if_pos (by simpa using h), List.length_cons]
      omega
def spPlanD (K : PySem.W.Frag) (n : Nat) : Sp := fun vs H Q _ => ∃ (G : Hp) (d o l g : Addr) (b : Nat) (kd : Bool) (rs : List Addr) (rows : List (List Int)) (ms ns gs : List Int), vs = [.ref d, .ref o, .ref l, .ref g] ∧ DeckL G H d b ∧ b + 5 * ns.length ≤ 1000000 ∧ ReachAt G o rs rows rows.length ∧ rows.length ≤ 40 ∧ SqK K kd G l (ms.map V.int) ∧ 1 ≤ ms.length ∧ ms.length ≤ 50 ∧ (∀ k ∈ ms, goodM rows.length k) ∧ ns.Pairwise (· < ·) ∧ (∀ k, k ∈ ns ↔ k ∈ ms) ∧ ns.length ≤ n ∧ ns.length ≤ 40 ∧ G g = some (.lst (gs.map V.int)) ∧
  ∀ (a : Addr) (p : Pln) (G' H' : Hp), Same G G' → TpAt G' p a → p.dep ≤ ns.length → PlnN rows.length p → DeckL G' H' d (b + 5 * ns.length - 1) → Q (.ref a) H'
def spPlanDF (K : PySem.W.Frag) : Nat → Sp
  | 0 => spNever
  | n + 1 => spPlanD K (n + 1)
/-- prices in one -/
def spPricesV : Sp := fun vs H Q _ => ∃ (G : Hp) (d : Addr) (b many : Nat), vs = [.ref d, .int (many : Int)] ∧ DeckL G H d b ∧ b ≤ 1000000 ∧ 1 ≤ many ∧ many ≤ 40 ∧
  ∀ (v : V) (c : Int → Int) (G' H' : Hp), Same G G' → CostsL G' many v c → (∀ a, v = .ref a → G a = none) → DeckL G' H' d (b + 400) → Q v H'
theorem prices_weak {vs : List V} {H : Hp} {Q : VK} {E : XK} (h : spPricesV vs H Q E) : spPricesD vs H Q E := by
  obtain ⟨G, d, b, many, rfl, F, hb, n1, n40, q⟩ := h
  refine ⟨G, d, b, many, rfl, F, hb, n1, n40, fun H' F' => q .non _ G H' (Same.refl _) (.inl ⟨rfl, rfl⟩) (fun a z => by cases z) F', fun l ws G' H' s l0 hl ok F' => q (.ref l) _ G' H' s (.inr ⟨l, ws, rfl, hl, ok, rfl⟩) (fun a z => ?_) F'⟩
  cases z
  exact l0
/-- the unlike ones, rising -/
theorem unlike_ex {n : Nat} {ms : List Int} (gm : ∀ k ∈ ms, goodM n k) : ∃ ns : List Int, ns.Pairwise (· < ·) ∧ (∀ k, k ∈ ns ↔ k ∈ ms) ∧ ns.length ≤ n := by
  refine ⟨(freeL n []).filter fun k => decide (k ∈ ms), List.Pairwise.filter _ (freeL_sorted _ _), fun k => ?_, Nat.le_trans (List.length_filter_le _ _) (freeL_len _ _)⟩
  rw [List.mem_filter, freeL_mem, decide_eq_true_eq]
  constructor
  · exact fun h => h.2
  · exact fun h => ⟨⟨(gm k h).1, (gm k h).2, by simp⟩, h⟩
/-- a list that is not theirs changes -/
theorem CostsL.mut {H : Hp} {n : Nat} {v : V} {c : Int → Int} {p : Addr} {o : HO} (h : CostsL H n v c) (np : ∀ a, v = .ref a → a ≠ p) : CostsL (upd H p o) n v c := by
  rcases h with h | ⟨a, cs, h1, h2, h3⟩
  · exact .inl h
  · exact .inr ⟨a, cs, h1, by rw [upd_ne (np a h1)]; exact h2, h3⟩
end Bk
/-! sorted of tuples that differ in their heads, a list's steps, tuples of texts compared -/
namespace BkS
open PySem PySem.Calls PyProof.Rows TS
section
variable {prog : Program} {w : World} {A : Around} {E : Value → Shared → Prop} {s : Shared} {Q : Bool → Shared → Prop}
theorem lex_self {b : Bool} {xs ys : List Value} {ns : List Int} (hx : IntsAre xs ns) : ∀ {ys : List Value} (i : Nat), IntsAre ys ns → Q false s →
    PySem.W.KatLex prog w A b false Q (xs.zip ys) i s := by
  induction hx with
  | nil =>
    intro ys i hy h
    cases hy
    exact PySem.W.kat_nil h
  | @cons p t xs ns hx ih =>
    intro ys i hy h
    cases hy with
    | @cons q u ys' ms hy =>
      show PySem.W.KatLex prog w A b false Q ((Value.int p t, Value.int p u) :: xs.zip ys') i s
      refine PySem.W.kat_cons (wpAny_eqBool_int ?_)
      rw [show (p == p) = true from beq_self_eq_true p]
      exact PySem.W.kat_yes (ih (i + 1) hy h)
theorem lex_hd {b : Bool} {xs ys : List Value} {ns ms : List Int} (hx : IntsAre xs ns) (hy : IntsAre ys ms) (h1 : ns ≠ []) (h2 : ms ≠ []) (he : ns.headD 0 = ms.headD 0 → ns = ms)
    (h : Q (decide (ns.headD 0 < ms.headD 0)) s) : PySem.W.KatLex prog w A b (decide (xs.length < ys.length)) Q (xs.zip ys) 0 s := by
  by_cases e : ns.headD 0 = ms.headD 0
  · have en := he e
    subst en
    have l1 := hx.length
    have l2 := hy.length
    rw [decide_eq_false (show ¬ xs.length < ys.length by omega)]
    rw [decide_eq_false (Int.lt_irrefl _)] at h
    exact lex_self (ys := ys) hx 0 hy h
  · cases hx with
    | nil => exact absurd rfl h1
    | @cons p t xs ns hx =>
      cases hy with
      | nil => exact absurd rfl h2
      | @cons q u ys ms hy =>
        have e' : p ≠ q := e
        generalize decide ((Value.int p t :: xs).length < (Value.int q u :: ys).length) = fin
        show PySem.W.KatLex prog w A b fin Q ((Value.int p t, Value.int q u) :: xs.zip ys) 0 s
        refine PySem.W.kat_cons (wpAny_eqBool_int ?_)
        rw [show (p == q) = false from beq_eq_false_iff_ne.mpr e']
        exact PySem.W.kat_no (oneLt_ints _ h)
end
/-- tuples of whole numbers, none of them empty, alike where their heads are -/
structure HdOk (h : Heap) (vs : List Value) : Prop where
  tup : ∀ v ∈ vs, ∃ ns, TupInts h v ns ∧ ns ≠ []
  hd : ∀ u ∈ vs, ∀ v ∈ vs, ∀ ns ms, TupInts h u ns → TupInts h v ms → ns.headD 0 = ms.headD 0 → ns = ms
theorem HdOk.keeps {h h' : Heap} {vs : List Value} (x : HdOk h vs) (k : ∀ b o, h.get? b = some o → o.cls = .type "tuple" → h'.get? b = some o) : HdOk h' vs := by
  have back : ∀ v ∈ vs, ∀ ns, TupInts h' v ns → TupInts h v ns := fun v hv ns t => by
    obtain ⟨ms, u, _⟩ := x.tup v hv
    have e : ns = ms := (TupInts.ints t).symm.trans (TupInts.ints (u.keeps k))
    rw [e]
    exact u
  exact ⟨fun v hv => (x.tup v hv).elim fun ns t => ⟨ns, t.1.keeps k, t.2⟩, fun u hu v hv ns ms t1 t2 => x.hd u hu v hv ns ms (back u hu ns t1) (back v hv ms t2)⟩
theorem heads_of {h : Heap} : ∀ vs : List Value, (∀ v ∈ vs, ∃ ns, TupInts h v ns ∧ ns ≠ []) → ∃ fs, PySem.W.KatTups h vs fs ∧ fs.length = vs.length ∧ ∀ f ∈ fs, ∃ n t, f = Value.int n t
  | [], _ => ⟨[], .nil, rfl, by simp⟩
  | v :: vs, x => by
    obtain ⟨fs, k, l, i⟩ := heads_of vs fun u hu => x u (by simp [hu])
    obtain ⟨ns, ⟨a, xs, rfl, ⟨o, ho, hc, n, hdt⟩, hi⟩, ne⟩ := x v (by simp)
    have l0 : 0 < xs.toList.length := by
      rw [hi.length]
      exact List.length_pos_iff.mpr ne
    have l1 : 0 < xs.size := by simpa using l0
    obtain ⟨m, t, hy⟩ := hi.all xs[0] (by simp)
    refine ⟨xs[0] :: fs, .cons ho hc hdt (by simp [l1]) k, by simp [l], fun f hf => ?_⟩
    rcases List.mem_cons.mp hf with e | e
    · exact ⟨m, t, e.trans hy⟩
    · exact i f e
section
variable {prog : Program} {w : World} {A : Around} {E : Value → Shared → Prop} {s : Shared}
def rk (h : Heap) (v : Value) : Int := (intsOf h v).headD 0
theorem kind_hd {vs : List Value} (h2 : 2 ≤ vs.length) (x : HdOk s.heap vs) (r : Value → Int) (hr : ∀ v ∈ vs, ∀ ns, TupInts s.heap v ns → r v = ns.headD 0) (Q : SortKind → Shared → Prop)
    (h : ∀ κ, Cmp prog w A s κ (pairsOf vs) r → Q κ s) : wpAny (model prog w) A (keyKind' vs.toArray) Q E s := by
  obtain ⟨fs, k, hl, hi⟩ := heads_of vs x.tup
  refine PySem.W.kat_kind (T := .type "int") k (by omega) (fun f hf => ?_) rfl (h _ fun p q hp hq Q' E' hQ => ?_)
  · obtain ⟨n, t, e⟩ := hi f hf
    subst e
    exact PySem.W.Looks.of_pure rfl
  · rw [pairsOf_toList] at hp hq
    have mp := (mem_zip_self hp).2
    have mq := (mem_zip_self hq).2
    obtain ⟨ns, tp, np⟩ := x.tup _ mp
    obtain ⟨ms, tq, nq⟩ := x.tup _ mq
    have he := x.hd _ mp _ mq ns ms tp tq
    rw [hr _ mp _ tp, hr _ mq _ tq] at hQ
    obtain ⟨a, xs, e1, ⟨o, ho, hc, n, hdt⟩, i⟩ := tp
    obtain ⟨a', ys, e2, ⟨o', ho', hc', n', hdt'⟩, i'⟩ := tq
    rw [e1, e2]
    refine PySem.W.kat_lt ho hdt ho' hdt' ?_
    have z := lex_hd (prog := prog) (w := w) (A := A) (b := (Value.type "int" != Value.type "tuple")) i i' np nq he hQ
    rw [Array.length_toList, Array.length_toList] at z
    exact z
theorem sort_hd {a : Addr} {vs : List Value} {n : Nat} {P : PySem.Fin → Shared → Prop} (ho : s.heap.get? a = some (seqObj "list" vs.toArray n)) (h64 : vs.length < 64) (x : HdOk s.heap vs) (r : Value → Int) (hr : ∀ v ∈ vs, ∀ ns, TupInts s.heap v ns → r v = ns.headD 0)
    (h : ∀ out : Array Value, out.toList.Perm vs → out.toList.Pairwise (fun u v => r u ≤ r v) → P (.done (.ret .none)) { s with heap := sortedHeap s.heap a vs out }) : wpAny (model prog w) A (Builtin.«list.sort» ⟨[.ref a], []⟩) P E s := by
  have kp : ∀ b o, s.heap.get? b = some o → o.cls = .type "tuple" → (midHeap s.heap a vs).get? b = some o := fun b o e hc => midHeap_old (fun z => by
    rw [z, ho] at e
    cases e
    exact absurd hc (by intro y; injection y with y'; exact absurd y' (by decide))) e
  refine SK.plain_sort (r := r) ho h64 (fun h2 Q hQ => kind_hd (s := { s with heap := midHeap s.heap a vs }) h2 (x.keeps kp) r (fun v hv ns t => ?_) Q hQ) fun ps out h1 h2 h3 => ?_
  · obtain ⟨ms, u, _⟩ := x.tup v hv
    have e : ns = ms := (TupInts.ints t).symm.trans (TupInts.ints (u.keeps kp))
    exact hr v hv ns (e ▸ u)
  · have z := out_rank h1 h2 h3
    exact h out z.1 z.2
/-- the heap behind the first list -/
def sq1 (h : Heap) (vs : List Value) : Heap := (h.push (seqObj "list" #[] 0)).update h.objs.size (Obj.mapSeq (· ++ vs.toArray))
theorem sq1_size (h : Heap) (vs : List Value) : (sq1 h vs).objs.size = h.objs.size + 1 := by
  unfold sq1
  rw [Heap.size_update, size_push']
theorem sq1_old {h : Heap} {vs : List Value} {b : Addr} {o : Obj} (e : h.get? b = some o) : (sq1 h vs).get? b = some o := by
  have n2 : b ≠ h.objs.size := Nat.ne_of_lt (Heap.lt_size e)
  unfold sq1
  rw [Heap.get?_update_ne _ _ _ _ n2, Heap.get?_push_ne _ _ _ n2]
  exact e
theorem sorted_hd {l : Addr} {vs : List Value} {Q : Value → Shared → Prop} (hl : s.heap.IsList l vs.toArray) (h64 : vs.length < 64) (x : HdOk s.heap vs)
    (h : ∀ out : Array Value, out.toList.Perm vs → out.toList.Pairwise (fun u v => rk s.heap u ≤ rk s.heap v) → Q (.ref (s.heap.objs.size + 1)) { s with heap := sortedAll s.heap vs out }) : wpAny (model prog w) A (call (.builtin "sorted") [.ref l]) Q E s := by
  refine Calls.call_function_entry kind_sorted plain_sorted entry_sorted (args_sorted1 _) ?_
  unfold Builtin.«sorted»
  refine wpAny_bind (m := checkCount "sorted" 1 1 _) (wpAny_pure (wpAny_bind (collect_list hl (wpAny_bind (wpAny_newList ?_ (by rw [sizeLine_eq]; omega))) (by rw [sizeLine_eq]; omega))))
  have o2 : ((sq1 s.heap vs).push (seqObj "list" vs.toArray 0)).get? (s.heap.objs.size + 1) = some (seqObj "list" vs.toArray 0) := by
    rw [← sq1_size s.heap vs]
    exact Heap.get?_push_size _ rfl
  have kp : ∀ b o, s.heap.get? b = some o → o.cls = .type "tuple" → ((sq1 s.heap vs).push (seqObj "list" vs.toArray 0)).get? b = some o := fun b o e _ => by
    have lt := Heap.lt_size e
    have ne : b ≠ (sq1 s.heap vs).objs.size := by
      rw [sq1_size]
      exact Nat.ne_of_lt (Nat.lt_succ_of_lt lt)
    rw [Heap.get?_push_ne _ _ _ ne]
    exact sq1_old e
  show wpAny _ _ _ _ _ { s with heap := (sq1 s.heap vs).push (seqObj "list" vs.toArray 0) }
  rw [show ((s.heap.push (seqObj "list" #[] 0)).update s.heap.objs.size (Obj.mapSeq (· ++ vs.toArray))).objs.size = s.heap.objs.size + 1 from sq1_size s.heap vs]
  refine wpAny_bind (wpAny_holding (wpAny_call_entry slot_list_sort ⟨_, o2, rfl⟩ entry_list_sort (sort_hd o2 h64 (x.keeps kp) (rk s.heap) (fun v hv ns t => ?_) fun out a1 a2 => ⟨_, rfl, wpAny_pure ⟨_, rfl, h out a1 a2⟩⟩) (args_list_sort _)))
  obtain ⟨ms, u, _⟩ := x.tup v hv
  have e : ns = ms := (TupInts.ints t).symm.trans (TupInts.ints (u.keeps kp))
  unfold rk
  rw [u.ints, e]
end
end BkS

namespace BkS
open PySem PySem.Spec PyProof.Rows L2
/-- sorted of a list of tuples of whole numbers, none empty, alike where their heads are -/
def rSortHd (K : PySem.W.Frag) : List V → Hp → VK → Prop := fun vs H Q => ∃ (a : Addr) (xs : List (Addr × List Int)), vs = [V.ref a] ∧ SqL K H a (xs.map fun x => V.ref x.1) ∧ xs.length < 64 ∧ (∀ x ∈ xs, SqT K H x.1 (x.2.map V.int) ∧ x.2 ≠ []) ∧
  (∀ x ∈ xs, ∀ y ∈ xs, x.2.headD 0 = y.2.headD 0 → x.2 = y.2) ∧
  ∀ (ys : List (Addr × List Int)) (p : Addr), ys.Perm xs → ys.Pairwise (fun x y => x.2.headD 0 ≤ y.2.headD 0) → H p = none → Q (.ref p) (upd H p (.lst (ys.map fun y => V.ref y.1)))
theorem vals_refs : ∀ {xs : List (Addr × List Int)} {us : List Value}, Vals (xs.map fun x => V.ref x.1) us → us = xs.map fun x => Value.ref x.1
  | [], _, .nil => rfl
  | x :: xs, _ :: us, .cons r t => by
    cases r
    rw [vals_refs t]
    rfl
theorem refs_vals : ∀ xs : List (Addr × List Int), Vals (xs.map fun x => V.ref x.1) (xs.map fun x => Value.ref x.1)
  | [] => .nil
  | x :: xs => .cons rfl (refs_vals xs)
/-- what is a permutation of a list's pictures is the pictures of a permutation -/
theorem perm_back {α β : Type} (f : α → β) {l : List β} {k : List β} (h : l.Perm k) : ∀ {xs : List α}, k = xs.map f → ∃ ys : List α, ys.Perm xs ∧ l = ys.map f := by
  induction h with
  | nil =>
    intro xs e
    exact ⟨xs, .refl _, e⟩
  | cons x h ih =>
    intro xs e
    cases xs with
    | nil => cases e
    | cons y xs =>
      injection e with e1 e2
      obtain ⟨ys, p, q⟩ := ih e2
      exact ⟨y :: ys, p.cons y, by rw [q, e1]; rfl⟩
  | swap x y l =>
    intro xs e
    cases xs with
    | nil => cases e
    | cons a xs =>
      cases xs with
      | nil => simp at e
      | cons b xs =>
        simp only [List.map_cons, List.cons.injEq] at e
        obtain ⟨e1, e2, e3⟩ := e
        exact ⟨b :: a :: xs, .swap a b xs, by rw [e1, e2, e3]; rfl⟩
  | trans h1 h2 i1 i2 =>
    intro xs e
    obtain ⟨ys, p, q⟩ := i2 e
    obtain ⟨zs, p', q'⟩ := i1 q
    exact ⟨zs, p'.trans p, q'⟩
theorem cr_sortHd {X : Cx} : CallR X (.builtin "sorted") (rSortHd X.K) := by
  intro pins s σ H vs us Q I r h
  obtain ⟨a, xs, rfl, hs, h64, hx, hh, q⟩ := h
  obtain ⟨its, rv, hl, hz⟩ := I.list hs
  rw [Vals.ref1 r]
  have e := vals_refs rv
  subst e
  have raw : ∀ x ∈ xs, TS.TupInts s.heap (.ref x.1) x.2 := fun x m => tupI_raw I (hx x m).1
  refine sorted_hd hl.isList (by rw [List.length_map]; exact h64) ⟨fun v hv => ?_, fun u hu v hv ns ms t1 t2 he => ?_⟩ fun out h1 h2 => ?_
  · obtain ⟨x, m, rfl⟩ := List.mem_map.mp hv
    exact ⟨x.2, raw x m, (hx x m).2⟩
  · obtain ⟨x, m, rfl⟩ := List.mem_map.mp hu
    obtain ⟨y, m', rfl⟩ := List.mem_map.mp hv
    have e1 : ns = x.2 := t1.ints.symm.trans (raw x m).ints
    have e2 : ms = y.2 := t2.ints.symm.trans (raw y m').ints
    subst e1 e2
    exact hh x m y m' he
  · obtain ⟨ys, hp, hy⟩ := perm_back (fun x : Addr × List Int => Value.ref x.1) h1 rfl
    obtain ⟨ep, he'⟩ := PyProof.Rows.sortedAll_at s.heap (xs.map fun x => Value.ref x.1) out
    have hlen : (ys.map fun y => V.ref y.1).length ≤ sizeLine := by
      have := hp.length_eq
      rw [List.length_map] at hz ⊢
      omega
    refine ⟨.ref _, upd H (s.heap.objs.size + 1) (.lst (ys.map fun y => V.ref y.1)), I.laid (t' := s.toks) (fun _ _ => PyProof.Rows.sortedAll_old) (Nat.le_succ _) ⟨hlen, out.toList, ep, hy ▸ refs_vals ys, he'⟩, rfl, q ys _ hp ?_ (I.hok.fresh (Nat.le_succ _))⟩
    rw [hy, List.pairwise_map] at h2
    refine List.Pairwise.imp_of_mem (fun {x y} mx my z => ?_) h2
    have z' : (TS.intsOf s.heap (.ref x.1)).headD 0 ≤ (TS.intsOf s.heap (.ref y.1)).headD 0 := z
    rw [(raw x (hp.mem_iff.mp mx)).ints, (raw y (hp.mem_iff.mp my)).ints] at z'
    exact z'
/-! a list's steps -/
def kStepL (K : PySem.W.Frag) (Q : VK) (x : V) (o : Option Int) (H2 : Hp) : Prop := ∃ (a : Addr) (ns : List Int) (st : Int), x = .ref a ∧ o = some st ∧ st ≠ 0 ∧ SqL K H2 a (ns.map V.int) ∧ ∀ (p : Addr) (ys : List Int), (∀ y ∈ ys, y ∈ ns) → ys.length ≤ ns.length → H2 p = none → Q (.ref p) (upd H2 p (.lst (ys.map V.int)))
def tStepL (K : PySem.W.Frag) (te ts : TE) : TE := fun σ H Q => te σ H fun x H1 => tPart ts σ H1 fun o H2 => kStepL K Q x o H2
theorem vals_picks {ns : List Int} {its : List Value} (r : Vals (ns.map V.int) its) : ∀ js : List Nat, Vals ((js.filterMap (ns[·]?)).map V.int) (js.filterMap (its[·]?))
  | [] => .nil
  | j :: js => by
    have ih := vals_picks r js
    have hl := r.length
    rw [List.length_map] at hl
    rw [List.filterMap_cons, List.filterMap_cons]
    by_cases lt : j < ns.length
    · obtain ⟨v, hv, rv⟩ := Vals.get (i := j) (x := .int ns[j]) r (by rw [List.getElem?_map, List.getElem?_eq_getElem lt]; rfl)
      rw [List.getElem?_eq_getElem lt, hv]
      exact .cons rv ih
    · rw [List.getElem?_eq_none (by omega), List.getElem?_eq_none (by omega)]
      exact ih
theorem pe_stepL {X : Cx} {e se : Expr} {te ts : TE} {p3 pos : Pos} (he : PE X e te) (hst : PE X se ts) : PE X (.Subscript e (.Slice none none (some se) p3) pos) (tStepL X.K te ts) := by
  refine ⟨fun pins s σ H Q I h => Subscript_ (thn (he.run pins s σ H _ I h) fun v s1 ⟨x, H1, I1, r1, q1⟩ => ?_)⟩
  refine wpAny_Slice (thn (po_none.run pins s1 σ H1 (fun o H2 => o = none ∧ H2 = H1) I1 ⟨rfl, rfl⟩) fun vl s2 ⟨l, H2, I2, pl, el, e2⟩ => ?_)
  subst el e2
  refine thn (po_none.run pins s2 σ H2 (fun o H3 => o = none ∧ H3 = H2) I2 ⟨rfl, rfl⟩) fun vu s3 ⟨u, H3, I3, pu, eu, e3⟩ => ?_
  subst eu e3
  refine thn ((po_some hst).run pins s3 σ H3 _ I3 q1) fun vs s4 ⟨o, H4, I4, ps, q4⟩ => ?_
  obtain ⟨a, ns, st, rfl, rfl, h0, hx, q⟩ := q4
  cases r1
  have I5 : Inv X pins σ H4 { s4 with heap := s4.heap.push { cls := .type "slice", data := .fields #[vl, vu, vs] } } := I4.kept (t' := s4.toks) fun _ _ z => Heap.get?_push_of_some _ z
  obtain ⟨its, r, ht, hz⟩ := I5.list hx
  have hl := r.length
  have e1 : its.toArray.size = ns.length := by rw [List.size_toArray, ← hl, List.length_map]
  show wpAny (model X.prog X.w) X.A (subscriptTail e (.Slice none none (some se) p3) (.ref a) (.ref s4.heap.objs.size)) _ X.xe _
  refine tail_any (ops := [.ref a, .ref s4.heap.objs.size]) ht.isList.typeIs (PySem.slot_list_getitem.lookup) ?_ (by with_unfolding_all rfl)
  rw [List.length_map] at hz
  refine wpAny_getItem_list_slice ht.isList (Heap.IsSliceOf.new _ vl vu vs) pl pu ps (fun z => h0 (Option.some.inj z)) ?_ (by rw [e1]; exact hz)
  have sz := slicePick_size_le its.toArray none none (some st)
  generalize hjs : sliceRange (sliceBounds none none (some st) its.toArray.size).1 (sliceBounds none none (some st) its.toArray.size).2.1 (sliceBounds none none (some st) its.toArray.size).2.2 = js
  have ep : slicePick its.toArray none none (some st) = (js.filterMap (its[·]?)).toArray := by
    unfold slicePick
    rw [hjs]
    simp
  have vp := vals_picks r js
  have lp : (js.filterMap (ns[·]?)).length ≤ ns.length := by
    have := vp.length
    rw [List.length_map] at this
    rw [this]
    rw [ep, e1, List.size_toArray] at sz
    exact sz
  rw [ep]
  refine ⟨.ref _, upd H4 _ (.lst ((js.filterMap (ns[·]?)).map V.int)), I5.laid (t' := s4.toks) (fun _ _ z => Heap.get?_push_of_some _ z) (Nat.le_refl _) ?_, rfl, q _ _ (fun y hy => ?_) lp (I5.hok.fresh (Nat.le_refl _))⟩
  · exact ⟨by rw [List.length_map]; omega, _, 0, vp, Heap.get?_push_size _ rfl⟩
  · obtain ⟨k, _, hk⟩ := List.mem_filterMap.mp hy
    exact List.mem_of_getElem? hk
/-! tuples of texts compared -/
def lexLtS : List Str → List Str → Bool
  | [], [] => false
  | [], _ :: _ => true
  | _ :: _, [] => false
  | x :: xs, y :: ys => if x = y then lexLtS xs ys else decide (x.cps.toList < y.cps.toList)
def rLtTs (K : PySem.W.Frag) : R2 := fun x y H Q => ∃ (a b : Addr) (ss ts : List Str), x = .ref a ∧ y = .ref b ∧ SqT K H a (ss.map V.str) ∧ SqT K H b (ts.map V.str) ∧ Q (.bl (lexLtS ss ts)) H
theorem lexAt_S : ∀ (ss ts : List Str) (e r : Nat → Bool) (i : Nat), (∀ j, j < min ss.length ts.length → e (i + j) = decide (ss.getD j "" = ts.getD j "")) → (∀ j, j < min ss.length ts.length → r (i + j) = decide ((ss.getD j "").cps.toList < (ts.getD j "").cps.toList)) →
    Ob.lexAt e r (decide (ss.length < ts.length)) i (min ss.length ts.length) = lexLtS ss ts
  | [], [], e, r, i, _, _ => by simp [Ob.lexAt, lexLtS]
  | [], t :: ts, e, r, i, _, _ => by simp [Ob.lexAt, lexLtS]
  | s :: ss, [], e, r, i, _, _ => by simp [Ob.lexAt, lexLtS]
  | s :: ss, t :: ts, e, r, i, h1, h2 => by
    have m : min (s :: ss).length (t :: ts).length = min ss.length ts.length + 1 := by simp only [List.length_cons]; omega
    rw [m, Ob.lexAt_succ]
    have e0 := h1 0 (by omega)
    have r0 := h2 0 (by omega)
    rw [Nat.add_zero] at e0 r0
    rw [e0, r0]
    show (if decide (s = t) = true then _ else decide (s.cps.toList < t.cps.toList)) = if s = t then lexLtS ss ts else _
    by_cases q : s = t
    · rw [if_pos q, if_pos (decide_eq_true q)]
      have d : decide ((s :: ss).length < (t :: ts).length) = decide (ss.length < ts.length) := by simp
      rw [d]
      refine lexAt_S ss ts e r (i + 1) (fun j hj => ?_) fun j hj => ?_
      · have := h1 (j + 1) (by omega)
        rw [show i + (j + 1) = i + 1 + j by omega] at this
        simpa using this
      · have := h2 (j + 1) (by omega)
        rw [show i + (j + 1) = i + 1 + j by omega] at this
        simpa using this
    · rw [if_neg q, if_neg (by simpa using q)]
theorem op_ltTs {X : Cx} (hu : X.A.units < cLine) : OpR X (compareOp .Lt) (rLtTs X.K) := by
  intro pins s σ H x y v u Q I rx ry h
  obtain ⟨a, b, ss, ts, rfl, rfl, ha, hb, q⟩ := h
  cases rx
  cases ry
  obtain ⟨its, r1, p1, _⟩ := I.tuple ha
  obtain ⟨its2, r2, p2, _⟩ := I.tuple hb
  have i1 := Vals.strs r1
  have i2 := Vals.strs r2
  have e1 : its.toArray.size = ss.length := List.size_toArray.trans i1.length
  have e2 : its2.toArray.size = ts.length := List.size_toArray.trans i2.length
  have look : ∀ {its : List Value} {ss : List Str}, StrsAre its ss → ∀ j (h : j < its.toArray.size), ∃ t, its.toArray[j] = .str (ss.getD j "") t := fun {its ss} i j h => by
    have lj : j < its.length := by simpa using h
    have lj' : j < ss.length := by rw [← i.length]; exact lj
    obtain ⟨t, et⟩ := i.get j _ (List.getElem?_eq_getElem lj')
    refine ⟨t, ?_⟩
    have z : its[j] = .str ss[j] t := by
      rw [List.getElem?_eq_getElem lj] at et
      exact Option.some.inj et
    have d : ss.getD j "" = ss[j] := by rw [List.getD_eq_getElem?_getD, List.getElem?_eq_getElem lj']; rfl
    rw [d]
    simpa using z
  have R := Ob.RcOp.tuples_lt (A := X.A) (s := s) (e := fun j => decide (ss.getD j "" = ts.getD j "")) (r := fun j => decide ((ss.getD j "").cps.toList < (ts.getD j "").cps.toList)) p1 p2 hu (fun j h1 h2 => by
    obtain ⟨t, et⟩ := look i1 j h1
    obtain ⟨t', et'⟩ := look i2 j h2
    rw [et, et']
    have z : (ss.getD j "" == ts.getD j "") = decide (ss.getD j "" = ts.getD j "") := by
      by_cases q : ss.getD j "" = ts.getD j ""
      · rw [decide_eq_true q]
        exact beq_iff_eq.mpr q
      · rw [decide_eq_false q]
        exact beq_eq_false_iff_ne.mpr q
    rw [← z]
    exact SeqAt.EqAt.str_str _ _ _ _) (fun j h1 h2 _ => by
    obtain ⟨t, et⟩ := look i1 j h1
    obtain ⟨t', et'⟩ := look i2 j h2
    rw [et, et']
    exact fun _ _ _ _ h => PyProof.Rows.lt_str h)
  rw [e1, e2, lexAt_S ss ts _ _ 0 (fun j _ => by rw [Nat.zero_add]) (fun j _ => by rw [Nat.zero_add])] at R
  exact (show wpAny (model X.prog X.w) X.A (compareOp .Lt (.ref a) (.ref b)) (EP X pins σ Q) X.xe s from R X.prog X.w X.xe (EP X pins σ Q) ⟨.bl _, H, I, rfl, q⟩)
end BkS
namespace Bk
open PySem PySem.Spec PyProof.Rows L2 BkS
theorem ob_stepL {X : Cx} {K : PySem.W.Frag} {e se : Expr} {te ts : TE} {p3 pos : Pos} (hK : X.K = K) (he : PE X e te) (hst : PE X se ts) : PE X (.Subscript e (.Slice none none (some se) p3) pos) (tStepL K te ts) := by subst hK; exact pe_stepL he hst
theorem bk_sortHd {X : Cx} {K : PySem.W.Frag} (hK : X.K = K) : CallR X (.builtin "sorted") (rSortHd K) := by subst hK; exact cr_sortHd
theorem ob_ltTs {X : Cx} {K : PySem.W.Frag} (hK : X.K = K) (hu : X.A.units + 64 < cLine) : OpR X (compareOp .Lt) (rLtTs K) := by subst hK; exact op_ltTs (Nat.lt_of_le_of_lt (Nat.le_add_right _ _) hu)
section
variable {σ : L2.St} {H : Hp} {Q : VK} {K : PySem.W.Frag}
theorem r_stepL {te ts : TE} (h : te σ H fun x H1 => tPart ts σ H1 fun o H2 => kStepL K Q x o H2) : tStepL K te ts σ H Q := h
theorem k_stepL {a : Addr} {ns : List Int} {st : Int} (h : SqL K H a (ns.map V.int)) (h0 : st ≠ 0) (q : ∀ (p : Addr) (ys : List Int), (∀ y ∈ ys, y ∈ ns) → ys.length ≤ ns.length → H p = none → Q (.ref p) (upd H p (.lst (ys.map V.int)))) : kStepL K Q (.ref a) (some st) H := ⟨a, ns, st, rfl, rfl, h0, h, q⟩
theorem k_ltTs {a b : Addr} {ss ts : List Str} (h1 : SqT K H a (ss.map V.str)) (h2 : SqT K H b (ts.map V.str)) (q : Q (.bl (lexLtS ss ts)) H) : rLtTs K (.ref a) (.ref b) H Q := ⟨a, b, ss, ts, rfl, rfl, h1, h2, q⟩
/-- rows laid as tuples, of two lists, sorted by their heads -/
theorem k_sortHd {a : Addr} {as : List Addr} {rs : List (List Int)} (h : SqL K H a (as.map V.ref)) (T : TupsAt H as rs) (hl : rs.length < 64) (ne : ∀ r ∈ rs, r ≠ []) (hh : ∀ r ∈ rs, ∀ q ∈ rs, r.headD 0 = q.headD 0 → r = q)
    (q : ∀ (bs : List Addr) (qs : List (List Int)) (p : Addr), qs.Perm rs → qs.Pairwise (fun x y => x.headD 0 ≤ y.headD 0) → TupsAt H bs qs → H p = none → Q (.ref p) (upd H p (.lst (bs.map V.ref)))) : rSortHd K [.ref a] H Q := by
  have m1 : (as.zip rs).map (fun x => V.ref x.1) = as.map V.ref := by
    have z := List.map_map (f := Prod.fst) (g := V.ref) (l := as.zip rs)
    rw [List.map_fst_zip (by rw [T.1]; exact Nat.le_refl _)] at z
    exact z.symm
  have m2 : (as.zip rs).map Prod.snd = rs := List.map_snd_zip (by rw [T.1]; exact Nat.le_refl _)
  have mem : ∀ x ∈ as.zip rs, H x.1 = some (.tup (x.2.map V.int)) ∧ x.2 ∈ rs := fun x hx => by
    obtain ⟨i, hi⟩ := List.getElem?_of_mem hx
    obtain ⟨h1, h2⟩ := List.getElem?_zip_eq_some.mp hi
    exact ⟨T.2 i x.1 x.2 h1 h2, List.mem_of_getElem? h2⟩
  refine ⟨a, as.zip rs, rfl, by rw [m1]; exact h, by rw [List.length_zip]; omega, fun x hx => ⟨sqt_tup (mem x hx).1, ne _ (mem x hx).2⟩, fun x hx y hy e => hh _ (mem x hx).2 _ (mem y hy).2 e, fun ys p hp hs h0 => ?_⟩
  have := q (ys.map Prod.fst) (ys.map Prod.snd) p (by have := hp.map Prod.snd; rw [m2] at this; exact this) (List.pairwise_map.mpr hs) ⟨by rw [List.length_map, List.length_map], fun i b r h1 h2 => ?_⟩ h0
  · rw [List.map_map] at this
    exact this
  · rw [List.getElem?_map] at h1 h2
    cases hy : ys[i]? with
    | none =>
      rw [hy] at h1
      cases h1
    | some y =>
      rw [hy] at h1 h2
      cases h1
      cases h2
      exact (mem y (hp.mem_iff.mp (List.mem_of_getElem? hy))).1
theorem k_eqLT {p q : Addr} {as bs : List Addr} {rs : List (List Int)} (hp : H p = some (.lst (as.map V.ref))) (ta : TupsAt H as rs) (hq : H q = some (.lst (bs.map V.ref))) (tb : TupsAt H bs rs) (h : Q (.bl true) H) : rEqD K (.ref p) (.ref q) H Q := by
  refine k_eqD (.lst (sql_lst hp) (dpT ta)) (.lst (sql_lst hq) (dpT tb)) (sh_LT rs) (sh_LT rs) ?_
  rw [SeqAt.eqv_refl _ (SeqAt.canLay_of_shaped (sh_LT rs))]
  exact h
theorem k_eqNilT {p q : Addr} {ns : List Int} (h1 : H p = some (.tup (ns.map V.int))) (h2 : H q = some (.tup [])) (h : Q (.bl (decide (ns = []))) H) : rEqD K (.ref p) (.ref q) H Q := by
  refine k_eqD (d := .tuple (ns.map PyData.int)) (e := .tuple []) (.tup (sqt_tup h1) (dp_ints ns)) (.tup (sqt_tup h2) .nil) ?_ ?_ ?_
  · exact sh_intsT ns
  · rfl
  · cases ns with
    | nil => exact h
    | cons a r => exact h
theorem k_neLS {p q : Addr} {ns : List Int} (h1 : H p = some (.lst (ns.map V.int))) (h2 : H q = some (.lst (ns.map V.int))) (h : Q (.bl false) H) : rNeD K (.ref p) (.ref q) H Q := by
  refine k_neD (.lst (sql_lst h1) (dp_ints ns)) (.lst (sql_lst h2) (dp_ints ns)) (sh_ints ns) (sh_ints ns) ?_
  rw [SeqAt.eqv_refl _ (SeqAt.canLay_of_shaped (sh_ints ns))]
  exact h
theorem k_eqLS {p q : Addr} {ns : List Int} (h1 : H p = some (.lst (ns.map V.int))) (h2 : H q = some (.lst (ns.map V.int))) (h : Q (.bl true) H) : rEqD K (.ref p) (.ref q) H Q := by
  refine k_eqD (.lst (sql_lst h1) (dp_ints ns)) (.lst (sql_lst h2) (dp_ints ns)) (sh_ints ns) (sh_ints ns) ?_
  rw [SeqAt.eqv_refl _ (SeqAt.canLay_of_shaped (sh_ints ns))]
  exact h
theorem k_isBB {a b : Bool} (h : Q (.bl (decide (a = b))) H) : rIsB (.bl a) (.bl b) H Q := ⟨a, b, rfl, rfl, h⟩
theorem TupsAt.app {as bs : List Addr} {rs qs : List (List Int)} (A : TupsAt H as rs) (B : TupsAt H bs qs) : TupsAt H (as ++ bs) (rs ++ qs) := by
  refine ⟨by rw [List.length_append, List.length_append, A.1, B.1], fun i a r h1 h2 => ?_⟩
  by_cases lt : i < as.length
  · rw [List.getElem?_append_left lt] at h1
    rw [List.getElem?_append_left (by rw [← A.1]; exact lt)] at h2
    exact A.2 i a r h1 h2
  · rw [List.getElem?_append_right (by omega)] at h1
    rw [List.getElem?_append_right (by rw [← A.1]; omega), ← A.1] at h2
    exact B.2 _ a r h1 h2
end
end Bk
/-! classes: in the order of their heads, those of both sides together -/
namespace Bk
open PySem PySem.Spec PyProof.Rows L2 BkS
theorem clsAdd_hd {tell : Int → List Int} {m : Int} : ∀ {rs : List (List Int)}, (∀ r ∈ rs, r ≠ []) → ((clsAdd tell rs m).map fun r => r.headD 0) = rs.map (fun r => r.headD 0) ∨ ((clsAdd tell rs m).map fun r => r.headD 0) = rs.map (fun r => r.headD 0) ++ [m]
  | [], _ => .inr rfl
  | x :: xs, h => by
    unfold clsAdd
    split
    · left
      rw [List.map_cons, List.map_cons, headD_app (h x (by simp))]
    · rcases clsAdd_hd (tell := tell) (m := m) (rs := xs) fun r hr => h r (by simp [hr]) with e | e
      · left
        rw [List.map_cons, e, List.map_cons]
      · right
        rw [List.map_cons, e, List.map_cons]
        rfl
theorem cls_rise (tell : Int → List Int) {ns : List Int} (pw : ns.Pairwise (· < ·)) : ((clsL tell ns).map fun r => r.headD 0).Pairwise (· < ·) := by
  have go : ∀ (ns pre : List Int) (rs : List (List Int)), ClsI tell pre rs → (pre ++ ns).Pairwise (· < ·) → (rs.map fun r => r.headD 0).Pairwise (· < ·) → ((ns.foldl (clsAdd tell) rs).map fun r => r.headD 0).Pairwise (· < ·) := by
    intro ns
    induction ns with
    | nil => exact fun pre rs _ _ h => h
    | cons n ns ih =>
      intro pre rs I p h
      have p' : (pre ++ [n] ++ ns).Pairwise (· < ·) := by rw [List.append_assoc]; exact p
      refine ih (pre ++ [n]) _ (I.add n) p' ?_
      rcases clsAdd_hd (tell := tell) (m := n) I.ne with e | e
      · rw [e]
        exact h
      · rw [e]
        refine List.pairwise_append.mpr ⟨h, by simp, fun a ha b hb => ?_⟩
        obtain ⟨r, hr, rfl⟩ := List.mem_map.mp ha
        simp at hb
        subst hb
        have := (List.pairwise_append.mp p).2.2 _ (I.mem hr (I.head hr)) b (by simp)
        exact this
  exact go ns [] [] ⟨by simp, by simp, by simp, by simp⟩ (by simpa using pw) (by simp)
/-- classes of these makes -/
structure RowsOf (tell : Int → List Int) (ns : List Int) (rs : List (List Int)) : Prop where
  all : ∀ r ∈ rs, r ≠ [] ∧ r = ns.filter fun y => decide (tell y = tell (r.headD 0))
  rise : (rs.map fun r => r.headD 0).Pairwise (· < ·)
theorem rowsOf_cls (tell : Int → List Int) {ns : List Int} (pw : ns.Pairwise (· < ·)) : RowsOf tell ns (clsL tell ns) :=
  ⟨fun r hr => ⟨(clsS tell ns).i.ne r hr, (clsS tell ns).all r hr⟩, cls_rise tell pw⟩
theorem RowsOf.eq {tell : Int → List Int} {ns : List Int} {rs qs : List (List Int)} (A : RowsOf tell ns rs) (B : RowsOf tell ns qs) (h : ∀ r, r ∈ rs ↔ r ∈ qs) : rs = qs := by
  have hh : (rs.map fun r => r.headD 0) = qs.map fun r => r.headD 0 := pw_ext A.rise B.rise fun k => by
    simp only [List.mem_map]
    exact ⟨fun ⟨r, hr, e⟩ => ⟨r, (h r).mp hr, e⟩, fun ⟨r, hr, e⟩ => ⟨r, (h r).mpr hr, e⟩⟩
  have back : ∀ {rs : List (List Int)}, RowsOf tell ns rs → rs = (rs.map fun r => r.headD 0).map fun k => ns.filter fun y => decide (tell y = tell k) := fun {rs} A => by
    rw [List.map_map]
    exact (List.map_id rs).symm.trans (List.map_congr_left fun r hr => (A.all r hr).2)
  rw [back A, back B, hh]
theorem cls_mem {tell : Int → List Int} {ns r : List Int} : r ∈ clsL tell ns ↔ ∃ x ∈ ns, r = ns.filter fun y => decide (tell y = tell x) := by
  constructor
  · intro h
    have S := clsS tell ns
    exact ⟨r.headD 0, S.i.mem h (S.i.head h), S.all r h⟩
  · rintro ⟨x, hx, rfl⟩
    exact cls_of hx
/-- a make that is free parts no class -/
theorem tell_cm {rows : List (List Int)} {fs : List Int} {a b : Int} {m : Nat} (hm : (m : Int) ∈ fs) (h : tellL rows fs a = tellL rows fs b) : Cm rows m a.toNat ↔ Cm rows m b.toNat := by
  have := tell_eq.mp h _ hm
  rwa [show ((m : Int)).toNat = m by omega] at this
theorem side_filter {rows : List (List Int)} {fs ns : List Int} {m : Nat} {x : Int} (hm : (m : Int) ∈ fs) :
    (Cm rows m x.toNat → (badL rows m ns).filter (fun y => decide (tellL rows fs y = tellL rows fs x)) = ns.filter fun y => decide (tellL rows fs y = tellL rows fs x)) ∧
    (¬ Cm rows m x.toNat → (goodL rows m ns).filter (fun y => decide (tellL rows fs y = tellL rows fs x)) = ns.filter fun y => decide (tellL rows fs y = tellL rows fs x)) := by
  unfold badL goodL
  rw [List.filter_filter, List.filter_filter]
  constructor
  · intro c
    refine List.filter_congr fun y _ => ?_
    by_cases e : tellL rows fs y = tellL rows fs x
    · simp [e, (tell_cm hm e).mpr c]
    · simp [e]
  · intro c
    refine List.filter_congr fun y _ => ?_
    by_cases e : tellL rows fs y = tellL rows fs x
    · have c' : ¬ Cm rows m y.toNat := fun z => c ((tell_cm hm e).mp z)
      simp [e, c']
    · simp [e]
theorem sides_cls {rows : List (List Int)} {fs ns : List Int} {m : Nat} (hm : (m : Int) ∈ fs) (r : List Int) :
    (r ∈ clsL (tellL rows fs) (badL rows m ns) ++ clsL (tellL rows fs) (goodL rows m ns)) ↔ r ∈ clsL (tellL rows fs) ns := by
  have mb : ∀ x, x ∈ badL rows m ns ↔ x ∈ ns ∧ Cm rows m x.toNat := fun x => by unfold badL; rw [List.mem_filter, decide_eq_true_eq]
  have mg : ∀ x, x ∈ goodL rows m ns ↔ x ∈ ns ∧ ¬ Cm rows m x.toNat := fun x => by unfold goodL; rw [List.mem_filter, Bool.not_eq_true', decide_eq_false_iff_not]
  rw [List.mem_append, cls_mem, cls_mem, cls_mem]
  constructor
  · rintro (⟨x, hx, e⟩ | ⟨x, hx, e⟩)
    · rw [mb] at hx
      exact ⟨x, hx.1, e.trans ((side_filter hm).1 hx.2)⟩
    · rw [mg] at hx
      exact ⟨x, hx.1, e.trans ((side_filter hm).2 hx.2)⟩
  · rintro ⟨x, hx, e⟩
    by_cases c : Cm rows m x.toNat
    · exact .inl ⟨x, (mb x).mpr ⟨hx, c⟩, e.trans ((side_filter hm).1 c).symm⟩
    · exact .inr ⟨x, (mg x).mpr ⟨hx, c⟩, e.trans ((side_filter hm).2 c).symm⟩
/-- rows that are sorted by their heads, of both sides' classes, are the classes -/
theorem sorted_cls {rows : List (List Int)} {fs ns : List Int} {m : Nat} (pw : ns.Pairwise (· < ·)) (hm : (m : Int) ∈ fs) {qs : List (List Int)} (hp : qs.Perm (clsL (tellL rows fs) (badL rows m ns) ++ clsL (tellL rows fs) (goodL rows m ns)))
    (hs : qs.Pairwise fun x y => x.headD 0 ≤ y.headD 0) : qs = clsL (tellL rows fs) ns := by
  have mem : ∀ r, r ∈ qs ↔ r ∈ clsL (tellL rows fs) ns := fun r => hp.mem_iff.trans (sides_cls hm r)
  have Rc := rowsOf_cls (tellL rows fs) pw
  refine RowsOf.eq ⟨fun r hr => Rc.all r ((mem r).mp hr), ?_⟩ Rc mem
  have nd : (qs.map fun r => r.headD 0).Nodup := by
    have pb := cls_rise (tellL rows fs) (List.Pairwise.filter _ pw : (badL rows m ns).Pairwise (· < ·))
    have pg := cls_rise (tellL rows fs) (List.Pairwise.filter _ pw : (goodL rows m ns).Pairwise (· < ·))
    refine (hp.map fun r => r.headD 0).nodup_iff.mpr ?_
    rw [List.map_append]
    refine List.nodup_append.mpr ⟨pb.imp fun h => Int.ne_of_lt h, pg.imp fun h => Int.ne_of_lt h, fun a ha b hb e => ?_⟩
    obtain ⟨r, hr, rfl⟩ := List.mem_map.mp ha
    obtain ⟨q, hq, rfl⟩ := List.mem_map.mp hb
    have S1 := clsS (tellL rows fs) (badL rows m ns)
    have S2 := clsS (tellL rows fs) (goodL rows m ns)
    have h1 := S1.i.mem hr (S1.i.head hr)
    have h2 := S2.i.mem hq (S2.i.head hq)
    unfold badL at h1
    unfold goodL at h2
    rw [List.mem_filter] at h1 h2
    rw [← e] at h2
    have c1 := of_decide_eq_true h1.2
    have c2 := h2.2
    rw [Bool.not_eq_true', decide_eq_false_iff_not] at c2
    exact c2 c1
  have h2 : (qs.map fun r => r.headD 0).Pairwise (· ≤ ·) := List.pairwise_map.mpr hs
  exact (h2.and nd).imp fun {a b} h => by
    have := h.1
    have := h.2
    omega
theorem sorted_is {xs ns : List Int} (hp : xs.Perm ns) (hs : xs.Pairwise (· ≤ ·)) (pw : ns.Pairwise (· < ·)) : xs = ns := by
  have nd : xs.Nodup := hp.nodup_iff.mpr (pw.imp fun h => Int.ne_of_lt h)
  exact pw_ext ((hs.and nd).imp fun {a b} h => by
    have := h.1
    have := h.2
    omega) pw fun k => hp.mem_iff
theorem parts_perm (rows : List (List Int)) (m : Nat) : ∀ ns : List Int, (badL rows m ns ++ goodL rows m ns).Perm ns
  | [] => .refl _
  | k :: ns => by
    have ih := parts_perm rows m ns
    unfold badL goodL at ih ⊢
    rw [List.filter_cons, List.filter_cons]
    by_cases h : Cm rows m k.toNat
    · rw [if_pos (by simpa using h), if_neg (by simpa using h)]
      exact ih.cons k
    · rw [if_neg (by simpa using h), if_pos (by simpa using h)]
      exact List.perm_middle.trans (ih.cons k)
/-- a class is one class -/
theorem cls_self {tell : Int → List Int} {ns r : List Int} (h : r ∈ clsL tell ns) : clsL tell r = [r] := by
  have S := clsS tell ns
  have ne := S.i.ne r h
  have same := S.i.same r h
  have one : (clsL tell r).length ≤ 1 := cls_one.mpr fun a ha b hb => (same a ha).trans (same b hb).symm
  have me : r ∈ clsL tell r := by
    have := cls_of (tell := tell) (S.i.head h)
    have e : (r.filter fun y => decide (tell y = tell (r.headD 0))) = r := List.filter_eq_self.mpr fun y hy => decide_eq_true (same y hy)
    rwa [e] at this
  match hc : clsL tell r, one, me with
  | [], _, me => cases me
  | [q], _, me => rw [List.mem_singleton.mp me]
  | _ :: _ :: _, o, _ => simp at o
/-- what parts two classes' heads -/
theorem apart_ex {rows : List (List Int)} {fs : List Int} {a b : Int} (h : tellL rows fs a ≠ tellL rows fs b) : ∃ f ∈ fs, ¬ (Cm rows f.toNat a.toNat ↔ Cm rows f.toNat b.toNat) := by
  refine Classical.byContradiction fun n => h (tell_eq.mpr fun f hf => Classical.byContradiction fun c => n ⟨f, hf, c⟩)
theorem least_mem {rows : List (List Int)} {x y : Nat} {gs : List Int} (h : tellL rows (freeL rows.length gs) (x : Int) ≠ tellL rows (freeL rows.length gs) (y : Int)) :
    ∃ f : Nat, leastV rows x y gs = .int (f : Int) ∧ f < rows.length ∧ (f : Int) ∈ freeL rows.length gs ∧ ¬ (Cm rows f x ↔ Cm rows f y) := by
  obtain ⟨f, hf, hc⟩ := apart_ex h
  have hp : prt rows x y f = true := by
    unfold prt
    rw [Bool.not_eq_true', decide_eq_false_iff_not]
    intro e
    have e' := decide_eq_decide.mp e
    exact hc (by simpa using e')
  unfold leastV
  cases hl : (freeL rows.length gs).filter (prt rows x y) with
  | nil =>
    have : f ∈ (freeL rows.length gs).filter (prt rows x y) := List.mem_filter.mpr ⟨hf, hp⟩
    rw [hl] at this
    cases this
  | cons k r =>
    have mk : k ∈ (freeL rows.length gs).filter (prt rows x y) := by rw [hl]; simp
    obtain ⟨m1, m2⟩ := List.mem_filter.mp mk
    have b := freeL_mem.mp m1
    have ek : ((k.toNat : Nat) : Int) = k := by omega
    refine ⟨k.toNat, by rw [ek]; rfl, by omega, by rw [ek]; exact m1, fun c => ?_⟩
    unfold prt at m2
    rw [Bool.not_eq_true', decide_eq_false_iff_not] at m2
    exact m2 (decide_eq_decide.mpr c)
theorem cut_last (xs : List V) : cutV xs none (some (-1)) = xs.take (xs.length - 1) := by
  unfold cutV
  have e1 : HT.sIx xs.length 0 none = 0 := rfl
  have e2 : HT.sIx xs.length xs.length (some (-1)) = xs.length - 1 := by
    unfold HT.sIx
    show (if (-1 : Int) < 0 then (-1 + (xs.length : Int)).toNat else min (-1 : Int).toNat xs.length) = xs.length - 1
    rw [if_pos (by decide)]
    omega
  rw [e1, e2, List.drop_zero, Nat.sub_zero]
/-! ### what is asked of the defs of the law -/
def spSidesGood (K : PySem.W.Frag) : Sp := fun vs H Q _ => ∃ (p l g th : Addr) (bs as : List Addr) (rows : List (List Int)) (ms ns gs : List Int) (m : Nat), vs = [.ref p, .ref l, .ref g, .ref th, .int (m : Nat)] ∧ NetAt H p bs rows ∧ RowsOk rows ∧ rows.length ≤ 40 ∧ H l = some (.lst (ms.map V.int)) ∧ ms.length ≤ 50 ∧ (∀ k ∈ ms, goodM rows.length k) ∧
  H g = some (.lst (gs.map V.int)) ∧ gs.length ≤ 100 ∧ (∀ k ∈ gs, goodM rows.length k) ∧ ns.Pairwise (· < ·) ∧ (∀ k, k ∈ ns ↔ k ∈ ms) ∧ ns.length ≤ 40 ∧ m < rows.length ∧ (m : Int) ∈ freeL rows.length gs ∧ badL rows m ns ≠ [] ∧ goodL rows m ns ≠ [] ∧ H th = some (.lst (as.map V.ref)) ∧ TupsAt H as (clsL (tellL rows (freeL rows.length gs)) ns) ∧
  ∀ H', Same H H' → Q (.bl true) H'
def spNextApart (K : PySem.W.Frag) : Sp := fun vs H Q _ => ∃ (p g t a b : Addr) (bs : List Addr) (rows : List (List Int)) (ns gs us r1 r2 : List Int), vs = [.ref p, .ref g, .ref t, .ref a, .ref b] ∧ NetAt H p bs rows ∧ RowsOk rows ∧ rows.length ≤ 40 ∧ (∀ k ∈ ns, goodM rows.length k) ∧ ns.Pairwise (· < ·) ∧ ns.length ≤ 40 ∧
  H g = some (.lst (gs.map V.int)) ∧ gs.length ≤ 100 ∧ (∀ k ∈ gs, goodM rows.length k) ∧ H t = some (.lst ((usefL rows ns (freeL rows.length gs)).map V.int)) ∧ H a = some (.tup (r1.map V.int)) ∧ H b = some (.tup (r2.map V.int)) ∧ r1 ∈ clsL (tellL rows (freeL rows.length gs)) ns ∧ r2 ∈ clsL (tellL rows (freeL rows.length gs)) ns ∧ tellL rows (freeL rows.length gs) (r1.headD 0) ≠ tellL rows (freeL rows.length gs) (r2.headD 0) ∧
  ∀ H', Same H H' → Q (.bl true) H'
end Bk
/-! the leaves of a plan, each once, by their paths -/
namespace Bk
open PySem PySem.Spec PyProof.Rows L2 BkS
def pushS (s : Str) (z : List Str × List Int) : List Str × List Int := (s :: z.1, z.2)
def lvP : Pln → List (List Str × List Int)
  | .left ms => [([], ms)]
  | .tri _ b g => (lvP b).map (pushS (agV false)) ++ (lvP g).map (pushS (agV true))
theorem lvP_pos : ∀ p : Pln, 1 ≤ (lvP p).length
  | .left _ => Nat.le_refl _
  | .tri _ b g => by
    have := lvP_pos b
    simp only [lvP, List.length_append, List.length_map]
    omega
theorem lvP_path : ∀ (p : Pln), ∀ z ∈ lvP p, z.1.length ≤ p.dep
  | .left ms, z, h => by
    simp only [lvP, List.mem_singleton] at h
    subst h
    exact Nat.zero_le _
  | .tri m b g, z, h => by
    simp only [lvP, List.mem_append, List.mem_map] at h
    simp only [Pln.dep]
    rcases h with ⟨y, hy, rfl⟩ | ⟨y, hy, rfl⟩
    · have := lvP_path b y hy
      simp only [pushS, List.length_cons]
      omega
    · have := lvP_path g y hy
      simp only [pushS, List.length_cons]
      omega
theorem lvP_ok : ∀ (p : Pln), p.ok → ∀ z ∈ lvP p, msOk z.2
  | .left ms, o, z, h => by
    simp only [lvP, List.mem_singleton] at h
    subst h
    exact o
  | .tri m b g, o, z, h => by
    simp only [lvP, List.mem_append, List.mem_map] at h
    rcases h with ⟨y, hy, rfl⟩ | ⟨y, hy, rfl⟩
    · exact lvP_ok b o.2.1 y hy
    · exact lvP_ok g o.2.2 y hy
theorem ag_ne : agV false ≠ agV true := by decide +kernel
theorem ag_lt : decide ((agV false).cps.toList < (agV true).cps.toList) = true := by decide +kernel
theorem lvP_sorted : ∀ p : Pln, (lvP p).Pairwise fun x y => lexLtS x.1 y.1 = true
  | .left ms => by simp [lvP]
  | .tri m b g => by
    have up : ∀ (s : Str) (l : List (List Str × List Int)), (l.Pairwise fun x y => lexLtS x.1 y.1 = true) → (l.map (pushS s)).Pairwise fun x y => lexLtS x.1 y.1 = true := fun s l h => by
      rw [List.pairwise_map]
      refine h.imp fun {x y} e => ?_
      show (if s = s then lexLtS x.1 y.1 else _) = true
      rw [if_pos rfl]
      exact e
    refine List.pairwise_append.mpr ⟨up _ _ (lvP_sorted b), up _ _ (lvP_sorted g), fun x hx y hy => ?_⟩
    obtain ⟨x', _, rfl⟩ := List.mem_map.mp hx
    obtain ⟨y', _, rfl⟩ := List.mem_map.mp hy
    show (if agV false = agV true then lexLtS x'.1 y'.1 else _) = true
    rw [if_neg ag_ne]
    exact ag_lt
/-- leaves laid -/
def LfAt (H : Hp) (a : Addr) (z : List Str × List Int) : Prop := ∃ u v : Addr, H a = some (.tup [.ref u, .ref v]) ∧ H u = some (.tup (z.1.map V.str)) ∧ H v = some (.tup (z.2.map V.int))
theorem LfAt.same {H H' : Hp} {a : Addr} {z : List Str × List Int} (h : LfAt H a z) (s : Same H H') : LfAt H' a z := by
  obtain ⟨u, v, h1, h2, h3⟩ := h
  exact ⟨u, v, s _ _ h1, s _ _ h2, s _ _ h3⟩
theorem LfAt.lst {H : Hp} {a l : Addr} {xs : List V} {o : HO} {z : List Str × List Int} (hl : H l = some (.lst xs)) (h : LfAt H a z) : LfAt (upd H l o) a z := by
  obtain ⟨u, v, h1, h2, h3⟩ := h
  exact ⟨u, v, by rw [upd_ne (ne_of h1 hl (by intro z; cases z))]; exact h1, by rw [upd_ne (ne_of h2 hl (by intro z; cases z))]; exact h2, by rw [upd_ne (ne_of h3 hl (by intro z; cases z))]; exact h3⟩
def LvAt (H : Hp) (as : List Addr) (zs : List (List Str × List Int)) : Prop := as.length = zs.length ∧ ∀ (i : Nat) (a : Addr) (z : List Str × List Int), as[i]? = some a → zs[i]? = some z → LfAt H a z
theorem LvAt.nil {H : Hp} : LvAt H [] [] := ⟨rfl, fun i a z h _ => by simp at h⟩
theorem LvAt.same {H H' : Hp} {as : List Addr} {zs : List (List Str × List Int)} (h : LvAt H as zs) (s : Same H H') : LvAt H' as zs := ⟨h.1, fun i a z h1 h2 => (h.2 i a z h1 h2).same s⟩
theorem LvAt.lst {H : Hp} {l : Addr} {xs : List V} {o : HO} {as : List Addr} {zs : List (List Str × List Int)} (hl : H l = some (.lst xs)) (h : LvAt H as zs) : LvAt (upd H l o) as zs := ⟨h.1, fun i a z h1 h2 => (h.2 i a z h1 h2).lst hl⟩
theorem LvAt.app {H : Hp} {as bs : List Addr} {zs ys : List (List Str × List Int)} (A : LvAt H as zs) (B : LvAt H bs ys) : LvAt H (as ++ bs) (zs ++ ys) := by
  refine ⟨by rw [List.length_append, List.length_append, A.1, B.1], fun i a r h1 h2 => ?_⟩
  by_cases lt : i < as.length
  · rw [List.getElem?_append_left lt] at h1
    rw [List.getElem?_append_left (by rw [← A.1]; exact lt)] at h2
    exact A.2 i a r h1 h2
  · rw [List.getElem?_append_right (by omega)] at h1
    rw [List.getElem?_append_right (by rw [← A.1]; omega), ← A.1] at h2
    exact B.2 _ a r h1 h2
theorem LvAt.one {H : Hp} {a : Addr} {z : List Str × List Int} (h : LfAt H a z) : LvAt H [a] [z] := ⟨rfl, fun i b y h1 h2 => by
  cases i with
  | zero =>
    cases h1
    cases h2
    exact h
  | succ i => simp at h1⟩
/-! ### the tree that grew has one leaf more than tries -/
inductive Tree (C : List Nd) : Nat → List Nat → Prop
  | leaf {j : Nat} {t : Addr} {ms : List Int} : C[j]? = some (.leaf t ms) → Tree C j [j]
  | tri {j l r : Nat} {m : Int} {xs ys : List Nat} : C[j]? = some (.tri m l r) → Tree C l xs → Tree C r ys → Tree C j (xs ++ ys)
def splitN (i n : Nat) (k : Nat) : List Nat := if k = i then [n, n + 1] else [k]
theorem Tree.grow {C : List Nd} {i : Nat} {t0 t1 t2 : Addr} {m0 m1 m2 : List Int} {m : Int} (hc : C[i]? = some (.leaf t0 m0)) {j : Nat} {ls : List Nat} (h : Tree C j ls) :
    Tree (C.set i (.tri m C.length (C.length + 1)) ++ [.leaf t1 m1, .leaf t2 m2]) j (ls.flatMap (splitN i C.length)) := by
  have li := (List.getElem?_eq_some_iff.mp hc).1
  have old : ∀ {k : Nat} {c : Nd}, k ≠ i → C[k]? = some c → (C.set i (.tri m C.length (C.length + 1)) ++ [.leaf t1 m1, .leaf t2 m2])[k]? = some c := fun {k c} n h => by
    have lk := (List.getElem?_eq_some_iff.mp h).1
    rw [List.getElem?_append_left (by rw [List.length_set]; exact lk), List.getElem?_set, if_neg (fun e => n e.symm)]
    exact h
  induction h with
  | @leaf j t ms hj =>
    by_cases e : j = i
    · subst e
      have n1 : (C.set j (.tri m C.length (C.length + 1)) ++ [.leaf t1 m1, .leaf t2 m2])[j]? = some (.tri m C.length (C.length + 1)) := by
        rw [List.getElem?_append_left (by rw [List.length_set]; exact li), List.getElem?_set, if_pos rfl, if_pos li]
      have n2 : (C.set j (.tri m C.length (C.length + 1)) ++ [.leaf t1 m1, .leaf t2 m2])[C.length]? = some (.leaf t1 m1) := by
        rw [List.getElem?_append_right (by rw [List.length_set]; exact Nat.le_refl _), List.length_set, Nat.sub_self]
        rfl
      have n3 : (C.set j (.tri m C.length (C.length + 1)) ++ [.leaf t1 m1, .leaf t2 m2])[C.length + 1]? = some (.leaf t2 m2) := by
        rw [List.getElem?_append_right (by rw [List.length_set]; omega), List.length_set, Nat.add_sub_cancel_left]
        rfl
      have z := Tree.tri n1 (.leaf n2) (.leaf n3)
      have e2 : [j].flatMap (splitN j C.length) = [C.length] ++ [C.length + 1] := by simp [splitN]
      rw [e2]
      exact z
    · have e2 : [j].flatMap (splitN i C.length) = [j] := by simp [splitN, e]
      rw [e2]
      exact .leaf (old e hj)
  | @tri j l r m' xs ys hj h1 h2 i1 i2 =>
    have e : j ≠ i := fun e => by
      subst e
      rw [hc] at hj
      cases hj
    rw [List.flatMap_append]
    exact .tri (old e hj) i1 i2
theorem split_none {i n : Nat} : ∀ {L : List Nat}, i ∉ L → L.flatMap (splitN i n) = L
  | [], _ => rfl
  | x :: L, h => by
    rw [List.flatMap_cons, split_none fun z => h (List.mem_cons_of_mem _ z)]
    have : x ≠ i := fun e => h (by rw [e]; simp)
    unfold splitN
    rw [if_neg this]
    rfl
theorem split_perm {i n : Nat} : ∀ {L : List Nat} {k : Nat}, L.Nodup → L[k]? = some i → (L.flatMap (splitN i n)).Perm (L.eraseIdx k ++ [n, n + 1])
  | [], k, _, h => by simp at h
  | x :: L, 0, nd, h => by
    rw [List.nodup_cons] at nd
    have e : x = i := by simpa using h
    subst e
    rw [List.flatMap_cons, split_none nd.1]
    unfold splitN
    rw [if_pos rfl]
    exact List.perm_append_comm
  | x :: L, k + 1, nd, h => by
    rw [List.nodup_cons] at nd
    have hk : L[k]? = some i := by simpa using h
    have e : x ≠ i := fun e => nd.1 (by rw [e]; exact List.mem_of_getElem? hk)
    rw [List.flatMap_cons]
    have ih := split_perm (n := n) nd.2 hk
    unfold splitN
    rw [if_neg e]
    exact ih.cons x
theorem Tree.pln {G H : Hp} {A : List Addr} {C : List Nd} (g : Grove G H A C) {j : Nat} {ls : List Nat} (h : Tree C j ls) : ∃ p : Pln, LsAt H p (A.getD j 0) ∧ (lvP p).length = ls.length := by
  have look : ∀ {k : Nat} {c : Nd}, C[k]? = some c → H (A.getD k 0) = some (.lst (ndV A c)) := fun {k c} h => by
    have lk := (List.getElem?_eq_some_iff.mp h).1
    refine g.at' k _ c ?_ h
    rw [List.getD_eq_getElem?_getD, List.getElem?_eq_getElem (by rw [g.len]; exact lk)]
    rfl
  induction h with
  | @leaf j t ms hj => exact ⟨.left ms, ⟨t, look hj, (g.lf j t ms hj).1⟩, rfl⟩
  | @tri j l r m xs ys hj h1 h2 i1 i2 =>
    obtain ⟨b, b1, b2⟩ := i1
    obtain ⟨d, d1, d2⟩ := i2
    refine ⟨.tri m b d, ⟨_, _, look hj, b1, d1⟩, ?_⟩
    simp only [lvP, List.length_append, List.length_map, b2, d2]
theorem ints_inj : ∀ {xs ys : List Int}, xs.map V.int = ys.map V.int → xs = ys
  | [], [], _ => rfl
  | [], _ :: _, h => by simp at h
  | _ :: _, [], h => by simp at h
  | x :: xs, y :: ys, h => by
    simp only [List.map_cons, List.cons.injEq] at h
    have e1 : x = y := by
      have := h.1
      injection this
    rw [e1, ints_inj h.2]
theorem LsAt.uniq {H : Hp} : ∀ {p q : Pln} {a : Addr}, LsAt H p a → LsAt H q a → p = q
  | .left ms, .left ns, a, ⟨t, h1, h2⟩, ⟨u, k1, k2⟩ => by
    rw [h1] at k1
    have et : t = u := by simpa using k1
    subst et
    rw [h2] at k2
    have em : ms.map V.int = ns.map V.int := by
      injection k2 with k2
      injection k2
    rw [ints_inj em]
  | .left ms, .tri m b g, a, ⟨t, h1, _⟩, ⟨x, y, k1, _⟩ => by
    rw [h1] at k1
    simp at k1
  | .tri m b g, .left ms, a, ⟨x, y, h1, _⟩, ⟨t, k1, _⟩ => by
    rw [h1] at k1
    simp at k1
  | .tri m b g, .tri m' b' g', a, ⟨x, y, h1, h2, h3⟩, ⟨x', y', k1, k2, k3⟩ => by
    rw [h1] at k1
    simp only [Option.some.injEq, HO.lst.injEq, List.cons.injEq, V.int.injEq, V.ref.injEq, true_and, and_true] at k1
    obtain ⟨e1, e2, e3⟩ := k1
    subst e1 e2 e3
    rw [LsAt.uniq h2 k2, LsAt.uniq h3 k3]
/-! ### readings -/
section
variable {σ : L2.St} {H : Hp} {K : PySem.W.Frag}
theorem ob_star {X : Cx} {K : PySem.W.Frag} {e : Expr} {es : List Expr} {te : TE} {t : TA} {p : Pos} (hK : X.K = K) (he : PE X e te) (hr : PA X es t) : PA X (.Starred e p :: es) (StX.tStar K te t) := by subst hK; exact StX.pa_star he hr
def kStar (K : PySem.W.Frag) (t : TA) (σ : L2.St) (Q : List V → Hp → Prop) (x : V) (H1 : Hp) : Prop := ∃ p xs, x = V.ref p ∧ (SqT K H1 p xs ∨ SqL K H1 p xs) ∧ t σ H1 fun ys H2 => Q (xs ++ ys) H2
theorem r_star {te : TE} {t : TA} {Q : List V → Hp → Prop} (h : te σ H fun x H1 => kStar K t σ Q x H1) : StX.tStar K te t σ H Q := h
theorem k_star {t : TA} {Q : List V → Hp → Prop} {p : Addr} {xs : List V} (h : SqT K H p xs ∨ SqL K H p xs) (q : t σ H fun ys H2 => Q (xs ++ ys) H2) : kStar K t σ Q (.ref p) H := ⟨p, xs, rfl, h, q⟩
end
theorem k_neTI {K : PySem.W.Frag} {H : Hp} {Q : VK} {p q : Addr} {ns : List Int} (h1 : H p = some (.tup (ns.map V.int))) (h2 : H q = some (.tup (ns.map V.int))) (h : Q (.bl false) H) : rNeD K (.ref p) (.ref q) H Q := by
  refine k_neD (.tup (sqt_tup h1) (dp_ints ns)) (.tup (sqt_tup h2) (dp_ints ns)) (sh_intsT ns) (sh_intsT ns) ?_
  rw [SeqAt.eqv_refl _ (SeqAt.canLay_of_shaped (sh_intsT ns))]
  exact h
/-! ### what is asked -/
def spLeavesB (d : Nat) : Sp := fun vs H Q _ => ∃ (a : Addr) (p : Pln), vs = [.ref a] ∧ TpAt H p a ∧ p.dep ≤ d ∧ p.dep ≤ 100 ∧ (lvP p).length ≤ 1000 ∧ ∀ (l : Addr) (as : List Addr) (H' : Hp), Same H H' → H l = none → H' l = some (.lst (as.map V.ref)) → LvAt H' as (lvP p) → Q (.ref l) H'
def spLeavesF : Nat → Sp
  | 0 => spNever
  | n + 1 => spLeavesB n
def spLedL : Sp := fun vs H Q _ => ∃ (a t : Addr) (p : Pln) (ss : List Str) (ms : List Int), vs = [.ref a, .ref t] ∧ LsAt H p a ∧ H t = some (.tup (ss.map V.str)) ∧ (ss, ms) ∈ lvP p ∧ ∀ (v : Addr) (H' : Hp), Same H H' → H' v = some (.tup (ms.map V.int)) → Q (.ref v) H'
def spRightL : Sp := fun vs H Q _ => ∃ (l top : Addr) (as : List Addr) (p : Pln) (many : Nat), vs = [.ref l, .ref top, .int (many : Int)] ∧ H l = some (.lst (as.map V.ref)) ∧ LvAt H as (lvP p) ∧ LsAt H p top ∧ (lvP p).length = many + 1 ∧ many ≤ 100 ∧ p.dep ≤ 100 ∧ p.ok ∧ ∀ H', Same H H' → Q (.bl true) H'
def spGrown31 : Sp := fun vs H Q _ => ∃ (G : Hp) (d : Addr) (b : Nat), vs = [.ref d] ∧ DeckL G H d b ∧ b ≤ 100000 ∧
  ∀ (u top : Addr) (p : Pln) (many : Nat) (G' H' : Hp), Same G G' → G' u = some (.tup [.ref top, .int (many : Int)]) → LsAt G' p top → p.dep ≤ 59 → p.ok → (lvP p).length = many + 1 → many ≤ 60 → DeckL G' H' d (b + 1000) → Q (.ref u) H'
end Bk
/-! texts: plans written by names -/
namespace Bk
open PySem PySem.Spec PyProof.Rows L2
/-! ### f'..', join -/
def tJoined (ts : List TE) : TE := fun σ H Q => tJs ts Str.empty σ H fun out H1 => Q (.str out) H1
section
variable {X : Cx}
theorem pe_joinedB {v1 v2 : Expr} {rest : List Expr} {ts : List TE} {pos : Pos} (h : PJ X (v1 :: v2 :: rest) ts) : PE X (.JoinedStr (v1 :: v2 :: rest) pos) (tJoined ts) := pe_joined h
theorem ob_join {K : PySem.W.Frag} {o e : Expr} {to te : TE} {apos pos : Pos} (hK : X.K = K) (ho : PE X o to) (he : PE X e te) (hs : starEach [e] X.env = [(false, eval e X.env)] := by rfl) (hbase : attributeBase o "join" X.env (eval o X.env) = eval o X.env := by rfl) (hline : (apos.endLine == pos.line) = true := by rfl) :
    PE X (.Call (.Attribute o "join" apos) [e] [] pos) (tM1 (fun x xs H Q => ∃ a p, ∃ ys : List Str, x = .str a ∧ xs = [.ref p] ∧ (SqL K H p (ys.map V.str) ∨ SqT K H p (ys.map V.str)) ∧
      (ys.map (·.length)).sum + ys.length * a.length ≤ 16777216 ∧ Q (.str (Txt.join a ys)) H) to te) := by subst hK; exact pe_join ho he hs hbase hline
end
section
variable {σ : L2.St} {H : Hp} {Q : VK}
def kJs (ts : List TE) (acc : Str) (σ : L2.St) (Q : Str → Hp → Prop) (x : V) (H1 : Hp) : Prop := ∃ y : Str, x = .str y ∧ (acc ++ y).length ≤ sizeLine ∧ tJs ts (acc ++ y) σ H1 Q
theorem r_joined {ts : List TE} (h : tJs ts Str.empty σ H fun out H1 => Q (.str out) H1) : tJoined ts σ H Q := h
theorem r_js {t : TE} {ts : List TE} {acc : Str} {R : Str → Hp → Prop} (h : t σ H fun x H1 => kJs ts acc σ R x H1) : tJs (t :: ts) acc σ H R := h
theorem k_js {ts : List TE} {acc y : Str} {R : Str → Hp → Prop} (hz : acc.length + y.length ≤ 100000) (h : tJs ts (acc ++ y) σ H R) : kJs ts acc σ R (.str y) H := ⟨y, rfl, by rw [Str.length_append]; exact smallE (by omega), h⟩
theorem r_jsN {acc : Str} {R : Str → Hp → Prop} (h : R acc H) : tJs [] acc σ H R := h
theorem r_fmt {te : TE} (h : te σ H fun x H1 => (∃ y : Str, x = .str y ∧ y.length ≤ sizeLine ∧ Q (.str y) H1) ∨ ∃ i : Int, x = .int i ∧ i.natAbs.log2 < 1920 ∧ Q (.str (toString i)) H1) : tFmt te σ H Q := h
theorem k_fmtS {y : Str} {Q : VK} (hz : y.length ≤ 100000) (q : Q (.str y) H) : (∃ z : Str, V.str y = .str z ∧ z.length ≤ sizeLine ∧ Q (.str z) H) ∨ ∃ i : Int, V.str y = .int i ∧ i.natAbs.log2 < 1920 ∧ Q (.str (toString i)) H := .inl ⟨y, rfl, smallE (by omega), q⟩
theorem r_tM1 {r : V → List V → Hp → VK → Prop} {to te : TE} (h : to σ H fun x H1 => (∃ a, x = .str a) ∧ te σ H1 fun y H2 => r x [y] H2 Q) : tM1 r to te σ H Q := h
end
def rCatSt : R2 := fun x y H Q => ∃ i j, x = .str i ∧ y = .str j ∧ i.length + j.length ≤ sizeLine ∧ Q (.str (i ++ j)) H
theorem op_add_strS {X : Cx} : OpR X (binaryOp .Add) rCatSt := op_add_str
theorem k_catS {H : Hp} {Q : VK} {i j : Str} (hz : i.length + j.length ≤ 100000) (q : Q (.str (i ++ j)) H) : rCatSt (.str i) (.str j) H Q := ⟨i, j, rfl, rfl, smallE (by omega), q⟩
/-! ### facts of texts -/
def NameOk (s : Str) : Prop := 1 ≤ s.length ∧ s.length ≤ 8 ∧ PyData.strOk s = true
theorem ok_app {a b : Str} (h1 : PyData.strOk a = true) (h2 : PyData.strOk b = true) : PyData.strOk (a ++ b) = true := by
  unfold PyData.strOk at *
  rw [Str.cps_append, Array.all_append, h1, h2]
  rfl
theorem ok_sub {a b : Str} (h : PyData.strOk a = true) (hs : ∀ c ∈ b.cps.toList, c ∈ a.cps.toList) : PyData.strOk b = true := by
  unfold PyData.strOk at *
  rw [Array.all_eq_true_iff_forall_mem] at h ⊢
  exact fun c hc => h c (Array.mem_toList_iff.mp (hs c (Array.mem_toList_iff.mpr hc)))
theorem cutS_mem {z : Str} {lo hi : Option Int} {c : Nat} (h : c ∈ (cutS z lo hi).cps.toList) : c ∈ z.cps.toList := by
  unfold cutS at h
  simp only [List.toList_toArray] at h
  exact List.mem_of_mem_drop (List.mem_of_mem_take h)
theorem ok_cut {z : Str} {lo hi : Option Int} (h : PyData.strOk z = true) : PyData.strOk (cutS z lo hi) = true := ok_sub h fun _ => cutS_mem
theorem cutS_len {z : Str} {lo hi : Option Int} : (cutS z lo hi).length ≤ z.length := by
  unfold cutS Str.length
  simp
  omega
/-- the letters -/
def abc : Str := "abcdefghijklmnopqrstuvwxyz"
theorem abc_len : abc.length = 26 := by decide +kernel
theorem abc_ok : PyData.strOk abc = true := by decide +kernel
theorem abc_nd : abc.cps.toList.Nodup := by decide +kernel
/-! ### a plan written -/
def txA (names : List Str) (ms : List Int) : Str := ms.foldl (fun s m => s ++ " " ++ names.getD m.toNat "") "="
def txP (names : List Str) : Pln → Str
  | .left ms => txA names ms
  | .tri m b g => names.getD m.toNat "" ++ " ( " ++ txP names b ++ " ) ( " ++ txP names g ++ " )"
def lvN : Pln → Nat
  | .left _ => 1
  | .tri _ b g => lvN b + lvN g
theorem lvN_pos : ∀ p : Pln, 1 ≤ lvN p
  | .left _ => Nat.le_refl _
  | .tri _ b g => by
    have := lvN_pos b
    have := lvN_pos g
    unfold lvN
    omega
theorem dep_lvN : ∀ p : Pln, p.dep + 1 ≤ lvN p
  | .left _ => Nat.le_refl _
  | .tri m b g => by
    have h1 := dep_lvN b
    have h2 := dep_lvN g
    have := lvN_pos b
    have := lvN_pos g
    simp only [Pln.dep, lvN]
    omega
/-- makes of the net, few at each end -/
def PlOk (n : Nat) : Pln → Prop
  | .left ms => (∀ m ∈ ms, goodM n m) ∧ ms.length ≤ 6
  | .tri m b g => goodM n m ∧ PlOk n b ∧ PlOk n g
theorem join_fold (sep : Str) : ∀ (ys : List Str) (x : Str), Str.join sep (x :: ys) = ys.foldl (fun s y => s ++ sep ++ y) x
  | [], x => rfl
  | y :: r, x => by
    have h := StrLaws.join_shift sep x y r
    rw [List.foldl_cons, ← join_fold sep r (x ++ sep ++ y), h]
    rfl
theorem txA_join (names : List Str) (ms : List Int) : Txt.join " " ("=" :: ms.map fun m => names.getD m.toNat "") = txA names ms := by
  rw [Txt.join, StrLaws.glued_eq_join, join_fold, List.foldl_map]
  rfl
theorem name_len {names : List Str} (h : ∀ s ∈ names, NameOk s) (i : Nat) : (names.getD i "").length ≤ 8 := by
  rw [List.getD_eq_getElem?_getD]
  cases e : names[i]? with
  | none => decide
  | some s => exact (h s (List.mem_of_getElem? e)).2.1
theorem txA_len {names : List Str} (h : ∀ s ∈ names, NameOk s) : ∀ (ms : List Int) (acc : Str), (ms.foldl (fun s m => s ++ " " ++ names.getD m.toNat "") acc).length ≤ acc.length + 9 * ms.length
  | [], acc => by simp
  | m :: ms, acc => by
    rw [List.foldl_cons]
    refine Nat.le_trans (txA_len h ms _) ?_
    rw [Str.length_append, Str.length_append, List.length_cons]
    have := name_len h m.toNat
    have e : (" " : Str).length = 1 := by decide +kernel
    omega
theorem txP_len {names : List Str} (h : ∀ s ∈ names, NameOk s) {n : Nat} : ∀ p : Pln, PlOk n p → (txP names p).length + 40 ≤ 100 * lvN p
  | .left ms, o => by
    have h1 := txA_len h ms "="
    have e : ("=" : Str).length = 1 := by decide +kernel
    have := o.2
    show (txA names ms).length + 40 ≤ 100 * 1
    unfold txA
    omega
  | .tri m b g, o => by
    have h1 := txP_len h b o.2.1
    have h2 := txP_len h g o.2.2
    have h3 := name_len h m.toNat
    show (names.getD m.toNat "" ++ " ( " ++ txP names b ++ " ) ( " ++ txP names g ++ " )").length + 40 ≤ 100 * (lvN b + lvN g)
    simp only [Str.length_append]
    have e1 : (" ( " : Str).length = 3 := by decide +kernel
    have e2 : (" ) ( " : Str).length = 5 := by decide +kernel
    have e3 : (" )" : Str).length = 2 := by decide +kernel
    omega
/-! ### promises -/
def spWord82 : Sp := fun vs H Q _ => ∃ (G : Hp) (d : Addr), vs = [.ref d] ∧ FeedAt G H d ∧ ∀ (s : Str) (H' : Hp), NameOk s → FeedAt G H' d → Q (.str s) H'
def spNames82 : Sp := fun vs H Q _ => ∃ (G : Hp) (d : Addr) (many : Nat), vs = [.ref d, .int (many : Int)] ∧ FeedAt G H d ∧ many ≤ 40 ∧ ∀ (l : Addr) (ss : List Str) (G' H' : Hp), Same G G' → G' l = some (.lst (ss.map V.str)) → ss.length = many → (∀ s ∈ ss, NameOk s) → FeedAt G' H' d → Q (.ref l) H'
def spLeft82 : Sp := fun vs H Q _ => ∃ (G : Hp) (d : Addr) (many : Nat), vs = [.ref d, .int (many : Int)] ∧ FeedAt G H d ∧ 1 ≤ many ∧ many ≤ 40 ∧ ∀ (a : Addr) (ms : List Int) (G' H' : Hp), Same G G' → TpAt G' (.left ms) a → PlOk many (.left ms) → FeedAt G' H' d → Q (.ref a) H'
def spPlan82 : Sp := fun vs H Q _ => ∃ (G : Hp) (d : Addr) (many : Nat), vs = [.ref d, .int (many : Int)] ∧ FeedAt G H d ∧ 1 ≤ many ∧ many ≤ 40 ∧ ∀ (a : Addr) (p : Pln) (G' H' : Hp), Same G G' → TpAt G' p a → PlOk many p → lvN p ≤ 31 → FeedAt G' H' d → Q (.ref a) H'
def spText82 (n : Nat) : Sp := fun vs H Q _ => ∃ (l a : Addr) (ss : List Str) (p : Pln), vs = [.ref l, .ref a] ∧ H l = some (.lst (ss.map V.str)) ∧ (∀ s ∈ ss, NameOk s) ∧ TpAt H p a ∧ PlOk ss.length p ∧ lvN p ≤ 31 ∧ p.dep ≤ n ∧ ∀ H', Same H H' → Q (.str (txP ss p)) H'
def spText82F : Nat → Sp
  | 0 => spNever
  | n + 1 => spText82 n
/-- rows of a named net -/
def NamedAt (H : Hp) (as : List Addr) (ss : List Str) : Prop := as.length = ss.length ∧ ∀ (i : Nat) (a : Addr) (s : Str), as[i]? = some a → ss[i]? = some s → ∃ (k : Int) (e : Addr), H a = some (.tup [.str s, .int k, .ref e]) ∧ ∃ es : List Str, H e = some (.tup (es.map V.str)) ∧ ∀ x ∈ es, PyData.strOk x = true
theorem NamedAt.same {H H' : Hp} {as : List Addr} {ss : List Str} (N : NamedAt H as ss) (s : Same H H') : NamedAt H' as ss := ⟨N.1, fun i a t h1 h2 => by
  obtain ⟨k, e, g1, es, g2, g3⟩ := N.2 i a t h1 h2
  exact ⟨k, e, s _ _ g1, es, s _ _ g2, g3⟩⟩
def spShow82 (K : PySem.W.Frag) : Sp := fun vs H Q _ => ∃ (kd : Bool) (l a : Addr) (as : List Addr) (ss : List Str) (p : Pln), vs = [.ref l, .ref a] ∧ SqK K kd H l (as.map V.ref) ∧ NamedAt H as ss ∧ ss.length ≤ 40 ∧ (∀ s ∈ ss, NameOk s) ∧ TpAt H p a ∧ PlOk ss.length p ∧ lvN p ≤ 31 ∧ ∀ H', Same H H' → Q (.str (txP ss p)) H'
end Bk
/-! names and plans drawn -/
namespace Bk
open PySem PySem.Spec PyProof.Rows L2
section
variable {K : PySem.W.Frag} {H : Hp} {Q : VK}
theorem k_ixS {z : Str} {i : Int} {c : Nat} (hz : z.length ≤ 100000) (h : atI z.cps.toList i = some c) (q : Q (.str ⟨#[c]⟩) H) : rIx K (.str z) (.int i) H Q := .inr (.inr ⟨z, i, c, rfl, rfl, smallE hz, h, q⟩)
theorem k_slS {z : Str} {lo hi : Option Int} (hz : z.length ≤ 100000) (q : Q (.str (cutS z lo hi)) H) : rSlS (.str z) lo hi H Q := ⟨z, rfl, smallE hz, q⟩
theorem k_inLS {p : Addr} {ss : List Str} {x : Str} (h : SqL K H p (ss.map V.str)) (q : Q (.bl (decide (x ∈ ss))) H) : rIn K false (.str x) (.ref p) H Q := ⟨p, _, rfl, .inl h, rfl, flat_strs ss, by rw [inV_strs]; exact q⟩
theorem k_inTS {p : Addr} {ss : List Str} {x : Str} (h : SqT K H p (ss.map V.str)) (q : Q (.bl (decide (x ∈ ss))) H) : rIn K false (.str x) (.ref p) H Q := ⟨p, _, rfl, .inr h, rfl, flat_strs ss, by rw [inV_strs]; exact q⟩
end
theorem one_ok {z : Str} {c : Nat} (hz : PyData.strOk z = true) (h : c ∈ z.cps.toList) : PyData.strOk ⟨#[c]⟩ = true := ok_sub hz fun x hx => by
  have : x = c := by simpa using hx
  rw [this]
  exact h
theorem abc_at {r : Int} (h0 : 0 ≤ r) (h1 : r < 26) : ∃ c, atI abc.cps.toList r = some c ∧ PyData.strOk ⟨#[c]⟩ = true ∧ abc.cps.toList[r.toNat]? = some c := by
  obtain ⟨k, rfl⟩ : ∃ k : Nat, r = (k : Int) := ⟨r.toNat, by omega⟩
  have l : abc.cps.toList.length = 26 := abc_len
  have hk := List.getElem?_eq_getElem (l := abc.cps.toList) (i := k) (by omega)
  exact ⟨_, atI_nat hk, one_ok abc_ok (List.getElem_mem _), hk⟩
theorem ins_mid {α : Type} {A C : List α} {n : α} {k : Nat} (h : A.length = k) : (A ++ C).take k ++ [n] ++ (A ++ C).drop k = A ++ n :: C := by
  subst h
  rw [List.take_left, List.drop_left]
  simp
/-- plans in a row -/
structure RowP (H : Hp) (l : Addr) (as : List Addr) (ps : List Pln) : Prop where
  hp : H l = some (.lst (as.map V.ref))
  len : as.length = ps.length
  at' : ∀ (i : Nat) (a : Addr) (p : Pln), as[i]? = some a → ps[i]? = some p → TpAt H p a
theorem RowP.less {H H' : Hp} {l : Addr} {as as' : List Addr} {ps ps' : List Pln} (R : RowP H l as ps) (hp : H' l = some (.lst (as'.map V.ref))) (len : as'.length = ps'.length) (s : ∀ b xs, H b = some (.tup xs) → H' b = some (.tup xs)) (sub : ∀ (i : Nat) (a : Addr) (p : Pln), as'[i]? = some a → ps'[i]? = some p → ∃ j : Nat, as[j]? = some a ∧ ps[j]? = some p) : RowP H' l as' ps' :=
  ⟨hp, len, fun i a p h1 h2 => by
    obtain ⟨j, g1, g2⟩ := sub i a p h1 h2
    exact (R.at' j a p g1 g2).less s⟩
theorem RowP.snoc {H : Hp} {l a : Addr} {as : List Addr} {ps : List Pln} {p : Pln} (R : RowP H l as ps) (h : TpAt H p a) : RowP (upd H l (.lst ((as ++ [a]).map V.ref))) l (as ++ [a]) (ps ++ [p]) := by
  have keep : ∀ b xs, H b = some (.tup xs) → (upd H l (.lst ((as ++ [a]).map V.ref))) b = some (.tup xs) := fun b xs e => by rw [upd_ne (ne_of e R.hp (by intro z; cases z))]; exact e
  refine ⟨upd_same, by simp [R.len], fun i b q h1 h2 => ?_⟩
  rcases snoc_get R.len h1 h2 with ⟨g1, g2⟩ | ⟨rfl, rfl, rfl⟩
  · exact (R.at' i b q g1 g2).less keep
  · exact h.less keep
def lvS (ps : List Pln) : Nat := (ps.map lvN).sum
theorem len_lvS : ∀ qs : List Pln, qs.length ≤ lvS qs
  | [] => Nat.le_refl _
  | q :: r => by
    have := lvN_pos q
    have h := len_lvS r
    unfold lvS at *
    simp only [List.length_cons, List.map_cons, List.sum_cons]
    omega
theorem split_two {α : Type} {xs : List α} {k : Nat} (h : k + 1 < xs.length) : ∃ (A C : List α) (x y : α), xs = A ++ x :: y :: C ∧ A.length = k := by
  refine ⟨xs.take k, xs.drop (k + 2), xs[k], xs[k + 1], ?_, by rw [List.length_take]; omega⟩
  rw [← List.drop_eq_getElem_cons h, ← List.drop_eq_getElem_cons (by omega), List.take_append_drop]
theorem erase_mid {α : Type} {A C : List α} {x : α} {k : Nat} (h : A.length = k) : (A ++ x :: C).eraseIdx k = A ++ C := by
  rw [List.eraseIdx_append_of_length_le (by omega), h, Nat.sub_self]
  rfl
theorem RowP.two {H H' : Hp} {l : Addr} {A C : List Addr} {PA PC : List Pln} {x y n : Addr} {px py pn : Pln} (R : RowP H l (A ++ x :: y :: C) (PA ++ px :: py :: PC)) (hA : A.length = PA.length) (hp : H' l = some (.lst ((A ++ n :: C).map V.ref))) (s : ∀ b xs, H b = some (.tup xs) → H' b = some (.tup xs)) (hn : TpAt H' pn n) : RowP H' l (A ++ n :: C) (PA ++ pn :: PC) := by
  have len := R.len
  simp only [List.length_append, List.length_cons] at len
  refine ⟨hp, by simp; omega, fun i a p h1 h2 => ?_⟩
  by_cases c : i < A.length
  · rw [List.getElem?_append_left c] at h1
    rw [List.getElem?_append_left (by omega)] at h2
    exact (R.at' i a p (by rw [List.getElem?_append_left c]; exact h1) (by rw [List.getElem?_append_left (by omega)]; exact h2)).less s
  · rw [List.getElem?_append_right (by omega)] at h1
    rw [List.getElem?_append_right (by omega)] at h2
    by_cases e : i = A.length
    · rw [e, Nat.sub_self] at h1
      rw [e, hA, Nat.sub_self] at h2
      cases h1
      cases h2
      exact hn
    · obtain ⟨j, hj⟩ : ∃ j, i = A.length + (j + 1) := ⟨i - A.length - 1, by omega⟩
      rw [show i - A.length = j + 1 by omega, List.getElem?_cons_succ] at h1
      rw [show i - PA.length = j + 1 by omega, List.getElem?_cons_succ] at h2
      refine (R.at' (i + 1) a p ?_ ?_).less s
      · rw [List.getElem?_append_right (by omega), show i + 1 - A.length = j + 1 + 1 by omega, List.getElem?_cons_succ, List.getElem?_cons_succ]
        exact h1
      · rw [List.getElem?_append_right (by omega), show i + 1 - PA.length = j + 1 + 1 by omega, List.getElem?_cons_succ, List.getElem?_cons_succ]
        exact h2
theorem RowP.here {H : Hp} {l : Addr} {A C : List Addr} {PA PC : List Pln} {x : Addr} {px : Pln} (R : RowP H l (A ++ x :: C) (PA ++ px :: PC)) (hA : A.length = PA.length) : TpAt H px x :=
  R.at' A.length x px (by rw [List.getElem?_append_right (Nat.le_refl _), Nat.sub_self]; rfl) (by rw [hA, List.getElem?_append_right (Nat.le_refl _), Nat.sub_self]; rfl)
theorem RowP.next {H : Hp} {l : Addr} {A C : List Addr} {PA PC : List Pln} {x y : Addr} {px py : Pln} (R : RowP H l (A ++ x :: y :: C) (PA ++ px :: py :: PC)) (hA : A.length = PA.length) : TpAt H py y :=
  R.at' (A.length + 1) y py (by rw [List.getElem?_append_right (by omega), show A.length + 1 - A.length = 0 + 1 by omega]; rfl) (by rw [hA, List.getElem?_append_right (by omega), show PA.length + 1 - PA.length = 0 + 1 by omega]; rfl)
theorem nodup_len2 {α : Type} [DecidableEq α] : ∀ {xs ys : List α}, xs.Nodup → (∀ x ∈ xs, x ∈ ys) → xs.length ≤ ys.length
  | [], ys, _, _ => Nat.zero_le _
  | x :: xs, ys, h, s => by
    rw [List.nodup_cons] at h
    have hx := s x (by simp)
    have ih := nodup_len2 (ys := ys.erase x) h.2 fun y hy => (List.mem_erase_of_ne (fun e => h.1 (by rw [← e]; exact hy))).mpr (s y (by simp [hy]))
    rw [List.length_erase_of_mem hx] at ih
    have := List.length_pos_of_mem hx
    rw [List.length_cons]
    omega
/-- the names that are tried -/
def cand (wh : Str) (i : Nat) : Str := cutS ((⟨#[abc.cps.toList.getD (i / 26) 0]⟩ : Str) ++ ⟨#[abc.cps.toList.getD (i % 26) 0]⟩ ++ wh) none (some ((8 : Nat) : Int))
def tryN (wh : Str) : Nat → Str
  | 0 => wh
  | i + 1 => cand wh i
theorem cutS_to (z : Str) (k : Nat) : (cutS z none (some (k : Int))).cps.toList = z.cps.toList.take k := by
  unfold cutS
  rw [HT.sIx_none, show HT.sIx z.length z.length (some (k : Int)) = min k z.length from HT.sIx_nat _ _ k, List.drop_zero, Nat.sub_zero]
  show z.cps.toList.take (min k z.length) = _
  by_cases h : k ≤ z.length
  · rw [Nat.min_eq_left h]
  · rw [Nat.min_eq_right (by omega), List.take_of_length_le (by show z.cps.size ≤ z.length; exact Nat.le_refl _), List.take_of_length_le (by show z.cps.size ≤ k; exact Nat.le_of_not_le h)]
theorem cutS_from (z : Str) (k : Nat) : (cutS z (some (k : Int)) none).cps.toList = z.cps.toList.drop k := by
  unfold cutS
  rw [HT.sIx_none, show HT.sIx z.length 0 (some (k : Int)) = min k z.length from HT.sIx_nat _ _ k]
  show (z.cps.toList.drop (min k z.length)).take (z.length - min k z.length) = _
  by_cases h : k ≤ z.length
  · rw [Nat.min_eq_left h]
    exact List.take_of_length_le (by rw [List.length_drop]; exact Nat.le_refl _)
  · rw [Nat.min_eq_right (by omega), Nat.sub_self, List.take_zero, List.drop_of_length_le (by show z.cps.size ≤ k; exact Nat.le_of_not_le h)]
theorem len_toList (z : Str) : z.length = z.cps.toList.length := rfl
theorem cand_hd (wh : Str) (i : Nat) : ((cand wh i).cps.toList)[0]? = some (abc.cps.toList.getD (i / 26) 0) ∧ ((cand wh i).cps.toList)[1]? = some (abc.cps.toList.getD (i % 26) 0) := by
  unfold cand
  rw [cutS_to]
  constructor <;> simp [Str.cps_append]
theorem getD_inj {i j : Nat} (hi : i < 26) (hj : j < 26) (h : abc.cps.toList.getD i 0 = abc.cps.toList.getD j 0) : i = j := by
  have l : abc.cps.toList.length = 26 := abc_len
  have gi := List.getElem?_eq_getElem (l := abc.cps.toList) (i := i) (by omega)
  have gj := List.getElem?_eq_getElem (l := abc.cps.toList) (i := j) (by omega)
  rw [List.getD_eq_getElem?_getD, List.getD_eq_getElem?_getD, gi, gj] at h
  have e : abc.cps.toList[i] = abc.cps.toList[j] := h
  exact (List.getElem?_inj (by omega) abc_nd).mp (gi.trans ((congrArg some e).trans gj.symm))
theorem cand_inj {wh : Str} {i j : Nat} (hi : i < 676) (hj : j < 676) (h : cand wh i = cand wh j) : i = j := by
  obtain ⟨a1, a2⟩ := cand_hd wh i
  obtain ⟨b1, b2⟩ := cand_hd wh j
  rw [h, b1] at a1
  rw [h, b2] at a2
  have e1 := getD_inj (i := j / 26) (j := i / 26) (by omega) (by omega) (Option.some.inj a1)
  have e2 := getD_inj (i := j % 26) (j := i % 26) (by omega) (by omega) (Option.some.inj a2)
  omega
/-- so many names are tried at most -/
theorem tries_few {wh : Str} {bad : List Str} {t : Nat} (ht : t ≤ 600) (h : ∀ i, i < t → tryN wh i ∈ bad) : t ≤ bad.length + 1 := by
  cases t with
  | zero => omega
  | succ t =>
    have nd : ((List.range t).map (cand wh)).Nodup := by
      rw [List.Nodup, List.pairwise_map]
      refine List.Pairwise.imp_of_mem (R := (· < ·)) (fun {a b} ha hb lt e => ?_) List.pairwise_lt_range
      have := cand_inj (by have := List.mem_range.mp ha; omega) (by have := List.mem_range.mp hb; omega) e
      omega
    have := nodup_len2 nd (ys := bad) fun x hx => by
      obtain ⟨i, hi, rfl⟩ := List.mem_map.mp hx
      exact h (i + 1) (by have := List.mem_range.mp hi; omega)
    rw [List.length_map, List.length_range] at this
    omega
theorem cand_ok {wh : Str} (h : NameOk wh) {i : Nat} (hi : i < 676) : NameOk (cand wh i) := by
  have l : abc.cps.toList.length = 26 := abc_len
  have mem : ∀ k, k < 26 → abc.cps.toList.getD k 0 ∈ abc.cps.toList := fun k hk => by
    rw [List.getD_eq_getElem?_getD, List.getElem?_eq_getElem (l := abc.cps.toList) (i := k) (by omega)]
    exact List.getElem_mem _
  have cl : (cand wh i).length = min 8 (2 + wh.length) := by
    rw [len_toList]
    unfold cand
    rw [cutS_to, List.length_take]
    simp [Str.cps_append, Str.length]
    omega
  refine ⟨by omega, by omega, ?_⟩
  unfold cand
  exact ok_cut (ok_app (ok_app (one_ok abc_ok (mem _ (by omega))) (one_ok abc_ok (mem _ (by omega)))) h.2.2)
/-- one letter of a name exchanged -/
theorem swap_ok {b : Str} (h : NameOk b) {k c : Nat} (hk : k < b.length) (hc : PyData.strOk ⟨#[c]⟩ = true) : NameOk (cutS b none (some (k : Int)) ++ ⟨#[c]⟩ ++ cutS b (some ((k + 1 : Nat) : Int)) none) := by
  have l1 : (cutS b none (some (k : Int))).length = k := by
    rw [len_toList, cutS_to, List.length_take]
    have : b.cps.toList.length = b.length := rfl
    omega
  have l2 : (cutS b (some ((k + 1 : Nat) : Int)) none).length = b.length - (k + 1) := by
    rw [len_toList, cutS_from, List.length_drop]
    rfl
  have l3 : (⟨#[c]⟩ : Str).length = 1 := rfl
  obtain ⟨h1, h2, h3⟩ := h
  refine ⟨?_, ?_, ok_app (ok_app (ok_cut h3) hc) (ok_cut h3)⟩
  all_goals
    rw [Str.length_append, Str.length_append]
    omega
theorem abc_get {k : Nat} (h : k < 26) : atI abc.cps.toList (k : Int) = some (abc.cps.toList.getD k 0) := by
  have l : abc.cps.toList.length = 26 := abc_len
  have g := List.getElem?_eq_getElem (l := abc.cps.toList) (i := k) (by omega)
  rw [List.getD_eq_getElem?_getD, g]
  exact atI_nat g
def noNm : List Str := ["none", "open"]
theorem noNm_len : noNm.length = 2 := rfl
theorem cutV_strs (ss : List Str) (lo hi : Option Int) : ∃ es : List Str, cutV (ss.map V.str) lo hi = es.map V.str ∧ ∀ x ∈ es, x ∈ ss := by
  unfold cutV
  rw [← List.map_drop, ← List.map_take]
  exact ⟨_, rfl, fun x hx => List.mem_of_mem_drop (List.mem_of_mem_take hx)⟩
theorem dp_strs2 {K : PySem.W.Frag} {H : Hp} : ∀ es : List Str, DpAll K H (es.map V.str) (es.map PyData.str)
  | [] => .nil
  | e :: es => .cons (.str _) (dp_strs2 es)
theorem str_facts : ∀ es : List Str, (∀ x ∈ es, PyData.strOk x = true) → PyData.canLayAll0 (es.map PyData.str) = true ∧ PyData.depthAll (es.map PyData.str) = 0
  | [], _ => ⟨rfl, rfl⟩
  | e :: es, h => by
    obtain ⟨h1, h2⟩ := str_facts es fun x hx => h x (by simp [hx])
    have ok := h e (by simp)
    constructor
    · simp [PyData.canLayAll0, PyData.canLay0, h1, ok]
    · simp [PyData.depthAll, PyData.depth, h2]
theorem named_dp {K : PySem.W.Frag} {H : Hp} : ∀ {as : List Addr} {ss : List Str}, NamedAt H as ss → (∀ s ∈ ss, PyData.strOk s = true) → ∃ ds, DpAll K H (as.map V.ref) ds ∧ PyData.canLayAll0 ds = true ∧ PyData.depthAll ds ≤ 2
  | [], _, _, _ => ⟨[], .nil, rfl, by simp [PyData.depthAll]⟩
  | a :: as, [], N, _ => absurd N.1 (by simp)
  | a :: as, s :: ss, N, h => by
    obtain ⟨ds, d1, d2, d3⟩ := named_dp (K := K) (H := H) (as := as) (ss := ss) ⟨by simpa using N.1, fun i b t h1 h2 => N.2 (i + 1) b t (by simpa using h1) (by simpa using h2)⟩ fun x hx => h x (by simp [hx])
    obtain ⟨k, e, g1, es, g2, g3⟩ := N.2 0 a s rfl rfl
    obtain ⟨f1, f2⟩ := str_facts es g3
    have so := h s (by simp)
    refine ⟨.tuple [.str s, .int k, .tuple (es.map PyData.str)] :: ds, .cons (.tup (sqt_tup g1) (.cons (.str _) (.cons (.int _) (.cons (.tup (sqt_tup g2) (dp_strs2 es)) .nil)))) d1, ?_, ?_⟩
    · simp [PyData.canLayAll0, PyData.canLay0, f1, so, d2]
    · simp [PyData.depthAll, PyData.depth, f2]
      omega
theorem k_neNamed {K : PySem.W.Frag} {H : Hp} {Q : VK} {p q : Addr} {as : List Addr} {ss : List Str} (hp : H p = some (.lst (as.map V.ref))) (hq : H q = some (.lst (as.map V.ref))) (N : NamedAt H as ss) (ok : ∀ s ∈ ss, PyData.strOk s = true) (h : Q (.bl false) H) : rNeD K (.ref p) (.ref q) H Q := by
  obtain ⟨ds, d1, d2, d3⟩ := named_dp (K := K) N ok
  have sh : SeqAt.shaped (PyData.list ds) = true := by
    simp [SeqAt.shaped, PyData.canLay0, PyData.depth, d2]
    omega
  refine k_neD (.lst (sql_lst hp) d1) (.lst (sql_lst hq) d1) sh sh ?_
  rw [SeqAt.eqv_refl _ (SeqAt.canLay_of_shaped sh)]
  exact h
theorem NamedAt.snoc {H H' : Hp} {as : List Addr} {ss : List Str} {a e : Addr} {s : Str} {k : Int} {es : List Str} (N : NamedAt H as ss) (t : ∀ b xs, H b = some (.tup xs) → H' b = some (.tup xs)) (h1 : H' a = some (.tup [.str s, .int k, .ref e])) (h2 : H' e = some (.tup (es.map V.str))) (h3 : ∀ x ∈ es, PyData.strOk x = true) : NamedAt H' (as ++ [a]) (ss ++ [s]) := by
  refine ⟨by simp [N.1], fun i b q g1 g2 => ?_⟩
  rcases snoc_get N.1 g1 g2 with ⟨q1, q2⟩ | ⟨rfl, rfl, rfl⟩
  · obtain ⟨k', e', r1, es', r2, r3⟩ := N.2 i b q q1 q2
    exact ⟨k', e', t _ _ r1, es', t _ _ r2, r3⟩
  · exact ⟨k, e, h1, es, h2, h3⟩
end Bk
/-! a, b, *c = a list -/
namespace Bk
open PySem PySem.Spec PyProof.Rows L2
section
variable {prog : Program} {w : World} {A : Around} {E : Value → Shared → Prop} {s : Shared}
theorem walks_from (hh : A.handled = none) (I ax : Addr) (hne : ax ≠ I) (items : Array Value) (k : Nat) (hk : k ≤ items.size) :
    Walks prog w A I [I, ax] [I] (items.size - k) (fun i v => items[i + k]? = some v) (fun i h => h.IsListIter I ax (i + k) ∧ h.IsList ax items) where
  sub := fun b hb => by simp at hb; simp [hb]
  frame := fun _ _ _ st hk => ⟨st.1.at fun o e => hk I (by simp) o e, st.2.at fun o e => hk ax (by simp) o e⟩
  item := fun i s Q E hi st hQ => by
    refine wpAny_pyNext_list_item st.1 st.2 (x := items[i + k]'(by omega)) (by simp) fun h' hit' hs' => ?_
    refine hQ _ h' s.toks (by simp) ⟨?_, st.2.extBut hs'.extBut hne⟩ fun b o hb e => hs'.extBut b o (fun h => hb (by simp [h])) e
    rw [show i + 1 + k = i + k + 1 by omega]
    exact hit'
  done := fun s Q E st hQ => wpAny_pyNext_list_end hh st.1 st.2 (by simp; omega) fun h' he' => hQ h' s.toks fun b o hb e => he' b o (fun h => hb (by simp [h])) e
  self := fun _ _ _ _ st hQ => wpAny_pyIter_listiter st.1 hQ
theorem kun_star2 {l : Addr} {items : Array Value} {Q : List Value → Shared → Prop} (hh : A.handled = none) (hl : s.heap.IsList l items) (h2 : 2 ≤ items.size) (hz : items.size ≤ sizeLine)
    (hQ : ∀ (h' : Heap) (t : Nat), (∀ b o, s.heap.get? b = some o → h'.get? b = some o) → Q (items.toList.take 2 ++ [.ref h'.objs.size]) { s with heap := h'.push { cls := .type "list", data := .seq (items.toList.drop 2).toArray }, toks := t }) :
    wpAny (model prog w) A (unpackItems (.ref l) 3 (some 2)) Q E s := by
  have hlt : l ≠ s.heap.objs.size := by obtain ⟨o, ho, _⟩ := hl; exact Nat.ne_of_lt (Heap.lt_size ho)
  unfold unpackItems
  refine wpAny_bind ?_
  unfold notIterableAtAll
  refine wpAny_bind (wpAny_specialOf hl.typeIs slot_list_iter.lookup ?_)
  refine wpAny_pure ?_
  simp only [Bool.false_eq_true, if_false]
  refine wpAny_bind (wpAny_holding (wpAny_pyIter_list hl ?_))
  refine wpAny_bind (wpAny_holding (PySem.W.kun_draw hlt 2 0 _ _ ⟨_, Heap.get?_push_size _ rfl, rfl, rfl⟩ (hl.push _) (by omega) fun h₁ hit₁ hs₁ => ?_))
  have l2 : (List.take 2 (List.drop 0 items.toList)).length = 2 := by rw [List.drop_zero, List.length_take]; simp; omega
  rw [l2, if_neg (by decide)]
  have hl₁ : h₁.IsList l items := (hl.push _).extBut hs₁.extBut hlt
  have W := (walks_from (prog := prog) (w := w) (A := A.in1) hh s.heap.objs.size l hlt items 2 h2).toS
  refine wpAny_bind (wpAny_holding (wpAny_collect_iter (T := "list_iterator") (by simp) W (fun i s' st => st.1.typeIs) ⟨hit₁, hl₁⟩ (fun b hb => ?_) (by simp) (fun s' acc mv ac => ?_) (by omega)))
  · simp only [List.mem_cons, List.not_mem_nil, or_false] at hb
    rcases hb with rfl | rfl
    · obtain ⟨o, ho, _⟩ := hit₁
      exact Heap.lt_size ho
    · obtain ⟨o, ho, _⟩ := hl₁
      exact Heap.lt_size ho
  have ea : acc.toList = items.toList.drop 2 := by
    apply List.ext_getElem?
    intro i
    have h1 := ac.1
    rcases Nat.lt_or_ge i acc.size with lt | ge
    · have := ac.2 i acc[i] (by simp [lt])
      rw [List.getElem?_drop, Nat.add_comm 2 i]
      simp only [Array.getElem?_toList]
      rw [this]
      simp [lt]
    · rw [List.getElem?_eq_none (by simpa using ge), List.getElem?_eq_none (by rw [List.length_drop]; simp; omega)]
  have ls : (acc.toList).length = items.size - 2 := by simp [ac.1]
  show wpAny _ _ (if acc.toList.length < 3 - 1 - 2 then _ else _) _ _ _
  rw [if_neg (by omega)]
  have kp : ∀ b o, s.heap.get? b = some o → s'.heap.get? b = some o := fun b o e => by
    have lt := Heap.lt_size e
    exact mv.heap b o (by simp; exact Nat.ne_of_lt lt) ((hs₁.2 b (Nat.ne_of_lt lt)).trans (Heap.get?_push_of_some _ e))
  show wpAny _ _ (newList (acc.toList.take (acc.toList.length - (3 - 1 - 2))) >>= fun x => pure (List.take 2 (List.drop 0 items.toList) ++ [x] ++ acc.toList.drop (acc.toList.length - (3 - 1 - 2)))) _ _ _
  have e1 : acc.toList.length - (3 - 1 - 2) = acc.toList.length := by omega
  simp only [e1, List.take_length, List.drop_length, List.append_nil, List.drop_zero]
  refine wpAny_bind (wpAny_newList (wpAny_pure ?_) (by omega))
  have := hQ s'.heap s'.toks kp
  have es : ({ s' with heap := s'.heap.push { cls := .type "list", data := .seq acc.toList.toArray } } : Shared) = { s with heap := s'.heap.push { cls := .type "list", data := .seq (items.toList.drop 2).toArray }, toks := s'.toks } := by
    have g := mv.gens
    have d := mv.drawn
    have o := mv.os
    cases s'
    cases s
    simp only at g d o ⊢
    subst g d o
    rw [ea]
  rw [es]
  exact this
end
def gStar2 (K : PySem.W.Frag) (t : TGs) : TG := fun v σ H Q => ∃ a xs, v = .ref a ∧ SqL K H a xs ∧ 2 ≤ xs.length ∧ ∀ q, H q = none → t (xs.take 2 ++ [.ref q]) σ (upd H q (.lst (xs.drop 2))) Q
section
variable {X : Cx}
theorem pgs_star {e : Expr} {es : List Expr} {p : Pos} {t : TG} {u : TGs} (h1 : PG X e t) (h2 : PGs X es u) : PGs X (.Starred e p :: es) (gCons t u) := by
  refine ⟨fun pins s σ H vs us Q I r h => ?_⟩
  obtain ⟨v, vr, e1, h⟩ := h
  subst e1
  cases r with
  | cons r rr =>
    show wpAny _ _ (assignInOrder (assign e X.env :: (assignEach es X.env).map (·.2)) _) _ _ _
    refine assignInOrder_cons (thn (h1.run pins s σ H _ _ _ I r h) fun _ s1 ⟨σ1, H1, I1, q1⟩ => ?_)
    exact h2.run pins s1 σ1 H1 _ _ _ I1 rr q1
theorem pg_star2 {es : List Expr} {k : Nat} {pos : Pos} {t : TGs} (hc : X.calm = true) (h : PGs X es t) (hn : (assignEach es X.env).length = 3 := by rfl) (hst : (assignEach es X.env).findIdx? (·.1) = some 2 := by rfl) : PG X (.Tuple es k pos) (gStar2 X.K t) := by
  refine ⟨fun pins s σ H v u Q I r hw => ?_⟩
  obtain ⟨a, xs, e1, hq, h2, hw⟩ := hw
  subst e1
  cases r
  obtain ⟨its, rv, pl, hz⟩ := I.list hq
  have hl := rv.length
  rw [PyProof.Rows.assign_Tuple]
  refine wpAny_bind (wpAny_standAt ?_)
  unfold unpack
  rw [hn, hst]
  refine wpAny_bind (wpAny_holding (kun_star2 (I.ok.hd hc) pl.isList (by simp; omega) (by simp; omega) fun h' t' kp => ?_))
  have I1 : Inv X pins σ H { s with heap := h', toks := t' } := I.kept kp
  have hp := I1.hok.fresh (Nat.le_refl _)
  have I2 : Inv X pins σ (upd H h'.objs.size (.lst (xs.drop 2))) { s with heap := h'.push { cls := .type "list", data := .seq (its.drop 2).toArray }, toks := t' } :=
    I1.laid (fun b u q => Heap.get?_push_of_some _ q) (Nat.le_refl _) ⟨by rw [List.length_drop]; omega, its.drop 2, _, rv.drop 2, Heap.get?_push_size _ rfl⟩
  have rv2 : Vals (xs.take 2 ++ [.ref h'.objs.size]) ((its.toArray.toList.take 2) ++ [Value.ref h'.objs.size]) := (by simpa using rv.take 2 : Vals (xs.take 2) (its.toArray.toList.take 2)).append (.cons rfl .nil)
  have := h.run pins _ σ _ _ _ Q I2 rv2 (hw _ hp)
  simpa using this
end
section
variable {σ : L2.St} {H : Hp}
theorem k_star2 {K : PySem.W.Frag} {t : TGs} {a : Addr} {xs : List V} {Q : L2.St → Hp → Prop} (h : SqL K H a xs) (hl : 2 ≤ xs.length) (q : ∀ q, H q = none → t (xs.take 2 ++ [.ref q]) σ (upd H q (.lst (xs.drop 2))) Q) : gStar2 K t (.ref a) σ H Q := ⟨a, xs, rfl, h, hl, q⟩
end
end Bk
/-! len(set(texts)), texts that are unlike -/
namespace Bk
open PySem PySem.Spec PyProof.Rows L2
section
variable {prog : Program} {w : World} {A : Around} {R : Result → Shared → Prop} {I S : Addr} {fp wr : List Addr} {G : Array GenState → Array GenState → Prop} {P : Nat → Value → Prop} {St : Nat → Shared → Prop}
theorem tx_grow {xs : List Str} {i : Nat} {x : Str} (nd : xs.Nodup) (hx : xs[i]? = some x) : (∀ y : Str, (decide (y ∈ xs.take i) || decide (y = x)) = decide (y ∈ xs.take (i + 1))) ∧ (if decide (x ∈ xs.take i) then i else i + 1) = i + 1 := by
  have no : x ∉ xs.take i := fun hm => by
    obtain ⟨j, hj⟩ := List.getElem?_of_mem hm
    rw [List.getElem?_take] at hj
    split at hj
    · rename_i lt
      have := (List.getElem?_inj (List.getElem?_eq_some_iff.mp hx).1 nd).mp (hx.trans hj.symm)
      omega
    · cases hj
  refine ⟨fun y => ?_, by rw [decide_eq_false no]; rfl⟩
  rw [take_next hx, ← Bool.decide_or]
  exact decide_eq_decide.mpr (by simp)
/-- one turn more or the end -/
theorem tx_loop (xs : List Str) (nd : xs.Nodup) (W : WalksS prog w A.in1 I fp wr G xs.length P St) (out : S ∉ fp) (room : xs.length + 1 < scanBound) (val : ∀ i v, P i v → ∃ t, v = .str (xs.getD i Str.empty) t) :
    ∀ (k i : Nat) (s : Shared), i + k = xs.length → St i s → s.heap.SetOf (PySem.strKind prog w) S (fun y => decide (y ∈ xs.take i)) i →
      (∀ s', Moved (S :: wr) G s s' → s'.heap.SetOf (PySem.strKind prog w) S (fun y => decide (y ∈ xs)) xs.length → R (.ok (.ret .none)) s') →
      codeAny (model prog w) A (.builtin "set.update.loop" ⟨[.ref S, .ref I], []⟩) R s
  | 0, i, s, e, st, so, fin => by
    have ei : i = xs.length := by omega
    subst ei
    have keep : ∀ s', Moved wr G s s' → s'.heap.SetOf (PySem.strKind prog w) S (fun y => decide (y ∈ xs)) xs.length := fun s' mv => by
      obtain ⟨o, es, ep, tb, so, more⟩ := so
      rw [List.take_length] at more
      exact ⟨o, es, ep, tb, mv.heap S _ (fun z => out (W.sub _ z)) so, more⟩
    refine codeAny_builtin PyProof.Rows.F.entry_set_update_loop ?_
    rw [Around.under_plainId PyProof.Rows.F.plain_set_update_loop _]
    exact wpAny_bind (W.done s _ _ st fun s' mv => wpAny_pure (fin s' (mv.mono fun b hb => List.mem_cons_of_mem _ hb) (keep s' mv)))
  | k + 1, i, s, e, st, so, fin => by
    have hx : xs[i]? = some (xs.getD i Str.empty) := by
      rw [List.getD_eq_getElem?_getD, List.getElem?_eq_getElem (l := xs) (i := i) (by omega)]
      rfl
    generalize xs.getD i Str.empty = x at hx
    obtain ⟨gr, gn⟩ := tx_grow nd hx
    refine codeAny_builtin PyProof.Rows.F.entry_set_update_loop ?_
    rw [Around.under_plainId PyProof.Rows.F.plain_set_update_loop _]
    refine wpAny_bind (W.item i s _ _ (by omega) st fun v s' pv st' mv => ?_)
    obtain ⟨t, ev⟩ := val i v pv
    have gx : xs.getD i Str.empty = x := by rw [List.getD_eq_getElem?_getD, hx]; rfl
    rw [gx] at ev
    subst ev
    have so' : s'.heap.SetOf (PySem.strKind prog w) S (fun y => decide (y ∈ xs.take i)) i := by
      obtain ⟨o, es, ep, tb, so, more⟩ := so
      exact ⟨o, es, ep, tb, mv.heap S _ (fun z => out (W.sub _ z)) so, more⟩
    refine wpAny_bind (wpAny_holding ?_)
    unfold setAdd
    refine wpAny_holding (wpAny_bind ((PySem.strKind prog w).pyHash (k := x) (strKind_is _ _ _ _) ?_))
    refine wpAny_setAddHashed_of (knd := PySem.strKind prog w) (s := { s' with toks := s'.toks + 1 }) (strKind_is _ _ _ _) rfl so' (by omega) fun h' sb so2 => ?_
    have so3 := SetOf_congr so2 gr gn
    have st3 := W.frame (i + 1) s' h' (s'.toks + 1) st' (Nat.le_succ _) fun b hb o eo => by
      rw [sb.2 b (fun z : b = S => out (z ▸ hb))]
      exact eo
    have mv3 : Moved (S :: wr) G s { s' with heap := h', toks := s'.toks + 1 } := (mv.mono fun b hb => List.mem_cons_of_mem _ hb).then_heap (Nat.le_succ _) fun b o hb eo => by
      rw [sb.2 b (fun z : b = S => hb (z ▸ List.mem_cons_self))]
      exact eo
    exact wpAny_pure ⟨plainId_quiet PyProof.Rows.F.plain_set_update_loop _, tx_loop xs nd W out room val k (i + 1) _ (by omega) st3 so3 fun s'' mv'' fs => fin s'' (Moved.trans W.gtrans mv3 mv'') fs⟩
end
section
variable {prog : Program} {w : World} {A : Around} {E : Value → Shared → Prop} {s : Shared}
/-- the set that is made first -/
def bareSet (led : Bool) : Obj := { cls := .type "set", dict := none, data := .set #[] 0 (.fresh 0 0 led) }
theorem tx_set {l : Addr} {its : Array Value} {xs : List Str} {Q : Value → Shared → Prop} (calm : A.handled = none) (hl : s.heap.IsList l its) (hi : StrsAre its.toList xs) (nd : xs.Nodup) (room : xs.length + 1 < scanBound)
    (fin : ∀ (h' : Heap) (tk : Nat), h'.SetOf (PySem.strKind prog w) s.heap.objs.size (fun y => decide (y ∈ xs)) xs.length → (∀ b o, s.heap.get? b = some o → h'.get? b = some o) → Q (.ref s.heap.objs.size) { s with heap := h', toks := tk }) :
    wpAny (model prog w) A (call (.type "set") [.ref l]) Q E s := by
  obtain ⟨c, tl, mro⟩ := PySem.F.called_set.mro
  have made := PySem.F.called_set.made
  have subt := PySem.F.called_set.sub
  have nt := PySem.F.called_set.notType
  have cc := PySem.F.called_set.canCreate
  have tc := PySem.F.typeCall_set_1 (.ref l)
  refine wpAny_call (codeAny_of_tree (show wpAny _ _ (callAny (.type "set") _) _ _ _ from wpAny_pure ⟨Code.quiet_builtin _ (by decide +kernel), codeAny_builtin PySem.F.entry_type_call ?_⟩))
  rw [Around.under_plain (weight_type_call_type "set" [.ref l] []) rfl]
  repeat (any_goals (first | assumption | wp_step))
  refine codeAny_mono (code_set_new_1 (.ref l) (E := E) (Q₁ := fun obj s₁ => ∃ led : Bool, obj = .ref s.heap.objs.size ∧ s₁ = { s with heap := s.heap.push (bareSet led) }) fun led => ⟨led, rfl, rfl⟩) fun r s₁ hr => ?_
  match r, hr with
  | .error e, hr => exact hr
  | .ok (.ret obj), hr =>
    obtain ⟨led, rfl, rfl⟩ := hr
    have at0 : (s.heap.push (bareSet led)).get? s.heap.objs.size = some (bareSet led) := Heap.get?_push_size _ rfl
    have ty0 : Shared.TypeIs { s with heap := s.heap.push (bareSet led) } (.ref s.heap.objs.size) "set" := ⟨_, at0, rfl⟩
    have li := PySem.F.called_set.init.lookup
    have bi := PySem.F.called_set.init.bind (.ref s.heap.objs.size)
    repeat (any_goals (first | assumption | wp_step))
    refine codeAny_mono (codeAny_call_builtin (R := wants (fun r s₂ => r = .none ∧ ∃ h' tk, s₂ = { s with heap := h', toks := tk } ∧ h'.SetOf (PySem.strKind prog w) s.heap.objs.size (fun y => decide (y ∈ xs)) xs.length ∧ ∀ b o, s.heap.get? b = some o → h'.get? b = some o) E) PySem.F.called_set.init.plain PySem.F.entry_set_init (check_set_init_1 ty0 ?_)) fun r₂ s₂ hr₂ => ?_
    · have ll := hl
      obtain ⟨⟨cl, di, da, sl⟩, g0, c0, n0, d0⟩ := ll
      dsimp only at c0 d0
      subst c0 d0
      have g1 : (s.heap.push (bareSet led)).get? l = some { cls := .type "list", dict := di, data := .seq its n0, slots := sl } := Heap.get?_push_of_some _ g0
      have k1 := PySem.F.sub_list_set
      have k2 := PySem.F.sub_list_frozenset
      have k3 : (Value.type "list" == Value.type "dict") = false := by decide
      have hl1 : (s.heap.push (bareSet led)).IsList l its := hl.push _
      unfold Builtin.«set.__init__» noKeywords Builtin.Frozenset.updateFrom
      generalize ePI : pyIter = PI
      wp_walk
      subst ePI
      refine wpAny_pyIter_list hl1 (wpAny_bind (wpAny_runValue ?_))
      have ltl : l < s.heap.objs.size := Heap.lt_size g0
      have sz1 : (s.heap.push (bareSet led)).objs.size = s.heap.objs.size + 1 := Heap.size_push _ _
      have neI : l ≠ (s.heap.push (bareSet led)).objs.size := Nat.ne_of_lt (by rw [sz1]; exact Nat.lt_succ_of_lt ltl)
      have xl : its.size = xs.length := by rw [← StrsAre.len_eq hi, Array.length_toList]
      have W := (Walks.list (prog := prog) (w := w) (A := A.in1.in1.in1) (by simp [calm]) (s.heap.push (bareSet led)).objs.size l neI its).toS
      rw [xl] at W
      refine tx_loop xs nd W (by rw [sz1]; simp only [List.mem_cons, List.not_mem_nil, or_false, not_or]; exact ⟨Nat.ne_of_lt (Nat.lt_succ_self _), Nat.ne_of_gt ltl⟩) room (fun i v hv => SS.strs_at hi i v (by rw [Array.getElem?_toList]; exact hv)) xs.length 0 _ (Nat.zero_add _) ?st ?h0 ?hR
      case st => exact ⟨⟨_, Heap.get?_push_size _ rfl, rfl, rfl⟩, hl1.push _⟩
      case h0 => exact SetOf_congr ((setObjOf_fresh (knd := PySem.strKind prog w) led).setOf (Heap.get?_push_of_some _ at0) (by unfold scanBound; omega)) (fun _ => by simp) rfl
      case hR =>
        rintro ⟨h', g', d', t', o'⟩ mv so
        obtain rfl : g' = s.gens := mv.gens
        obtain rfl : d' = s.drawn := mv.drawn
        obtain rfl : o' = s.os := mv.os
        refine wpAny_pure (show wpAny _ _ (ret Value.none) _ _ _ from wpAny_pure ⟨rfl, h', t', rfl, so, fun b o e => ?_⟩)
        have lb := Heap.lt_size e
        exact mv.heap b o (by rw [sz1]; simp only [List.mem_cons, List.not_mem_nil, or_false, not_or]; exact ⟨Nat.ne_of_lt lb, Nat.ne_of_lt (Nat.lt_succ_of_lt lb)⟩) (Heap.get?_push_of_some _ (Heap.get?_push_of_some _ e))
    · match r₂, hr₂ with
      | .error e, hr₂ => exact hr₂
      | .ok (.ret r), hr₂ =>
        obtain ⟨rfl, h', tk, rfl, so, kp⟩ := hr₂
        repeat (any_goals (first | assumption | wp_step))
        exact fin _ _ so kp
end
def tLenSetT (K : PySem.W.Frag) (ta : TE) : TE := fun σ H Q => ta σ H fun x H1 => ∃ (l : Addr) (xs : List Str), x = .ref l ∧ SqL K H1 l (xs.map V.str) ∧ xs.Nodup ∧ xs.length ≤ 1000 ∧ Q (.int (xs.length : Nat)) H1
theorem pe_lenSetT {X : Cx} {a : Expr} {ta : TE} {p p2 q pos : Pos} (hg : Gl X "len") (hm : X.mg "len" = none) (hg2 : Gl X "set") (hm2 : X.mg "set" = none) (ha : PE X a ta) (hc : X.calm = true := by rfl)
    (na : starEach [a] X.env = (false, eval a X.env) :: starEach [] X.env := by rfl) : PE X (.Call (.Name "len" p) [.Call (.Name "set" p2) [a] [] q] [] pos) (tLenSetT X.K ta) := by
  refine ⟨fun pins s σ H Q I h => Call_ (ld_blt I hg hm boot_len ?_)⟩
  refine PyProof.Rows.callWith_builtin1 (PyProof.Rows.args_cons (Call_ (ld_blt I hg2 hm2 boot_set ?_)) rfl) rfl rfl
  refine PyProof.Rows.callWith_type1 (PyProof.Rows.args_cons (thn (ha.run pins s σ H _ I h) ?_) na) na rfl
  rintro v s1 ⟨x, H1, J, r1, l, xs, rfl, hq, nd, hl, q1⟩
  refine PyProof.Rows.args_nil ?_
  cases r1
  obtain ⟨its, r, pl, hz⟩ := J.list hq
  refine tx_set (J.ok.hd hc) pl.isList (by simpa using strsAre_of r) nd (by unfold scanBound; omega) fun h' tk hS hk => PyProof.Rows.args_nil ?_
  obtain ⟨o, es, ep, t, ho, hex, hd, _, _, _, hf, hn⟩ := hS
  have J2 : Inv X pins σ H1 { s1 with heap := h', toks := tk } := J.kept fun b o e => hk b o e
  exact call_len_set ho hex hd hf (by rw [hn]; omega) ⟨.int (xs.length : Nat), H1, J2.tok _, ⟨_, by rw [hn]⟩, q1⟩
theorem r_lenSetT {K : PySem.W.Frag} {σ : L2.St} {H : Hp} {Q : VK} {ta : TE} (h : ta σ H fun x H1 => ∃ (l : Addr) (xs : List Str), x = .ref l ∧ SqL K H1 l (xs.map V.str) ∧ xs.Nodup ∧ xs.length ≤ 1000 ∧ Q (.int (xs.length : Nat)) H1) : tLenSetT K ta σ H Q := h
end Bk
/-! texts taken apart and put together: names, figures, rows -/
namespace Bk
open PySem PySem.Spec PyProof.Rows L2
section
variable {σ : L2.St} {H : Hp} {Q : VK} {K : PySem.W.Frag}
/-! ### a text walked -/
def kIStr (R : It → Hp → Prop) (v : V) (H1 : Hp) : Prop := ∃ x, v = .str x ∧ R (Its x) H1
theorem r_iStr {te : TE} {R : It → Hp → Prop} (h : te σ H fun v H1 => kIStr R v H1) : iStr te σ H R := h
theorem k_iStr {R : It → Hp → Prop} {z : Str} (h : R (Its z) H) : kIStr R (.str z) H := ⟨z, rfl, h⟩
theorem k_lcSt {z : Str} {g : TG} {tt : TT} {te : TE} {vs : List Nat} (Pv : Addr → Nat → Hp → Prop) (h0 : ∀ Dl, H Dl = none → Pv Dl 0 (upd H Dl (.lst [])))
    (hs : ∀ Dl i c H', H Dl = none → z.cps.toList[i]? = some c → Pv Dl i H' → kLcT g tt te vs σ Dl (Pv Dl (i + 1)) (.str ⟨#[c]⟩) H') (hd : ∀ Dl H', H Dl = none → Pv Dl z.length H' → Q (.ref Dl) H') : kLc (Its z) g tt te vs σ Q H := by
  intro Dl hD
  have sz : z.length = z.cps.size := rfl
  refine ⟨fun i m H' => m + i = z.length ∧ Pv Dl i H', ⟨z.length, by omega, h0 Dl hD⟩, ?_⟩
  rintro i m H' ⟨em, p⟩
  by_cases lt : i < z.length
  · refine .inr ⟨lt, Pv Dl (i + 1), fun H' p' => ⟨m - 1, by omega, by omega, p'⟩, ?_⟩
    rintro v H2 ⟨rfl, c, hc, rfl⟩
    exact hs Dl i c _ hD (by rw [Array.getElem?_toList]; exact hc) p
  · have e : i = z.length := by omega
    subst e
    exact .inl ⟨Nat.le_refl _, hd Dl H' hD p⟩
/-! ### split, str(n), int(text) -/
def rSplit : V → List V → Hp → VK → Prop := fun x xs H Q => ∃ a b, x = .str a ∧ xs = [.str b] ∧ (b.length == 0) = false ∧ a.length + 2 ≤ sizeLine ∧ rNewStrs (Txt.split a b) H Q
theorem ob_split {K : PySem.W.Frag} {X : Cx} {o e : Expr} {to te : TE} {apos pos : Pos} (hK : X.K = K) (ho : PE X o to) (he : PE X e te) (hs : starEach [e] X.env = [(false, eval e X.env)] := by rfl) (hbase : attributeBase o "split" X.env (eval o X.env) = eval o X.env := by rfl) (hline : (apos.endLine == pos.line) = true := by rfl) :
    PE X (.Call (.Attribute o "split" apos) [e] [] pos) (tM1 rSplit to te) := pe_split ho he hs hbase hline
theorem k_split {a b : Str} {ys : List Str} (e : Txt.split a b = ys) (hb : (b.length == 0) = false) (hz : a.length ≤ 90000) (q : ∀ p, H p = none → Q (.ref p) (upd H p (.lst (ys.map V.str)))) : rSplit (.str a) [.str b] H Q := ⟨a, b, rfl, rfl, hb, smallE (by omega), by rw [e]; exact q⟩
def rStrI : List V → Hp → VK → Prop := fun xs H Q => ∃ i, xs = [.int i] ∧ i.natAbs.log2 < 1920 ∧ Q (.str (toString i)) H
theorem bk_strI {X : Cx} : CallR X (.type "str") rStrI := call_str_int
theorem k_strI {i : Int} (h : i.natAbs.log2 < 1920) (q : Q (.str (Str.ofString (toString i))) H) : rStrI [.int i] H Q := ⟨i, rfl, h, q⟩
def rIntS : List V → Hp → VK → Prop := fun xs H Q => ∃ a n, xs = [.str a] ∧ PySem.intText? a = some n ∧ a.length ≤ 640 ∧ Q (.int n) H
theorem bk_intS {X : Cx} : CallR X (.type "int") rIntS := call_int_str
theorem k_intS {a : Str} {n : Int} (h : PySem.intText? a = some n) (hl : a.length ≤ 640) (q : Q (.int n) H) : rIntS [.str a] H Q := ⟨a, n, rfl, h, hl, q⟩
/-! ### a table made over enumerate -/
theorem k_dcE {kd : Bool} {a : Addr} {xs : List V} {g : TG} {tt : TT} {tk tv : TE} {vs : List Nat} (Pv : Addr → Nat → Hp → Prop) (h0 : ∀ D, H D = none → Pv D 0 (upd H D (.dK []))) (hl : ∀ D i H', H D = none → Pv D i H' → SqK K kd H' a xs)
    (hs : ∀ D i x T H', H D = none → xs[i]? = some x → Pv D i H' → H' T = none → kDcT g tt tk tv vs σ D (Pv D (i + 1)) (.ref T) (upd H' T (.tup [.int (i : Nat), x]))) (hd : ∀ D H', H D = none → Pv D xs.length H' → Q (.ref D) H') : kDc (IteK K kd a) g tt tk tv vs σ Q H := by
  intro D hD
  refine ⟨fun i m H' => m + i = xs.length ∧ Pv D i H', ⟨xs.length, by omega, h0 D hD⟩, ?_⟩
  rintro i m H' ⟨em, p⟩
  have qx := hl D i H' hD p
  by_cases lt : i < xs.length
  · refine .inr ⟨⟨xs, _, qx, List.getElem?_eq_getElem lt⟩, Pv D (i + 1), fun H' p' => ⟨m - 1, by omega, by omega, p'⟩, ?_⟩
    rintro v H2 ⟨T, x, rfl, hT, rfl, f1⟩
    exact hs D i x T H' hD (f1 xs qx) p hT
  · have e : i = xs.length := by omega
    subst e
    exact .inl ⟨⟨xs, qx, rfl⟩, hd D H' hD p⟩
def kDcU (tt : TT) (tk tv : TE) (vs : List Nat) (σ : L2.St) (D : Addr) (N : Hp → Prop) (σ2 : L2.St) (H2 : Hp) : Prop := wipe σ2 vs = wipe σ vs ∧ tt σ2 H2 fun b H3 => kDcB tk tv σ2 D N b H3
theorem r_dcT {g : TG} {tt : TT} {tk tv : TE} {vs : List Nat} {D : Addr} {N : Hp → Prop} {x : V} (h : g x (wipe σ vs) H fun σ2 H2 => kDcU tt tk tv vs σ D N σ2 H2) : kDcT g tt tk tv vs σ D N x H := h
theorem k_dcU {tt : TT} {tk tv : TE} {vs : List Nat} {D : Addr} {N : Hp → Prop} {σ2 : L2.St} (e : wipe σ2 vs = wipe σ vs) (h : tt σ2 H fun b H3 => kDcB tk tv σ2 D N b H3) : kDcU tt tk tv vs σ D N σ2 H := ⟨e, h⟩
theorem k_dcaS {D : Addr} {N : Hp → Prop} {z : V} {kvs : List (Key × V)} {m : Str} (h : H D = some (.dK kvs)) (hz : kvs.length < sizeLine) (q : N (upd H D (.dK (putK kvs (Sum.inr m) z)))) : kDcA D N (.str m) z H := ⟨kvs, Sum.inr m, rfl, h, hz, q⟩
end
/-! ### letters -/
def Let (s : Str) : Prop := ∀ c ∈ s.cps.toList, c ∈ abc.cps.toList
def NameS (s : Str) : Prop := NameOk s ∧ Let s
theorem let_app {a b : Str} (h1 : Let a) (h2 : Let b) : Let (a ++ b) := fun c hc => by
  rw [Str.cps_append, Array.toList_append] at hc
  exact (List.mem_append.mp hc).elim (h1 c) (h2 c)
theorem let_cut {z : Str} {lo hi : Option Int} (h : Let z) : Let (cutS z lo hi) := fun c hc => h c (cutS_mem hc)
theorem let_one {c : Nat} (h : c ∈ abc.cps.toList) : Let ⟨#[c]⟩ := fun x hx => by
  have e : x = c := by simpa using hx
  rw [e]
  exact h
theorem abc_mem {k : Nat} (h : k < 26) : abc.cps.toList.getD k 0 ∈ abc.cps.toList := by
  have l : abc.cps.toList.length = 26 := abc_len
  rw [List.getD_eq_getElem?_getD, List.getElem?_eq_getElem (l := abc.cps.toList) (i := k) (by omega)]
  exact List.getElem_mem _
theorem cand_let {wh : Str} (h : Let wh) {i : Nat} (hi : i < 676) : Let (cand wh i) := by
  unfold cand
  exact let_cut (let_app (let_app (let_one (abc_mem (by omega))) (let_one (abc_mem (by omega)))) h)
theorem try_name {wh : Str} (h : NameS wh) {t : Nat} (ht : t ≤ 600) : NameS (tryN wh t) := by
  cases t with
  | zero => exact h
  | succ t => exact ⟨cand_ok h.1 (by omega), cand_let h.2 (by omega)⟩
theorem abc_range : ∀ c ∈ abc.cps.toList, 97 ≤ c ∧ c ≤ 122 := by decide +kernel
def spWord80 : Sp := fun vs H Q _ => ∃ (G : Hp) (d : Addr), vs = [.ref d] ∧ FeedAt G H d ∧ ∀ (s : Str) (H' : Hp), NameS s → FeedAt G H' d → Q (.str s) H'
def spNames80 : Sp := fun vs H Q _ => ∃ (G : Hp) (d : Addr) (many : Nat), vs = [.ref d, .int (many : Int)] ∧ FeedAt G H d ∧ many ≤ 40 ∧ ∀ (l : Addr) (ss : List Str) (G' H' : Hp), Same G G' → G' l = some (.lst (ss.map V.str)) → ss.length = many → (∀ s ∈ ss, NameS s ∧ s ∉ noNm) → ss.Nodup → FeedAt G' H' d → Q (.ref l) H'
/-! ### figures -/
def figT (p : Int) : Str := Str.ofString (toString p)
def bigP : Int := 1000000000000000000000000000000
theorem fig_tl {p : Int} (h : 0 ≤ p) : (figT p).cps.toList = TL.numL p.toNat := by
  have e : p = ((p.toNat : Nat) : Int) := by omega
  have := TL.tl_num p.toNat
  rw [← e] at this
  exact this
theorem fig_big {p : Int} (h0 : 0 ≤ p) (h1 : p ≤ bigP) : p.toNat < 10 ^ 31 := by
  have : bigP < 10 ^ 31 := by decide
  have e : ((10 ^ 31 : Nat) : Int) = 10 ^ 31 := by decide
  omega
theorem fig_len {p : Int} (h0 : 0 ≤ p) (h1 : p ≤ bigP) : 1 ≤ (figT p).length ∧ (figT p).length ≤ 31 := by
  have l : (figT p).length = (TL.numL p.toNat).length := by
    rw [← fig_tl h0]
    rfl
  rw [l]
  exact ⟨List.length_pos_iff.mpr (TL.numL_ne _), TL.numL_len (by decide) (fig_big h0 h1)⟩
theorem fig_int {p : Int} (h0 : 0 ≤ p) (h1 : p ≤ bigP) : PySem.intText? (figT p) = some p := by
  have e : p = ((p.toNat : Nat) : Int) := by omega
  have := TL.int_num (n := p.toNat) (Nat.le_trans (TL.numL_len (k := 31) (by decide) (fig_big h0 h1)) (by decide))
  rw [← e] at this
  exact this
theorem num_head : ∀ (n : Nat), 1 ≤ n → ∃ c r, TL.numL n = c :: r ∧ 49 ≤ c ∧ c ≤ 57 := by
  intro n
  induction n using Nat.strongRecOn with
  | _ n ih =>
    intro h
    rcases Nat.lt_or_ge n 10 with lt | ge
    · exact ⟨48 + n, [], TL.numL_lt lt, by omega, by omega⟩
    · obtain ⟨c, r, e, a, b⟩ := ih (n / 10) (by omega) (by omega)
      exact ⟨c, r ++ [48 + n % 10], by rw [TL.numL_step ge, e]; rfl, a, b⟩
theorem fig_dig {p : Int} (h0 : 0 ≤ p) : ∀ c ∈ (figT p).cps.toList, 48 ≤ c ∧ c ≤ 57 := by
  rw [fig_tl h0]
  exact TL.numL_digits _
theorem fig_hd {p : Int} (h0 : 1 ≤ p) : ∃ c, (figT p).cps.toList[0]? = some c ∧ 49 ≤ c ∧ c ≤ 57 := by
  obtain ⟨c, r, e, a, b⟩ := num_head p.toNat (by omega)
  exact ⟨c, by rw [fig_tl (by omega), e]; rfl, a, b⟩
theorem fig_log {p : Int} (h0 : 1 ≤ p) (h1 : p ≤ bigP) : p.natAbs.log2 < 1920 := by
  have : p.natAbs < 2 ^ 110 := by
    have e : bigP < 2 ^ 110 := by decide
    have e2 : ((2 ^ 110 : Nat) : Int) = 2 ^ 110 := by decide
    omega
  exact Nat.lt_of_lt_of_le ((Nat.log2_lt (by omega)).mpr this) (by decide)
/-! ### what a named net has -/
def elN (ss : List Str) (row : List Int) : List Str := row.map fun k => ss.getD k.toNat ""
structure NmN (ss : List Str) (ps : List Int) (rows : List (List Int)) : Prop where
  l1 : 1 ≤ ss.length
  l40 : ss.length ≤ 40
  pl : ps.length = ss.length
  rl : rows.length = ss.length
  nm : ∀ s ∈ ss, NameS s ∧ s ∉ noNm
  nd : ss.Nodup
  pr : ∀ p ∈ ps, 1 ≤ p ∧ p ≤ bigP
  ok : RowsOk rows
/-- one row of it -/
def EntN (H : Hp) (a : Addr) (s : Str) (p : Int) (es : List Str) : Prop := ∃ e : Addr, H a = some (.tup [.str s, .int p, .ref e]) ∧ H e = some (.tup (es.map V.str))
theorem EntN.same {H H' : Hp} {a : Addr} {s : Str} {p : Int} {es : List Str} (h : EntN H a s p es) (t : ∀ b xs, H b = some (.tup xs) → H' b = some (.tup xs)) : EntN H' a s p es := by
  obtain ⟨e, h1, h2⟩ := h
  exact ⟨e, t _ _ h1, t _ _ h2⟩
def NmAt (H : Hp) (as : List Addr) (ss : List Str) (ps : List Int) (rows : List (List Int)) : Prop := as.length = rows.length ∧ ∀ (i : Nat) (a : Addr), as[i]? = some a → EntN H a (ss.getD i "") (ps.getD i 0) (elN ss (rows.getD i []))
theorem NmAt.same {H H' : Hp} {as : List Addr} {ss : List Str} {ps : List Int} {rows : List (List Int)} (N : NmAt H as ss ps rows) (t : ∀ b xs, H b = some (.tup xs) → H' b = some (.tup xs)) : NmAt H' as ss ps rows := ⟨N.1, fun i a h => (N.2 i a h).same t⟩
def wordsN (ss : List Str) (ps : List Int) (rows : List (List Int)) (i : Nat) : List Str := ss.getD i "" :: figT (ps.getD i 0) :: elN ss (rows.getD i [])
def rowN (ss : List Str) (ps : List Int) (rows : List (List Int)) (i : Nat) : Str := Txt.join " " (wordsN ss ps rows i)
def netN (ss : List Str) (ps : List Int) (rows : List (List Int)) : Str := Txt.join "\n" ((List.range rows.length).map (rowN ss ps rows))
/-! ### what is joined -/
theorem fold_len (sep : Str) : ∀ (ys : List Str) (x : Str) (m : Nat), (∀ y ∈ ys, y.length ≤ m) → (ys.foldl (fun s y => s ++ sep ++ y) x).length ≤ x.length + ys.length * (sep.length + m)
  | [], x, m, _ => by simp
  | y :: ys, x, m, h => by
    rw [List.foldl_cons]
    refine Nat.le_trans (fold_len sep ys _ m fun z hz => h z (List.mem_cons_of_mem _ hz)) ?_
    have := h y List.mem_cons_self
    rw [Str.length_append, Str.length_append, List.length_cons, Nat.succ_mul]
    omega
theorem fold_mem (sep : Str) {c : Nat} : ∀ (ys : List Str) (x : Str), c ∈ (ys.foldl (fun s y => s ++ sep ++ y) x).cps.toList → c ∈ x.cps.toList ∨ c ∈ sep.cps.toList ∨ ∃ y ∈ ys, c ∈ y.cps.toList
  | [], x, h => .inl h
  | y :: ys, x, h => by
    rcases fold_mem sep ys _ h with z | z | ⟨w, hw, z⟩
    · rw [Str.cps_append, Array.toList_append, Str.cps_append, Array.toList_append] at z
      rcases List.mem_append.mp z with z | z
      · rcases List.mem_append.mp z with z | z
        · exact .inl z
        · exact .inr (.inl z)
      · exact .inr (.inr ⟨y, List.mem_cons_self, z⟩)
    · exact .inr (.inl z)
    · exact .inr (.inr ⟨w, List.mem_cons_of_mem _ hw, z⟩)
theorem join_cons (sep x : Str) (ys : List Str) : Txt.join sep (x :: ys) = ys.foldl (fun s y => s ++ sep ++ y) x := by rw [TL.join_eq, join_fold]
end Bk
/-! named nets: their texts -/
namespace Bk
open PySem PySem.Spec PyProof.Rows L2
def rInSg : V → V → Hp → VK → Prop := fun x y H Q => ∃ (c : Nat) (z : Str), x = .str ⟨#[c]⟩ ∧ y = .str z ∧ Q (.bl (decide (c ∈ z.cps.toList))) H
theorem ob_inSg {X : Cx} : OpR X (compareOp .In) rInSg := op_in_sign
theorem k_inSg {H : Hp} {Q : VK} {c : Nat} {z : Str} (q : Q (.bl (decide (c ∈ z.cps.toList))) H) : rInSg (.str ⟨#[c]⟩) (.str z) H Q := ⟨c, z, rfl, rfl, q⟩
def figS : Str := "0123456789"
theorem figS_mem : ∀ c : Nat, 48 ≤ c → c ≤ 57 → c ∈ figS.cps.toList := by
  intro c h1 h2
  have : c = 48 ∨ c = 49 ∨ c = 50 ∨ c = 51 ∨ c = 52 ∨ c = 53 ∨ c = 54 ∨ c = 55 ∨ c = 56 ∨ c = 57 := by omega
  rcases this with rfl | rfl | rfl | rfl | rfl | rfl | rfl | rfl | rfl | rfl <;> decide +kernel
theorem getD_of {α : Type} {l : List α} {i : Nat} {d : α} (h : i < l.length) : l.getD i d ∈ l := by
  rw [List.getD_eq_getElem?_getD, List.getElem?_eq_getElem h]
  exact List.getElem_mem _
theorem getD_at {α : Type} {l : List α} {i : Nat} {d : α} (h : i < l.length) : l[i]? = some (l.getD i d) := by
  rw [List.getD_eq_getElem?_getD, List.getElem?_eq_getElem h]
  rfl
section
variable {ss : List Str} {ps : List Int} {rows : List (List Int)} (N : NmN ss ps rows)
include N
theorem NmN.name {i : Nat} (h : i < rows.length) : NameS (ss.getD i "") ∧ ss.getD i "" ∉ noNm := N.nm _ (getD_of (by rw [← N.rl]; exact h))
theorem NmN.price {i : Nat} (h : i < rows.length) : 1 ≤ ps.getD i 0 ∧ ps.getD i 0 ≤ bigP := N.pr _ (getD_of (by rw [N.pl, ← N.rl]; exact h))
theorem NmN.row {i : Nat} (h : i < rows.length) : (rows.getD i []).Nodup ∧ (rows.getD i []).length ≤ 40 ∧ ∀ e ∈ rows.getD i [], 0 ≤ e ∧ e < (i : Int) := N.ok i _ (getD_at h)
theorem NmN.el {i : Nat} (h : i < rows.length) : (elN ss (rows.getD i [])).Nodup ∧ (elN ss (rows.getD i [])).length ≤ 40 ∧ ∀ x ∈ elN ss (rows.getD i []), x ∈ ss.take i := by
  obtain ⟨h1, h2, h3⟩ := N.row h
  have len := N.rl
  refine ⟨?_, by unfold elN; rw [List.length_map]; exact h2, fun x hx => ?_⟩
  · unfold elN List.Nodup
    rw [List.pairwise_map]
    refine List.Pairwise.imp_of_mem (fun {a b} ha hb ne e => ?_) h1
    have := h3 a ha
    have := h3 b hb
    have ga := getD_at (l := ss) (i := a.toNat) (d := "") (by omega)
    have gb := getD_at (l := ss) (i := b.toNat) (d := "") (by omega)
    rw [e, ← gb] at ga
    have := (List.getElem?_inj (by omega) N.nd).mp ga
    exact ne (by omega)
  · unfold elN at hx
    obtain ⟨k, hk, rfl⟩ := List.mem_map.mp hx
    have := h3 k hk
    rw [List.mem_take_iff_getElem]
    refine ⟨k.toNat, by omega, ?_⟩
    have := getD_at (l := ss) (i := k.toNat) (d := "") (by omega)
    rw [List.getElem?_eq_getElem (by omega)] at this
    exact Option.some.inj this
theorem NmN.word {i : Nat} (h : i < rows.length) : ∀ x ∈ wordsN ss ps rows i, x.length ≤ 31 ∧ ∀ c ∈ x.cps.toList, 48 ≤ c := by
  have nmOk : ∀ x ∈ ss, x.length ≤ 31 ∧ ∀ c ∈ x.cps.toList, 48 ≤ c := fun x hx => by
    have n := (N.nm x hx).1
    refine ⟨Nat.le_trans n.1.2.1 (by decide), fun c hc => ?_⟩
    have := abc_range c (n.2 c hc)
    omega
  intro x hx
  unfold wordsN at hx
  rcases List.mem_cons.mp hx with rfl | hx
  · exact nmOk _ (getD_of (by rw [← N.rl]; exact h))
  · rcases List.mem_cons.mp hx with rfl | hx
    · have p := N.price h
      exact ⟨(fig_len (by omega) p.2).2, fun c hc => (fig_dig (by omega) c hc).1⟩
    · exact nmOk x (List.mem_of_mem_take ((N.el h).2.2 x hx))
theorem NmN.rowLen {i : Nat} (h : i < rows.length) : (rowN ss ps rows i).length ≤ 1400 := by
  unfold rowN wordsN
  rw [join_cons]
  have w := N.word h
  have l := (N.el h).2.1
  refine Nat.le_trans (fold_len " " _ _ 31 fun y hy => (w y (List.mem_cons_of_mem _ hy)).1) ?_
  have h0 := (w _ List.mem_cons_self).1
  have e : (" " : Str).length = 1 := by decide +kernel
  rw [List.length_cons, e]
  have h0 : (ss.getD i "").length ≤ 31 := h0
  have : ((elN ss (rows.getD i [])).length + 1) * (1 + 31) ≤ 41 * 32 := Nat.mul_le_mul (by omega) (by decide)
  omega
theorem NmN.rowFree {i : Nat} (h : i < rows.length) : 10 ∉ (rowN ss ps rows i).cps.toList := by
  intro hc
  unfold rowN wordsN at hc
  rw [join_cons] at hc
  have w := N.word h
  rcases fold_mem " " _ _ hc with z | z | ⟨y, hy, z⟩
  · have := (w _ List.mem_cons_self).2 10 z
    omega
  · exact absurd z (by decide +kernel)
  · have := (w y (List.mem_cons_of_mem _ hy)).2 10 z
    omega
theorem NmN.splitRow {i : Nat} (h : i < rows.length) : Txt.split (rowN ss ps rows i) " " = wordsN ss ps rows i := by
  unfold rowN
  refine TL.split_join (y := " ") (s := 32) (S := []) (by decide +kernel) (by decide +kernel) (by unfold wordsN; simp) fun p hp hc => ?_
  have := (N.word h p hp).2 32 hc
  omega
theorem NmN.splitNet : Txt.split (netN ss ps rows) "\n" = (List.range rows.length).map (rowN ss ps rows) := by
  unfold netN
  refine TL.split_join (y := "\n") (s := 10) (S := []) (by decide +kernel) (by decide +kernel) ?_ fun p hp => ?_
  · intro z
    have e := congrArg List.length z
    rw [List.length_map, List.length_range, List.length_nil] at e
    have l1 := N.l1
    have rl := N.rl
    omega
  · obtain ⟨i, hi, rfl⟩ := List.mem_map.mp hp
    exact N.rowFree (List.mem_range.mp hi)
theorem NmN.netLen : (netN ss ps rows).length ≤ 60000 := by
  unfold netN
  have l1 := N.l1
  have l40 := N.l40
  have rl := N.rl
  obtain ⟨n, hn⟩ : ∃ n, rows.length = n + 1 := ⟨rows.length - 1, by omega⟩
  rw [hn, List.range_succ_eq_map, List.map_cons, join_cons]
  have b : ∀ i, i < n + 1 → (rowN ss ps rows i).length ≤ 1400 := fun i hi => N.rowLen (by omega)
  refine Nat.le_trans (fold_len "\n" _ _ 1400 fun y hy => ?_) ?_
  · obtain ⟨k, hk, rfl⟩ := List.mem_map.mp hy
    obtain ⟨i, hi, rfl⟩ := List.mem_map.mp hk
    exact b _ (by have := List.mem_range.mp hi; omega)
  · have e : ("\n" : Str).length = 1 := by decide +kernel
    have h0 := b 0 (by omega)
    rw [List.length_map, List.length_map, List.length_range, e]
    have : n * (1 + 1400) ≤ 39 * 1401 := Nat.mul_le_mul (by omega) (by decide)
    omega
end
theorem sum_le {m : Nat} : ∀ ys : List Str, (∀ y ∈ ys, y.length ≤ m) → (ys.map (·.length)).sum ≤ ys.length * m
  | [], _ => by simp
  | y :: ys, h => by
    have h1 := h y List.mem_cons_self
    have h2 := sum_le ys fun z hz => h z (List.mem_cons_of_mem _ hz)
    rw [List.map_cons, List.sum_cons, List.length_cons, Nat.succ_mul]
    omega
/-- the places of names -/
def plcN (ss : List Str) (k : Nat) : List (Key × V) := (List.range k).map fun i => (Sum.inr (ss.getD i ""), V.int (i : Nat))
theorem val_of {κ : Type} [DecidableEq κ] {k : κ} {v : V} : ∀ {kvs : List (κ × V)}, (kvs.map (·.1)).Nodup → (k, v) ∈ kvs → valV kvs k = some v
  | [], _, h => by cases h
  | p :: kvs, nd, h => by
    rw [List.map_cons, List.nodup_cons] at nd
    rcases List.mem_cons.mp h with e | h
    · subst e
      exact valV_pos rfl
    · rw [valV_neg fun e => nd.1 (by rw [e]; exact List.mem_map.mpr ⟨_, h, rfl⟩)]
      exact val_of nd.2 h
theorem nm_inj {ss : List Str} (nd : ss.Nodup) {i j : Nat} (hi : i < ss.length) (hj : j < ss.length) (e : ss.getD i "" = ss.getD j "") : i = j := by
  have gi := getD_at (l := ss) (d := "") hi
  rw [e, ← getD_at (l := ss) (d := "") hj] at gi
  exact (List.getElem?_inj hi nd).mp gi
theorem plc_nd {ss : List Str} (nd : ss.Nodup) {k : Nat} (hk : k ≤ ss.length) : ((plcN ss k).map (·.1)).Nodup := by
  unfold plcN List.Nodup
  rw [List.map_map, List.pairwise_map]
  refine List.Pairwise.imp_of_mem (fun {a b} ha hb ne e => ne ?_) (List.nodup_range (n := k))
  have := List.mem_range.mp ha
  have := List.mem_range.mp hb
  exact nm_inj nd (by omega) (by omega) (Sum.inr.inj e)
theorem plc_get {ss : List Str} (nd : ss.Nodup) {i k : Nat} (hk : k ≤ ss.length) (hi : i < k) : valV (plcN ss k) (Sum.inr (ss.getD i "")) = some (.int (i : Nat)) := val_of (plc_nd nd hk) (List.mem_map.mpr ⟨i, List.mem_range.mpr hi, rfl⟩)
theorem plc_put {ss : List Str} (nd : ss.Nodup) {k : Nat} (hk : k < ss.length) : putK (plcN ss k) (Sum.inr (ss.getD k "")) (.int (k : Nat)) = plcN ss (k + 1) := by
  unfold putK
  rw [if_neg]
  · unfold plcN
    rw [List.range_succ, List.map_append]
    rfl
  · intro z
    obtain ⟨p, hp, e⟩ := List.any_eq_true.mp z
    unfold plcN at hp
    obtain ⟨i, hi, rfl⟩ := List.mem_map.mp hp
    have lt := List.mem_range.mp hi
    have := nm_inj nd (by omega) hk (Sum.inr.inj (of_decide_eq_true e))
    omega
theorem plc_len (ss : List Str) (k : Nat) : (plcN ss k).length = k := by simp [plcN]
/-! ### promises -/
def spIsName : Sp := fun vs H Q _ => ∃ s : Str, vs = [.str s] ∧ NameS s ∧ s ∉ noNm ∧ ∀ H', Same H H' → Q (.bl true) H'
def spIsPrice : Sp := fun vs H Q _ => ∃ p : Int, vs = [.str (figT p)] ∧ 1 ≤ p ∧ p ≤ bigP ∧ ∀ H', Same H H' → Q (.bl true) H'
def spIsRow : Sp := fun vs H Q _ => ∃ (lw la : Addr) (s : Str) (p : Int) (es ah : List Str), vs = [.ref lw, .ref la] ∧ H lw = some (.lst ((s :: figT p :: es).map V.str)) ∧ H la = some (.lst (ah.map V.str)) ∧ NameS s ∧ s ∉ noNm ∧ s ∉ ah ∧ 1 ≤ p ∧ p ≤ bigP ∧ es.Nodup ∧ es.length ≤ 100 ∧ (∀ e ∈ es, e ∈ ah) ∧ ∀ H', Same H H' → Q (.bl true) H'
def spReadNet : Sp := fun vs H Q _ => ∃ (ss : List Str) (ps : List Int) (rows : List (List Int)), vs = [.str (netN ss ps rows)] ∧ NmN ss ps rows ∧ ∀ (l : Addr) (as : List Addr) (H' : Hp), Same H H' → H l = none → H' l = some (.lst (as.map V.ref)) → NmAt H' as ss ps rows → Q (.ref l) H'
def spShowNet (K : PySem.W.Frag) : Sp := fun vs H Q _ => ∃ (kd : Bool) (l : Addr) (as : List Addr) (ss : List Str) (ps : List Int) (rows : List (List Int)), vs = [.ref l] ∧ SqK K kd H l (as.map V.ref) ∧ NmAt H as ss ps rows ∧ NmN ss ps rows ∧ ∀ H', Same H H' → Q (.str (netN ss ps rows)) H'
def spNetIn (K : PySem.W.Frag) : Sp := fun vs H Q _ => ∃ (kd : Bool) (l : Addr) (as : List Addr) (ss : List Str) (ps : List Int) (rows : List (List Int)), vs = [.ref l] ∧ SqK K kd H l (as.map V.ref) ∧ NmAt H as ss ps rows ∧ NmN ss ps rows ∧
  ∀ (p : Addr) (bs : List Addr) (srt : List (List Int)) (H' : Hp), Same H H' → NetAt H' p bs srt → SrtOf srt rows → Q (.ref p) H'
def spPricesIn (K : PySem.W.Frag) : Sp := fun vs H Q _ => ∃ (kd : Bool) (l : Addr) (as : List Addr) (ss : List Str) (ps : List Int) (rows : List (List Int)), vs = [.ref l] ∧ SqK K kd H l (as.map V.ref) ∧ NmAt H as ss ps rows ∧ NmN ss ps rows ∧ ∀ (u : Addr) (H' : Hp), Same H H' → H u = none → H' u = some (.lst (ps.map V.int)) → Q (.ref u) H'
end Bk
/-! named nets drawn; told the same -/
namespace Bk
open PySem PySem.Spec PyProof.Rows L2
def spPrice80 : Sp := fun vs H Q _ => ∃ (G : Hp) (d : Addr), vs = [.ref d] ∧ FeedAt G H d ∧ ∀ (p : Int) (H' : Hp), 1 ≤ p → p ≤ bigP → FeedAt G H' d → Q (.int p) H'
def spNamed80 : Sp := fun vs H Q _ => ∃ (G : Hp) (d : Addr), vs = [.ref d] ∧ FeedAt G H d ∧ ∀ (l : Addr) (as : List Addr) (ss : List Str) (ps : List Int) (rows : List (List Int)) (H' : Hp), Same G H' → H' l = some (.lst (as.map V.ref)) → NmAt H' as ss ps rows → NmN ss ps rows → Q (.ref l) H'
def spText80 : Sp := fun vs H Q _ => ∃ (l : Addr) (as : List Addr) (ss : List Str) (ps : List Int) (rows : List (List Int)), vs = [.ref l] ∧ H l = some (.lst (as.map V.ref)) ∧ NmAt H as ss ps rows ∧ NmN ss ps rows ∧ ∀ H', Same H H' → Q (.str (netN ss ps rows)) H'
/-- told the same: numbers, texts, lists and tuples at any depth -/
def Same8 (H : Hp) : Nat → V → V → Prop
  | 0, _, _ => False
  | n + 1, x, y => (∃ i : Int, x = .int i ∧ y = .int i) ∨ (∃ s : Str, x = .str s ∧ y = .str s) ∨
      (∃ (a b : Addr) (xs ys : List V), x = .ref a ∧ y = .ref b ∧ H a = some (.tup xs) ∧ H b = some (.tup ys) ∧ xs.length = ys.length ∧ xs.length ≤ 1000 ∧ ∀ (i : Nat) (u v : V), xs[i]? = some u → ys[i]? = some v → Same8 H n u v) ∨
      ∃ (a b : Addr) (xs ys : List V), x = .ref a ∧ y = .ref b ∧ H a = some (.lst xs) ∧ H b = some (.lst ys) ∧ xs.length = ys.length ∧ xs.length ≤ 1000 ∧ ∀ (i : Nat) (u v : V), xs[i]? = some u → ys[i]? = some v → Same8 H n u v
theorem Same8.same {H H' : Hp} (s : Same H H') : ∀ {n : Nat} {x y : V}, Same8 H n x y → Same8 H' n x y
  | 0, _, _, h => h
  | n + 1, x, y, h => by
    rcases h with h | h | ⟨a, b, xs, ys, h1, h2, h3, h4, h5, h6, h7⟩ | ⟨a, b, xs, ys, h1, h2, h3, h4, h5, h6, h7⟩
    · exact .inl h
    · exact .inr (.inl h)
    · exact .inr (.inr (.inl ⟨a, b, xs, ys, h1, h2, s _ _ h3, s _ _ h4, h5, h6, fun i u v g1 g2 => Same8.same s (h7 i u v g1 g2)⟩))
    · exact .inr (.inr (.inr ⟨a, b, xs, ys, h1, h2, s _ _ h3, s _ _ h4, h5, h6, fun i u v g1 g2 => Same8.same s (h7 i u v g1 g2)⟩))
theorem Same8.intsT {H : Hp} {n : Nat} {a b : Addr} {ms : List Int} (h1 : H a = some (.tup (ms.map V.int))) (h2 : H b = some (.tup (ms.map V.int))) (hl : ms.length ≤ 1000) : Same8 H (n + 2) (.ref a) (.ref b) := by
  refine .inr (.inr (.inl ⟨a, b, _, _, rfl, rfl, h1, h2, rfl, by rw [List.length_map]; exact hl, fun i u v g1 g2 => ?_⟩))
  rw [g1] at g2
  obtain rfl := Option.some.inj g2
  obtain ⟨m, _, rfl⟩ := map_get g1
  exact .inl ⟨m, rfl, rfl⟩
theorem Same8.strsT {H : Hp} {n : Nat} {a b : Addr} {ms : List Str} (h1 : H a = some (.tup (ms.map V.str))) (h2 : H b = some (.tup (ms.map V.str))) (hl : ms.length ≤ 1000) : Same8 H (n + 2) (.ref a) (.ref b) := by
  refine .inr (.inr (.inl ⟨a, b, _, _, rfl, rfl, h1, h2, rfl, by rw [List.length_map]; exact hl, fun i u v g1 g2 => ?_⟩))
  rw [g1] at g2
  obtain rfl := Option.some.inj g2
  obtain ⟨m, _, rfl⟩ := map_get g1
  exact .inr (.inl ⟨m, rfl, rfl⟩)
theorem Same8.intsL {H : Hp} {n : Nat} {a b : Addr} {ms : List Int} (h1 : H a = some (.lst (ms.map V.int))) (h2 : H b = some (.lst (ms.map V.int))) (hl : ms.length ≤ 1000) : Same8 H (n + 2) (.ref a) (.ref b) := by
  refine .inr (.inr (.inr ⟨a, b, _, _, rfl, rfl, h1, h2, rfl, by rw [List.length_map]; exact hl, fun i u v g1 g2 => ?_⟩))
  rw [g1] at g2
  obtain rfl := Option.some.inj g2
  obtain ⟨m, _, rfl⟩ := map_get g1
  exact .inl ⟨m, rfl, rfl⟩
/-- two named nets -/
theorem Same8.named {H : Hp} {l l' : Addr} {as bs : List Addr} {ss : List Str} {ps : List Int} {rows : List (List Int)} (N : NmN ss ps rows) (h1 : H l = some (.lst (as.map V.ref))) (A1 : NmAt H as ss ps rows) (h2 : H l' = some (.lst (bs.map V.ref))) (A2 : NmAt H bs ss ps rows) : Same8 H 4 (.ref l) (.ref l') := by
  have l40 := N.l40
  have rl := N.rl
  have e1 := A1.1
  have e2 := A2.1
  refine .inr (.inr (.inr ⟨l, l', _, _, rfl, rfl, h1, h2, by simp; omega, by simp; omega, fun i u v g1 g2 => ?_⟩))
  obtain ⟨a, ha, rfl⟩ := map_get g1
  obtain ⟨b, hb, rfl⟩ := map_get g2
  have lt := (List.getElem?_eq_some_iff.mp ha).1
  obtain ⟨x, k1, k2⟩ := A1.2 i a ha
  obtain ⟨y, m1, m2⟩ := A2.2 i b hb
  have el := (N.el (i := i) (by omega)).2.1
  refine .inr (.inr (.inl ⟨a, b, _, _, rfl, rfl, k1, m1, rfl, by simp, fun j u v q1 q2 => ?_⟩))
  match j, q1, q2 with
  | 0, q1, q2 => cases q1; cases q2; exact .inr (.inl ⟨_, rfl, rfl⟩)
  | 1, q1, q2 => cases q1; cases q2; exact .inl ⟨_, rfl, rfl⟩
  | 2, q1, q2 => cases q1; cases q2; exact Same8.strsT k2 m2 (by omega)
/-- two nets -/
theorem Same8.nets {H : Hp} {n : Nat} {p q : Addr} {as bs : List Addr} {rows : List (List Int)} (A : NetAt H p as rows) (B : NetAt H q bs rows) (hl : rows.length ≤ 1000) (hr : ∀ r ∈ rows, r.length ≤ 1000) : Same8 H (n + 3) (.ref p) (.ref q) := by
  refine .inr (.inr (.inl ⟨p, q, _, _, rfl, rfl, A.hp, B.hp, by rw [List.length_map, List.length_map, A.rw.1, B.rw.1], by rw [List.length_map, A.rw.1]; exact hl, fun i u v g1 g2 => ?_⟩))
  obtain ⟨a, ha, rfl⟩ := map_get g1
  obtain ⟨b, hb, rfl⟩ := map_get g2
  have lt : i < rows.length := by rw [← A.rw.1]; exact (List.getElem?_eq_some_iff.mp ha).1
  have hrow := List.getElem?_eq_getElem lt
  exact Same8.intsT (n := n) (A.rw.2 i a _ ha hrow) (B.rw.2 i b _ hb hrow) (hr _ (List.getElem_mem lt))
theorem srt_one {a b rows : List (List Int)} (ha : SrtOf a rows) (hb : SrtOf b rows) (nd : ∀ r ∈ rows, r.Nodup) : a = b := by
  apply List.ext_getElem?
  intro i
  have la := ha.len
  have lb := hb.len
  rcases Nat.lt_or_ge i rows.length with lt | ge
  · have ea := List.getElem?_eq_getElem (l := a) (i := i) (by omega)
    have eb := List.getElem?_eq_getElem (l := b) (i := i) (by omega)
    have er := List.getElem?_eq_getElem (l := rows) (i := i) lt
    obtain ⟨p1, s1⟩ := ha.at' i _ _ ea er
    obtain ⟨p2, s2⟩ := hb.at' i _ _ eb er
    have n0 := nd _ (List.getElem_mem lt)
    have w1 : (a[i]'(by omega)).Pairwise (· < ·) := List.Pairwise.imp₂ (fun x y h1 h2 => by omega) s1 (p1.nodup_iff.mpr n0)
    have w2 : (b[i]'(by omega)).Pairwise (· < ·) := List.Pairwise.imp₂ (fun x y h1 h2 => by omega) s2 (p2.nodup_iff.mpr n0)
    rw [ea, eb, pw_ext w1 w2 fun k => (p1.mem_iff).trans (p2.mem_iff).symm]
  · rw [List.getElem?_eq_none (by omega), List.getElem?_eq_none (by omega)]
theorem NmAt.named {H : Hp} {as : List Addr} {ss : List Str} {ps : List Int} {rows : List (List Int)} (A : NmAt H as ss ps rows) (N : NmN ss ps rows) : NamedAt H as ss := ⟨by rw [A.1, N.rl], fun i a s h1 h2 => by
  have lt := (List.getElem?_eq_some_iff.mp h2).1
  obtain ⟨e, k1, k2⟩ := A.2 i a h1
  have es : ss.getD i "" = s := by
    rw [getD_at (l := ss) (i := i) (d := "") lt] at h2
    exact Option.some.inj h2
  rw [es] at k1
  exact ⟨_, e, k1, _, k2, fun x hx => (N.nm x (List.mem_of_mem_take ((N.el (i := i) (by rw [N.rl]; exact lt)).2.2 x hx))).1.1.2.2⟩⟩
def spSame8F : Nat → Sp
  | 0 => spNever
  | n + 1 => fun vs H Q _ => ∃ x y : V, vs = [x, y] ∧ Same8 H (n + 1) x y ∧ ∀ H', Same H H' → Q (.bl true) H'
end Bk
/-! len(set(texts)), any texts -/
namespace Bk
open PySem PySem.Spec PyProof.Rows L2
section
variable {prog : Program} {w : World} {A : Around} {R : Result → Shared → Prop} {I S : Addr} {fp wr : List Addr} {G : Array GenState → Array GenState → Prop} {P : Nat → Value → Prop} {St : Nat → Shared → Prop}
/-- how many unlike ones the first i are -/
def disN (xs : List Str) : Nat → Nat
  | 0 => 0
  | i + 1 => if xs.getD i "" ∈ xs.take i then disN xs i else disN xs i + 1
theorem dis_le (xs : List Str) : ∀ i, disN xs i ≤ i
  | 0 => Nat.le_refl _
  | i + 1 => by
    have := dis_le xs i
    rw [show disN xs (i + 1) = (if xs.getD i "" ∈ xs.take i then disN xs i else disN xs i + 1) from rfl]
    split <;> omega
theorem dis_all (xs : List Str) : ∀ i, i ≤ xs.length → (disN xs i = i ↔ (xs.take i).Nodup)
  | 0, _ => by simp [disN]
  | i + 1, h => by
    have ih := dis_all xs i (by omega)
    have le := dis_le xs i
    have gx := getD_at (l := xs) (i := i) (d := "") (by omega)
    rw [take_next gx]
    have app : (xs.take i ++ [xs.getD i ""]).Nodup ↔ (xs.take i).Nodup ∧ xs.getD i "" ∉ xs.take i := by
      rw [List.nodup_append]
      constructor
      · rintro ⟨h1, _, h3⟩
        exact ⟨h1, fun z => h3 _ z _ (by simp) rfl⟩
      · rintro ⟨h1, h2⟩
        refine ⟨h1, by simp, fun a ha b hb e => ?_⟩
        obtain rfl : b = xs.getD i "" := by simpa using hb
        exact h2 (e ▸ ha)
    rw [app, ← ih, show disN xs (i + 1) = (if xs.getD i "" ∈ xs.take i then disN xs i else disN xs i + 1) from rfl]
    split
    · rename_i hm
      exact ⟨fun e => by omega, fun z => absurd hm z.2⟩
    · rename_i hm
      exact ⟨fun e => ⟨by omega, hm⟩, fun z => by omega⟩
theorem dis_iff (xs : List Str) : disN xs xs.length = xs.length ↔ xs.Nodup := by
  have := dis_all xs xs.length (Nat.le_refl _)
  rwa [List.take_length] at this
theorem ty_grow {xs : List Str} {i : Nat} {x : Str} (hx : xs[i]? = some x) : (∀ y : Str, (decide (y ∈ xs.take i) || decide (y = x)) = decide (y ∈ xs.take (i + 1))) ∧ (if decide (x ∈ xs.take i) then disN xs i else disN xs i + 1) = disN xs (i + 1) := by
  have gx : xs.getD i "" = x := by rw [List.getD_eq_getElem?_getD, hx]; rfl
  refine ⟨fun y => ?_, ?_⟩
  · rw [take_next hx, ← Bool.decide_or]
    exact decide_eq_decide.mpr (by simp)
  · simp only [decide_eq_true_eq]
    show _ = (if xs.getD i "" ∈ xs.take i then disN xs i else disN xs i + 1)
    rw [gx]
/-- one turn more or the end -/
theorem ty_loop (xs : List Str) (W : WalksS prog w A.in1 I fp wr G xs.length P St) (out : S ∉ fp) (room : xs.length + 1 < scanBound) (val : ∀ i v, P i v → ∃ t, v = .str (xs.getD i Str.empty) t) :
    ∀ (k i : Nat) (s : Shared), i + k = xs.length → St i s → s.heap.SetOf (PySem.strKind prog w) S (fun y => decide (y ∈ xs.take i)) (disN xs i) →
      (∀ s', Moved (S :: wr) G s s' → s'.heap.SetOf (PySem.strKind prog w) S (fun y => decide (y ∈ xs)) (disN xs xs.length) → R (.ok (.ret .none)) s') →
      codeAny (model prog w) A (.builtin "set.update.loop" ⟨[.ref S, .ref I], []⟩) R s
  | 0, i, s, e, st, so, fin => by
    have ei : i = xs.length := by omega
    subst ei
    have keep : ∀ s', Moved wr G s s' → s'.heap.SetOf (PySem.strKind prog w) S (fun y => decide (y ∈ xs)) (disN xs xs.length) := fun s' mv => by
      obtain ⟨o, es, ep, tb, so, more⟩ := so
      rw [List.take_length] at more
      exact ⟨o, es, ep, tb, mv.heap S _ (fun z => out (W.sub _ z)) so, more⟩
    refine codeAny_builtin PyProof.Rows.F.entry_set_update_loop ?_
    rw [Around.under_plainId PyProof.Rows.F.plain_set_update_loop _]
    exact wpAny_bind (W.done s _ _ st fun s' mv => wpAny_pure (fin s' (mv.mono fun b hb => List.mem_cons_of_mem _ hb) (keep s' mv)))
  | k + 1, i, s, e, st, so, fin => by
    have hx : xs[i]? = some (xs.getD i Str.empty) := by
      rw [List.getD_eq_getElem?_getD, List.getElem?_eq_getElem (l := xs) (i := i) (by omega)]
      rfl
    generalize xs.getD i Str.empty = x at hx
    obtain ⟨gr, gn⟩ := ty_grow hx
    have dle := dis_le xs i
    refine codeAny_builtin PyProof.Rows.F.entry_set_update_loop ?_
    rw [Around.under_plainId PyProof.Rows.F.plain_set_update_loop _]
    refine wpAny_bind (W.item i s _ _ (by omega) st fun v s' pv st' mv => ?_)
    obtain ⟨t, ev⟩ := val i v pv
    have gx : xs.getD i Str.empty = x := by rw [List.getD_eq_getElem?_getD, hx]; rfl
    rw [gx] at ev
    subst ev
    have so' : s'.heap.SetOf (PySem.strKind prog w) S (fun y => decide (y ∈ xs.take i)) (disN xs i) := by
      obtain ⟨o, es, ep, tb, so, more⟩ := so
      exact ⟨o, es, ep, tb, mv.heap S _ (fun z => out (W.sub _ z)) so, more⟩
    refine wpAny_bind (wpAny_holding ?_)
    unfold setAdd
    refine wpAny_holding (wpAny_bind ((PySem.strKind prog w).pyHash (k := x) (strKind_is _ _ _ _) ?_))
    refine wpAny_setAddHashed_of (knd := PySem.strKind prog w) (s := { s' with toks := s'.toks + 1 }) (strKind_is _ _ _ _) rfl so' (by omega) fun h' sb so2 => ?_
    have so3 := SetOf_congr so2 gr gn
    have st3 := W.frame (i + 1) s' h' (s'.toks + 1) st' (Nat.le_succ _) fun b hb o eo => by
      rw [sb.2 b (fun z : b = S => out (z ▸ hb))]
      exact eo
    have mv3 : Moved (S :: wr) G s { s' with heap := h', toks := s'.toks + 1 } := (mv.mono fun b hb => List.mem_cons_of_mem _ hb).then_heap (Nat.le_succ _) fun b o hb eo => by
      rw [sb.2 b (fun z : b = S => hb (z ▸ List.mem_cons_self))]
      exact eo
    exact wpAny_pure ⟨plainId_quiet PyProof.Rows.F.plain_set_update_loop _, ty_loop xs W out room val k (i + 1) _ (by omega) st3 so3 fun s'' mv'' fs => fin s'' (Moved.trans W.gtrans mv3 mv'') fs⟩
end
section
variable {prog : Program} {w : World} {A : Around} {E : Value → Shared → Prop} {s : Shared}
theorem ty_set {l : Addr} {its : Array Value} {xs : List Str} {Q : Value → Shared → Prop} (calm : A.handled = none) (hl : s.heap.IsList l its) (hi : StrsAre its.toList xs) (room : xs.length + 1 < scanBound)
    (fin : ∀ (h' : Heap) (tk : Nat), h'.SetOf (PySem.strKind prog w) s.heap.objs.size (fun y => decide (y ∈ xs)) (disN xs xs.length) → (∀ b o, s.heap.get? b = some o → h'.get? b = some o) → Q (.ref s.heap.objs.size) { s with heap := h', toks := tk }) :
    wpAny (model prog w) A (call (.type "set") [.ref l]) Q E s := by
  obtain ⟨c, tl, mro⟩ := PySem.F.called_set.mro
  have made := PySem.F.called_set.made
  have subt := PySem.F.called_set.sub
  have nt := PySem.F.called_set.notType
  have cc := PySem.F.called_set.canCreate
  have tc := PySem.F.typeCall_set_1 (.ref l)
  refine wpAny_call (codeAny_of_tree (show wpAny _ _ (callAny (.type "set") _) _ _ _ from wpAny_pure ⟨Code.quiet_builtin _ (by decide +kernel), codeAny_builtin PySem.F.entry_type_call ?_⟩))
  rw [Around.under_plain (weight_type_call_type "set" [.ref l] []) rfl]
  repeat (any_goals (first | assumption | wp_step))
  refine codeAny_mono (code_set_new_1 (.ref l) (E := E) (Q₁ := fun obj s₁ => ∃ led : Bool, obj = .ref s.heap.objs.size ∧ s₁ = { s with heap := s.heap.push (bareSet led) }) fun led => ⟨led, rfl, rfl⟩) fun r s₁ hr => ?_
  match r, hr with
  | .error e, hr => exact hr
  | .ok (.ret obj), hr =>
    obtain ⟨led, rfl, rfl⟩ := hr
    have at0 : (s.heap.push (bareSet led)).get? s.heap.objs.size = some (bareSet led) := Heap.get?_push_size _ rfl
    have ty0 : Shared.TypeIs { s with heap := s.heap.push (bareSet led) } (.ref s.heap.objs.size) "set" := ⟨_, at0, rfl⟩
    have li := PySem.F.called_set.init.lookup
    have bi := PySem.F.called_set.init.bind (.ref s.heap.objs.size)
    repeat (any_goals (first | assumption | wp_step))
    refine codeAny_mono (codeAny_call_builtin (R := wants (fun r s₂ => r = .none ∧ ∃ h' tk, s₂ = { s with heap := h', toks := tk } ∧ h'.SetOf (PySem.strKind prog w) s.heap.objs.size (fun y => decide (y ∈ xs)) (disN xs xs.length) ∧ ∀ b o, s.heap.get? b = some o → h'.get? b = some o) E) PySem.F.called_set.init.plain PySem.F.entry_set_init (check_set_init_1 ty0 ?_)) fun r₂ s₂ hr₂ => ?_
    · have ll := hl
      obtain ⟨⟨cl, di, da, sl⟩, g0, c0, n0, d0⟩ := ll
      dsimp only at c0 d0
      subst c0 d0
      have g1 : (s.heap.push (bareSet led)).get? l = some { cls := .type "list", dict := di, data := .seq its n0, slots := sl } := Heap.get?_push_of_some _ g0
      have k1 := PySem.F.sub_list_set
      have k2 := PySem.F.sub_list_frozenset
      have k3 : (Value.type "list" == Value.type "dict") = false := by decide
      have hl1 : (s.heap.push (bareSet led)).IsList l its := hl.push _
      unfold Builtin.«set.__init__» noKeywords Builtin.Frozenset.updateFrom
      generalize ePI : pyIter = PI
      wp_walk
      subst ePI
      refine wpAny_pyIter_list hl1 (wpAny_bind (wpAny_runValue ?_))
      have ltl : l < s.heap.objs.size := Heap.lt_size g0
      have sz1 : (s.heap.push (bareSet led)).objs.size = s.heap.objs.size + 1 := Heap.size_push _ _
      have neI : l ≠ (s.heap.push (bareSet led)).objs.size := Nat.ne_of_lt (by rw [sz1]; exact Nat.lt_succ_of_lt ltl)
      have xl : its.size = xs.length := by rw [← StrsAre.len_eq hi, Array.length_toList]
      have W := (Walks.list (prog := prog) (w := w) (A := A.in1.in1.in1) (by simp [calm]) (s.heap.push (bareSet led)).objs.size l neI its).toS
      rw [xl] at W
      refine ty_loop xs W (by rw [sz1]; simp only [List.mem_cons, List.not_mem_nil, or_false, not_or]; exact ⟨Nat.ne_of_lt (Nat.lt_succ_self _), Nat.ne_of_gt ltl⟩) room (fun i v hv => SS.strs_at hi i v (by rw [Array.getElem?_toList]; exact hv)) xs.length 0 _ (Nat.zero_add _) ?st ?h0 ?hR
      case st => exact ⟨⟨_, Heap.get?_push_size _ rfl, rfl, rfl⟩, hl1.push _⟩
      case h0 => exact SetOf_congr ((setObjOf_fresh (knd := PySem.strKind prog w) led).setOf (Heap.get?_push_of_some _ at0) (by unfold scanBound; omega)) (fun _ => by simp) rfl
      case hR =>
        rintro ⟨h', g', d', t', o'⟩ mv so
        obtain rfl : g' = s.gens := mv.gens
        obtain rfl : d' = s.drawn := mv.drawn
        obtain rfl : o' = s.os := mv.os
        refine wpAny_pure (show wpAny _ _ (ret Value.none) _ _ _ from wpAny_pure ⟨rfl, h', t', rfl, so, fun b o e => ?_⟩)
        have lb := Heap.lt_size e
        exact mv.heap b o (by rw [sz1]; simp only [List.mem_cons, List.not_mem_nil, or_false, not_or]; exact ⟨Nat.ne_of_lt lb, Nat.ne_of_lt (Nat.lt_succ_of_lt lb)⟩) (Heap.get?_push_of_some _ (Heap.get?_push_of_some _ e))
    · match r₂, hr₂ with
      | .error e, hr₂ => exact hr₂
      | .ok (.ret r), hr₂ =>
        obtain ⟨rfl, h', tk, rfl, so, kp⟩ := hr₂
        repeat (any_goals (first | assumption | wp_step))
        exact fin _ _ so kp
end
def tLenSetG (K : PySem.W.Frag) (ta : TE) : TE := fun σ H Q => ta σ H fun x H1 => ∃ (l : Addr) (xs : List Str), x = .ref l ∧ SqL K H1 l (xs.map V.str) ∧ xs.length ≤ 3000 ∧ Q (.int (disN xs xs.length : Nat)) H1
theorem pe_lenSetG {X : Cx} {a : Expr} {ta : TE} {p p2 q pos : Pos} (hg : Gl X "len") (hm : X.mg "len" = none) (hg2 : Gl X "set") (hm2 : X.mg "set" = none) (ha : PE X a ta) (hc : X.calm = true := by rfl)
    (na : starEach [a] X.env = (false, eval a X.env) :: starEach [] X.env := by rfl) : PE X (.Call (.Name "len" p) [.Call (.Name "set" p2) [a] [] q] [] pos) (tLenSetG X.K ta) := by
  refine ⟨fun pins s σ H Q I h => Call_ (ld_blt I hg hm boot_len ?_)⟩
  refine PyProof.Rows.callWith_builtin1 (PyProof.Rows.args_cons (Call_ (ld_blt I hg2 hm2 boot_set ?_)) rfl) rfl rfl
  refine PyProof.Rows.callWith_type1 (PyProof.Rows.args_cons (thn (ha.run pins s σ H _ I h) ?_) na) na rfl
  rintro v s1 ⟨x, H1, J, r1, l, xs, rfl, hq, hl, q1⟩
  refine PyProof.Rows.args_nil ?_
  cases r1
  obtain ⟨its, r, pl, hz⟩ := J.list hq
  refine ty_set (J.ok.hd hc) pl.isList (by simpa using strsAre_of r) (by unfold scanBound; omega) fun h' tk hS hk => PyProof.Rows.args_nil ?_
  obtain ⟨o, es, ep, t, ho, hex, hd, _, _, _, hf, hn⟩ := hS
  have J2 : Inv X pins σ H1 { s1 with heap := h', toks := tk } := J.kept fun b o e => hk b o e
  have dle := dis_le xs xs.length
  exact call_len_set ho hex hd hf (by rw [hn]; omega) ⟨.int (disN xs xs.length : Nat), H1, J2.tok _, ⟨_, by rw [hn]⟩, q1⟩
theorem r_lenSetG {K : PySem.W.Frag} {σ : L2.St} {H : Hp} {Q : VK} {ta : TE} (h : ta σ H fun x H1 => ∃ (l : Addr) (xs : List Str), x = .ref l ∧ SqL K H1 l (xs.map V.str) ∧ xs.length ≤ 3000 ∧ Q (.int (disN xs xs.length : Nat)) H1) : tLenSetG K ta σ H Q := h
end Bk
/-! any words, any texts: what is a name, a price, a row; which row is the first that is none -/
namespace Bk
open PySem PySem.Spec PyProof.Rows L2
/-! ### a text times a number, count -/
def rMulS : V → V → Hp → VK → Prop := fun x y H Q => ∃ (a : Str) (n : Int), x = .str a ∧ y = .int n ∧ 0 ≤ n ∧ n ≤ 100000 ∧ a.length ≤ 10 ∧ Q (.str (Txt.mul a n)) H
theorem ob_mulS {X : Cx} : OpR X (binaryOp .Mult) rMulS := by
  intro pins s σ H x y v u Q I rx ry h
  obtain ⟨a, n, rfl, rfl, h0, h1, h2, q⟩ := h
  obtain ⟨t, rfl⟩ := rx
  obtain ⟨t2, rfl⟩ := ry
  refine SB.mul (mulOk_of 10 100000 h2 (by omega) (by omega) (by decide) (by decide)) fun t' k => ?_
  exact ⟨.str (Txt.mul a n), _, I.tok _, ⟨_, rfl⟩, q⟩
theorem k_mulS {H : Hp} {Q : VK} {a : Str} {n : Int} (h0 : 0 ≤ n) (h1 : n ≤ 100000) (h2 : a.length ≤ 10) (q : Q (.str (Txt.mul a n)) H) : rMulS (.str a) (.int n) H Q := ⟨a, n, rfl, rfl, h0, h1, h2, q⟩
theorem reps_mem {c : Array Nat} {x : Nat} : ∀ (k : Nat) (acc : Array Nat), x ∈ ((List.replicate k c).foldl (· ++ ·) acc).toList → x ∈ acc.toList ∨ x ∈ c.toList
  | 0, acc, h => .inl h
  | k + 1, acc, h => by
    rw [List.replicate_succ, List.foldl_cons] at h
    rcases reps_mem k _ h with z | z
    · rw [Array.toList_append] at z
      exact List.mem_append.mp z
    · exact .inr z
theorem mul_mem {x : Str} {n : Int} {c : Nat} (h : c ∈ (Txt.mul x n).cps.toList) : c ∈ x.cps.toList := by
  unfold Txt.mul at h
  split at h
  · have e : (Str.empty).cps.toList = [] := by decide +kernel
    rw [e] at h
    cases h
  · split at h
    · exact h
    · rcases reps_mem _ _ h with z | z
      · simp at z
      · exact z
def rCountS : V → List V → Hp → VK → Prop := fun x xs H Q => ∃ a b, x = .str a ∧ xs = [.str b] ∧ Q (.int (Txt.count a b)) H
theorem bk_countS {X : Cx} : MtR X "str.count" rCountS := mt_count
theorem split_count (x : Str) (c : Nat) : ((Txt.split x ⟨#[c]⟩).length : Int) = 1 + Txt.count x ⟨#[c]⟩ := by
  rw [split_len, count_is]
  rfl
theorem cnt_count (c : Nat) : ∀ l : List Nat, PyProof.Rows.cnt c l = (l.count c : Nat)
  | [] => rfl
  | a :: l => by
    rw [PyProof.Rows.cnt_cons, cnt_count c l, List.count_cons]
    by_cases h : a = c
    · subst h; simp; omega
    · have : (a == c) = false := by simpa using h
      rw [if_neg h, this]
      simp
theorem split_words (x : Str) : (Txt.split x " ").length = 1 + x.cps.toList.count 32 := by
  have h := split_len x 32
  rw [cnt_count] at h
  have e : (" " : Str) = ⟨#[32]⟩ := by decide +kernel
  rw [e]
  omega
theorem fold_count (sep : Str) (c : Nat) : ∀ (ys : List Str) (x : Str), x.cps.toList.count c ≤ (ys.foldl (fun s y => s ++ sep ++ y) x).cps.toList.count c ∧ ∀ y ∈ ys, y.cps.toList.count c ≤ (ys.foldl (fun s y => s ++ sep ++ y) x).cps.toList.count c
  | [], x => ⟨Nat.le_refl _, fun y h => by cases h⟩
  | y :: ys, x => by
    obtain ⟨h1, h2⟩ := fold_count sep c ys (x ++ sep ++ y)
    rw [Str.cps_append, Array.toList_append, Str.cps_append, Array.toList_append, List.count_append, List.count_append] at h1
    rw [List.foldl_cons]
    refine ⟨by omega, fun z hz => ?_⟩
    rcases List.mem_cons.mp hz with rfl | hz
    · omega
    · exact h2 z hz
theorem split_cnt {x y z : Str} (h : z ∈ Txt.split x y) (c : Nat) : z.cps.toList.count c ≤ x.cps.toList.count c := by
  have e := StrLaws.join_split x y
  cases hl : Txt.split x y with
  | nil => rw [hl] at h; cases h
  | cons a r =>
    rw [hl, join_fold] at e
    rw [hl] at h
    obtain ⟨h1, h2⟩ := fold_count y c r a
    rw [e] at h1 h2
    rcases List.mem_cons.mp h with rfl | h
    · exact h1
    · exact h2 z h
/-! ### prices -/
theorem dig_num : ∀ (k : Nat) (l : List Nat), l.length = k → l ≠ [] → (∀ c ∈ l, 48 ≤ c ∧ c ≤ 57) → l[0]? ≠ some 48 → ∃ n, 1 ≤ n ∧ l = TL.numL n := by
  intro k
  induction k using Nat.strongRecOn with
  | _ k ih =>
    intro l hl ne dg h0
    obtain ⟨r, c, rfl⟩ : ∃ r c, l = r ++ [c] := ⟨l.dropLast, l.getLast ne, (List.dropLast_concat_getLast ne).symm⟩
    have dc := dg c (by simp)
    by_cases hr : r = []
    · subst hr
      have : c ≠ 48 := fun e => h0 (by rw [e]; rfl)
      refine ⟨c - 48, by omega, ?_⟩
      rw [TL.numL_lt (by omega), show 48 + (c - 48) = c by omega]
      rfl
    · have lr : 0 < r.length := List.length_pos_iff.mpr hr
      obtain ⟨m, m1, e⟩ := ih r.length (by rw [← hl]; simp) r rfl hr (fun x hx => dg x (by simp [hx])) (fun z => h0 (by rw [List.getElem?_append_left lr]; exact z))
      refine ⟨m * 10 + (c - 48), by omega, ?_⟩
      rw [TL.numL_step (by omega), show (m * 10 + (c - 48)) / 10 = m by omega, show 48 + (m * 10 + (c - 48)) % 10 = c by omega, e]
theorem str_tl {a b : Str} (h : a.cps.toList = b.cps.toList) : a = b := by
  obtain ⟨x⟩ := a
  obtain ⟨y⟩ := b
  have : x = y := Array.toList_inj.mp h
  rw [this]
theorem figS_iff (c : Nat) : c ∈ figS.cps.toList ↔ 48 ≤ c ∧ c ≤ 57 := by
  refine ⟨fun h => ?_, fun h => figS_mem c h.1 h.2⟩
  have e : figS.cps.toList = [48, 49, 50, 51, 52, 53, 54, 55, 56, 57] := by decide +kernel
  rw [e] at h
  simp only [List.mem_cons, List.not_mem_nil, or_false] at h
  omega
def PrGood (s : Str) : Prop := ∃ p : Int, 1 ≤ p ∧ p ≤ bigP ∧ s = figT p
theorem dig_fig {s : Str} (ne : s.length ≠ 0) (dg : ∀ c ∈ s.cps.toList, c ∈ figS.cps.toList) (h0 : s.cps.toList[0]? ≠ some 48) : ∃ p : Int, 1 ≤ p ∧ s = figT p := by
  obtain ⟨n, n1, e⟩ := dig_num _ s.cps.toList rfl (fun z => ne (by have := congrArg List.length z; exact this)) (fun c hc => (figS_iff c).mp (dg c hc)) h0
  exact ⟨(n : Int), by omega, str_tl (by rw [e, fig_tl (by omega)]; rfl)⟩
theorem fig_intL {p : Int} (h0 : 0 ≤ p) (h1 : (figT p).length ≤ 640) : PySem.intText? (figT p) = some p := by
  have e : p = ((p.toNat : Nat) : Int) := by omega
  have l : (TL.numL p.toNat).length = (figT p).length := by
    rw [← fig_tl h0]
    rfl
  have := TL.int_num (n := p.toNat) (by omega)
  rw [← e] at this
  exact this
theorem pr_iff {p : Int} (h0 : 1 ≤ p) (h1 : (figT p).length ≤ 31) : PrGood (figT p) ↔ p ≤ bigP := by
  refine ⟨?_, fun h => ⟨p, h0, h, rfl⟩⟩
  rintro ⟨q, q1, q2, e⟩
  have a := fig_intL (p := p) (by omega) (by omega)
  rw [e, fig_int (by omega) q2] at a
  obtain rfl := Option.some.inj a
  exact q2
theorem pr_len {s : Str} (h : PrGood s) : 1 ≤ s.length ∧ s.length ≤ 31 := by
  obtain ⟨p, p1, p2, rfl⟩ := h
  exact fig_len (by omega) p2
theorem pr_dig {s : Str} (h : PrGood s) : ∀ c ∈ s.cps.toList, c ∈ figS.cps.toList := by
  obtain ⟨p, p1, p2, rfl⟩ := h
  exact fun c hc => (figS_iff c).mpr (fig_dig (by omega) c hc)
theorem pr_hd {s : Str} (h : PrGood s) : s.cps.toList[0]? ≠ some 48 := by
  obtain ⟨p, p1, p2, rfl⟩ := h
  obtain ⟨c, hc, c1, c2⟩ := fig_hd p1
  rw [hc]
  intro z
  have := Option.some.inj z
  omega
/-! ### names, rows, what is due -/
def NmGood (s : Str) : Prop := 1 ≤ s.length ∧ s.length ≤ 8 ∧ s ∉ noNm ∧ Let s
def RowFine (ws ah : List Str) : Prop := 2 ≤ ws.length ∧ NmGood (ws.getD 0 "") ∧ ws.getD 0 "" ∉ ah ∧ PrGood (ws.getD 1 "") ∧ (ws.drop 2).Nodup ∧ ∀ e ∈ ws.drop 2, e ∈ ah
def lnW (ls : List Str) (i : Nat) : List Str := Txt.split (ls.getD i "") " "
def ahd (ls : List Str) (i : Nat) : List Str := (List.range i).map fun j => (lnW ls j).getD 0 ""
def OkAt (ls : List Str) (i : Nat) : Prop := i < 40 ∧ RowFine (lnW ls i) (ahd ls i)
def DueIs (ls : List Str) : Option Nat → Prop
  | none => ∀ i, i < ls.length → OkAt ls i
  | some i => i < ls.length ∧ ¬ OkAt ls i ∧ ∀ j, j < i → OkAt ls j
theorem DueIs.one {ls : List Str} : ∀ {a b : Option Nat}, DueIs ls a → DueIs ls b → a = b
  | none, none, _, _ => rfl
  | none, some j, h, g => absurd (h j g.1) g.2.1
  | some i, none, h, g => absurd (g i h.1) h.2.1
  | some i, some j, h, g => by
    rcases Nat.lt_trichotomy i j with lt | rfl | gt
    · exact absurd (g.2.2 i lt) h.2.1
    · rfl
    · exact absurd (h.2.2 j gt) g.2.1
theorem ahd_len (ls : List Str) (i : Nat) : (ahd ls i).length = i := by simp [ahd]
theorem ahd_succ (ls : List Str) (i : Nat) : ahd ls (i + 1) = ahd ls i ++ [(lnW ls i).getD 0 ""] := by
  unfold ahd
  rw [List.range_succ, List.map_append]
  rfl
/-- a text that is not too long, with not too many blanks -/
def TxB (t : Str) : Prop := t.length ≤ 36000 ∧ t.cps.toList.count 32 ≤ 2000 ∧ PyData.strOk t = true
theorem split_ok {x y z : Str} (h : z ∈ Txt.split x y) (hx : PyData.strOk x = true) : PyData.strOk z = true := ok_sub hx fun c hc => by
  have := split_cnt h c
  exact List.count_pos_iff.mp (Nat.lt_of_lt_of_le (List.count_pos_iff.mpr hc) this)
theorem TxB.line {t l : Str} (h : TxB t) (hl : l ∈ Txt.split t "\n") : TxB l := ⟨Nat.le_trans (part_short hl) h.1, Nat.le_trans (split_cnt hl 32) h.2.1, split_ok hl h.2.2⟩
theorem TxB.words {l : Str} (h : TxB l) : 1 ≤ (Txt.split l " ").length ∧ (Txt.split l " ").length ≤ 2001 ∧ (∀ w ∈ Txt.split l " ", w.length ≤ 36000) ∧ ∀ w ∈ Txt.split l " ", PyData.strOk w = true := by
  have := split_words l
  have := h.2.1
  exact ⟨by omega, by omega, fun w hw => Nat.le_trans (part_short hw) h.1, fun w hw => split_ok hw h.2.2⟩
theorem TxB.lines {t : Str} (h : TxB t) : (Txt.split t "\n").length ≤ 36002 := by
  have := split_le t "\n"
  have := h.1
  omega
theorem log_small {i : Nat} (h : i ≤ 60000) : (Int.natAbs ((i : Nat) : Int)).log2 < 1920 := by
  show i.log2 < 1920
  by_cases h0 : i = 0
  · subst h0
    decide
  · exact Nat.lt_of_lt_of_le ((Nat.log2_lt h0).mpr (show i < 2 ^ 16 by omega)) (by decide)
/-! ### promises -/
def spIsNameG : Sp := fun vs H Q _ => ∃ s : Str, vs = [.str s] ∧ s.length ≤ 36000 ∧ ∀ (b : Bool) H', Same H H' → (b = true ↔ NmGood s) → Q (.bl b) H'
def spIsPriceG : Sp := fun vs H Q _ => ∃ s : Str, vs = [.str s] ∧ s.length ≤ 36000 ∧ ∀ (b : Bool) H', Same H H' → (b = true ↔ PrGood s) → Q (.bl b) H'
def spIsRowG : Sp := fun vs H Q _ => ∃ (lw la : Addr) (ws ah : List Str), vs = [.ref lw, .ref la] ∧ H lw = some (.lst (ws.map V.str)) ∧ H la = some (.lst (ah.map V.str)) ∧ ws.length ≤ 2001 ∧ ah.length ≤ 50 ∧ (∀ x ∈ ws, x.length ≤ 36000) ∧ ∀ (b : Bool) H', Same H H' → (b = true ↔ RowFine ws ah) → Q (.bl b) H'
/-- what is read, or NoText with the first row that is none -/
def spReadG (K : PySem.W.Frag) (C : Addr) : Sp := fun vs H Q E => ∃ v : V, vs = [v] ∧ (∀ t : Str, v = .str t → TxB t) ∧ ((∀ t : Str, v ≠ .str t) → ∃ a : String, TyX K H v (.type a) ∧ kitB a "str" = some false) ∧
  (∀ (t : Str), v = .str t → DueIs (Txt.split t "\n") none → ∀ (l : Addr) (as : List Addr) (H' : Hp), Same H H' → H' l = some (.lst (as.map V.ref)) → as.length = (Txt.split t "\n").length → Q (.ref l) H') ∧
  (∀ (i : Nat) (d : Addr) (H1 : Hp), ((∃ t : Str, v = .str t ∧ DueIs (Txt.split t "\n") (some i)) ∨ ((∀ t : Str, v ≠ .str t) ∧ i = 0)) → Same H H1 → H d = none → H1 d = none → E (.ref C) (some d) (upd H1 d (.xd [("row", .int (i : Nat))])))
end Bk
/-! what the law asks of any text -/
namespace Bk
open PySem PySem.Spec PyProof.Rows L2
def rNotInSg : V → V → Hp → VK → Prop := fun x y H Q => ∃ (c : Nat) (z : Str), x = .str ⟨#[c]⟩ ∧ y = .str z ∧ Q (.bl (!decide (c ∈ z.cps.toList))) H
theorem ob_notInSg {X : Cx} : OpR X (compareOp .NotIn) rNotInSg := op_notIn_sign
theorem k_notInSg {H : Hp} {Q : VK} {c : Nat} {z : Str} (q : Q (.bl (!decide (c ∈ z.cps.toList))) H) : rNotInSg (.str ⟨#[c]⟩) (.str z) H Q := ⟨c, z, rfl, rfl, q⟩
theorem k_notInLS {K : PySem.W.Frag} {H : Hp} {Q : VK} {p : Addr} {ss : List Str} {x : Str} (h : SqL K H p (ss.map V.str)) (q : Q (.bl (!decide (x ∈ ss))) H) : rIn K true (.str x) (.ref p) H Q := ⟨p, _, rfl, .inl h, rfl, flat_strs ss, by rw [inV_strs]; exact q⟩
theorem dp_strs {K : PySem.W.Frag} {H : Hp} : ∀ ss : List Str, DpAll K H (ss.map V.str) (ss.map PyData.str)
  | [] => .nil
  | s :: ss => .cons (.str s) (dp_strs ss)
theorem sh_strs {ss : List Str} (h : ∀ x ∈ ss, PyData.strOk x = true) : SeqAt.shaped (PyData.list (ss.map PyData.str)) = true := by
  obtain ⟨h1, h2⟩ := str_facts ss h
  simp [SeqAt.shaped, PyData.canLay0, PyData.depth, h1, h2]
theorem k_eqNilS {K : PySem.W.Frag} {H : Hp} {Q : VK} {p q : Addr} {ss : List Str} (ok : ∀ x ∈ ss, PyData.strOk x = true) (h1 : H p = some (.lst (ss.map V.str))) (h2 : H q = some (.lst [])) (h : Q (.bl (decide (ss = []))) H) : rEqD K (.ref p) (.ref q) H Q := by
  refine k_eqD (d := .list (ss.map PyData.str)) (e := .list []) (.lst (sql_lst h1) (dp_strs ss)) (.lst (sql_lst h2) .nil) (sh_strs ok) rfl ?_
  cases ss with
  | nil => exact h
  | cons a r => exact h
theorem k_neNilS {K : PySem.W.Frag} {H : Hp} {Q : VK} {p q : Addr} {ss : List Str} (ok : ∀ x ∈ ss, PyData.strOk x = true) (h1 : H p = some (.lst (ss.map V.str))) (h2 : H q = some (.lst [])) (h : Q (.bl (!decide (ss = []))) H) : rNeD K (.ref p) (.ref q) H Q := by
  refine k_neD (d := .list (ss.map PyData.str)) (e := .list []) (.lst (sql_lst h1) (dp_strs ss)) (.lst (sql_lst h2) .nil) (sh_strs ok) rfl ?_
  cases ss with
  | nil => exact h
  | cons a r => exact h
/-- told: how, and a number -/
theorem k_neTold {K : PySem.W.Frag} {H : Hp} {Q : VK} {p q : Addr} {s : Str} {n : Int} (ok : PyData.strOk s = true) (h1 : H p = some (.tup [.str s, .int n])) (h2 : H q = some (.tup [.str s, .int n])) (h : Q (.bl false) H) : rNeD K (.ref p) (.ref q) H Q := by
  have sh : SeqAt.shaped (PyData.tuple [.str s, .int n]) = true := by simp [SeqAt.shaped, PyData.canLay0, PyData.canLayAll0, PyData.depth, PyData.depthAll, ok]
  refine k_neD (d := .tuple [.str s, .int n]) (e := .tuple [.str s, .int n]) (.tup (sqt_tup h1) (.cons (.str s) (.cons (.int n) .nil))) (.tup (sqt_tup h2) (.cons (.str s) (.cons (.int n) .nil))) sh sh ?_
  rw [SeqAt.eqv_refl _ (SeqAt.canLay_of_shaped sh)]
  exact h
theorem k_eqToldS {K : PySem.W.Frag} {H : Hp} {Q : VK} {p q : Addr} {s : Str} {n : Int} (ok : PyData.strOk s = true) (h1 : H p = some (.tup [.str s, .int n])) (h2 : H q = some (.tup [.str s, .int n])) (h : Q (.bl true) H) : rEqD K (.ref p) (.ref q) H Q := by
  have sh : SeqAt.shaped (PyData.tuple [.str s, .int n]) = true := by simp [SeqAt.shaped, PyData.canLay0, PyData.canLayAll0, PyData.depth, PyData.depthAll, ok]
  refine k_eqD (d := .tuple [.str s, .int n]) (e := .tuple [.str s, .int n]) (.tup (sqt_tup h1) (.cons (.str s) (.cons (.int n) .nil))) (.tup (sqt_tup h2) (.cons (.str s) (.cons (.int n) .nil))) sh sh ?_
  rw [SeqAt.eqv_refl _ (SeqAt.canLay_of_shaped sh)]
  exact h
def dueV : Option Nat → V
  | none => .non
  | some i => .int (i : Nat)
def toldS : Option Nat → Str
  | none => "read"
  | some _ => "no"
def toldN (n : Nat) : Option Nat → Nat
  | none => n
  | some i => i
theorem told_ok (d : Option Nat) : PyData.strOk (toldS d) = true := by
  cases d with
  | none => decide +kernel
  | some i => exact (show PyData.strOk ("no" : Str) = true by decide +kernel)
/-! ### promises -/
def spIsNameL : Sp := fun vs H Q _ => ∃ s : Str, vs = [.str s] ∧ s.length ≤ 36000 ∧ PyData.strOk s = true ∧ ∀ (b : Bool) H', Same H H' → (b = true ↔ NmGood s) → Q (.bl b) H'
def spIsPriceL : Sp := fun vs H Q _ => ∃ s : Str, vs = [.str s] ∧ s.length ≤ 36000 ∧ PyData.strOk s = true ∧ ∀ (b : Bool) H', Same H H' → (b = true ↔ PrGood s) → Q (.bl b) H'
def spDueL : Sp := fun vs H Q _ => ∃ t : Str, vs = [.str t] ∧ TxB t ∧ ∀ (d : Option Nat) H', Same H H' → DueIs (Txt.split t "\n") d → Q (dueV d) H'
/-- told of a text, and of what is none -/
def spToldL (K : PySem.W.Frag) : Sp := fun vs H Q _ => ∃ v : V, vs = [v] ∧ (∀ t : Str, v = .str t → TxB t) ∧ ((∀ t : Str, v ≠ .str t) → ∃ a : String, TyX K H v (.type a) ∧ kitB a "str" = some false) ∧
  (∀ (t : Str), v = .str t → ∀ (d : Option Nat) (u : Addr) (H' : Hp), DueIs (Txt.split t "\n") d → Same H H' → H' u = some (.tup [.str (toldS d), .int (toldN (Txt.split t "\n").length d : Nat)]) → Q (.ref u) H') ∧
  ((∀ t : Str, v ≠ .str t) → ∀ (u : Addr) (H' : Hp), Same H H' → H' u = some (.tup [.str "no", .int 0]) → Q (.ref u) H')
end Bk
/-! rows of words, and what they are as a text -/
namespace Bk
open PySem PySem.Spec PyProof.Rows L2
def WB (k : Nat) (w : Str) : Prop := w.length ≤ 31 + k ∧ ∀ c ∈ w.cps.toList, 33 ≤ c ∧ c ≤ 126
def RowB (k : Nat) (r : List Str) : Prop := r.length ≤ 8 + k ∧ ∀ w ∈ r, WB k w
def RowsB (k : Nat) (rws : List (List Str)) : Prop := 1 ≤ rws.length ∧ rws.length ≤ 41 + k ∧ ∀ r ∈ rws, RowB k r
def RwsAt (H : Hp) (l : Addr) (bs : List Addr) (rws : List (List Str)) : Prop := H l = some (.lst (bs.map V.ref)) ∧ bs.length = rws.length ∧ ∀ (i : Nat) (b : Addr) (r : List Str), bs[i]? = some b → rws[i]? = some r → H b = some (.lst (r.map V.str))
theorem RwsAt.same {H H' : Hp} {l : Addr} {bs : List Addr} {rws : List (List Str)} (h : RwsAt H l bs rws) (s : Same H H') : RwsAt H' l bs rws := ⟨s _ _ h.1, h.2.1, fun i b r h1 h2 => s _ _ (h.2.2 i b r h1 h2)⟩
theorem WB.up {k : Nat} {w : Str} (h : WB k w) : WB (k + 1) w := ⟨by have := h.1; omega, h.2⟩
theorem RowB.up {k : Nat} {r : List Str} (h : RowB k r) : RowB (k + 1) r := ⟨by have := h.1; omega, fun w hw => (h.2 w hw).up⟩
theorem RowsB.up {k : Nat} {rws : List (List Str)} (h : RowsB k rws) : RowsB (k + 1) rws := ⟨h.1, by have := h.2.1; omega, fun w hw => (h.2.2 w hw).up⟩
theorem RowsB.upTo {k : Nat} {rws : List (List Str)} (h : RowsB k rws) : ∀ {m : Nat}, k ≤ m → RowsB m rws
  | 0, e => by obtain rfl : k = 0 := by omega
               exact h
  | m + 1, e => by
    rcases Nat.lt_or_ge m k with lt | ge
    · obtain rfl : k = m + 1 := by omega
      exact h
    · exact (RowsB.upTo h (m := m) ge).up
theorem wb_app {k m n : Nat} {a b : Str} (h1 : a.length ≤ m) (h2 : b.length ≤ n) (h : m + n ≤ 31 + k) (ha : ∀ c ∈ a.cps.toList, 33 ≤ c ∧ c ≤ 126) (hb : ∀ c ∈ b.cps.toList, 33 ≤ c ∧ c ≤ 126) : WB k (a ++ b) := ⟨by rw [Str.length_append]; omega, fun c hc => by
  rw [Str.cps_append, Array.toList_append] at hc
  exact (List.mem_append.mp hc).elim (ha c) (hb c)⟩
theorem wb_let {k : Nat} {w : Str} (h : Let w) (hl : w.length ≤ 31 + k) : WB k w := ⟨hl, fun c hc => by
  have := abc_range c (h c hc)
  omega⟩
theorem wb_fig {k : Nat} {p : Int} (h0 : 1 ≤ p) (h1 : p ≤ bigP) : WB k (figT p) := ⟨by have := (fig_len (p := p) (by omega) h1).2; omega, fun c hc => by
  have := fig_dig (p := p) (by omega) c hc
  omega⟩
def txW (r : List Str) : Str := Txt.join " " r
def txR (rws : List (List Str)) : Str := Txt.join "\n" (rws.map txW)
theorem join_le {f : Str → Nat} (fa : ∀ a b : Str, f (a ++ b) = f a + f b) (f0 : f (Txt.join " " []) = 0) (sep : Str) (e0 : Txt.join sep [] = Txt.join " " []) (m : Nat) (ys : List Str) (h : ∀ y ∈ ys, f y ≤ m) : f (Txt.join sep ys) ≤ ys.length * (f sep + m) := by
  have go : ∀ (ys : List Str) (x : Str), (∀ y ∈ ys, f y ≤ m) → f (ys.foldl (fun s y => s ++ sep ++ y) x) ≤ f x + ys.length * (f sep + m) := by
    intro ys
    induction ys with
    | nil => intro x _; simp
    | cons y ys ih =>
      intro x h
      rw [List.foldl_cons]
      refine Nat.le_trans (ih _ fun z hz => h z (List.mem_cons_of_mem _ hz)) ?_
      have := h y List.mem_cons_self
      rw [fa, fa, List.length_cons, Nat.succ_mul]
      omega
  cases ys with
  | nil => rw [e0, f0]; exact Nat.zero_le _
  | cons x ys =>
    rw [join_cons]
    have h1 := go ys x fun z hz => h z (List.mem_cons_of_mem _ hz)
    have h2 := h x List.mem_cons_self
    rw [List.length_cons, Nat.succ_mul]
    omega
theorem join_mem {sep : Str} {ys : List Str} {c : Nat} (e0 : (Txt.join sep []).cps.toList = []) (h : c ∈ (Txt.join sep ys).cps.toList) : c ∈ sep.cps.toList ∨ ∃ y ∈ ys, c ∈ y.cps.toList := by
  cases ys with
  | nil => rw [e0] at h; cases h
  | cons x ys =>
    rw [join_cons] at h
    rcases fold_mem sep ys x h with z | z | ⟨y, hy, z⟩
    · exact .inr ⟨x, List.mem_cons_self, z⟩
    · exact .inl z
    · exact .inr ⟨y, List.mem_cons_of_mem _ hy, z⟩
theorem len_add (a b : Str) : (a ++ b).length = a.length + b.length := Str.length_append ..
theorem cnt_add (a b : Str) : (a ++ b).cps.toList.count 32 = a.cps.toList.count 32 + b.cps.toList.count 32 := by rw [Str.cps_append, Array.toList_append, List.count_append]
theorem wb_blank {k : Nat} {w : Str} (h : WB k w) : w.cps.toList.count 32 = 0 := List.count_eq_zero.mpr fun hc => by
  have := h.2 32 hc
  omega
theorem row_len {k : Nat} {r : List Str} (h : RowB k r) (hk : k ≤ 3) : (txW r).length ≤ 385 := by
  have := join_le (f := Str.length) len_add (by decide +kernel) " " rfl (31 + k) r fun y hy => (h.2 y hy).1
  have e : (" " : Str).length = 1 := by decide +kernel
  rw [e] at this
  have l := h.1
  have : r.length * (1 + (31 + k)) ≤ 11 * 35 := Nat.mul_le_mul (by omega) (by omega)
  unfold txW
  omega
theorem row_cnt {k : Nat} {r : List Str} (h : RowB k r) (hk : k ≤ 3) : (txW r).cps.toList.count 32 ≤ 11 := by
  have := join_le (f := fun a => a.cps.toList.count 32) cnt_add (by decide +kernel) " " rfl 0 r fun y hy => Nat.le_of_eq (wb_blank (h.2 y hy))
  have e : (" " : Str).cps.toList.count 32 = 1 := by decide +kernel
  have l := h.1
  rw [e] at this
  unfold txW
  omega
theorem row_chr {k : Nat} {r : List Str} (h : RowB k r) : ∀ c ∈ (txW r).cps.toList, 32 ≤ c ∧ c ≤ 126 := fun c hc => by
  rcases join_mem (by decide +kernel) hc with z | ⟨y, hy, z⟩
  · have e : (" " : Str).cps.toList = [32] := by decide +kernel
    rw [e] at z
    simp at z
    omega
  · have := (h.2 y hy).2 c z
    omega
theorem txR_len {k : Nat} {rws : List (List Str)} (h : RowsB k rws) (hk : k ≤ 3) : (txR rws).length ≤ 16984 := by
  have := join_le (f := Str.length) len_add (by decide +kernel) "\n" rfl 385 (rws.map txW) fun y hy => by
    obtain ⟨r, hr, rfl⟩ := List.mem_map.mp hy
    exact row_len (h.2.2 r hr) hk
  have e : ("\n" : Str).length = 1 := by decide +kernel
  have l := h.2.1
  rw [e, List.length_map] at this
  unfold txR
  omega
theorem txR_cnt {k : Nat} {rws : List (List Str)} (h : RowsB k rws) (hk : k ≤ 3) : (txR rws).cps.toList.count 32 ≤ 484 := by
  have := join_le (f := fun a => a.cps.toList.count 32) cnt_add (by decide +kernel) "\n" rfl 11 (rws.map txW) fun y hy => by
    obtain ⟨r, hr, rfl⟩ := List.mem_map.mp hy
    exact row_cnt (h.2.2 r hr) hk
  have e : ("\n" : Str).cps.toList.count 32 = 0 := by decide +kernel
  have l := h.2.1
  rw [e, List.length_map] at this
  unfold txR
  omega
theorem txR_chr {k : Nat} {rws : List (List Str)} (h : RowsB k rws) : ∀ c ∈ (txR rws).cps.toList, c ≤ 126 := fun c hc => by
  rcases join_mem (by decide +kernel) hc with z | ⟨y, hy, z⟩
  · have e : ("\n" : Str).cps.toList = [10] := by decide +kernel
    rw [e] at z
    simp at z
    omega
  · obtain ⟨r, hr, rfl⟩ := List.mem_map.mp hy
    exact (row_chr (h.2.2 r hr) c z).2
theorem ok_chr {t : Str} (h : ∀ c ∈ t.cps.toList, c ≤ 126) : PyData.strOk t = true := by
  unfold PyData.strOk
  rw [Array.all_eq_true_iff_forall_mem]
  intro c hc
  have := h c (Array.mem_toList_iff.mpr hc)
  exact decide_eq_true (by omega)
theorem txR_B {k : Nat} {rws : List (List Str)} (h : RowsB k rws) (hk : k ≤ 3) : TxB (txR rws) := ⟨by have := txR_len h hk; omega, by have := txR_cnt h hk; omega, ok_chr (txR_chr h)⟩
theorem cut_cnt {z : Str} {lo hi : Option Int} : (cutS z lo hi).cps.toList.count 32 ≤ z.cps.toList.count 32 := by
  unfold cutS
  exact Nat.le_trans (List.Sublist.count_le _ (List.take_sublist _ _)) (List.Sublist.count_le _ (List.drop_sublist _ _))
theorem signed_B {k : Nat} {rws : List (List Str)} (h : RowsB k rws) (hk : k ≤ 3) {a b c d : Option Int} {x : Nat} (hx : x ≤ 126) : TxB (cutS (txR rws) a b ++ ⟨#[x]⟩ ++ cutS (txR rws) c d) := by
  have l := txR_len h hk
  have n := txR_cnt h hk
  have e := txR_chr h
  have l1 := cutS_len (z := txR rws) (lo := a) (hi := b)
  have l2 := cutS_len (z := txR rws) (lo := c) (hi := d)
  have n1 := cut_cnt (z := txR rws) (lo := a) (hi := b)
  have n2 := cut_cnt (z := txR rws) (lo := c) (hi := d)
  have lx : (⟨#[x]⟩ : Str).length = 1 := rfl
  have nx : (⟨#[x]⟩ : Str).cps.toList.count 32 ≤ 1 := List.count_le_length
  refine ⟨by rw [Str.length_append, Str.length_append]; omega, by rw [cnt_add, cnt_add]; omega, ok_chr fun y hy => ?_⟩
  rw [Str.cps_append, Array.toList_append, Str.cps_append, Array.toList_append] at hy
  rcases List.mem_append.mp hy with hy | hy
  · rcases List.mem_append.mp hy with hy | hy
    · exact e y (cutS_mem hy)
    · have : y = x := by simpa using hy
      omega
  · exact e y (cutS_mem hy)
/-! ### what is due of rows -/
theorem splitW {r : List Str} (ne : r ≠ []) (h : ∀ w ∈ r, ∀ c ∈ w.cps.toList, 33 ≤ c) : Txt.split (txW r) " " = r := by
  unfold txW
  refine TL.split_join (y := " ") (s := 32) (S := []) (by decide +kernel) (by decide +kernel) ne fun p hp hc => ?_
  have := h p hp 32 hc
  omega
theorem splitR {rws : List (List Str)} (ne : rws ≠ []) (h : ∀ r ∈ rws, ∀ w ∈ r, ∀ c ∈ w.cps.toList, 33 ≤ c) : Txt.split (txR rws) "\n" = rws.map txW := by
  unfold txR
  refine TL.split_join (y := "\n") (s := 10) (S := []) (by decide +kernel) (by decide +kernel) (by simpa using ne) fun p hp hc => ?_
  obtain ⟨r, hr, rfl⟩ := List.mem_map.mp hp
  rcases join_mem (by decide +kernel) hc with z | ⟨y, hy, z⟩
  · exact absurd z (by decide +kernel)
  · have := h r hr y hy 10 z
    omega
theorem lnW_rows {rws : List (List Str)} (h : ∀ r ∈ rws, r ≠ [] ∧ ∀ w ∈ r, ∀ c ∈ w.cps.toList, 33 ≤ c) {i : Nat} (hi : i < rws.length) : lnW (rws.map txW) i = rws.getD i [] := by
  have g := getD_at (l := rws) (i := i) (d := []) hi
  have m := h _ (List.mem_of_getElem? g)
  unfold lnW
  rw [List.getD_eq_getElem?_getD, List.getElem?_map, g]
  exact splitW m.1 m.2
theorem ahd_rows {rws : List (List Str)} (h : ∀ r ∈ rws, r ≠ [] ∧ ∀ w ∈ r, ∀ c ∈ w.cps.toList, 33 ≤ c) {i : Nat} (hi : i ≤ rws.length) : ahd (rws.map txW) i = (rws.take i).map fun r => r.getD 0 "" := by
  unfold ahd
  apply List.ext_getElem
  · simp; omega
  · intro j h1 h2
    have hj : j < i := by simpa using h1
    rw [List.getElem_map, List.getElem_map, List.getElem_range, List.getElem_take, lnW_rows h (by omega), List.getD_eq_getElem?_getD (l := rws), List.getElem?_eq_getElem (by omega)]
    rfl
/-- the name of the i-th row -/
def nmG (st : Str) (i : Nat) : Str := (⟨#[abc.cps.toList.getD (i / 26) 0]⟩ : Str) ++ st ++ ⟨#[abc.cps.toList.getD (i % 26) 0]⟩
theorem nmG_tl (st : Str) (i : Nat) : (nmG st i).cps.toList = abc.cps.toList.getD (i / 26) 0 :: (st.cps.toList ++ [abc.cps.toList.getD (i % 26) 0]) := by
  unfold nmG
  rw [Str.cps_append, Array.toList_append, Str.cps_append, Array.toList_append]
  rfl
theorem abc_inj {i j : Nat} (hi : i < 26) (hj : j < 26) (e : abc.cps.toList.getD i 0 = abc.cps.toList.getD j 0) : i = j := by
  have l : abc.cps.toList.length = 26 := abc_len
  have nd : abc.cps.toList.Nodup := by decide +kernel
  have gi := getD_at (l := abc.cps.toList) (i := i) (d := 0) (by omega)
  rw [e, ← getD_at (l := abc.cps.toList) (i := j) (d := 0) (by omega)] at gi
  exact (List.getElem?_inj (by omega) nd).mp gi
theorem nmG_inj {st : Str} {i j : Nat} (hi : i < 40) (hj : j < 40) (e : nmG st i = nmG st j) : i = j := by
  have h := congrArg (fun s : Str => s.cps.toList) e
  simp only [nmG_tl] at h
  obtain ⟨h1, h2⟩ := List.cons.inj h
  have h3 := (List.cons.inj (List.append_cancel_left h2)).1
  have a := abc_inj (by omega) (by omega) h1
  have b := abc_inj (by omega) (by omega) h3
  omega
theorem nmG_good {st : Str} (hL : Let st) (hl : st.length ≤ 5) {i : Nat} (hi : i < 40) : NmGood (nmG st i) := by
  have len : (nmG st i).length = st.length + 2 := by
    unfold nmG
    rw [Str.length_append, Str.length_append]
    have : ∀ c : Nat, (⟨#[c]⟩ : Str).length = 1 := fun _ => rfl
    rw [this, this]
    omega
  refine ⟨by omega, by omega, fun hm => ?_, ?_⟩
  · have h0 : (nmG st i).cps.toList[0]? = some (abc.cps.toList.getD (i / 26) 0) := by rw [nmG_tl]; rfl
    have lo : abc.cps.toList.getD (i / 26) 0 = 97 ∨ abc.cps.toList.getD (i / 26) 0 = 98 := by
      have : i / 26 = 0 ∨ i / 26 = 1 := by omega
      rcases this with e | e <;> rw [e] <;> decide +kernel
    have go : ∀ s ∈ noNm, ∀ c, s.cps.toList[0]? = some c → 110 ≤ c := by
      intro s hs c hc
      simp only [noNm, List.mem_cons, List.not_mem_nil, or_false] at hs
      rcases hs with rfl | rfl
      · rw [show ("none" : Str).cps.toList[0]? = some 110 by decide +kernel] at hc
        have := Option.some.inj hc
        omega
      · rw [show ("open" : Str).cps.toList[0]? = some 111 by decide +kernel] at hc
        have := Option.some.inj hc
        omega
    have := go _ hm _ h0
    omega
  · unfold nmG
    exact let_app (let_app (let_one (abc_mem (by omega))) hL) (let_one (abc_mem (by omega)))
/-- the good rows -/
def GdRow (st : Str) (i : Nat) (r : List Str) : Prop := ∃ (p : Int) (es : List Str), r = nmG st i :: figT p :: es ∧ 1 ≤ p ∧ p ≤ bigP ∧ es.Nodup ∧ es.length ≤ 6 ∧ ∀ e ∈ es, ∃ j, j < i ∧ e = nmG st j
def GdRows (st : Str) (rws : List (List Str)) : Prop := Let st ∧ st.length ≤ 5 ∧ rws.length ≤ 40 ∧ ∀ (i : Nat) (r : List Str), rws[i]? = some r → GdRow st i r
theorem GdRow.rowB {st : Str} {i : Nat} {r : List Str} (hL : Let st) (hl : st.length ≤ 5) (hi : i < 40) (h : GdRow st i r) : RowB 0 r := by
  obtain ⟨p, es, rfl, p1, p2, nd, el, me⟩ := h
  refine ⟨by simp; omega, fun w hw => ?_⟩
  have nb : ∀ j, j < 40 → WB 0 (nmG st j) := fun j hj => by
    have g := nmG_good hL hl hj
    exact wb_let g.2.2.2 (by have := g.2.1; omega)
  rcases List.mem_cons.mp hw with rfl | hw
  · exact nb i hi
  · rcases List.mem_cons.mp hw with rfl | hw
    · exact wb_fig p1 p2
    · obtain ⟨j, hj, rfl⟩ := me w hw
      exact nb j (by omega)
theorem GdRows.rowsB {st : Str} {rws : List (List Str)} (h : GdRows st rws) (h1 : 1 ≤ rws.length) : RowsB 0 rws := ⟨h1, by have := h.2.2.1; omega, fun r hr => by
  obtain ⟨i, hi⟩ := List.getElem?_of_mem hr
  have lt := (List.getElem?_eq_some_iff.mp hi).1
  exact (h.2.2.2 i r hi).rowB h.1 h.2.1 (by have := h.2.2.1; omega)⟩
theorem GdRows.fine {st : Str} {rws : List (List Str)} (h : GdRows st rws) {i : Nat} {r : List Str} (hr : rws[i]? = some r) : RowFine r ((rws.take i).map fun r => r.getD 0 "") := by
  have lt := (List.getElem?_eq_some_iff.mp hr).1
  have l40 := h.2.2.1
  obtain ⟨p, es, rfl, p1, p2, nd, el, me⟩ := h.2.2.2 i r hr
  have hd : ∀ j, j < rws.length → (rws.getD j []).getD 0 "" = nmG st j := fun j hj => by
    obtain ⟨q, fs, e, _⟩ := h.2.2.2 j _ (getD_at (l := rws) (i := j) (d := []) hj)
    rw [e]
    rfl
  have mem : ∀ x, x ∈ ((rws.take i).map fun r => r.getD 0 "") ↔ ∃ j, j < i ∧ x = nmG st j := fun x => by
    rw [List.mem_map]
    constructor
    · rintro ⟨r, hm, rfl⟩
      obtain ⟨j, hj⟩ := List.getElem?_of_mem hm
      rw [List.getElem?_take] at hj
      split at hj
      · rename_i ltj
        refine ⟨j, ltj, ?_⟩
        have := hd j (by omega)
        rw [List.getD_eq_getElem?_getD (l := rws), hj] at this
        exact this
      · cases hj
    · rintro ⟨j, hj, rfl⟩
      refine ⟨rws.getD j [], ?_, hd j (by omega)⟩
      have := getD_at (l := rws) (i := j) (d := []) (by omega)
      exact List.mem_of_getElem? (i := j) (by rw [List.getElem?_take, if_pos hj]; exact this)
  refine ⟨by simp, nmG_good h.1 h.2.1 (by omega), fun hm => ?_, ⟨p, p1, p2, rfl⟩, nd, fun e he => (mem e).mpr (me e he)⟩
  obtain ⟨j, hj, e⟩ := (mem _).mp hm
  have := nmG_inj (by omega) (by omega) e
  omega
theorem RowsB.chr {k : Nat} {rws : List (List Str)} (h : RowsB k rws) : ∀ r ∈ rws, ∀ w ∈ r, ∀ c ∈ w.cps.toList, 33 ≤ c := fun r hr w hw c hc => (((h.2.2 r hr).2 w hw).2 c hc).1
theorem gd_ne {st : Str} {rws : List (List Str)} (h : GdRows st rws) : ∀ r ∈ rws, r ≠ [] := fun r hr => by
  obtain ⟨i, hi⟩ := List.getElem?_of_mem hr
  obtain ⟨p, es, rfl, _⟩ := h.2.2.2 i r hi
  simp
theorem gd_due {st : Str} {rws : List (List Str)} (h : GdRows st rws) (h1 : 1 ≤ rws.length) : DueIs (Txt.split (txR rws) "\n") none ∧ (Txt.split (txR rws) "\n").length = rws.length := by
  have B := h.rowsB h1
  have e := splitR (rws := rws) (fun z => by rw [z] at h1; simp at h1) B.chr
  have ne : ∀ r ∈ rws, r ≠ [] ∧ ∀ w ∈ r, ∀ c ∈ w.cps.toList, 33 ≤ c := fun r hr => ⟨gd_ne h r hr, B.chr r hr⟩
  rw [e, List.length_map]
  refine ⟨fun i hi => ?_, rfl⟩
  rw [List.length_map] at hi
  have l40 := h.2.2.1
  refine ⟨by omega, ?_⟩
  rw [lnW_rows ne hi, ahd_rows ne (by omega)]
  exact h.fine (getD_at (l := rws) (i := i) (d := []) hi)
/-- good rows, and one whose price is too long -/
theorem great_due {st nine : Str} {rws : List (List Str)} (h : GdRows st rws) (h1 : 1 ≤ rws.length) (hl : 32 ≤ nine.length) (hc : ∀ c ∈ nine.cps.toList, 33 ≤ c) : DueIs (Txt.split (txR (rws.take 3 ++ [[("zz" : Str), nine]])) "\n") (some (rws.take 3).length) := by
  have B := h.rowsB h1
  have zz : ∀ c ∈ ("zz" : Str).cps.toList, 33 ≤ c := by decide +kernel
  have ne : ∀ r ∈ rws.take 3 ++ [[("zz" : Str), nine]], r ≠ [] ∧ ∀ w ∈ r, ∀ c ∈ w.cps.toList, 33 ≤ c := fun r hr => by
    rcases List.mem_append.mp hr with hr | hr
    · have hr := List.mem_of_mem_take hr
      exact ⟨gd_ne h r hr, B.chr r hr⟩
    · obtain rfl : r = [("zz" : Str), nine] := by simpa using hr
      refine ⟨by simp, fun w hw => ?_⟩
      rcases List.mem_cons.mp hw with rfl | hw
      · exact zz
      · obtain rfl : w = nine := by simpa using hw
        exact hc
  have e := splitR (rws := rws.take 3 ++ [[("zz" : Str), nine]]) (by simp) fun r hr => (ne r hr).2
  rw [e]
  have l3 : (rws.take 3).length ≤ 3 := by rw [List.length_take]; omega
  have ll : (rws.take 3 ++ [[("zz" : Str), nine]]).length = (rws.take 3).length + 1 := by simp
  refine ⟨by rw [List.length_map]; omega, fun g => ?_, fun j hj => ⟨by omega, ?_⟩⟩
  · have g2 := g.2
    rw [lnW_rows ne (by omega)] at g2
    have : (rws.take 3 ++ [[("zz" : Str), nine]]).getD (rws.take 3).length [] = [("zz" : Str), nine] := by
      rw [List.getD_eq_getElem?_getD, List.getElem?_append_right (Nat.le_refl _), Nat.sub_self]
      rfl
    rw [this] at g2
    have := (pr_len g2.2.2.2.1).2
    have : nine.length ≤ 31 := this
    omega
  · rw [lnW_rows ne (by omega), ahd_rows ne (by omega)]
    have e1 : (rws.take 3 ++ [[("zz" : Str), nine]])[j]? = rws[j]? := by
      rw [List.getElem?_append_left hj, List.getElem?_take, if_pos (by omega)]
    have hjl : j < rws.length := by rw [List.length_take] at hj; omega
    have e2 : (rws.take 3 ++ [[("zz" : Str), nine]]).getD j [] = rws.getD j [] := by rw [List.getD_eq_getElem?_getD, e1, List.getD_eq_getElem?_getD]
    have e3 : (rws.take 3 ++ [[("zz" : Str), nine]]).take j = rws.take j := by
      rw [List.take_append_of_le_length (by omega), List.take_take, Nat.min_eq_left (by omega)]
    rw [e2, e3]
    exact h.fine (getD_at (l := rws) (i := j) (d := []) hjl)
def sgn81 : Str := " !\"#$&'()*+,-./0123456789:;<=>?@ABCDEFGHIJKLMNOPQRSTUVWXYZ[\\]^_`abcdefghijklmnopqrstuvwxyz{|}~\n"
theorem sgn_at {r : Int} (h0 : 0 ≤ r) (h1 : r < 95) : ∃ c, atI sgn81.cps.toList r = some c ∧ c ≤ 126 := by
  have l : 95 ≤ sgn81.cps.toList.length := by decide +kernel
  have a : ∀ c ∈ sgn81.cps.toList, c ≤ 126 := by decide +kernel
  have e := List.getElem?_eq_getElem (l := sgn81.cps.toList) (i := r.toNat) (by omega)
  have g := atI_nat e
  rw [show ((r.toNat : Nat) : Int) = r by omega] at g
  exact ⟨_, g, a _ (List.mem_of_getElem? e)⟩
/-! ### promises -/
def spRowsD : Sp := fun vs H Q _ => ∃ (G : Hp) (d : Addr), vs = [.ref d] ∧ FeedAt G H d ∧ ∀ (l : Addr) (bs : List Addr) (st : Str) (rws : List (List Str)) (G' H' : Hp), Same G G' → RwsAt G' l bs rws → GdRows st rws → 1 ≤ rws.length → FeedAt G' H' d → Q (.ref l) H'
def spSpoil81 : Sp := fun vs H Q _ => ∃ (G : Hp) (d l : Addr) (bs : List Addr) (k : Nat) (rws : List (List Str)), vs = [.ref d, .ref l] ∧ FeedAt G H d ∧ RwsAt G l bs rws ∧ RowsB k rws ∧ k ≤ 2 ∧ ∀ (l' : Addr) (bs' : List Addr) (rws' : List (List Str)) (G' H' : Hp), Same G G' → RwsAt G' l' bs' rws' → RowsB (k + 1) rws' → rws'.length ≤ rws.length + 1 → FeedAt G' H' d → Q (.ref l') H'
def spSigned : Sp := fun vs H Q _ => ∃ (G : Hp) (d : Addr) (k : Nat) (rws : List (List Str)), vs = [.ref d, .str (txR rws)] ∧ FeedAt G H d ∧ RowsB k rws ∧ k ≤ 3 ∧ ∀ (t : Str) (H' : Hp), TxB t → FeedAt G H' d → Q (.str t) H'
def spLinesD : Sp := fun vs H Q _ => ∃ (l : Addr) (bs : List Addr) (rws : List (List Str)), vs = [.ref l] ∧ RwsAt H l bs rws ∧ rws.length ≤ 100 ∧ (∀ r ∈ rws, r.length ≤ 100 ∧ ∀ w ∈ r, w.length ≤ 5000) ∧ (∀ r ∈ rws, (txW r).length ≤ 20000) ∧ (txR rws).length ≤ 36000 ∧ ∀ H', Same H H' → Q (.str (txR rws)) H'
end Bk
/-! rows of words copied and spoiled -/
namespace Bk
open PySem PySem.Spec PyProof.Rows L2
theorem perm_ins {α : Type} (es : List α) (x : α) (k : Nat) : (es.take k ++ [x] ++ es.drop k).Perm (es ++ [x]) := by
  have h : (es.take k ++ [x] ++ es.drop k).Perm (es.take k ++ es.drop k ++ [x]) := by
    rw [List.append_assoc, List.append_assoc]
    exact List.Perm.append_left _ List.perm_append_comm
  rwa [List.take_append_drop] at h
/-- rows that are new, each for itself -/
structure Cp (G G7 : Hp) (L : Addr) (bs : List Addr) (rws : List (List Str)) : Prop where
  same : Same G G7
  l0 : G L = none
  b0 : ∀ b ∈ bs, G b = none
  nd : bs.Nodup
  nl : L ∉ bs
  rw : RwsAt G7 L bs rws
theorem RwsAt.atL {H : Hp} {l : Addr} {bs : List Addr} {rws : List (List Str)} (R : RwsAt H l bs rws) {i : Nat} (hi : i < rws.length) : ∃ b r, bs[i]? = some b ∧ rws[i]? = some r ∧ H b = some (.lst (r.map V.str)) := by
  have hb := List.getElem?_eq_getElem (l := bs) (i := i) (by rw [R.2.1]; exact hi)
  have hr := List.getElem?_eq_getElem (l := rws) (i := i) hi
  exact ⟨_, _, hb, hr, R.2.2 i _ _ hb hr⟩
theorem Cp.row {G G7 : Hp} {L : Addr} {bs : List Addr} {rws : List (List Str)} (C : Cp G G7 L bs rws) {a : Nat} {b : Addr} (h : bs[a]? = some b) (r' : List Str) : RwsAt (upd G7 b (.lst (r'.map V.str))) L bs (rws.set a r') ∧ Same G (upd G7 b (.lst (r'.map V.str))) := by
  have hm := List.mem_of_getElem? h
  have nb : L ≠ b := fun e => C.nl (e ▸ hm)
  refine ⟨⟨by rw [upd_ne nb]; exact C.rw.1, by rw [List.length_set]; exact C.rw.2.1, fun i c r h1 h2 => ?_⟩, C.same.mut (C.b0 b hm)⟩
  have lt := (List.getElem?_eq_some_iff.mp h1).1
  by_cases e : a = i
  · subst e
    obtain rfl : b = c := Option.some.inj (h.symm.trans h1)
    rw [List.getElem?_set_self (by rw [← C.rw.2.1]; exact lt)] at h2
    obtain rfl := Option.some.inj h2
    exact upd_same
  · rw [List.getElem?_set_ne e] at h2
    rw [upd_ne (fun z => ?_)]
    · exact C.rw.2.2 i c r h1 h2
    · rw [z, ← h] at h1
      exact e (((List.getElem?_inj (List.getElem?_eq_some_iff.mp h).1 C.nd).mp h1.symm))
theorem RowB.of {k : Nat} {r r' : List Str} {x : Str} (h : RowB k r) (hl : r'.length ≤ r.length + 1) (hm : ∀ w ∈ r', w ∈ r ∨ w = x) (hx : WB (k + 1) x) : RowB (k + 1) r' := ⟨by have := h.1; omega, fun w hw => (hm w hw).elim (fun z => (h.2 w z).up) (fun z => z ▸ hx)⟩
theorem RowsB.set {k a : Nat} {rws : List (List Str)} {r : List Str} (h : RowsB k rws) (hr : RowB (k + 1) r) : RowsB (k + 1) (rws.set a r) := ⟨by rw [List.length_set]; exact h.1, by rw [List.length_set]; have := h.2.1; omega, fun x hx => by
  rcases List.mem_or_eq_of_mem_set hx with z | rfl
  · exact (h.2.2 x z).up
  · exact hr⟩
theorem nil_rowB (k : Nat) : RowB k [] := ⟨by simp, by simp⟩
theorem RowsB.app {k : Nat} {rws : List (List Str)} {r : List Str} (h : RowsB k rws) (hr : RowB (k + 1) r) : RowsB (k + 1) (rws ++ [r]) := ⟨by simp, by simp; have := h.2.1; omega, fun x hx => by
  rcases List.mem_append.mp hx with z | z
  · exact (h.2.2 x z).up
  · obtain rfl : x = r := by simpa using z
    exact hr⟩
theorem at_map {W : List Str} {i : Int} (h0 : 0 ≤ i) (h1 : i < (W.length : Int)) : ∃ w ∈ W, atI (W.map V.str) i = some (.str w) := by
  have e := List.getElem?_eq_getElem (l := W) (i := i.toNat) (by omega)
  have g := atI_nat (xs := W.map V.str) (j := i.toNat) (v := .str W[i.toNat]) (by rw [List.getElem?_map, e]; rfl)
  rw [show ((i.toNat : Nat) : Int) = i by omega] at g
  exact ⟨_, List.mem_of_getElem? e, g⟩
/-- the list of rows itself set at a place -/
theorem Cp.put {G G7 : Hp} {L e : Addr} {bs cs : List Addr} {rws rws' : List (List Str)} (s : Same G G7) (l0 : G L = none) (hl : cs.length = rws'.length) (hc : ∀ (i : Nat) (b : Addr) (r : List Str), cs[i]? = some b → rws'[i]? = some r → G7 b = some (.lst (r.map V.str)) ∧ b ≠ L) : RwsAt (upd G7 L (.lst (cs.map V.ref))) L cs rws' ∧ Same G (upd G7 L (.lst (cs.map V.ref))) :=
  ⟨⟨upd_same, hl, fun i b r h1 h2 => by
    obtain ⟨h3, h4⟩ := hc i b r h1 h2
    rw [upd_ne h4]
    exact h3⟩, s.mut l0⟩
theorem cut_to_len (z : Str) (n : Nat) : (cutS z none (some (n : Int))).length ≤ n := by
  have := congrArg List.length (cutS_to z n)
  rw [List.length_take] at this
  have e : (cutS z none (some (n : Int))).cps.toList.length = (cutS z none (some (n : Int))).length := rfl
  omega
theorem cutV_refs (ss : List Addr) (lo hi : Option Int) : ∃ es : List Addr, cutV (ss.map V.ref) lo hi = es.map V.ref ∧ ∀ x ∈ es, x ∈ ss := by
  unfold cutV
  rw [← List.map_drop, ← List.map_take]
  exact ⟨_, rfl, fun x hx => List.mem_of_mem_drop (List.mem_of_mem_take hx)⟩
def AtC (G : Hp) (L : Addr) (cs : List Addr) (rws : List (List Str)) : Prop := ∀ (i : Nat) (b : Addr) (r : List Str), cs[i]? = some b → rws[i]? = some r → G b = some (.lst (r.map V.str)) ∧ b ≠ L
theorem AtC.set {G : Hp} {L e : Addr} {cs : List Addr} {rws : List (List Str)} {r' : List Str} (h : AtC G L cs rws) (he : G e = some (.lst (r'.map V.str))) (ne : e ≠ L) (a : Nat) : AtC G L (cs.set a e) (rws.set a r') := by
  intro i b r h1 h2
  by_cases ea : a = i
  · subst ea
    have l1 := (List.getElem?_eq_some_iff.mp h1).1
    have l2 := (List.getElem?_eq_some_iff.mp h2).1
    rw [List.length_set] at l1 l2
    rw [List.getElem?_set_self l1] at h1
    rw [List.getElem?_set_self l2] at h2
    obtain rfl := Option.some.inj h1
    obtain rfl := Option.some.inj h2
    exact ⟨he, ne⟩
  · rw [List.getElem?_set_ne ea] at h1 h2
    exact h i b r h1 h2
theorem AtC.app {G : Hp} {L e : Addr} {cs : List Addr} {rws : List (List Str)} {r' : List Str} (h : AtC G L cs rws) (hl : cs.length = rws.length) (he : G e = some (.lst (r'.map V.str))) (ne : e ≠ L) : AtC G L (cs ++ [e]) (rws ++ [r']) := by
  intro i b r h1 h2
  rcases Nat.lt_or_ge i cs.length with lt | ge
  · rw [List.getElem?_append_left lt] at h1
    rw [List.getElem?_append_left (by omega)] at h2
    exact h i b r h1 h2
  · rw [List.getElem?_append_right ge] at h1
    rw [List.getElem?_append_right (by omega)] at h2
    have e0 : i - cs.length = 0 := by
      have := (List.getElem?_eq_some_iff.mp h1).1
      simp at this
      omega
    rw [e0] at h1
    rw [show i - rws.length = 0 by omega] at h2
    obtain rfl := Option.some.inj h1
    obtain rfl := Option.some.inj h2
    exact ⟨he, ne⟩
theorem AtC.mono {G G' : Hp} {L : Addr} {cs : List Addr} {rws : List (List Str)} (h : AtC G L cs rws) (t : ∀ b o, b ≠ L → G b = some o → G' b = some o) : AtC G' L cs rws := fun i b r h1 h2 => ⟨t _ _ (h i b r h1 h2).2 (h i b r h1 h2).1, (h i b r h1 h2).2⟩
theorem Cp.atC {G G7 : Hp} {L : Addr} {bs : List Addr} {rws : List (List Str)} (C : Cp G G7 L bs rws) : AtC G7 L bs rws := fun i b r h1 h2 => ⟨C.rw.2.2 i b r h1 h2, fun e => C.nl (e ▸ List.mem_of_getElem? h1)⟩
theorem Cp.len {G G7 : Hp} {L : Addr} {bs : List Addr} {rws : List (List Str)} (C : Cp G G7 L bs rws) : bs.length = rws.length := C.rw.2.1
theorem erase_map {α β : Type} (f : α → β) : ∀ (l : List α) (k : Nat), (l.map f).eraseIdx k = (l.eraseIdx k).map f
  | [], _ => rfl
  | _ :: _, 0 => rfl
  | a :: l, k + 1 => congrArg (f a :: ·) (erase_map f l k)
theorem erase_mem {α : Type} {l : List α} {k : Nat} {x : α} (h : x ∈ l.eraseIdx k) : x ∈ l := List.mem_of_mem_eraseIdx h
theorem mul1 : Txt.mul "1" 32 = "11111111111111111111111111111111" := by decide +kernel
theorem wb_chk {k : Nat} {w : Str} (hl : w.length ≤ 32) (hc : ∀ c ∈ w.cps.toList, 33 ≤ c ∧ c ≤ 126) : WB (k + 1) w := ⟨by omega, hc⟩
theorem y_row {n : Int} {c : Nat} (h0 : 0 ≤ n) (h1 : n ≤ 20) (hc : 33 ≤ c ∧ c ≤ 126) : RowB 3 [Txt.mul "y" n ++ ⟨#[c]⟩, "1"] := by
  have l := len_mul "y" n
  rw [show ("y" : Str).length = 1 by decide +kernel, decide_eq_false (show ¬ n < 0 by omega)] at l
  have l : ((Txt.mul "y" n).length : Int) = n := by simpa using l
  have yc : ∀ x ∈ ("y" : Str).cps.toList, 33 ≤ x ∧ x ≤ 126 := by decide +kernel
  refine ⟨by simp, fun w hw => ?_⟩
  rcases List.mem_cons.mp hw with rfl | hw
  · exact wb_app (m := 20) (n := 1) (by omega) (Nat.le_refl 1) (by omega) (fun x hx => yc x (mul_mem hx)) fun x hx => by
      have : x = c := by simpa using hx
      rw [this]
      exact hc
  · obtain rfl : w = "1" := by simpa using hw
    exact wb_chk (by decide +kernel) (by decide +kernel)
def abi : Str := "abcdefghi"
theorem abi_at {r : Int} (h0 : 0 ≤ r) (h1 : r < 9) : ∃ c, atI abi.cps.toList r = some c ∧ 33 ≤ c ∧ c ≤ 126 := by
  have l : abi.cps.toList.length = 9 := by decide +kernel
  have a : ∀ c ∈ abi.cps.toList, 33 ≤ c ∧ c ≤ 126 := by decide +kernel
  have e := List.getElem?_eq_getElem (l := abi.cps.toList) (i := r.toNat) (by omega)
  have g := atI_nat e
  rw [show ((r.toNat : Nat) : Int) = r by omega] at g
  exact ⟨_, g, a _ (List.mem_of_getElem? e)⟩
theorem RowsB.len44 {k : Nat} {rws : List (List Str)} (h : RowsB k rws) (hk : k ≤ 3) : rws.length ≤ 44 := by
  have := h.2.1
  omega
theorem nine_len {n : Int} (h0 : 4301 ≤ n) (h1 : n ≤ 4600) : 32 ≤ (Txt.mul "9" n).length ∧ (Txt.mul "9" n).length ≤ 4600 ∧ ∀ c ∈ (Txt.mul "9" n).cps.toList, 33 ≤ c ∧ c ≤ 126 := by
  have l := len_mul "9" n
  rw [show ("9" : Str).length = 1 by decide +kernel, decide_eq_false (show ¬ n < 0 by omega)] at l
  have l : ((Txt.mul "9" n).length : Int) = n := by simpa using l
  have yc : ∀ x ∈ ("9" : Str).cps.toList, 33 ≤ x ∧ x ≤ 126 := by decide +kernel
  exact ⟨by omega, by omega, fun c hc => yc c (mul_mem hc)⟩
/-- lines of what is bounded -/
theorem lines_of {k : Nat} {rws : List (List Str)} (h : RowsB k rws) (hk : k ≤ 3) : rws.length ≤ 100 ∧ (∀ r ∈ rws, r.length ≤ 100 ∧ ∀ w ∈ r, w.length ≤ 5000) ∧ (∀ r ∈ rws, (txW r).length ≤ 20000) ∧ (txR rws).length ≤ 36000 :=
  ⟨by have := h.2.1; omega, fun r hr => ⟨by have := (h.2.2 r hr).1; omega, fun w hw => by have := ((h.2.2 r hr).2 w hw).1; omega⟩, fun r hr => by have := row_len (h.2.2 r hr) hk; omega, by have := txR_len h hk; omega⟩
theorem great_len {nine : Str} {rws : List (List Str)} (h : RowsB 0 rws) (hn : nine.length ≤ 4600) (hc : ∀ c ∈ nine.cps.toList, 33 ≤ c ∧ c ≤ 126) : (rws.take 3 ++ [[("zz" : Str), nine]]).length ≤ 100 ∧ (∀ r ∈ rws.take 3 ++ [[("zz" : Str), nine]], r.length ≤ 100 ∧ ∀ w ∈ r, w.length ≤ 5000) ∧ (∀ r ∈ rws.take 3 ++ [[("zz" : Str), nine]], (txW r).length ≤ 20000) ∧ (txR (rws.take 3 ++ [[("zz" : Str), nine]])).length ≤ 36000 ∧ TxB (txR (rws.take 3 ++ [[("zz" : Str), nine]])) := by
  have l3 : (rws.take 3).length ≤ 3 := by rw [List.length_take]; omega
  have zc : ∀ c ∈ ("zz" : Str).cps.toList, 33 ≤ c ∧ c ≤ 126 := by decide +kernel
  have zl : ("zz" : Str).length ≤ 4600 := by decide +kernel
  have rw_ : ∀ r ∈ rws.take 3 ++ [[("zz" : Str), nine]], (r.length ≤ 100 ∧ ∀ w ∈ r, w.length ≤ 5000) ∧ (txW r).length ≤ 4700 ∧ (txW r).cps.toList.count 32 ≤ 11 ∧ ∀ c ∈ (txW r).cps.toList, c ≤ 126 := fun r hr => by
    rcases List.mem_append.mp hr with hr | hr
    · have b := h.2.2 r (List.mem_of_mem_take hr)
      exact ⟨⟨by have := b.1; omega, fun w hw => by have := (b.2 w hw).1; omega⟩, by have := row_len b (by decide); omega, row_cnt b (by decide), fun c hc => (row_chr b c hc).2⟩
    · obtain rfl : r = [("zz" : Str), nine] := by simpa using hr
      have wl : ∀ w ∈ [("zz" : Str), nine], w.length ≤ 4600 ∧ ∀ c ∈ w.cps.toList, 33 ≤ c ∧ c ≤ 126 := fun w hw => by
        rcases List.mem_cons.mp hw with rfl | hw
        · exact ⟨zl, zc⟩
        · obtain rfl : w = nine := by simpa using hw
          exact ⟨hn, hc⟩
      have e : (" " : Str).length = 1 := by decide +kernel
      have ec : (" " : Str).cps.toList.count 32 = 1 := by decide +kernel
      have j1 : (txW [("zz" : Str), nine]).length ≤ 4603 := by
        have : txW [("zz" : Str), nine] = "zz" ++ " " ++ nine := by
          unfold txW
          rw [join_cons]
          rfl
        rw [this, Str.length_append, Str.length_append, e, show ("zz" : Str).length = 2 by decide +kernel]
        omega
      have j2 := join_le (f := fun a => a.cps.toList.count 32) cnt_add (by decide +kernel) " " rfl 0 [("zz" : Str), nine] fun y hy => Nat.le_of_eq (List.count_eq_zero.mpr fun z => by have := (wl y hy).2 32 z; omega)
      rw [ec] at j2
      have l2 : [("zz" : Str), nine].length = 2 := rfl
      rw [l2] at j2
      refine ⟨⟨by rw [l2]; omega, fun w hw => by have := (wl w hw).1; omega⟩, by omega, by unfold txW; omega, fun c hc' => ?_⟩
      rcases join_mem (by decide +kernel) hc' with z | ⟨y, hy, z⟩
      · have e : (" " : Str).cps.toList = [32] := by decide +kernel
        rw [e] at z
        simp at z
        omega
      · exact ((wl y hy).2 c z).2
  have ll : (rws.take 3 ++ [[("zz" : Str), nine]]).length ≤ 4 := by simp; omega
  have e : ("\n" : Str).length = 1 := by decide +kernel
  have ec : ("\n" : Str).cps.toList.count 32 = 0 := by decide +kernel
  have first : ∀ r ∈ rws.take 3, (txW r).length ≤ 385 := fun r hr => row_len (h.2.2 r (List.mem_of_mem_take hr)) (by decide)
  have j1 := join_le (f := Str.length) len_add (by decide +kernel) "\n" rfl 4700 ((rws.take 3 ++ [[("zz" : Str), nine]]).map txW) fun y hy => by
    obtain ⟨r, hr, rfl⟩ := List.mem_map.mp hy
    exact (rw_ r hr).2.1
  have j2 := join_le (f := fun a => a.cps.toList.count 32) cnt_add (by decide +kernel) "\n" rfl 11 ((rws.take 3 ++ [[("zz" : Str), nine]]).map txW) fun y hy => by
    obtain ⟨r, hr, rfl⟩ := List.mem_map.mp hy
    exact (rw_ r hr).2.2.1
  rw [e, List.length_map] at j1
  rw [ec, List.length_map] at j2
  have j1 : (txR (rws.take 3 ++ [[("zz" : Str), nine]])).length ≤ (rws.take 3 ++ [[("zz" : Str), nine]]).length * (1 + 4700) := j1
  have j2 : (txR (rws.take 3 ++ [[("zz" : Str), nine]])).cps.toList.count 32 ≤ (rws.take 3 ++ [[("zz" : Str), nine]]).length * (0 + 11) := j2
  have m1 : (rws.take 3 ++ [[("zz" : Str), nine]]).length * (1 + 4700) ≤ 4 * 4701 := Nat.mul_le_mul ll (Nat.le_refl _)
  refine ⟨by omega, fun r hr => (rw_ r hr).1, fun r hr => by have := (rw_ r hr).2.1; omega, by omega, by omega, by omega, ok_chr fun c hc' => ?_⟩
  rcases join_mem (by decide +kernel) hc' with z | ⟨y, hy, z⟩
  · have e : ("\n" : Str).cps.toList = [10] := by decide +kernel
    rw [e] at z
    simp at z
    omega
  · obtain ⟨r, hr, rfl⟩ := List.mem_map.mp hy
    exact (rw_ r hr).2.2.2 c z
theorem split_e (y : Str) (s : Nat) (S : List Nat) (ey : TL.tl y = s :: S) (hk : y.cps.all (· < 256) = true) : Txt.split "" y = [("" : Str)] := by
  have h := TL.split_join (y := y) (s := s) (S := S) ey hk (parts := [("" : Str)]) (by simp) fun p hp hc => by
    obtain rfl : p = "" := by simpa using hp
    have e : TL.tl ("" : Str) = [] := by decide +kernel
    rw [e] at hc
    cases hc
  have e : Txt.join y [("" : Str)] = "" := by
    rw [join_cons]
    rfl
  rw [e] at h
  exact h
theorem due_empty : DueIs (Txt.split "" "\n") (some 0) := by
  rw [split_e "\n" 10 [] (by decide +kernel) (by decide +kernel)]
  refine ⟨by simp, fun g => ?_, fun j hj => by omega⟩
  have h := g.2.1
  have e : lnW [("" : Str)] 0 = [("" : Str)] := by
    show Txt.split "" " " = [("" : Str)]
    exact split_e " " 32 [] (by decide +kernel) (by decide +kernel)
  rw [e] at h
  simp at h
theorem tx_empty : TxB "" := ⟨by decide +kernel, by decide +kernel, by decide +kernel⟩
end Bk
/-! the step: the head's rule -/
local macro_rules | `(tactic| walk_at "st") => `(tactic| with_reducible (first
  | refine Bk.r_seq ?_ | refine Bk.r_next ?_ | refine Bk.r_asg ?_ | refine Bk.r_drop ?_ | refine Bk.r_ret ?_ | refine Bk.r_retN ?_ | refine Bk.r_ifS ?_
  | refine Bk.r_C ?_ | refine Bk.r_test ?_ | refine Bk.r_tB ?_ | refine Bk.k_test ?_ | refine Bk.r_ifE ?_ | refine Bk.r_and ?_ | refine Bk.r_or ?_ | refine Bk.r_not ?_
  | refine Bk.r_andV ?_ | refine Bk.r_orV ?_ | refine Bk.r_notV ?_ | refine Bk.k_notV ?_ | refine Bk.r_op ?_ | refine Bk.r_un ?_ | refine Bk.r_chain ?_
  | refine Bk.k_rI0 ?_ | refine Bk.k_rU ?_ | refine Bk.k_eqI ?_ | refine Bk.k_neI ?_ | refine Bk.r_dget ?_ | refine Bk.r_dput ?_ | refine Bk.r_nil ?_ | refine Bk.r_cons ?_
  | refine Bk.r_tup ?_ | refine Bk.r_lst ?_ | refine Bk.r_call ?_ | refine Bk.r_CB ?_ | refine Bk.r_sl ?_ | refine Bk.r_noPart ?_ | refine Bk.r_part ?_ | refine Bk.k_part ?_
  | refine Bk.r_sub ?_ | refine Bk.r_BM ?_ | refine Bk.r_for ?_ | refine Bk.r_lc ?_ | refine Bk.r_iList ?_ | refine Bk.r_iTup ?_ | refine Bk.r_iR1 ?_ | refine Bk.r_iR2 ?_ | refine Bk.r_iR3 ?_
  | refine Bk.r_iE ?_ | refine Bk.r_iZ ?_ | refine Bk.r_LS ?_ | refine Bk.r_tru ?_ | refine Bk.r_yes ?_ | refine Bk.k_lcbT ?_ | refine Bk.r_BM0 ?_
  | refine Bk.k_isInt ?_ | refine Bk.k_isIntB ?_ | refine Bk.k_isBool ?_ | refine Bk.r_tupG ?_ | refine Bk.k_gCons ?_ | refine Bk.k_gNil ?_ | refine Bk.r_iS ?_ | refine Bk.r_sadd ?_ | refine Bk.k_orN ?_ | refine Bk.k_orF ?_ | refine Bk.k_andVT ?_ | refine Bk.k_orVF ?_ | refine Bk.k_ifNT ?_ | refine Bk.k_ifNF ?_ | refine Bk.k_ifT ?_ | refine Bk.k_ifF ?_ | refine Bk.r_pairs1 ?_ | refine Bk.r_pairs0 ?_ | refine Bk.r_din ?_ | refine Bk.r_minLen ?_ | refine Bk.r_dget1 ?_ | refine Bk.k_isN ?_ | refine Bk.k_notN ?_ | refine Bk.r_callS ?_ | refine Bk.r_xr ?_ | refine Bk.r_revL ?_ | refine Bk.r_raise ?_ | refine Bk.r_LR3 ?_ | refine Bk.k_isStr ?_ | refine Bk.k_eqS ?_ | refine Bk.k_intB ?_ | refine Bk.k_min2 ?_ | refine Bk.k_max2 ?_ | refine Bk.r_iKeys ?_ | refine Bk.r_dnotin ?_ | refine Bk.r_callN ?_ | refine Bk.r_callG ?_ | refine Bk.r_dc ?_ | refine Bk.k_dcbT ?_ | refine Bk.r_orT ?_ | refine Bk.r_iItems ?_ | refine Bk.r_dsetdT ?_ | refine Bk.r_iValsT ?_ | refine Bk.r_LR1 ?_ | refine Bk.r_stepL ?_ | refine Bk.r_star ?_ | refine Bk.r_maxK ?_ | refine Bk.r_LR2 ?_ | refine Bk.r_iItemsT ?_ | refine Bk.r_iStr ?_ | refine Bk.r_lenSetT ?_ | refine Bk.r_lenSetG ?_ | refine Bk.k_iStr ?_))

local macro_rules | `(tactic| walk_at "sv") => `(tactic| first | ((with_reducible refine' Bk.r_var ?k1 ?_); (case k1 => exact rfl)) | ((with_reducible refine' Bk.r_name ?k1 ?_); (case k1 => first | (simp only [List.set_cons_succ, List.set_cons_zero]; done) | (simp only [List.set_cons_succ, List.set_cons_zero]; exact rfl) | exact rfl)))
local macro_rules | `(tactic| walk_at "go") => `(tactic| repeat (first | walk_at "sv" | walk_at "st"))
local macro_rules | `(tactic| walk_at "start") => `(tactic| (dsimp only [L2.start, List.map, List.length, Nat.reduceAdd, Nat.reduceSub, List.replicate, List.cons_append, List.nil_append]; walk_at "go"))
local macro_rules | `(tactic| walk_at "lct") => `(tactic| ((with_reducible refine' Bk.k_lct ?k1 ?k2 ?_); (case k1 => first | (simp only [L2.wipe, List.set_cons_succ, List.set_cons_zero]; done) | (simp only [L2.wipe, List.set_cons_succ, List.set_cons_zero]; exact rfl) | exact rfl); (case k2 => exact rfl); walk_at "go"))
namespace Bk
open PySem PySem.Spec PyProof.Rows L2
def topS (i : Nat) : Stmt := PySem.Challenge.pw_badbegins_k81_texts_that_write_no_net.main.body.getD i (.Pass ⟨0, 0, 0, 0⟩)
abbrev s_feed : Stmt := topS 26
theorem sc_feed : FnScope ["_law_script"] ["_law_script"] (defScope s_feed) := ⟨rfl, rfl, rfl, by decide +kernel, rfl, by decide +kernel, by decide +kernel⟩
section
variable {P : Program} {w : World} {K : PySem.W.Frag} {mg : Str → Option Value} {base : Heap}
theorem ok_feed (B : Bl mg) (T : DefAt K mg "_law_feed" s_feed) : DefOk P w K mg base CX0 1 "_law_feed" ["_law_script"] (spFeed K) := by
  refine T.ok sc_feed (fun _ _ _ _ _ _ us hl => match us, hl with | [_], _ => rfl) (fun vs H Q E h => ?_) (fun f cdv A outer s H vs Q E hr hcd h => ?_)
  · obtain ⟨a, ns, rfl, _⟩ := h
    rfl
  · obtain ⟨a, ns, rfl, hS, q⟩ := h
    refine ⟨_, (pss_one (ps_ret (pe_disp (pps_cons pe_str (pe_callTy (T := "list") (r := rListB K) (bk_list rfl) (by rfl) B.list (by decide +kernel) (pa_cons (pe_slice (r := rSlL K) (ob_slL rfl) (pv 0) po_none (po_some pe_int)) pa_nil)) (pps_cons pe_str pe_int (pps_cons pe_str pe_int pps_nil))) (by rfl) (by rfl) (fun z => by cases z) (by decide)))), ?_⟩
    walk_at "start"
    refine r_disp fun d hd => ?_
    walk_at "go"
    have s1 : Same H (upd H d (.dK [])) := L2.Same.new hd
    refine k_slL (s1.seq hS) fun e he => ?_
    rw [show (some (63 : Int)) = some ((63 : Nat) : Int) from rfl, cut_hi, ← List.map_take]
    have s2 := s1.newer (o := .lst ((ns.take 63).map V.int)) he
    walk_at "go"
    refine k_listof (.inl (sql_lst upd_same)) fun c hc => ?_
    have ndc : d ≠ c := ne_of_none (by rw [upd_ne (ne_of_none upd_same he)]; exact upd_same) hc
    have s3 := s2.newer (o := .lst ((ns.take 63).map V.int)) hc
    walk_at "go"
    refine k_disp [(Sum.inr ("cells" : Str), V.ref c), (Sum.inr ("turn" : Str), .int 0), (Sum.inr ("seed" : Str), .int 0)] ?_ rfl (by simp) ?_
    · rw [upd_ne ndc, upd_ne (ne_of_none upd_same he)]
      exact upd_same
    · rw [feed_merge]
      have hc0 : H c = none := s2.free hc
      exact q d _ hd ⟨s3.mut hd, hd, c, 0, 0, ns.take 63, hc0, upd_same, by rw [upd_ne ndc.symm, upd_same], by decide, by decide, by rw [List.length_take]; omega⟩
end
abbrev s_take : Stmt := topS 27
theorem sc_take : FnScope ["_law_feed_here", "_law_many", "_law_cell", "_law_mixed"] ["_law_feed_here", "_law_many"] (defScope s_take) := ⟨rfl, rfl, rfl, by decide +kernel, rfl, by decide +kernel, by decide +kernel⟩
section
variable {P : Program} {w : World} {K : PySem.W.Frag} {mg : Str → Option Value} {base : Heap}
theorem ok_take (T : DefAt K mg "_law_take" s_take) : DefOk P w K mg base CX0 1 "_law_take" ["_law_feed_here", "_law_many"] spTake := by
  refine T.ok sc_take (fun _ _ _ _ _ _ us hl => match us, hl with | [_, _], _ => rfl) (fun vs H Q E h => ?_) (fun f cdv A outer s H vs Q E hr hcd h => ?_)
  · obtain ⟨G, d, many, rfl, _⟩ := h
    rfl
  · obtain ⟨G, d, many, rfl, F, hm, hM, q⟩ := h
    have hu := hu_of hr
    obtain ⟨c, t, z, ns, X, hz0, hz1, hl⟩ := F.x
    refine ⟨_, (pss_cons (ps_dput hu (pv 0) pe_str (pe_op op_add (pe_dget hu (pv 0) pe_str (fun _ _ => rfl)) pe_int) rfl)
      (pss_cons (ps_if (pt_cmpR (r := rNeD K) (ob_neD rfl hr.units) (pe_dget hu (pv 0) pe_str (fun _ _ => rfl)) (pe_lst pa_nil) (nomark _)) (pss_cons (ps_set (i := 2) sc_take.nd rfl (by first | exact Or.inl rfl | exact Or.inr rfl) (pe_ix (r := rIxL K) (ob_ixL rfl) (pe_dget hu (pv 0) pe_str (fun _ _ => rfl)) pe_int (fun _ _ => rfl)))
      (pss_cons (ps_if (pt_cmpR op_ge (pv 2) (pe_op op_pow pe_int pe_int) (nomark _)) (pss_cons (ps_asg (pe_op op_fdiv (pv 2) (pv 1)) (pg_sub (pe_dget hu (pv 0) pe_str (fun _ _ => rfl)) pe_int set_list))
      (pss_one (ps_ret (pe_op op_mod (pv 2) (pv 1))))) pss_nil)
      (pss_cons (ps_dput hu (pv 0) pe_str (pe_op op_mod (pe_op op_add (pe_op op_add (pe_op op_mul (pe_dget hu (pv 0) pe_str (fun _ _ => rfl)) pe_int) (pe_op op_mod (pv 2) pe_int)) pe_int) pe_int) rfl)
      (pss_one (ps_dput hu (pv 0) pe_str (pe_slice (r := rSlL K) (ob_slL rfl) (pe_dget hu (pv 0) pe_str (fun _ _ => rfl)) (po_some pe_int) po_none) rfl))))) pss_nil)
      (pss_cons (ps_set (i := 3) sc_take.nd rfl (by first | exact Or.inl rfl | exact Or.inr rfl) (pe_op op_mod (pe_op op_mul (pe_op op_add (pe_op op_add (pe_dget hu (pv 0) pe_str (fun _ _ => rfl)) (pe_op op_mul pe_int (pe_dget hu (pv 0) pe_str (fun _ _ => rfl)))) pe_int) pe_int) pe_int))
      (pss_cons (ps_set (i := 3) sc_take.nd rfl (by first | exact Or.inl rfl | exact Or.inr rfl) (pe_op op_mod (pe_op op_add (pe_op op_add (pe_op op_mul (pv 3) (pv 3)) (pe_op op_mul pe_int (pv 3))) (pe_dget hu (pv 0) pe_str (fun _ _ => rfl))) pe_int))
      (pss_one (ps_ret (pe_op op_mod (pe_op op_fdiv (pv 3) pe_int) (pv 1)))))))), ?_⟩
    walk_at "start"
    refine k_dget (dg_turn X.hd) ?_
    walk_at "go"
    refine k_dput (dp_turn X.hd) ?_
    have X1 := X.put (t + 1) z
    generalize hH1 : upd H d (.dK (feedKvs c (t + 1) z)) = H1 at X1 ⊢
    with_reducible refine r_cut (fun σ' H' => ∃ x2 x3 c3 t3 z3 ns3, σ' = [some (.ref d), some (.int many), x2, x3] ∧ FeedX G H' d c3 t3 z3 ns3 ∧ 0 ≤ z3 ∧ z3 < 1000000007 ∧ ns3.length ≤ 63) ?_ ?_
    · rintro σ' H' ⟨x2, x3, c3, t3, z3, ns3, rfl, X3, h1, h2, h3⟩
      walk_at "go"
      refine k_dget (dg_seed X3.hd) ?_
      walk_at "go"
      refine k_dget (dg_turn X3.hd) ?_
      refine k_rI (.inl ⟨by decide, by decide⟩) ?_
      walk_at "go"
      refine k_rI (.inr ⟨by decide, by decide⟩) ?_
      walk_at "go"
      refine k_rI (by decide) ?_
      generalize hx : (z3 + 40503 * t3 + 9973) * 69069 % 2147483647 = x
      have hx0 : 0 ≤ x := by omega
      have hx1 : x < 2147483647 := by omega
      walk_at "go"
      refine k_rI (.inl ⟨by omega, by omega⟩) ?_
      walk_at "go"
      refine k_rI (.inl ⟨by decide, by decide⟩) ?_
      walk_at "go"
      refine k_dget (dg_turn X3.hd) ?_
      walk_at "go"
      refine k_rI (by decide) ?_
      generalize hy : (x * x + 30269 * x + t3) % 2147483629 = y
      walk_at "go"
      refine k_rI ⟨by decide, by decide⟩ ?_
      walk_at "go"
      refine k_rI hm ?_
      exact q _ _ (Int.emod_nonneg _ (by omega)) (Int.emod_lt_of_pos _ hm) (X3.at h1 h2 h3)
    · intro M hM'
      walk_at "go"
      refine k_dget (dg_cells X1.hd) ?_
      walk_at "go"
      refine k_lst (Nat.zero_le _) fun p hp => ?_
      have ncp : c ≠ p := ne_of_none X1.hc hp
      have X2 : FeedX G (upd H1 p (.lst [])) d c (t + 1) z ns := ⟨X1.same.newer hp, X1.d0, X1.c0, by rw [upd_ne (ne_of_none X1.hd hp)]; exact X1.hd, by rw [upd_ne ncp]; exact X1.hc⟩
      have hp2 : (upd H1 p (HO.lst [])) p = some (.lst []) := upd_same
      generalize hH2 : upd H1 p (.lst []) = H2 at X2 hp2 ⊢
      refine k_neNil X2.hc hp2 ?_
      walk_at "go"
      refine k_ifN (fun hne => ?_) (fun he => ?_)
      · cases ns with
        | nil => exact absurd rfl hne
        | cons n r =>
          walk_at "go"
          refine k_dget (dg_cells X2.hd) ?_
          walk_at "go"
          refine k_ixL (sql_lst X2.hc) atI_0 ?_
          walk_at "go"
          refine k_rI ⟨by decide, by decide, by decide⟩ ?_
          walk_at "go"
          refine k_ifP (fun hbig => ?_) (fun hsm => ?_)
          · walk_at "go"
            refine k_rI ⟨hm, hM⟩ ?_
            walk_at "go"
            refine k_dget (dg_cells X2.hd) ?_
            walk_at "go"
            refine k_setL X2.hc (ixN_0 (by simp)) ?_
            walk_at "go"
            refine k_rI hm ?_
            exact q _ _ (Int.emod_nonneg _ (by omega)) (Int.emod_lt_of_pos _ hm) ((X2.lst ((n / many) :: r)).at hz0 hz1 hl)
          · walk_at "go"
            refine k_dget (dg_seed X2.hd) ?_
            walk_at "go"
            refine k_rI (.inl ⟨by omega, by omega⟩) ?_
            walk_at "go"
            refine k_rI (by decide) ?_
            walk_at "go"
            refine k_rI (by decide) ?_
            walk_at "go"
            refine k_dput (dp_seed X2.hd) ?_
            have X3 := X2.put (t + 1) ((z * 30011 + n % 999999937 + 7) % 1000000007)
            walk_at "go"
            refine k_dget (dg_cells X3.hd) ?_
            walk_at "go"
            refine k_slL (sql_lst X3.hc) fun e he => ?_
            rw [cut_tl]
            walk_at "go"
            refine k_dput (dp_cells (by rw [upd_ne (ne_of_none X3.hd he)]; exact X3.hd)) ?_
            refine hM' _ _ ⟨_, _, _, _, _, _, rfl, X3.cut he _, Int.emod_nonneg _ (by decide), Int.emod_lt_of_pos _ (by decide), ?_⟩
            rw [List.length_drop]
            omega
      · walk_at "go"
        exact hM' _ _ ⟨_, _, _, _, _, _, rfl, X2, hz0, hz1, hl⟩
end
abbrev c_NoText : Stmt := topS 10
abbrev i_NoText : Stmt := clsDef c_NoText
section
open LamX NdefX
variable {P : Program} {w : World} {K : PySem.W.Frag} {mg : Str → Option Value} {base : Heap}
theorem ns_NoText : NScope ["self", "row", "__class__"] ["self", "row"] ["__class__"] (defScope i_NoText) := nscope_by (by decide +kernel)
theorem init_NoText {C fI cc c : Addr} {oc : Value} {od : Option Addr} {dV kV doc pm : Value} {an : Option Addr} {ct : Value} {osl : Array (Option Value)} (ic : InitC P K mg C cc c) (no : PySem.W.findIn K (.ref C) "row" = some none)
    (lk : K.lookup fI = some (⟨oc, od, .func (PySem.W.fnX "__init__" "NoText.__init__" (defArgs i_NoText) (defBody i_NoText) (defScope i_NoText) [("__class__", cc)] dV kV doc pm an (.ref c) ct), osl⟩ : Obj)) (cd : PySem.W.codeIn K (.ref c) "NoText.__init__" = true) :
    FnOk P w K mg base CX0 1 fI (PySem.W.fnX "__init__" "NoText.__init__" (defArgs i_NoText) (defBody i_NoText) (defScope i_NoText) [("__class__", cc)] dV kV doc pm an (.ref c) ct) ["self", "row"] (spInit1 C "row") := by
  refine fn_init (pl := fun _ => _) lk cd ns_NoText ic rfl rfl (by decide +kernel) (fun _ => rfl) (fun _ => rfl) (fun vs H Q E h => ?_) (fun A outer s H vs Q E h => ?_)
  · obtain ⟨self, i, rfl, _⟩ := h
    rfl
  · obtain ⟨self, i, rfl, hs, hi, q⟩ := h
    refine ⟨self, [.int i], _, _, rfl, hs, pe_joined (.cons pe_str (.cons (pe_fmt (pv 1)) .nil)), pss_one (ps_ost (pv 0) (pv 1)), ?_⟩
    refine k_js2 (by decide +kernel) hi rfl fun out => ⟨hs, ?_⟩
    refine ⟨_, rfl, _, rfl, self, C, rfl, ic.ex, no, .inl ⟨hs, fun dx h1 h2 => ?_⟩⟩
    exact q dx h1 h2
end
abbrev s_rows : Stmt := topS 28
theorem sc_rows : FnScope ["_law_feed_here", "_law_letters", "_law_size", "_law_stem", "_law_k", "_law_many", "_law_rows_here", "_law_make", "_law_row", "_law_elder"] ["_law_feed_here"] (defScope s_rows) := ⟨rfl, rfl, rfl, by decide +kernel, rfl, by decide +kernel, by decide +kernel⟩
abbrev s_lines : Stmt := topS 35
theorem sc_lines : FnScope ["_law_rows_here", "_law_row"] ["_law_rows_here"] (defScope s_lines) := ⟨rfl, rfl, rfl, by decide +kernel, rfl, by decide +kernel, by decide +kernel⟩
abbrev s_signed : Stmt := topS 30
theorem sc_signed : FnScope ["_law_feed_here", "_law_text", "_law_signs", "_law_spot", "_law_sign"] ["_law_feed_here", "_law_text"] (defScope s_signed) := ⟨rfl, rfl, rfl, by decide +kernel, rfl, by decide +kernel, by decide +kernel⟩
section
variable {P : Program} {w : World} {K : PySem.W.Frag} {mg : Str → Option Value} {base : Heap}
theorem ok_lines81 (B : Bl mg) (T : DefAt K mg "_law_lines" s_lines) : DefOk P w K mg base CX0 1 "_law_lines" ["_law_rows_here"] spLinesD := by
  refine T.ok sc_lines (fun _ _ _ _ _ _ us hl => match us, hl with | [_], _ => rfl) (fun vs H Q E h => ?_) (fun f cdv A outer s H vs Q E hr hcd h => ?_)
  · obtain ⟨l, bs, rws, rfl, _⟩ := h
    rfl
  · obtain ⟨l, bs, rws, rfl, R, rl, wl, tl, zl, q⟩ := h
    refine ⟨_, (pss_one (ps_ret (ob_join rfl pe_str (pe_lc (own := [("_law_row", 1)]) (g := gName 1) (by rfl) sc_lines.nd (pi_list (pv 0)) (blkOk_by (own := [("_law_row", 1)]) (N := ["_law_rows_here", "_law_row"]) (sc := defScope s_lines) (by decide +kernel)) (fun _ _ _ _ _ => (pg_name (i := 1) sc_lines.nd rfl (by first | exact Or.inl rfl | exact Or.inr rfl))) (fun _ _ _ _ _ => pts_nil) (fun _ _ _ _ _ => (ob_join rfl pe_str (pv 1))))))), ?_⟩
    walk_at "start"
    refine r_tM1 ?_
    walk_at "go"
    refine ⟨⟨_, rfl⟩, ?_⟩
    walk_at "go"
    refine k_iList (sql_lst R.1) ?_
    refine k_lcL (xs := bs.map V.ref) (fun Dl k H9 => Same H H9 ∧ H9 Dl = some (.lst (((rws.take k).map txW).map V.str))) (fun Dl hD => ⟨L2.Same.new hD, by rw [upd_same]; rfl⟩) (fun Dl k H9 hD hk z => sql_lst (z.1 _ _ R.1)) (fun Dl k x H9 hD hx z => ?_) (fun Dl H9 hD z => ?_)
    · obtain ⟨s9, h9⟩ := z
      obtain ⟨b, hb, rfl⟩ := map_get hx
      have lt := (List.getElem?_eq_some_iff.mp hb).1
      rw [R.2.1] at lt
      obtain ⟨r, hr⟩ : ∃ r, rws[k]? = some r := ⟨_, List.getElem?_eq_getElem lt⟩
      have hrb := R.2.2 k b r hb hr
      have hm := List.mem_of_getElem? hr
      walk_at "lct"
      refine r_tM1 ?_
      walk_at "go"
      refine ⟨⟨_, rfl⟩, ?_⟩
      walk_at "go"
      refine ⟨" ", b, r, rfl, rfl, .inl (sql_lst (s9 _ _ hrb)), ?_, ?_⟩
      · have hm2 := wl r hm
        have := sum_le (m := 5000) r hm2.2
        have e1 : (" " : Str).length = 1 := by decide +kernel
        rw [e1]
        have : r.length * 5000 ≤ 100 * 5000 := Nat.mul_le_mul hm2.1 (Nat.le_refl _)
        omega
      refine k_lca h9 (small (by rw [List.length_map, List.length_map, List.length_take]; omega)) ⟨s9.mut hD, ?_⟩
      rw [upd_same, take_next hr, List.map_append, List.map_append]
      rfl
    · obtain ⟨s9, h9⟩ := z
      rw [List.length_map, R.2.1, List.take_length] at h9
      walk_at "go"
      refine ⟨"\n", Dl, rws.map txW, rfl, rfl, .inl (sql_lst h9), ?_, q _ s9⟩
      have := sum_le (m := 20000) (rws.map txW) fun y hy => by
        obtain ⟨r, hr, rfl⟩ := List.mem_map.mp hy
        exact tl r hr
      have e1 : ("\n" : Str).length = 1 := by decide +kernel
      rw [e1]
      rw [List.length_map] at this ⊢
      have : rws.length * 20000 ≤ 100 * 20000 := Nat.mul_le_mul rl (Nat.le_refl _)
      omega
theorem ok_signed81 (B : Bl mg) (T : DefAt K mg "_law_signed" s_signed) (G_take : DefOk P w K mg base CX0 1 "_law_take" ["_law_feed_here", "_law_many"] spTake) : DefOk P w K mg base CX0 2 "_law_signed" ["_law_feed_here", "_law_text"] spSigned := by
  refine T.ok sc_signed (fun _ _ _ _ _ _ us hl => match us, hl with | [_, _], _ => rfl) (fun vs H Q E h => ?_) (fun f cdv A outer s H vs Q E hr hcd h => ?_)
  · obtain ⟨G, d, k, rws, rfl, _⟩ := h
    rfl
  · obtain ⟨G, d, k, rws, rfl, F, RB, hk, q⟩ := h
    have tl := txR_len RB hk
    refine ⟨_, (pss_cons (ps_set (i := 2) sc_signed.nd rfl (by first | exact Or.inl rfl | exact Or.inr rfl) pe_str)
      (pss_cons (ps_set (i := 3) sc_signed.nd rfl (by first | exact Or.inl rfl | exact Or.inr rfl) (pe_callD G_take (hr.mono (by decide)) (by rfl) pass0 (pa_cons (pv 0) (pa_cons (pe_op op_add (pe_callB (id := "len") (r := rLenB K) (bk_len rfl) (by rfl) B.len (by decide +kernel) (pa_cons (pv 1) pa_nil)) pe_int) pa_nil))))
      (pss_cons (ps_set (i := 4) sc_signed.nd rfl (by first | exact Or.inl rfl | exact Or.inr rfl) (pe_ix (r := rIx K) (ob_ix rfl) (pv 2) (pe_callD G_take (hr.mono (by decide)) (by rfl) pass0 (pa_cons (pv 0) (pa_cons pe_int pa_nil))) (fun _ _ => rfl)))
      (pss_one (ps_ret (pe_op op_add_strS (pe_op op_add_strS (pe_slice sl_str (pv 1) po_none (po_some (pv 3))) (pv 4)) (pe_slice sl_str (pv 1) (po_some (pe_op op_add (pv 3) (pe_callD G_take (hr.mono (by decide)) (by rfl) pass0 (pa_cons (pv 0) (pa_cons pe_int pa_nil))))) po_none))))))), ?_⟩
    walk_at "start"
    refine ⟨_, (txR rws).length, rfl, ⟨smallE (by omega), rfl⟩, ?_⟩
    walk_at "go"
    refine ⟨G, d, _, rfl, F, by omega, by omega, fun sp H1 p0 p1 F1 => ?_⟩
    walk_at "go"
    refine ⟨G, d, 95, rfl, F1, by decide, by decide, fun r H2 r0 r1 F2 => ?_⟩
    walk_at "go"
    obtain ⟨c, hc, cl⟩ := sgn_at r0 r1
    refine k_ixS (z := sgn81) (by have : sgn81.length ≤ 200 := by decide +kernel
                                  omega) hc ?_
    walk_at "go"
    refine k_slS (by omega) ?_
    have l1 := cutS_len (z := txR rws) (lo := none) (hi := some sp)
    have lc : (⟨#[c]⟩ : Str).length = 1 := rfl
    walk_at "go"
    refine k_catS (by omega) ?_
    walk_at "go"
    refine ⟨G, d, 2, rfl, F2, by decide, by decide, fun r2 H3 u0 u1 F3 => ?_⟩
    walk_at "go"
    refine k_slS (by omega) ?_
    have l2 := cutS_len (z := txR rws) (lo := some (sp + r2)) (hi := none)
    walk_at "go"
    refine k_catS (by rw [Str.length_append]; omega) ?_
    exact q _ _ (signed_B RB hk cl) F3
theorem ok_rows81 (B : Bl mg) (T : DefAt K mg "_law_rows" s_rows) (G_take : DefOk P w K mg base CX0 1 "_law_take" ["_law_feed_here", "_law_many"] spTake) : DefOk P w K mg base CX0 2 "_law_rows" ["_law_feed_here"] spRowsD := by
  refine T.ok sc_rows (fun _ _ _ _ _ _ us hl => match us, hl with | [_], _ => rfl) (fun vs H Q E h => ?_) (fun f cdv A outer s H vs Q E hr hcd h => ?_)
  · obtain ⟨G, d, rfl, _⟩ := h
    rfl
  · obtain ⟨G, d, rfl, F, q⟩ := h
    refine ⟨_, (pss_cons (ps_set (i := 1) sc_rows.nd rfl (by first | exact Or.inl rfl | exact Or.inr rfl) pe_str)
      (pss_cons (ps_set (i := 2) sc_rows.nd rfl (by first | exact Or.inl rfl | exact Or.inr rfl) (pe_op op_add pe_int (pe_callD G_take (hr.mono (by decide)) (by rfl) pass0 (pa_cons (pv 0) (pa_cons pe_int pa_nil)))))
      (pss_cons (ps_set (i := 3) sc_rows.nd rfl (by first | exact Or.inl rfl | exact Or.inr rfl) pe_str)
      (pss_cons (ps_for PassesOwn.never rfl (pi_range1 (by rfl) B.range (pa_cons (pe_op op_sub (pv 2) pe_int) pa_nil)) (pg_name (i := 4) sc_rows.nd rfl (by first | exact Or.inl rfl | exact Or.inr rfl)) (pss_one (ps_set (i := 3) sc_rows.nd rfl (by first | exact Or.inl rfl | exact Or.inr rfl) (pe_op op_add_strS (pv 3) (pe_ix (r := rIx K) (ob_ix rfl) (pv 1) (pe_callD G_take (hr.mono (by decide)) (by rfl) pass0 (pa_cons (pv 0) (pa_cons pe_int pa_nil))) (fun _ _ => rfl))))))
      (pss_cons (ps_set (i := 5) sc_rows.nd rfl (by first | exact Or.inl rfl | exact Or.inr rfl) (pe_op op_add pe_int (pe_callD G_take (hr.mono (by decide)) (by rfl) pass0 (pa_cons (pv 0) (pa_cons pe_int pa_nil)))))
      (pss_cons (ps_set (i := 6) sc_rows.nd rfl (by first | exact Or.inl rfl | exact Or.inr rfl) (pe_lst pa_nil))
      (pss_cons (ps_for PassesOwn.never rfl (pi_range1 (by rfl) B.range (pa_cons (pv 5) pa_nil)) (pg_name (i := 7) sc_rows.nd rfl (by first | exact Or.inl rfl | exact Or.inr rfl)) (pss_cons (ps_set (i := 8) sc_rows.nd rfl (by first | exact Or.inl rfl | exact Or.inr rfl) (pe_lst (pa_cons (pe_op op_add_strS (pe_op op_add_strS (pe_ix (r := rIx K) (ob_ix rfl) (pv 1) (pe_op op_fdiv (pv 7) pe_int) (fun _ _ => rfl)) (pv 3)) (pe_ix (r := rIx K) (ob_ix rfl) (pv 1) (pe_op op_mod (pv 7) pe_int) (fun _ _ => rfl))) (pa_cons (pe_callTy (T := "str") (r := rStrI) bk_strI (by rfl) B.str (by decide +kernel) (pa_cons (pe_op op_add pe_int (pe_callD G_take (hr.mono (by decide)) (by rfl) pass0 (pa_cons (pv 0) (pa_cons (pe_op op_pow pe_int pe_int) pa_nil)))) pa_nil)) pa_nil))))
      (pss_cons (ps_if (pt_cmpR op_eq (pe_callD G_take (hr.mono (by decide)) (by rfl) pass0 (pa_cons (pv 0) (pa_cons pe_int pa_nil))) pe_int (nomark _)) (pss_one (ps_asg (pe_callTy (T := "str") (r := rStrI) bk_strI (by rfl) B.str (by decide +kernel) (pa_cons (pe_op op_sub (pe_op op_pow pe_int pe_int) (pe_callD G_take (hr.mono (by decide)) (by rfl) pass0 (pa_cons (pv 0) (pa_cons pe_int pa_nil)))) pa_nil)) (pg_sub (pv 8) pe_int set_list))) pss_nil)
      (pss_cons (ps_for PassesOwn.never rfl (pi_range1 (by rfl) B.range (pa_cons (pe_op op_mul (pe_callD G_take (hr.mono (by decide)) (by rfl) pass0 (pa_cons (pv 0) (pa_cons pe_int pa_nil))) (pe_callTy (T := "int") (r := rIntOf) bk_int (by rfl) B.int (by decide +kernel) (pa_cons (pe_cmpR op_gt (pv 7) pe_int (nomark _)) pa_nil))) pa_nil)) (pg_name (i := 4) sc_rows.nd rfl (by first | exact Or.inl rfl | exact Or.inr rfl)) (pss_cons (ps_set (i := 9) sc_rows.nd rfl (by first | exact Or.inl rfl | exact Or.inr rfl) (pe_ix (r := rIxL K) (ob_ixL rfl) (pe_ix (r := rIxL K) (ob_ixL rfl) (pv 6) (pe_callD G_take (hr.mono (by decide)) (by rfl) pass0 (pa_cons (pv 0) (pa_cons (pv 7) pa_nil))) (fun _ _ => rfl)) pe_int (fun _ _ => rfl)))
      (pss_one (ps_if (pt_cmpR (r := rIn K true) (ob_notIn rfl) (pv 9) (pe_slice (r := rSlL K) (ob_slL rfl) (pv 8) (po_some pe_int) po_none) (by rfl)) (pss_one (ps_expr (pe_bm PySem.F.plainAttrs_list PySem.F.slot_list_insert PySem.F.type_list_insert bk_insert (pv 8) (pa_cons (pe_op op_add pe_int (pe_callD G_take (hr.mono (by decide)) (by rfl) pass0 (pa_cons (pv 0) (pa_cons (pe_op op_sub (pe_callB (id := "len") (r := rLenB K) (bk_len rfl) (by rfl) B.len (by decide +kernel) (pa_cons (pv 8) pa_nil)) pe_int) pa_nil)))) (pa_cons (pv 9) pa_nil))))) pss_nil))))
      (pss_one (ps_expr (pe_bm PySem.F.plainAttrs_list PySem.F.slot_list_append PySem.F.type_list_append mt_append (pv 6) (pa_cons (pv 8) pa_nil))))))))
      (pss_one (ps_ret (pv 6)))))))))), ?_⟩
    walk_at "start"
    refine ⟨G, d, 6, rfl, F, by decide, by decide, fun sz H1 z0 z1 F1 => ?_⟩
    walk_at "go"
    refine k_iR1 (n := (1 + sz - 1).toNat) (by omega) (by omega) (by omega) ?_
    refine k_forR (fun j σ' H' => ∃ (z : Str) (x4 : Option V), σ' = [some (.ref d), some (.str abc), some (.int (1 + sz)), some (.str z), x4, none, none, none, none, none] ∧ z.length = j ∧ Let z ∧ FeedAt G H' d) ⟨"", _, rfl, rfl, fun c hc => absurd hc (by simp [show ("" : Str).cps.toList = [] by decide +kernel]), F1⟩ (fun j σ' H' hj z => ?_) (fun σ' H' z => ?_)
    · obtain ⟨z, x2, rfl, zl, zL, F2⟩ := z
      walk_at "go"
      refine ⟨G, d, 26, rfl, F2, by decide, by decide, fun r H3 r0 r1 F3 => ?_⟩
      walk_at "go"
      obtain ⟨c, hc, co, hcm⟩ := abc_at r0 r1
      refine k_ixS (z := abc) (by rw [abc_len]; omega) hc ?_
      refine k_catS (by have : (⟨#[c]⟩ : Str).length = 1 := rfl; omega) ?_
      exact ⟨z ++ ⟨#[c]⟩, _, rfl, by rw [Str.length_append, zl]; rfl, let_app zL (let_one (List.mem_of_getElem? hcm)), F3⟩
    obtain ⟨st, x4, rfl, sl, sL, F2⟩ := z
    have sl5 : st.length ≤ 5 := by omega
    walk_at "go"
    refine ⟨G, d, 40, rfl, F2, by decide, by decide, fun m H3 m0 m1 F3 => ?_⟩
    walk_at "go"
    refine k_lst (smallE (by simp)) fun l hl => ?_
    have F4 := F3.new (o := .lst []) hl
    have gl : G l = none := F3.same.free hl
    walk_at "go"
    refine k_iR1 (n := (1 + m).toNat) (by omega) (by omega) (by omega) ?_
    refine k_forR (fun i σ' H' => ∃ (G' : Hp) (bs : List Addr) (rws : List (List Str)) (x4 x7 x8 x9 : Option V), σ' = [some (.ref d), some (.str abc), some (.int (1 + sz)), some (.str st), x4, some (.int (1 + m)), some (.ref l), x7, x8, x9] ∧ Same G G' ∧ RwsAt G' l bs rws ∧ GdRows st rws ∧ rws.length = i ∧ FeedAt G' H' d) ⟨_, [], [], _, _, _, _, rfl, L2.Same.new gl, ⟨upd_same, rfl, fun i b r h => by simp at h⟩, ⟨sL, sl5, by simp, fun i r h => by simp at h⟩, rfl, F4⟩ (fun i σ' H' hi z => ?_) (fun σ' H' z => ?_)
    · obtain ⟨G5, bs, rws, x4, x7, x8, x9, rfl, s5, R5, D5, ln, F5⟩ := z
      walk_at "go"
      have i40 : i < 40 := by omega
      have e6 : (10 : Int) ^ (6 : Int).toNat = 1000000 := by decide +kernel
      have tn : ((0 + (i : Int)) / 26) = ((i / 26 : Nat) : Int) := by omega
      have tm : ((0 + (i : Int)) % 26) = ((i % 26 : Nat) : Int) := by omega
      have l1 : ∀ c : Nat, (⟨#[c]⟩ : Str).length = 1 := fun _ => rfl
      refine k_rI ⟨by decide, by decide⟩ ?_
      rw [tn]
      refine k_ixS (z := abc) (by rw [abc_len]; omega) (abc_get (k := i / 26) (by omega)) ?_
      walk_at "go"
      refine k_catS (by rw [l1]; omega) ?_
      walk_at "go"
      refine k_rI (by decide) ?_
      rw [tm]
      refine k_ixS (z := abc) (by rw [abc_len]; omega) (abc_get (k := i % 26) (by omega)) ?_
      refine k_catS (by rw [Str.length_append, l1, l1]; omega) ?_
      walk_at "go"
      refine k_rI ⟨by decide, by decide, by decide⟩ ?_
      rw [e6]
      walk_at "go"
      refine ⟨G5, d, 1000000, rfl, F5, by decide, by decide, fun pr H6 p0 p1 F6 => ?_⟩
      walk_at "go"
      refine k_strI (fig_log (by omega) (by unfold bigP; omega)) ?_
      walk_at "go"
      refine k_lst (smallE (by simp)) fun r hr0 => ?_
      have r0 : G5 r = none := F6.same.free hr0
      have F7 := F6.new (o := .lst ([nmG st i, figT (1 + pr)].map V.str)) hr0
      have s7 := L2.Same.new (o := .lst ([nmG st i, figT (1 + pr)].map V.str)) r0
      have h7 : (upd G5 r (.lst ([nmG st i, figT (1 + pr)].map V.str))) r = some (.lst ([nmG st i, figT (1 + pr)].map V.str)) := upd_same
      rw [show (upd H6 r (.lst [.str ((⟨#[abc.cps.toList.getD (i / 26) 0]⟩ : Str) ++ st ++ ⟨#[abc.cps.toList.getD (i % 26) 0]⟩), .str (Str.ofString (toString (1 + pr)))])) = upd H6 r (.lst ([nmG st i, figT (1 + pr)].map V.str)) from rfl]
      generalize upd G5 r (.lst ([nmG st i, figT (1 + pr)].map V.str)) = G7 at F7 s7 h7
      generalize upd H6 r (.lst ([nmG st i, figT (1 + pr)].map V.str)) = H7 at F7 ⊢
      walk_at "go"
      refine ⟨G7, d, 6, rfl, F7, by decide, by decide, fun w6 H8 _ _ F8 => ?_⟩
      walk_at "go"
      refine k_cutIf (fun σ2 H2 => ∃ (p : Int) (G8 : Hp), σ2 = [some (.ref d), some (.str abc), some (.int (1 + sz)), some (.str st), x4, some (.int (1 + m)), some (.ref l), some (.int (0 + (i : Int))), some (.ref r), x9] ∧ 1 ≤ p ∧ p ≤ bigP ∧ Same G5 G8 ∧ G8 r = some (.lst ([nmG st i, figT p].map V.str)) ∧ FeedAt G8 H2 d) ?_ ?_
      rotate_left
      · intro M hM
        refine k_ifP (fun e => ?_) (fun e => ?_)
        · walk_at "go"
          refine k_rI ⟨by decide, by decide, by decide⟩ ?_
          rw [show (10 : Int) ^ (30 : Int).toNat = bigP by decide +kernel]
          walk_at "go"
          refine ⟨G7, d, 2, rfl, F8, by decide, by decide, fun u H9 u0 u1 F9 => ?_⟩
          walk_at "go"
          have b1 : 1 ≤ bigP - u := by unfold bigP; omega
          refine k_strI (fig_log b1 (by omega)) ?_
          walk_at "go"
          refine k_setL (F9.same _ _ h7) (j := 1) rfl ?_
          exact hM _ _ ⟨bigP - u, _, rfl, b1, by omega, s7.mut r0, upd_same, F9.set h7⟩
        · walk_at "go"
          exact hM _ _ ⟨1 + pr, G7, rfl, by omega, by unfold bigP; omega, s7, h7, F8⟩
      rintro σ2 H9 ⟨p, G8, rfl, p1, p2, s8, h8, F9⟩
      walk_at "go"
      refine ⟨G8, d, 7, rfl, F9, by decide, by decide, fun t H10 t0 t1 F10 => ?_⟩
      walk_at "go"
      obtain ⟨c, ec, hc⟩ : ∃ c : Int, (if decide ((0 : Int) < 0 + (i : Int)) = true then (1 : Int) else 0) = c ∧ ((c = 0 ∧ i = 0) ∨ (c = 1 ∧ 0 < i)) := by
        by_cases e : i = 0
        · exact ⟨0, by rw [if_neg (by simp [e])], .inl ⟨rfl, e⟩⟩
        · exact ⟨1, by rw [if_pos (decide_eq_true (by omega))], .inr ⟨rfl, by omega⟩⟩
      rw [ec]
      refine k_rI (.inr ⟨by omega, by omega⟩) ?_
      have tc : 0 ≤ t * c ∧ t * c ≤ 6 ∧ (i = 0 → t * c = 0) := by
        rcases hc with ⟨rfl, e⟩ | ⟨rfl, e⟩
        · rw [Int.mul_zero]
          omega
        · rw [Int.mul_one]
          omega
      walk_at "go"
      refine k_iR1 (n := (t * c).toNat) rfl (by omega) (by omega) ?_
      refine k_forR (fun k σ' H' => ∃ (es : List Str) (G9 : Hp) (x4 x9 : Option V), σ' = [some (.ref d), some (.str abc), some (.int (1 + sz)), some (.str st), x4, some (.int (1 + m)), some (.ref l), some (.int (0 + (i : Int))), some (.ref r), x9] ∧ Same G5 G9 ∧ G9 r = some (.lst ((nmG st i :: figT p :: es).map V.str)) ∧ es.Nodup ∧ es.length ≤ k ∧ (∀ e ∈ es, ∃ j, j < i ∧ e = nmG st j) ∧ FeedAt G9 H' d) ⟨[], G8, _, _, rfl, s8, h8, by simp, by simp, by simp, F10⟩ (fun k σ' H' hk z => ?_) (fun σ' H' z => ?_)
      · obtain ⟨es, G9, x4, x9, rfl, s9, h9, nd, el, me, F11⟩ := z
        have i0 : 0 < i := by omega
        have R9 := R5.same s9
        walk_at "go"
        refine ⟨G9, d, _, rfl, F11, by omega, by omega, fun t2 H12 t20 t21 F12 => ?_⟩
        obtain ⟨tn, rfl⟩ : ∃ n : Nat, t2 = n := ⟨t2.toNat, by omega⟩
        have tl : tn < rws.length := by omega
        obtain ⟨q0, fs, er, _⟩ := D5.2.2.2 tn _ (getD_at (l := rws) (i := tn) (d := []) tl)
        obtain ⟨b, hb⟩ : ∃ b, bs[tn]? = some b := ⟨_, List.getElem?_eq_getElem (by rw [R5.2.1]; exact tl)⟩
        have hbr := R9.2.2 tn b _ hb (getD_at (l := rws) (i := tn) (d := []) tl)
        rw [er] at hbr
        refine k_ixL (sql_lst (F12.same _ _ R9.1)) (v := .ref b) (atI_nat (by rw [List.getElem?_map, hb]; rfl)) ?_
        walk_at "go"
        refine k_ixL (sql_lst (F12.same _ _ hbr)) (v := .str (nmG st tn)) (atI_nat (j := 0) rfl) ?_
        walk_at "go"
        refine k_slL (sql_lst (F12.same _ _ h9)) fun sl hsl => ?_
        rw [show cutV ((nmG st i :: figT p :: es).map V.str) (some 2) none = es.map V.str from cut_lo _ 2]
        have F13 := F12.more (L2.Same.new (o := .lst (es.map V.str)) hsl)
        have l13 : (upd H12 sl (.lst (es.map V.str))) sl = some (.lst (es.map V.str)) := upd_same
        generalize upd H12 sl (.lst (es.map V.str)) = H13 at F13 l13 ⊢
        walk_at "go"
        refine k_notInLS (sql_lst l13) ?_
        walk_at "go"
        by_cases em' : nmG st tn ∈ es
        · refine k_ifF' (by simp [em']) ?_
          walk_at "go"
          exact ⟨es, G9, _, _, rfl, s9, h9, nd, by omega, me, F13⟩
        · refine k_ifT' (by simp [em']) ?_
          walk_at "go"
          refine ⟨ty_list (sql_lst (F13.same _ _ h9)), ?_⟩
          walk_at "go"
          refine k_len (sql_lst (F13.same _ _ h9)) ?_
          rw [List.length_map, List.length_cons, List.length_cons]
          walk_at "go"
          refine ⟨G9, d, _, rfl, F13, by omega, by omega, fun u H14 u0 u1 F14 => ?_⟩
          walk_at "go"
          refine k_insert (F14.same _ _ h9) (small (by rw [List.length_map]; simp; omega)) (by omega) (by omega) ?_
          have eins : ((nmG st i :: figT p :: es).map V.str).take (2 + u).toNat ++ [V.str (nmG st tn)] ++ ((nmG st i :: figT p :: es).map V.str).drop (2 + u).toNat = (nmG st i :: figT p :: (es.take u.toNat ++ [nmG st tn] ++ es.drop u.toNat)).map V.str := by
            rw [show (2 + u).toNat = u.toNat + 2 by omega]
            simp
          rw [eins]
          have pm := perm_ins es (nmG st tn) u.toNat
          refine ⟨_, _, _, _, rfl, s9.mut r0, upd_same, pm.nodup_iff.mpr ?_, by rw [pm.length_eq]; simp; omega, fun e he => ?_, F14.set h9⟩
          · rw [List.nodup_append]
            exact ⟨nd, by simp, fun a ha b hb => by
              rw [List.mem_singleton.mp hb]
              intro z
              rw [z] at ha
              exact em' ha⟩
          · rcases List.mem_append.mp (pm.mem_iff.mp he) with z | z
            · exact me e z
            · rw [List.mem_singleton.mp z]
              exact ⟨tn, by omega, rfl⟩
      obtain ⟨es, G9, x4, x9, rfl, s9, h9, nd, el, me, F11⟩ := z
      have R9 := R5.same s9
      walk_at "go"
      refine ⟨ty_list (sql_lst (F11.same _ _ R9.1)), ?_⟩
      walk_at "go"
      have bl := R9.2.1
      refine k_append (F11.same _ _ R9.1) (small (by rw [List.length_map]; omega)) ?_
      rw [map_snoc]
      have rnl : r ≠ l := fun e => by
        rw [e] at r0
        exact nomatch r0.symm.trans R5.1
      have gd : GdRow st i (nmG st i :: figT p :: es) := ⟨p, es, rfl, p1, p2, nd, by omega, me⟩
      refine ⟨upd G9 l (.lst ((bs ++ [r]).map V.ref)), bs ++ [r], rws ++ [nmG st i :: figT p :: es], _, _, _, _, rfl, (s5.trans s9).mut gl, ⟨upd_same, by simp [bl], fun j b0 r1 h1 h2 => ?_⟩, ⟨sL, sl5, by simp; omega, fun j r1 h2 => ?_⟩, by simp [ln], F11.set R9.1⟩
      · rcases Nat.lt_or_ge j bs.length with lt | ge
        · rw [List.getElem?_append_left lt] at h1
          rw [List.getElem?_append_left (by omega)] at h2
          have hb := R9.2.2 j b0 r1 h1 h2
          obtain ⟨q0, fs, er, _⟩ := D5.2.2.2 j _ h2
          rw [upd_ne (fun e => ?_)]
          · exact hb
          · rw [e, er] at hb
            have := Option.some.inj (hb.symm.trans R9.1)
            cases bs with
            | nil => simp at lt
            | cons b1 bt => simp at this
        · rw [List.getElem?_append_right ge] at h1
          rw [List.getElem?_append_right (by omega)] at h2
          have e0 : j - bs.length = 0 := by
            have := (List.getElem?_eq_some_iff.mp h1).1
            simp at this
            omega
          rw [e0] at h1
          rw [show j - rws.length = 0 by omega] at h2
          obtain rfl : r = b0 := Option.some.inj h1
          obtain rfl := Option.some.inj h2
          rw [upd_ne rnl]
          exact h9
      · rcases Nat.lt_or_ge j rws.length with lt | ge
        · rw [List.getElem?_append_left lt] at h2
          exact D5.2.2.2 j r1 h2
        · rw [List.getElem?_append_right ge] at h2
          have e0 : j - rws.length = 0 := by
            have := (List.getElem?_eq_some_iff.mp h2).1
            simp at this
            omega
          rw [e0] at h2
          obtain rfl := Option.some.inj h2
          rw [show j = i by omega]
          exact gd
    · obtain ⟨G5, bs, rws, x4, x7, x8, x9, rfl, s5, R5, D5, ln, F5⟩ := z
      walk_at "go"
      exact q l bs st rws G5 _ s5 R5 D5 (by omega) F5
end
abbrev s_spoiled : Stmt := topS 29
theorem sc_spoiled : FnScope ["_law_feed_here", "_law_rows_here", "_law_at", "_law_row", "_law_way", "_law_other", "_law_name", "_law_word", "_law_some", "_law_later", "_law_to"] ["_law_feed_here", "_law_rows_here"] (defScope s_spoiled) := ⟨rfl, rfl, rfl, by decide +kernel, rfl, by decide +kernel, by decide +kernel⟩
section
variable {P : Program} {w : World} {K : PySem.W.Frag} {mg : Str → Option Value} {base : Heap}
theorem ok_spoil81 (B : Bl mg) (T : DefAt K mg "_law_spoiled" s_spoiled) (G_take : DefOk P w K mg base CX0 1 "_law_take" ["_law_feed_here", "_law_many"] spTake) : DefOk P w K mg base CX0 2 "_law_spoiled" ["_law_feed_here", "_law_rows_here"] spSpoil81 := by
  refine T.ok sc_spoiled (fun _ _ _ _ _ _ us hl => match us, hl with | [_, _], _ => rfl) (fun vs H Q E h => ?_) (fun f cdv A outer s H vs Q E hr hcd h => ?_)
  · obtain ⟨G, d, l, bs, k, rws, rfl, _⟩ := h
    rfl
  · obtain ⟨G, d, l, bs, k, rws, rfl, F, R, RB, k2, q⟩ := h
    refine ⟨_, (pss_cons (ps_setLc (i := 1) (own := [("_law_row", 3)]) (g := gName 3) (by rfl) sc_spoiled.nd rfl rfl (sw_true rfl rfl rfl (by decide +kernel)) (pi_list (pv 1)) (blkOk_by (own := [("_law_row", 3)]) (N := ["_law_feed_here", "_law_rows_here", "_law_at", "_law_row", "_law_way", "_law_other", "_law_name", "_law_word", "_law_some", "_law_later", "_law_to"]) (sc := defScope s_spoiled) (by decide +kernel)) (fun _ _ _ _ _ => (pg_name (i := 3) sc_spoiled.nd rfl (by first | exact Or.inl rfl | exact Or.inr rfl))) (fun _ _ _ _ _ => pts_nil) (fun _ _ _ _ _ => (pe_callTy (T := "list") (r := rListB K) (bk_list rfl) (by rfl) B.list (by decide +kernel) (pa_cons (pv 3) pa_nil))))
      (pss_cons (ps_set (i := 2) sc_spoiled.nd rfl (by first | exact Or.inl rfl | exact Or.inr rfl) (pe_callD G_take (hr.mono (by decide)) (by rfl) pass0 (pa_cons (pv 0) (pa_cons (pe_callB (id := "len") (r := rLenB K) (bk_len rfl) (by rfl) B.len (by decide +kernel) (pa_cons (pv 1) pa_nil)) pa_nil))))
      (pss_cons (ps_set (i := 3) sc_spoiled.nd rfl (by first | exact Or.inl rfl | exact Or.inr rfl) (pe_ix (r := rIxL K) (ob_ixL rfl) (pv 1) (pv 2) (fun _ _ => rfl)))
      (pss_cons (ps_set (i := 4) sc_spoiled.nd rfl (by first | exact Or.inl rfl | exact Or.inr rfl) (pe_callD G_take (hr.mono (by decide)) (by rfl) pass0 (pa_cons (pv 0) (pa_cons pe_int pa_nil))))
      (pss_cons (ps_if (pt_cmpR (r := rEqD K) (ob_eqD rfl hr.units) (pv 3) (pe_lst pa_nil) (nomark _)) (pss_one (ps_ret (pv 1))) pss_nil)
      (pss_cons (ps_if (pt_cmpR op_lt (pv 4) pe_int (nomark _)) (pss_cons (ps_set (i := 5) sc_spoiled.nd rfl (by first | exact Or.inl rfl | exact Or.inr rfl) (pe_ix (r := rIxL K) (ob_ixL rfl) (pe_op op_cat (pe_ix (r := rIxL K) (ob_ixL rfl) (pv 1) (pe_callD G_take (hr.mono (by decide)) (by rfl) pass0 (pa_cons (pv 0) (pa_cons (pe_callB (id := "len") (r := rLenB K) (bk_len rfl) (by rfl) B.len (by decide +kernel) (pa_cons (pv 1) pa_nil)) pa_nil))) (fun _ _ => rfl)) (pe_lst (pa_cons pe_str pa_nil))) pe_int (fun _ _ => rfl)))
      (pss_cons (ps_set (i := 6) sc_spoiled.nd rfl (by first | exact Or.inl rfl | exact Or.inr rfl) (pe_slice sl_str (pe_ix (r := rIxL K) (ob_ixL rfl) (pv 3) pe_int (fun _ _ => rfl)) po_none (po_some pe_int)))
      (pss_one (ps_asg (pe_ix (r := rIxL K) (ob_ixL rfl) (pe_lst (pa_cons (pv 5) (pa_cons pe_str (pa_cons pe_str (pa_cons pe_str (pa_cons (pe_op op_add_strS (pv 6) pe_str) (pa_cons (pe_op op_add_strS (pv 6) pe_str) (pa_cons (pe_op op_add_strS (pe_slice sl_str (pv 6) po_none (po_some pe_int)) pe_str) (pa_cons (pe_op op_add_strS (pv 6) pe_str) pa_nil))))))))) (pv 4) (fun _ _ => rfl)) (pg_sub (pv 3) pe_int set_list))))) (pss_one (ps_if (pt_cmpR op_lt (pv 4) pe_int (nomark _)) (pss_cons (ps_set (i := 7) sc_spoiled.nd rfl (by first | exact Or.inl rfl | exact Or.inr rfl) (pe_ix (r := rIxL K) (ob_ixL rfl) (pv 3) (pe_un un_neg pe_int) (fun _ _ => rfl)))
      (pss_cons (ps_set (i := 8) sc_spoiled.nd rfl (by first | exact Or.inl rfl | exact Or.inr rfl) (pe_lst (pa_cons pe_str (pa_cons (pe_op op_add_strS pe_str (pv 7)) (pa_cons (pe_callTy (T := "str") (r := rStrI) bk_strI (by rfl) B.str (by decide +kernel) (pa_cons (pe_op op_add (pe_op op_pow pe_int pe_int) pe_int) pa_nil)) (pa_cons (pe_op (r := rMulS) ob_mulS pe_str pe_int) (pa_cons (pe_op op_add_strS (pv 7) pe_str) (pa_cons pe_str (pa_cons pe_str (pa_cons pe_str (pa_cons pe_str pa_nil)))))))))))
      (pss_one (ps_asg (pe_ix (r := rIxL K) (ob_ixL rfl) (pv 8) (pe_op op_sub (pv 4) pe_int) (fun _ _ => rfl)) (pg_sub (pv 3) (pe_callB (call_min2 rfl) (by rfl) B.min (by decide +kernel) (pa_cons pe_int (pa_cons (pe_op op_sub (pe_callB (id := "len") (r := rLenB K) (bk_len rfl) (by rfl) B.len (by decide +kernel) (pa_cons (pv 3) pa_nil)) pe_int) pa_nil))) set_list))))) (pss_one (ps_if (pt_cmpR op_lt (pv 4) pe_int (nomark _)) (pss_cons (ps_set (i := 9) sc_spoiled.nd rfl (by first | exact Or.inl rfl | exact Or.inr rfl) (pe_ix (r := rIxL K) (ob_ixL rfl) (pe_op op_cat (pe_lst (pa_cons (pe_lst (pa_cons pe_str pa_nil)) pa_nil)) (pe_slice (r := rSlL K) (ob_slL rfl) (pv 1) (po_some (pe_op op_add (pv 2) pe_int)) (po_some (pe_op op_add (pv 2) pe_int)))) (pe_un un_neg pe_int) (fun _ _ => rfl)))
      (pss_one (ps_expr (pe_bm PySem.F.plainAttrs_list PySem.F.slot_list_append PySem.F.type_list_append mt_append (pv 3) (pa_cons (pe_ix (r := rIxL K) (ob_ixL rfl) (pe_lst (pa_cons (pe_ix (r := rIxL K) (ob_ixL rfl) (pv 3) pe_int (fun _ _ => rfl)) (pa_cons (pe_ix (r := rIxL K) (ob_ixL rfl) (pe_op op_cat (pe_lst (pa_cons pe_str pa_nil)) (pv 9)) (pe_callB (call_min2 rfl) (by rfl) B.min (by decide +kernel) (pa_cons pe_int (pa_cons (pe_callB (id := "len") (r := rLenB K) (bk_len rfl) (by rfl) B.len (by decide +kernel) (pa_cons (pv 9) pa_nil)) pa_nil))) (fun _ _ => rfl)) (pa_cons pe_str (pa_cons (pe_ix (r := rIxL K) (ob_ixL rfl) (pv 3) (pe_un un_neg pe_int) (fun _ _ => rfl)) pa_nil))))) (pe_op op_sub (pv 4) pe_int) (fun _ _ => rfl)) pa_nil))))) (pss_one (ps_if (pt_cmpR op_eq (pv 4) pe_int (nomark _)) (pss_one (ps_expr (pe_bm PySem.F.plainAttrs_list PySem.F.slot_list_insert PySem.F.type_list_insert bk_insert (pv 3) (pa_cons (pe_callD G_take (hr.mono (by decide)) (by rfl) pass0 (pa_cons (pv 0) (pa_cons (pe_op op_add (pe_callB (id := "len") (r := rLenB K) (bk_len rfl) (by rfl) B.len (by decide +kernel) (pa_cons (pv 3) pa_nil)) pe_int) pa_nil))) (pa_cons pe_str pa_nil))))) (pss_one (ps_if (pt_cmpR op_eq (pv 4) pe_int (nomark _)) (pss_one (ps_expr (pe_bm PySem.F.plainAttrs_list PySem.F.slot_list_pop PySem.F.type_list_pop mt_popAt (pv 3) (pa_cons (pe_callD G_take (hr.mono (by decide)) (by rfl) pass0 (pa_cons (pv 0) (pa_cons (pe_callB (id := "len") (r := rLenB K) (bk_len rfl) (by rfl) B.len (by decide +kernel) (pa_cons (pv 3) pa_nil)) pa_nil))) pa_nil)))) (pss_one (ps_if (pt_cmpR op_eq (pv 4) pe_int (nomark _)) (pss_one (ps_asg (pe_lst pa_nil) (pg_sub (pv 1) (pv 2) set_list))) (pss_one (ps_if (pt_cmpR op_eq (pv 4) pe_int (nomark _)) (pss_cons (ps_set (i := 10) sc_spoiled.nd rfl (by first | exact Or.inl rfl | exact Or.inr rfl) (pe_callD G_take (hr.mono (by decide)) (by rfl) pass0 (pa_cons (pv 0) (pa_cons (pe_callB (id := "len") (r := rLenB K) (bk_len rfl) (by rfl) B.len (by decide +kernel) (pa_cons (pv 1) pa_nil)) pa_nil))))
      (pss_cons (ps_asg (pe_ix (r := rIxL K) (ob_ixL rfl) (pv 1) (pv 10) (fun _ _ => rfl)) (pg_sub (pv 1) (pv 2) set_list))
      (pss_one (ps_asg (pv 3) (pg_sub (pv 1) (pv 10) set_list))))) (pss_one (ps_expr (pe_bm PySem.F.plainAttrs_list PySem.F.slot_list_append PySem.F.type_list_append mt_append (pv 1) (pa_cons (pe_lst pa_nil) pa_nil)))))))))))))))))
      (pss_one (ps_ret (pv 1))))))))), ?_⟩
    have rl := RB.1
    have ru := RB.2.1
    walk_at "start"
    have hlen := R.2.1
    refine k_iList (sql_lst (F.same _ _ R.1)) ?_
    refine k_lcL (xs := bs.map V.ref) (fun Dl i H2 => ∃ (cs : List Addr) (G7 : Hp), Same G G7 ∧ G Dl = none ∧ G7 Dl = some (.lst (cs.map V.ref)) ∧ cs.length = i ∧ (∀ c ∈ cs, G c = none) ∧ cs.Nodup ∧ Dl ∉ cs ∧ (∀ (j : Nat) (c : Addr) (r : List Str), cs[j]? = some c → rws[j]? = some r → G7 c = some (.lst (r.map V.str))) ∧ FeedAt G7 H2 d) (fun Dl hD => ⟨[], _, L2.Same.new (F.same.free hD), F.same.free hD, upd_same, rfl, by simp, by simp, by simp, by simp, F.new hD⟩) (fun Dl i H2 hD hi z => sql_lst (z.choose_spec.choose_spec.2.2.2.2.2.2.2.2.same _ _ (z.choose_spec.choose_spec.1 _ _ R.1))) (fun Dl i x H2 hD hx z => ?_) (fun Dl H2 hD z => ?_)
    · obtain ⟨cs, G7, s7, D0, D7, cl, c0, nd, nl, at7, F7⟩ := z
      obtain ⟨b, hb, rfl⟩ := map_get hx
      have lt := (List.getElem?_eq_some_iff.mp hb).1
      obtain ⟨r, hr⟩ : ∃ r, rws[i]? = some r := ⟨_, List.getElem?_eq_getElem (by omega)⟩
      have hbr := R.2.2 i b r hb hr
      walk_at "lct"
      refine k_listof (.inl (sql_lst (F7.same _ _ (s7 _ _ hbr)))) fun c hc => ?_
      have c7 : G7 c = none := F7.same.free hc
      have cG : G c = none := s7.free c7
      have F8 := F7.new (o := .lst (r.map V.str)) hc
      have s8 := L2.Same.new (o := .lst (r.map V.str)) c7
      have h8 : (upd G7 c (.lst (r.map V.str))) c = some (.lst (r.map V.str)) := upd_same
      generalize upd G7 c (.lst (r.map V.str)) = G8 at F8 s8 h8
      generalize upd H2 c (.lst (r.map V.str)) = H8 at F8 ⊢
      have D8 := s8 _ _ D7
      have ncD : c ≠ Dl := fun e => by
        rw [e] at c7
        exact nomatch c7.symm.trans D7
      have ncs : c ∉ cs := fun hm => by
        obtain ⟨j, hj⟩ := List.getElem?_of_mem hm
        have ltj := (List.getElem?_eq_some_iff.mp hj).1
        have := at7 j c _ hj (List.getElem?_eq_getElem (l := rws) (i := j) (by omega))
        exact nomatch c7.symm.trans this
      refine k_lca (F8.same _ _ D8) (small (by rw [List.length_map]; omega)) ⟨cs ++ [c], _, (s7.trans s8).mut D0, D0, upd_same, by simp [cl], fun x hx => ?_, ?_, fun hx => ?_, fun j x r1 h1 h2 => ?_, ?_⟩
      · rcases List.mem_append.mp hx with z | z
        · exact c0 x z
        · obtain rfl : x = c := by simpa using z
          exact cG
      · rw [List.nodup_append]
        exact ⟨nd, by simp, fun a ha b hb e => by
          rw [List.mem_singleton.mp hb] at e
          exact ncs (e ▸ ha)⟩
      · rcases List.mem_append.mp hx with z | z
        · exact nl z
        · exact ncD (List.mem_singleton.mp z).symm
      · rcases Nat.lt_or_ge j cs.length with ltj | ge
        · rw [List.getElem?_append_left ltj] at h1
          have hm := List.mem_of_getElem? h1
          rw [upd_ne fun e : x = Dl => nl (e ▸ hm)]
          exact s8 _ _ (at7 j x r1 h1 h2)
        · rw [List.getElem?_append_right ge] at h1
          have e0 : j - cs.length = 0 := by
            have := (List.getElem?_eq_some_iff.mp h1).1
            simp at this
            omega
          rw [e0] at h1
          obtain rfl : c = x := Option.some.inj h1
          rw [show j = i by omega, hr] at h2
          obtain rfl := Option.some.inj h2
          rw [upd_ne ncD]
          exact h8
      · rw [← map_snoc]
        exact F8.set D8
    obtain ⟨cs, G7, s7, D0, D7, cl, c0, nd, nl, at7, F7⟩ := z
    rw [List.length_map, hlen] at cl
    have C : Cp G G7 Dl cs rws := ⟨s7, D0, c0, nd, nl, D7, cl, at7⟩
    walk_at "go"
    refine k_len (sql_lst (F7.same _ _ D7)) ?_
    rw [List.length_map, cl]
    walk_at "go"
    refine ⟨G7, d, _, rfl, F7, by omega, by omega, fun at1 H8 a0 a1 F8 => ?_⟩
    obtain ⟨a, rfl⟩ : ∃ n : Nat, at1 = n := ⟨at1.toNat, by omega⟩
    obtain ⟨b, r, hb, hr, hbr⟩ := C.rw.atL (i := a) (by omega)
    have rB := RB.2.2 r (List.mem_of_getElem? hr)
    have rok : ∀ x ∈ r, PyData.strOk x = true := fun x hx => ok_chr fun c hc => ((rB.2 x hx).2 c hc).2
    walk_at "go"
    refine k_ixL (sql_lst (F8.same _ _ D7)) (v := .ref b) (atI_nat (by rw [List.getElem?_map, hb]; rfl)) ?_
    walk_at "go"
    refine ⟨G7, d, 26, rfl, F8, by decide, by decide, fun way H9 w0 w1 F9 => ?_⟩
    walk_at "go"
    refine k_lst (smallE (by simp)) fun nl0 hnl0 => ?_
    have F10 := F9.more (L2.Same.new (o := .lst []) hnl0)
    refine k_eqNilS rok (L2.Same.new hnl0 _ _ (F9.same _ _ hbr)) upd_same ?_
    generalize upd H9 nl0 (.lst []) = H10 at F10 ⊢
    walk_at "go"
    refine k_ifP (fun rn => ?_) (fun rn => ?_)
    · walk_at "go"
      exact q Dl cs rws G7 _ C.same C.rw RB.up (by omega) F10
    have rn : 1 ≤ r.length := List.length_pos_iff.mpr (by simpa using rn)
    walk_at "go"
    -- a row set anew
    have setR : ∀ (r' : List Str) (H' : Hp), RowB (k + 1) r' → FeedAt G7 H' d → Q (.ref Dl) (upd H' b (.lst (r'.map V.str))) := fun r' H' hr' F' => q Dl cs (rws.set a r') _ _ (C.row hb r').2 (C.row hb r').1 (RB.set hr') (by simp) (F'.set hbr)
    refine k_ifP (fun e8 => ?_) (fun e8 => ?_)
    · walk_at "go"
      refine k_len (sql_lst (F10.same _ _ D7)) ?_
      rw [List.length_map, cl]
      walk_at "go"
      refine ⟨G7, d, _, rfl, F10, by omega, by omega, fun o1 H11 o0 ol F11 => ?_⟩
      obtain ⟨o, rfl⟩ : ∃ n : Nat, o1 = n := ⟨o1.toNat, by omega⟩
      obtain ⟨b2, r2, hb2, hr2, hbr2⟩ := C.rw.atL (i := o) (by omega)
      have rB2 := RB.2.2 r2 (List.mem_of_getElem? hr2)
      refine k_ixL (sql_lst (F11.same _ _ D7)) (v := .ref b2) (atI_nat (by rw [List.getElem?_map, hb2]; rfl)) ?_
      walk_at "go"
      refine k_lst (smallE (by simp)) fun x1 hx1 => ?_
      have n1 := L2.Same.new (o := .lst ([("x" : Str)].map V.str)) hx1
      have e1 : (upd H11 x1 (.lst ([("x" : Str)].map V.str))) x1 = some (.lst ([("x" : Str)].map V.str)) := upd_same
      rw [show (upd H11 x1 (.lst [.str "x"])) = upd H11 x1 (.lst ([("x" : Str)].map V.str)) from rfl]
      generalize upd H11 x1 (.lst ([("x" : Str)].map V.str)) = H12 at n1 e1 ⊢
      have F12 := F11.more n1
      walk_at "go"
      refine k_cat (F12.same _ _ hbr2) e1 (by simp; have := rB2.1; omega) fun x2 hx2 => ?_
      rw [show r2.map V.str ++ [("x" : Str)].map V.str = (r2 ++ [("x" : Str)]).map V.str by simp]
      have F13 := F12.more (L2.Same.new (o := .lst ((r2 ++ [("x" : Str)]).map V.str)) hx2)
      have e2 : (upd H12 x2 (.lst ((r2 ++ [("x" : Str)]).map V.str))) x2 = some (.lst ((r2 ++ [("x" : Str)]).map V.str)) := upd_same
      generalize upd H12 x2 (.lst ((r2 ++ [("x" : Str)]).map V.str)) = H13 at F13 e2 ⊢
      obtain ⟨ot, hot, eo⟩ := at_map (W := r2 ++ [("x" : Str)]) (i := 0) (by decide) (by rw [List.length_append, List.length_singleton]; omega)
      have wot : WB (k + 1) ot := by
        rcases List.mem_append.mp hot with z | z
        · exact (rB2.2 ot z).up
        · obtain rfl : ot = "x" := by simpa using z
          exact wb_chk (by decide +kernel) (by decide +kernel)
      walk_at "go"
      refine k_ixL (sql_lst e2) eo ?_
      walk_at "go"
      obtain ⟨z0, hz0, ez0⟩ := at_map (W := r) (i := 0) (by decide) (by omega)
      have wz := rB.2 z0 hz0
      refine k_ixL (sql_lst (F13.same _ _ hbr)) ez0 ?_
      walk_at "go"
      refine k_slS (by have := wz.1; omega) ?_
      have nmc : ∀ c ∈ (cutS z0 none (some 7)).cps.toList, 33 ≤ c ∧ c ≤ 126 := fun c hc => wz.2 c (cutS_mem hc)
      have nml : (cutS z0 none (some 7)).length ≤ 7 := cut_to_len z0 7
      generalize cutS z0 none (some 7) = nm at nmc nml ⊢
      have nm6c : ∀ c ∈ (cutS nm none (some 6)).cps.toList, 33 ≤ c ∧ c ≤ 126 := fun c hc => nmc c (cutS_mem hc)
      have nm6l : (cutS nm none (some 6)).length ≤ 6 := cut_to_len nm 6
      walk_at "go"
      have la : ∀ t : Str, t.length ≤ 2 → nm.length + t.length ≤ 100000 := fun t ht => by omega
      refine k_catS (by have : ("A" : Str).length = 1 := by decide +kernel
                        omega) ?_
      walk_at "go"
      refine k_catS (by have : ("1" : Str).length = 1 := by decide +kernel
                        omega) ?_
      walk_at "go"
      refine k_slS (by omega) ?_
      walk_at "go"
      refine k_catS (by have : ("-b" : Str).length = 2 := by decide +kernel
                        omega) ?_
      walk_at "go"
      refine k_catS (by have : ("_" : Str).length = 1 := by decide +kernel
                        omega) ?_
      walk_at "go"
      refine k_lst (smallE (by simp)) fun wl hwl => ?_
      have F14 := F13.more (L2.Same.new (o := .lst ([ot, "none", "open", "abcdefghi", nm ++ "A", nm ++ "1", cutS nm none (some 6) ++ "-b", nm ++ "_"].map V.str)) hwl)
      have e14 : (upd H13 wl (.lst ([ot, "none", "open", "abcdefghi", nm ++ "A", nm ++ "1", cutS nm none (some 6) ++ "-b", nm ++ "_"].map V.str))) wl = some (.lst ([ot, "none", "open", "abcdefghi", nm ++ "A", nm ++ "1", cutS nm none (some 6) ++ "-b", nm ++ "_"].map V.str)) := upd_same
      have Wok : ∀ x ∈ [ot, "none", "open", "abcdefghi", nm ++ "A", nm ++ "1", cutS nm none (some 6) ++ "-b", nm ++ "_"], WB (k + 1) x := by
        intro x hx
        simp only [List.mem_cons, List.not_mem_nil, or_false] at hx
        rcases hx with rfl | rfl | rfl | rfl | rfl | rfl | rfl | rfl
        · exact wot
        · exact wb_chk (by decide +kernel) (by decide +kernel)
        · exact wb_chk (by decide +kernel) (by decide +kernel)
        · exact wb_chk (by decide +kernel) (by decide +kernel)
        · exact wb_app (m := 7) (n := 1) nml (by decide +kernel) (by omega) nmc (by decide +kernel)
        · exact wb_app (m := 7) (n := 1) nml (by decide +kernel) (by omega) nmc (by decide +kernel)
        · exact wb_app (m := 6) (n := 2) nm6l (by decide +kernel) (by omega) nm6c (by decide +kernel)
        · exact wb_app (m := 7) (n := 1) nml (by decide +kernel) (by omega) nmc (by decide +kernel)
      obtain ⟨x, hx, ex⟩ := at_map (W := [ot, "none", "open", "abcdefghi", nm ++ "A", nm ++ "1", cutS nm none (some 6) ++ "-b", nm ++ "_"]) (i := way) w0 (by simp; omega)
      have wx := Wok x hx
      rw [show (upd H13 wl (.lst [.str ot, .str "none", .str "open", .str "abcdefghi", .str (nm ++ "A"), .str (nm ++ "1"), .str (cutS nm none (some 6) ++ "-b"), .str (nm ++ "_")])) = upd H13 wl (.lst ([ot, "none", "open", "abcdefghi", nm ++ "A", nm ++ "1", cutS nm none (some 6) ++ "-b", nm ++ "_"].map V.str)) from rfl]
      generalize upd H13 wl (.lst ([ot, "none", "open", "abcdefghi", nm ++ "A", nm ++ "1", cutS nm none (some 6) ++ "-b", nm ++ "_"].map V.str)) = H14 at F14 e14 ⊢
      walk_at "go"
      refine k_ixL (sql_lst e14) ex ?_
      walk_at "go"
      refine k_setL (F14.same _ _ hbr) (j := 0) (by rw [ixN_nat (by decide) (by rw [List.length_map]; omega)]; rfl) ?_
      rw [← List.map_set]
      walk_at "go"
      exact setR _ _ (rB.of (by rw [List.length_set]; omega) (fun w hw => List.mem_or_eq_of_mem_set hw) wx) F14
    walk_at "go"
    -- the last word of the row
    obtain ⟨zl, hzl, ezl⟩ : ∃ zl ∈ r, atI (r.map V.str) (-1) = some (.str zl) := by
      have g := List.getElem?_eq_getElem (l := r) (i := r.length - 1) (by omega)
      exact ⟨_, List.mem_of_getElem? g, atI_neg1 (by rw [List.length_map, List.getElem?_map, g]; rfl) (by rw [List.length_map]; omega)⟩
    have wzl := rB.2 zl hzl
    obtain ⟨z0, hz0, ez0⟩ := at_map (W := r) (i := 0) (by decide) (by omega)
    have wz0 := rB.2 z0 hz0
    refine k_ifP (fun e17 => ?_) (fun e17 => ?_)
    · walk_at "go"
      refine k_ixL (sql_lst (F10.same _ _ hbr)) ezl ?_
      walk_at "go"
      refine k_catS (by have : ("0" : Str).length = 1 := by decide +kernel
                        have := wzl.1
                        omega) ?_
      walk_at "go"
      refine k_rI ⟨by decide, by decide, by decide⟩ ?_
      rw [show (10 : Int) ^ (30 : Int).toNat = bigP by decide +kernel]
      walk_at "go"
      refine k_strI (by decide +kernel) ?_
      walk_at "go"
      refine k_mulS (by decide) (by decide) (by decide +kernel) ?_
      rw [mul1]
      walk_at "go"
      refine k_catS (by have : ("-" : Str).length = 1 := by decide +kernel
                        have := wzl.1
                        omega) ?_
      walk_at "go"
      refine k_lst (smallE (by simp)) fun wl hwl => ?_
      have F14 := F10.more (L2.Same.new (o := .lst ([("0" : Str), "0" ++ zl, figT (bigP + 1), "11111111111111111111111111111111", zl ++ "-", "1,000", "+5", "1_0", "-1"].map V.str)) hwl)
      have e14 : (upd H10 wl (.lst ([("0" : Str), "0" ++ zl, figT (bigP + 1), "11111111111111111111111111111111", zl ++ "-", "1,000", "+5", "1_0", "-1"].map V.str))) wl = some (.lst ([("0" : Str), "0" ++ zl, figT (bigP + 1), "11111111111111111111111111111111", zl ++ "-", "1,000", "+5", "1_0", "-1"].map V.str)) := upd_same
      rw [show (upd H10 wl (.lst [.str "0", .str ("0" ++ zl), .str (Str.ofString (toString (bigP + 1))), .str "11111111111111111111111111111111", .str (zl ++ "-"), .str "1,000", .str "+5", .str "1_0", .str "-1"])) = upd H10 wl (.lst ([("0" : Str), "0" ++ zl, figT (bigP + 1), "11111111111111111111111111111111", zl ++ "-", "1,000", "+5", "1_0", "-1"].map V.str)) from rfl]
      generalize upd H10 wl (.lst ([("0" : Str), "0" ++ zl, figT (bigP + 1), "11111111111111111111111111111111", zl ++ "-", "1,000", "+5", "1_0", "-1"].map V.str)) = H14 at F14 e14 ⊢
      have Wok : ∀ x ∈ [("0" : Str), "0" ++ zl, figT (bigP + 1), "11111111111111111111111111111111", zl ++ "-", "1,000", "+5", "1_0", "-1"], WB (k + 1) x := by
        intro x hx
        simp only [List.mem_cons, List.not_mem_nil, or_false] at hx
        rcases hx with rfl | rfl | rfl | rfl | rfl | rfl | rfl | rfl | rfl
        · exact wb_chk (by decide +kernel) (by decide +kernel)
        · exact wb_app (m := 1) (n := 31 + k) (by decide +kernel) wzl.1 (by omega) (by decide +kernel) wzl.2
        · exact wb_chk (by decide +kernel) (by decide +kernel)
        · exact wb_chk (by decide +kernel) (by decide +kernel)
        · exact wb_app (m := 31 + k) (n := 1) wzl.1 (by decide +kernel) (by omega) wzl.2 (by decide +kernel)
        · exact wb_chk (by decide +kernel) (by decide +kernel)
        · exact wb_chk (by decide +kernel) (by decide +kernel)
        · exact wb_chk (by decide +kernel) (by decide +kernel)
        · exact wb_chk (by decide +kernel) (by decide +kernel)
      obtain ⟨x, hx, ex⟩ := at_map (W := [("0" : Str), "0" ++ zl, figT (bigP + 1), "11111111111111111111111111111111", zl ++ "-", "1,000", "+5", "1_0", "-1"]) (i := way - 8) (by omega) (by simp; omega)
      have wx := Wok x hx
      walk_at "go"
      refine k_ixL (sql_lst e14) ex ?_
      walk_at "go"
      refine k_len (sql_lst (F14.same _ _ hbr)) ?_
      rw [List.length_map]
      walk_at "go"
      refine ⟨_, _, rfl, ?_⟩
      obtain ⟨j, jl, ej⟩ : ∃ j : Nat, j < r.length ∧ (if ((r.length : Nat) : Int) - 1 < 1 then ((r.length : Nat) : Int) - 1 else 1) = (j : Int) := by
        split
        · exact ⟨r.length - 1, by omega, by omega⟩
        · exact ⟨1, by omega, rfl⟩
      rw [ej]
      walk_at "go"
      refine k_setL (F14.same _ _ hbr) (j := j) (by rw [ixN_nat (by omega) (by rw [List.length_map]; omega)]; rfl) ?_
      rw [← List.map_set]
      walk_at "go"
      exact setR _ _ (rB.of (by rw [List.length_set]; omega) (fun w hw => List.mem_or_eq_of_mem_set hw) wx) F14
    walk_at "go"
    refine k_ifP (fun e21 => ?_) (fun e21 => ?_)
    · walk_at "go"
      refine k_lst (smallE (by simp)) fun z1 hz1 => ?_
      have n1 := L2.Same.new (o := .lst ([("zzzzzzzz" : Str)].map V.str)) hz1
      have e1 : (upd H10 z1 (.lst ([("zzzzzzzz" : Str)].map V.str))) z1 = some (.lst ([("zzzzzzzz" : Str)].map V.str)) := upd_same
      rw [show (upd H10 z1 (.lst [.str "zzzzzzzz"])) = upd H10 z1 (.lst ([("zzzzzzzz" : Str)].map V.str)) from rfl]
      generalize upd H10 z1 (.lst ([("zzzzzzzz" : Str)].map V.str)) = H11 at n1 e1 ⊢
      have F11 := F10.more n1
      walk_at "go"
      refine k_lst (smallE (by simp)) fun z2 hz2 => ?_
      have n2 := L2.Same.new (o := .lst ([z1].map V.ref)) hz2
      have e2 : (upd H11 z2 (.lst ([z1].map V.ref))) z2 = some (.lst ([z1].map V.ref)) := upd_same
      rw [show (upd H11 z2 (.lst [.ref z1])) = upd H11 z2 (.lst ([z1].map V.ref)) from rfl]
      have e1 := n2 _ _ e1
      generalize upd H11 z2 (.lst ([z1].map V.ref)) = H12 at n2 e2 e1 ⊢
      have F12 := F11.more n2
      walk_at "go"
      refine k_slL (sql_lst (F12.same _ _ D7)) fun sl hsl => ?_
      obtain ⟨ms, ems, mcs⟩ := cutV_refs cs (some ((a : Int) + 1)) (some ((a : Int) + 2))
      rw [ems]
      have n3 := L2.Same.new (o := .lst (ms.map V.ref)) hsl
      have e3 : (upd H12 sl (.lst (ms.map V.ref))) sl = some (.lst (ms.map V.ref)) := upd_same
      have e2 := n3 _ _ e2
      have e1 := n3 _ _ e1
      generalize upd H12 sl (.lst (ms.map V.ref)) = H13 at n3 e3 e2 e1 ⊢
      have F13 := F12.more n3
      have msl : ms.length ≤ 1000 := by
        have : ms.length ≤ cs.length := by
          have := congrArg List.length ems
          rw [List.length_map] at this
          rw [← this]
          unfold cutV
          rw [List.length_take, List.length_drop, List.length_map]
          omega
        omega
      walk_at "go"
      refine k_cat e2 e3 (by simp; omega) fun ca hca => ?_
      rw [show [z1].map V.ref ++ ms.map V.ref = (z1 :: ms).map V.ref by simp]
      have n4 := L2.Same.new (o := .lst ((z1 :: ms).map V.ref)) hca
      have e4 : (upd H13 ca (.lst ((z1 :: ms).map V.ref))) ca = some (.lst ((z1 :: ms).map V.ref)) := upd_same
      have e1 := n4 _ _ e1
      generalize upd H13 ca (.lst ((z1 :: ms).map V.ref)) = H14 at n4 e4 e1 ⊢
      have F14 := F13.more n4
      obtain ⟨y, hy, ey⟩ : ∃ y ∈ z1 :: ms, atI ((z1 :: ms).map V.ref) (-1) = some (.ref y) := by
        have g := List.getElem?_eq_getElem (l := z1 :: ms) (i := (z1 :: ms).length - 1) (by simp)
        exact ⟨_, List.mem_of_getElem? g, atI_neg1 (by rw [List.length_map, List.getElem?_map, g]; rfl) (by simp)⟩
      obtain ⟨lr, hlr, lrB⟩ : ∃ lr : List Str, H14 y = some (.lst (lr.map V.str)) ∧ lr.length ≤ 20 ∧ ∀ x ∈ lr, WB (k + 1) x := by
        rcases List.mem_cons.mp hy with rfl | hy
        · exact ⟨_, e1, by simp, fun x hx => by
            obtain rfl : x = "zzzzzzzz" := by simpa using hx
            exact wb_chk (by decide +kernel) (by decide +kernel)⟩
        · obtain ⟨i, hi⟩ := List.getElem?_of_mem (mcs y hy)
          have lti := (List.getElem?_eq_some_iff.mp hi).1
          have hr' := List.getElem?_eq_getElem (l := rws) (i := i) (by rw [← C.len]; exact lti)
          have rb' := RB.2.2 _ (List.mem_of_getElem? hr')
          exact ⟨_, F14.same _ _ (at7 i y _ hi hr'), by have := rb'.1; omega, fun x hx => (rb'.2 x hx).up⟩
      walk_at "go"
      refine k_ixL (sql_lst e4) ey ?_
      walk_at "go"
      refine ⟨ty_list (sql_lst (F14.same _ _ hbr)), ?_⟩
      walk_at "go"
      refine k_ixL (sql_lst (F14.same _ _ hbr)) ez0 ?_
      walk_at "go"
      refine k_lst (smallE (by simp)) fun z5 hz5 => ?_
      have n5 := L2.Same.new (o := .lst ([("" : Str)].map V.str)) hz5
      have e5 : (upd H14 z5 (.lst ([("" : Str)].map V.str))) z5 = some (.lst ([("" : Str)].map V.str)) := upd_same
      rw [show (upd H14 z5 (.lst [.str ""])) = upd H14 z5 (.lst ([("" : Str)].map V.str)) from rfl]
      have hlr := n5 _ _ hlr
      generalize upd H14 z5 (.lst ([("" : Str)].map V.str)) = H15 at n5 e5 hlr ⊢
      have F15 := F14.more n5
      walk_at "go"
      refine k_cat e5 hlr (by simp; have := lrB.1; omega) fun z6 hz6 => ?_
      rw [show [("" : Str)].map V.str ++ lr.map V.str = (("" : Str) :: lr).map V.str by simp]
      have n6 := L2.Same.new (o := .lst ((("" : Str) :: lr).map V.str)) hz6
      have e6 : (upd H15 z6 (.lst ((("" : Str) :: lr).map V.str))) z6 = some (.lst ((("" : Str) :: lr).map V.str)) := upd_same
      have hlr := n6 _ _ hlr
      generalize upd H15 z6 (.lst ((("" : Str) :: lr).map V.str)) = H16 at n6 e6 hlr ⊢
      have F16 := F15.more n6
      walk_at "go"
      refine k_len (sql_lst hlr) ?_
      rw [List.length_map]
      walk_at "go"
      refine ⟨_, _, rfl, ?_⟩
      obtain ⟨j, jl, ej⟩ : ∃ j : Nat, j < lr.length + 1 ∧ (if ((lr.length : Nat) : Int) < 1 then ((lr.length : Nat) : Int) else 1) = (j : Int) := by
        split
        · exact ⟨lr.length, by omega, by omega⟩
        · exact ⟨1, by omega, rfl⟩
      rw [ej]
      obtain ⟨x7, hx7, ex7⟩ := at_map (W := ("" : Str) :: lr) (i := (j : Int)) (by omega) (by simp; omega)
      have wx7 : WB (k + 1) x7 := by
        rcases List.mem_cons.mp hx7 with rfl | z
        · exact wb_chk (by decide +kernel) (by decide +kernel)
        · exact lrB.2 x7 z
      refine k_ixL (sql_lst e6) ex7 ?_
      walk_at "go"
      refine k_ixL (sql_lst (F16.same _ _ hbr)) ezl ?_
      walk_at "go"
      refine k_lst (smallE (by simp)) fun z8 hz8 => ?_
      have n8 := L2.Same.new (o := .lst ([z0, x7, "zzzzzzzz", zl].map V.str)) hz8
      have e8' : (upd H16 z8 (.lst ([z0, x7, "zzzzzzzz", zl].map V.str))) z8 = some (.lst ([z0, x7, "zzzzzzzz", zl].map V.str)) := upd_same
      rw [show (upd H16 z8 (.lst [.str z0, .str x7, .str "zzzzzzzz", .str zl])) = upd H16 z8 (.lst ([z0, x7, "zzzzzzzz", zl].map V.str)) from rfl]
      generalize upd H16 z8 (.lst ([z0, x7, "zzzzzzzz", zl].map V.str)) = H17 at n8 e8' ⊢
      have F17 := F16.more n8
      obtain ⟨x9, hx9, ex9⟩ := at_map (W := [z0, x7, "zzzzzzzz", zl]) (i := way - 17) (by omega) (by simp; omega)
      have wx9 : WB (k + 1) x9 := by
        simp only [List.mem_cons, List.not_mem_nil, or_false] at hx9
        rcases hx9 with rfl | rfl | rfl | rfl
        · exact wz0.up
        · exact wx7
        · exact wb_chk (by decide +kernel) (by decide +kernel)
        · exact wzl.up
      walk_at "go"
      refine k_ixL (sql_lst e8') ex9 ?_
      walk_at "go"
      refine k_append (F17.same _ _ hbr) (small (by rw [List.length_map]; have := rB.1; omega)) ?_
      rw [show r.map V.str ++ [.str x9] = (r ++ [x9]).map V.str by simp]
      walk_at "go"
      exact setR _ _ (rB.of (by simp) (fun w hw => (List.mem_append.mp hw).imp id fun z => by simpa using z) wx9) F17
    walk_at "go"
    refine k_ifP (fun e22 => ?_) (fun e22 => ?_)
    · walk_at "go"
      refine ⟨ty_list (sql_lst (F10.same _ _ hbr)), ?_⟩
      walk_at "go"
      refine k_len (sql_lst (F10.same _ _ hbr)) ?_
      rw [List.length_map]
      walk_at "go"
      have r8 := rB.1
      refine ⟨G7, d, _, rfl, F10, by omega, by omega, fun u H11 u0 u1 F11 => ?_⟩
      walk_at "go"
      refine k_insert (F11.same _ _ hbr) (small (by rw [List.length_map]; omega)) u0 (by omega) ?_
      rw [show (r.map V.str).take u.toNat ++ [.str ""] ++ (r.map V.str).drop u.toNat = (r.take u.toNat ++ [("" : Str)] ++ r.drop u.toNat).map V.str by simp]
      walk_at "go"
      have pm := perm_ins r ("" : Str) u.toNat
      exact setR _ _ (rB.of (by rw [pm.length_eq]; simp) (fun w hw => (List.mem_append.mp (pm.mem_iff.mp hw)).imp id fun z => by simpa using z) (wb_chk (by decide +kernel) (by decide +kernel))) F11
    walk_at "go"
    refine k_ifP (fun e23 => ?_) (fun e23 => ?_)
    · walk_at "go"
      refine ⟨ty_list (sql_lst (F10.same _ _ hbr)), ?_⟩
      walk_at "go"
      refine k_len (sql_lst (F10.same _ _ hbr)) ?_
      rw [List.length_map]
      walk_at "go"
      have r8 := rB.1
      refine ⟨G7, d, _, rfl, F10, by omega, by omega, fun u H11 u0 u1 F11 => ?_⟩
      obtain ⟨u, rfl⟩ : ∃ n : Nat, u = n := ⟨u.toNat, by omega⟩
      walk_at "go"
      refine k_popAt (F11.same _ _ hbr) (k := u) rfl (by rw [List.getElem?_map, List.getElem?_eq_getElem (l := r) (i := u) (by omega)]; rfl) (by rw [List.length_map]; omega) ?_
      rw [show (r.map V.str).eraseIdx u = (r.eraseIdx u).map V.str from erase_map ..]
      walk_at "go"
      exact setR _ _ (rB.of (x := "") (by have := List.length_eraseIdx_le r u; omega) (fun w hw => .inl (erase_mem hw)) (wb_chk (by decide +kernel) (by decide +kernel))) F11
    walk_at "go"
    refine k_ifP (fun e24 => ?_) (fun e24 => ?_)
    · walk_at "go"
      refine k_lst (smallE (by simp)) fun e he => ?_
      have e7 : G7 e = none := F10.same.free he
      have F11 := F10.new (o := .lst (([] : List Str).map V.str)) he
      have s8 := L2.Same.new (o := .lst (([] : List Str).map V.str)) e7
      have h8 : (upd G7 e (.lst (([] : List Str).map V.str))) e = some (.lst (([] : List Str).map V.str)) := upd_same
      rw [show (upd H10 e (.lst [])) = upd H10 e (.lst (([] : List Str).map V.str)) from rfl]
      generalize upd G7 e (.lst (([] : List Str).map V.str)) = G8 at F11 s8 h8
      generalize upd H10 e (.lst (([] : List Str).map V.str)) = H11 at F11 ⊢
      have ne : e ≠ Dl := fun z => by
        rw [z] at e7
        exact nomatch e7.symm.trans D7
      have AC := ((C.atC.mono fun b o _ h => s8 _ _ h).set h8 ne a)
      have PP := Cp.put (e := e) (bs := cs) (rws := rws) (s7.trans s8) D0 (by rw [List.length_set, List.length_set]; exact C.len) AC
      walk_at "go"
      refine k_setL (F11.same _ _ (s8 _ _ D7)) (j := a) (by rw [ixN_nat (by omega) (by rw [List.length_map]; omega)]; rfl) ?_
      rw [← List.map_set]
      walk_at "go"
      exact q Dl _ _ _ _ PP.2 PP.1 (RB.set (nil_rowB _)) (by simp) (F11.set (s8 _ _ D7))
    walk_at "go"
    refine k_ifP (fun e25 => ?_) (fun e25 => ?_)
    · walk_at "go"
      refine k_len (sql_lst (F10.same _ _ D7)) ?_
      rw [List.length_map, cl]
      walk_at "go"
      refine ⟨G7, d, _, rfl, F10, by omega, by omega, fun o1 H11 o0 ol F11 => ?_⟩
      obtain ⟨o, rfl⟩ : ∃ n : Nat, o1 = n := ⟨o1.toNat, by omega⟩
      obtain ⟨b2, r2, hb2, hr2, hbr2⟩ := C.rw.atL (i := o) (by omega)
      have rB2 := RB.2.2 r2 (List.mem_of_getElem? hr2)
      walk_at "go"
      refine k_ixL (sql_lst (F11.same _ _ D7)) (v := .ref b2) (atI_nat (by rw [List.getElem?_map, hb2]; rfl)) ?_
      walk_at "go"
      refine k_setL (F11.same _ _ D7) (j := a) (by rw [ixN_nat (by omega) (by rw [List.length_map]; omega)]; rfl) ?_
      rw [← List.map_set]
      have F12 := F11.set (o := .lst ((cs.set a b2).map V.ref)) D7
      have D12 : (upd G7 Dl (.lst ((cs.set a b2).map V.ref))) Dl = some (.lst ((cs.set a b2).map V.ref)) := upd_same
      have s12 := s7.mut (o := .lst ((cs.set a b2).map V.ref)) D0
      have t12 : ∀ b o, b ≠ Dl → G7 b = some o → (upd G7 Dl (.lst ((cs.set a b2).map V.ref))) b = some o := fun b o h1 h2 => by
        rw [upd_ne h1]
        exact h2
      generalize upd G7 Dl (.lst ((cs.set a b2).map V.ref)) = G12 at F12 D12 s12 t12
      generalize upd H11 Dl (.lst ((cs.set a b2).map V.ref)) = H12 at F12 ⊢
      have A0 := C.atC.mono t12
      have hA := A0 a b r hb hr
      have hO := A0 o b2 r2 hb2 hr2
      have AC := (A0.set hO.1 hO.2 a).set hA.1 hA.2 o
      have PP := Cp.put (e := b) (bs := cs) (rws := rws) s12 D0 (by rw [List.length_set, List.length_set, List.length_set, List.length_set]; exact C.len) AC
      walk_at "go"
      refine k_setL (F12.same _ _ D12) (j := o) (by rw [ixN_nat (by omega) (by rw [List.length_map, List.length_set]; omega)]; rfl) ?_
      rw [← List.map_set]
      walk_at "go"
      have RB2 : RowsB (k + 1) ((rws.set a r2).set o r) := ⟨by rw [List.length_set, List.length_set]; exact RB.1, by rw [List.length_set, List.length_set]; omega, fun x hx => by
        rcases List.mem_or_eq_of_mem_set hx with z | rfl
        · rcases List.mem_or_eq_of_mem_set z with z | rfl
          · exact (RB.2.2 x z).up
          · exact rB2.up
        · exact rB.up⟩
      exact q Dl _ _ _ _ PP.2 PP.1 RB2 (by simp) (F12.set D12)
    · walk_at "go"
      refine ⟨ty_list (sql_lst (F10.same _ _ D7)), ?_⟩
      walk_at "go"
      refine k_lst (smallE (by simp)) fun e he => ?_
      have e7 : G7 e = none := F10.same.free he
      have F11 := F10.new (o := .lst (([] : List Str).map V.str)) he
      have s8 := L2.Same.new (o := .lst (([] : List Str).map V.str)) e7
      have h8 : (upd G7 e (.lst (([] : List Str).map V.str))) e = some (.lst (([] : List Str).map V.str)) := upd_same
      rw [show (upd H10 e (.lst [])) = upd H10 e (.lst (([] : List Str).map V.str)) from rfl]
      generalize upd G7 e (.lst (([] : List Str).map V.str)) = G8 at F11 s8 h8
      generalize upd H10 e (.lst (([] : List Str).map V.str)) = H11 at F11 ⊢
      have ne : e ≠ Dl := fun z => by
        rw [z] at e7
        exact nomatch e7.symm.trans D7
      have AC := ((C.atC.mono fun b o _ h => s8 _ _ h).app C.len h8 ne)
      have PP := Cp.put (e := e) (bs := cs) (rws := rws) (s7.trans s8) D0 (by simp [C.len]) AC
      walk_at "go"
      refine k_append (F11.same _ _ (s8 _ _ D7)) (small (by rw [List.length_map]; omega)) ?_
      rw [map_snoc]
      walk_at "go"
      exact q Dl _ _ _ _ PP.2 PP.1 (RB.app (nil_rowB _)) (by simp) (F11.set (s8 _ _ D7))
end
abbrev s_law_is_name : Stmt := topS 31
theorem sc_law_is_name : FnScope ["_law_word", "_law_sign"] ["_law_word"] (defScope s_law_is_name) := ⟨rfl, rfl, rfl, by decide +kernel, rfl, by decide +kernel, by decide +kernel⟩
abbrev s_law_is_price : Stmt := topS 32
theorem sc_law_is_price : FnScope ["_law_word", "_law_sign"] ["_law_word"] (defScope s_law_is_price) := ⟨rfl, rfl, rfl, by decide +kernel, rfl, by decide +kernel, by decide +kernel⟩
abbrev s_due : Stmt := topS 33
theorem sc_due : FnScope ["_law_text", "_law_ahead", "_law_lines_here", "_law_place", "_law_words", "_law_word"] ["_law_text"] (defScope s_due) := ⟨rfl, rfl, rfl, by decide +kernel, rfl, by decide +kernel, by decide +kernel⟩
section
variable {P : Program} {w : World} {K : PySem.W.Frag} {mg : Str → Option Value} {base : Heap}
theorem ok_isnameL (B : Bl mg) (T : DefAt K mg "_law_is_name" s_law_is_name) : DefOk P w K mg base CX0 1 "_law_is_name" ["_law_word"] spIsNameL := by
  refine T.ok sc_law_is_name (fun _ _ _ _ _ _ us hl => match us, hl with | [_], _ => rfl) (fun vs H Q E h => ?_) (fun f cdv A outer s H vs Q E hr hcd h => ?_)
  · obtain ⟨z, rfl, _⟩ := h
    rfl
  · obtain ⟨z, rfl, zl, zok, q⟩ := h
    refine ⟨_, (pss_cons (ps_if (PW.pt (pw_or (pt_cmpR op_lt (pe_callB (id := "len") (r := rLenB K) (bk_len rfl) (by rfl) B.len (by decide +kernel) (pa_cons (pv 0) pa_nil)) pe_int (nomark _)) (pw_or (pt_cmpR op_gt (pe_callB (id := "len") (r := rLenB K) (bk_len rfl) (by rfl) B.len (by decide +kernel) (pa_cons (pv 0) pa_nil)) pe_int (nomark _)) (pw_or1 (pt_cmpR (r := rIn K false) (ob_in rfl) (pv 0) (pe_tup (pa_cons pe_str (pa_cons pe_str pa_nil))) (by rfl)))))) (pss_one (ps_ret pe_bl)) pss_nil)
      (pss_one (ps_ret (pe_cmpR (r := rEqD K) (ob_eqD rfl hr.units) (pe_lc (own := [("_law_sign", 1)]) (g := gName 1) (by rfl) sc_law_is_name.nd (pi_str (pv 0)) (blkOk_by (own := [("_law_sign", 1)]) (N := ["_law_word", "_law_sign"]) (sc := defScope s_law_is_name) (by decide +kernel)) (fun _ _ _ _ _ => (pg_name (i := 1) sc_law_is_name.nd rfl (by first | exact Or.inl rfl | exact Or.inr rfl))) (fun _ _ _ _ _ => (pts_one (pt_cmpR (r := rNotInSg) ob_notInSg (pv 1) pe_str (by rfl)))) (fun _ _ _ _ _ => (pv 1))) (pe_lst pa_nil) (nomark _))))), ?_⟩
    walk_at "start"
    refine ⟨_, z.length, rfl, ⟨smallE (by omega), rfl⟩, ?_⟩
    walk_at "go"
    refine k_or (fun h => ?_) (fun h1 => ?_)
    · have h := of_decide_eq_true h
      walk_at "go"
      exact q false _ (Same.refl _) ⟨fun e => (nomatch e), fun g => absurd g.1 (by omega)⟩
    have h1 : 1 ≤ z.length := by have := of_decide_eq_false h1; omega
    walk_at "go"
    refine ⟨_, z.length, rfl, ⟨smallE (by omega), rfl⟩, ?_⟩
    walk_at "go"
    refine k_or (fun h => ?_) (fun h2 => ?_)
    · have h := of_decide_eq_true h
      walk_at "go"
      exact q false _ (Same.refl _) ⟨fun e => (nomatch e), fun g => absurd g.2.1 (by omega)⟩
    have h2 : z.length ≤ 8 := by have := of_decide_eq_false h2; omega
    walk_at "go"
    refine k_tup (smallE (by simp)) fun tp htp => ?_
    have s1 := L2.Same.new (o := .tup (noNm.map V.str)) htp
    have t1 : (upd H tp (.tup (noNm.map V.str))) tp = some (.tup (noNm.map V.str)) := upd_same
    rw [show [V.str "none", V.str "open"] = noNm.map V.str from rfl]
    generalize upd H tp (.tup (noNm.map V.str)) = H1 at s1 t1 ⊢
    walk_at "go"
    refine k_inTS (ss := noNm) (sqt_tup t1) ?_
    walk_at "go"
    by_cases h3 : z ∈ noNm
    · refine k_ifT' (decide_eq_true h3) ?_
      walk_at "go"
      exact q false _ s1 ⟨fun e => (nomatch e), fun g => absurd h3 g.2.2.1⟩
    refine k_ifF' (decide_eq_false h3) ?_
    walk_at "go"
    refine k_lcSt (fun Dl i H3 => Same H1 H3 ∧ H3 Dl = some (.lst ((((z.cps.toList.take i).filter fun c => !decide (c ∈ abc.cps.toList)).map fun c => (⟨#[c]⟩ : Str)).map V.str))) (fun Dl hD => ⟨L2.Same.new hD, upd_same⟩) (fun Dl i c H3 hD hc y => ?_) (fun Dl H3 hD y => ?_)
    · obtain ⟨s3, hDl⟩ := y
      have lz : z.cps.toList.length = z.length := rfl
      have lt := (List.getElem?_eq_some_iff.mp hc).1
      have fl : ((z.cps.toList.take i).filter fun c => !decide (c ∈ abc.cps.toList)).length ≤ 1000 := Nat.le_trans (List.length_filter_le _ _) (by rw [List.length_take]; omega)
      walk_at "lct"
      refine k_notInSg ?_
      walk_at "go"
      refine k_lcb (fun h => ?_) (fun h => ?_)
      · walk_at "go"
        refine k_lca hDl (small (by rw [List.length_map, List.length_map]; omega)) ⟨s3.mut hD, ?_⟩
        have h : (!decide (c ∈ abc.cps.toList)) = true := h
        rw [upd_same, take_next hc, List.filter_append, List.filter_cons, if_pos h, List.map_append, List.map_append]
        rfl
      · refine ⟨s3, ?_⟩
        have h : (!decide (c ∈ abc.cps.toList)) = false := h
        rw [hDl, take_next hc, List.filter_append, List.filter_cons, if_neg (by rw [h]; simp)]
        simp
    · obtain ⟨s3, hDl⟩ := y
      have lz : z.cps.toList.length = z.length := rfl
      rw [show z.length = z.cps.toList.length from rfl, List.take_length] at hDl
      walk_at "go"
      refine k_lst (smallE (by simp)) fun nl hnl => ?_
      have s4 := s3.newer (o := .lst []) hnl
      refine k_eqNilS (ss := (z.cps.toList.filter fun c => !decide (c ∈ abc.cps.toList)).map fun c => (⟨#[c]⟩ : Str)) (fun x hx => ?_) (L2.Same.new hnl _ _ hDl) upd_same ?_
      · obtain ⟨c, hc, rfl⟩ := List.mem_map.mp hx
        exact one_ok zok (List.mem_filter.mp hc).1
      walk_at "go"
      refine q _ _ (s1.trans s4) ?_
      rw [decide_eq_true_eq, List.map_eq_nil_iff, List.filter_eq_nil_iff]
      exact ⟨fun g => ⟨h1, h2, h3, fun c hc => by simpa using g c hc⟩, fun g c hc => by simpa using g.2.2.2 c hc⟩
theorem ok_ispriceL (B : Bl mg) (T : DefAt K mg "_law_is_price" s_law_is_price) : DefOk P w K mg base CX0 1 "_law_is_price" ["_law_word"] spIsPriceL := by
  refine T.ok sc_law_is_price (fun _ _ _ _ _ _ us hl => match us, hl with | [_], _ => rfl) (fun vs H Q E h => ?_) (fun f cdv A outer s H vs Q E hr hcd h => ?_)
  · obtain ⟨z, rfl, _⟩ := h
    rfl
  · obtain ⟨z, rfl, zl, zok, q⟩ := h
    refine ⟨_, (pss_cons (ps_if (PW.pt (pw_or (pt_cmpR op_eq (pv 0) pe_str (nomark _)) (pw_or (pt_cmpR op_eq (pe_ix (r := rIx K) (ob_ix rfl) (pv 0) pe_int (fun _ _ => rfl)) pe_str (nomark _)) (pw_or1 (pt_cmpR op_gt (pe_callB (id := "len") (r := rLenB K) (bk_len rfl) (by rfl) B.len (by decide +kernel) (pa_cons (pv 0) pa_nil)) pe_int (nomark _)))))) (pss_one (ps_ret pe_bl)) pss_nil)
      (pss_one (ps_ret (pe_and (pe_cmpR (r := rEqD K) (ob_eqD rfl hr.units) (pe_lc (own := [("_law_sign", 1)]) (g := gName 1) (by rfl) sc_law_is_price.nd (pi_str (pv 0)) (blkOk_by (own := [("_law_sign", 1)]) (N := ["_law_word", "_law_sign"]) (sc := defScope s_law_is_price) (by decide +kernel)) (fun _ _ _ _ _ => (pg_name (i := 1) sc_law_is_price.nd rfl (by first | exact Or.inl rfl | exact Or.inr rfl))) (fun _ _ _ _ _ => (pts_one (pt_cmpR (r := rNotInSg) ob_notInSg (pv 1) pe_str (by rfl)))) (fun _ _ _ _ _ => (pv 1))) (pe_lst pa_nil) (nomark _)) (pe_one (pe_cmpR op_le (pe_callTy (T := "int") (r := rIntS) bk_intS (by rfl) B.int (by decide +kernel) (pa_cons (pv 0) pa_nil)) (pe_op op_pow pe_int pe_int) (nomark _))))))), ?_⟩
    walk_at "start"
    refine k_or (fun h => ?_) (fun h1 => ?_)
    · have h := of_decide_eq_true h
      subst h
      walk_at "go"
      exact q false _ (Same.refl _) ⟨fun e => (nomatch e), fun g => absurd (pr_len g).1 (by decide +kernel)⟩
    have h1 : 1 ≤ z.length := by
      rcases Nat.eq_zero_or_pos z.length with e | e
      · exact absurd (str_tl (a := z) (b := "") (by rw [show ("" : Str).cps.toList = [] by decide +kernel]; exact List.eq_nil_of_length_eq_zero e)) (of_decide_eq_false h1)
      · exact e
    walk_at "go"
    obtain ⟨c, hc⟩ : ∃ c, z.cps.toList[0]? = some c := ⟨_, List.getElem?_eq_getElem (show 0 < z.cps.toList.length from h1)⟩
    refine k_ixS (z := z) (by omega) (atI_nat (j := 0) hc) ?_
    walk_at "go"
    have eq0 : ((⟨#[c]⟩ : Str) = "0") ↔ c = 48 := by
      have e0 : ("0" : Str) = ⟨#[48]⟩ := by decide +kernel
      rw [e0]
      exact ⟨fun z => by simpa using z, fun z => by rw [z]⟩
    refine k_or (fun h => ?_) (fun h4 => ?_)
    · have h := eq0.mp (of_decide_eq_true h)
      walk_at "go"
      exact q false _ (Same.refl _) ⟨fun e => (nomatch e), fun g => absurd (by rw [hc, h]) (pr_hd g)⟩
    have h4 : c ≠ 48 := fun e => of_decide_eq_false h4 (eq0.mpr e)
    walk_at "go"
    refine ⟨_, z.length, rfl, ⟨smallE (by omega), rfl⟩, ?_⟩
    walk_at "go"
    by_cases h2 : z.length ≤ 31
    rotate_left
    · refine k_ifT' (decide_eq_true (by omega)) ?_
      walk_at "go"
      exact q false _ (Same.refl _) ⟨fun e => (nomatch e), fun g => absurd (pr_len g).2 h2⟩
    refine k_ifF' (decide_eq_false (by omega)) ?_
    walk_at "go"
    refine k_lcSt (fun Dl i H3 => Same H H3 ∧ H3 Dl = some (.lst ((((z.cps.toList.take i).filter fun c => !decide (c ∈ figS.cps.toList)).map fun c => (⟨#[c]⟩ : Str)).map V.str))) (fun Dl hD => ⟨L2.Same.new hD, upd_same⟩) (fun Dl i c H3 hD hc y => ?_) (fun Dl H3 hD y => ?_)
    · obtain ⟨s3, hDl⟩ := y
      have lz : z.cps.toList.length = z.length := rfl
      have lt := (List.getElem?_eq_some_iff.mp hc).1
      have fl : ((z.cps.toList.take i).filter fun c => !decide (c ∈ figS.cps.toList)).length ≤ 1000 := Nat.le_trans (List.length_filter_le _ _) (by rw [List.length_take]; omega)
      walk_at "lct"
      refine k_notInSg ?_
      walk_at "go"
      refine k_lcb (fun h => ?_) (fun h => ?_)
      · walk_at "go"
        refine k_lca hDl (small (by rw [List.length_map, List.length_map]; omega)) ⟨s3.mut hD, ?_⟩
        rw [upd_same, take_next hc, List.filter_append, List.filter_cons]
        have h : (!decide (c ∈ figS.cps.toList)) = true := h
        rw [if_pos h, List.map_append, List.map_append]
        rfl
      · refine ⟨s3, ?_⟩
        have h : (!decide (c ∈ figS.cps.toList)) = false := h
        rw [hDl, take_next hc, List.filter_append, List.filter_cons, if_neg (by rw [h]; simp)]
        simp
    · obtain ⟨s3, hDl⟩ := y
      rw [show z.length = z.cps.toList.length from rfl, List.take_length] at hDl
      walk_at "go"
      refine k_lst (smallE (by simp)) fun nl hnl => ?_
      have s4 := s3.newer (o := .lst []) hnl
      refine k_eqNilS (ss := (z.cps.toList.filter fun c => !decide (c ∈ figS.cps.toList)).map fun c => (⟨#[c]⟩ : Str)) (fun x hx => ?_) (L2.Same.new hnl _ _ hDl) upd_same ?_
      · obtain ⟨c, hc, rfl⟩ := List.mem_map.mp hx
        exact one_ok zok (List.mem_filter.mp hc).1
      have nil : ((z.cps.toList.filter fun c => !decide (c ∈ figS.cps.toList)).map fun c => (⟨#[c]⟩ : Str)) = [] ↔ ∀ c ∈ z.cps.toList, c ∈ figS.cps.toList := by
        rw [List.map_eq_nil_iff, List.filter_eq_nil_iff]
        exact ⟨fun g c hc => by simpa using g c hc, fun g c hc => by simpa using g c hc⟩
      by_cases h3 : ∀ c ∈ z.cps.toList, c ∈ figS.cps.toList
      rotate_left
      · rw [decide_eq_false fun e => h3 (nil.mp e)]
        walk_at "go"
        refine k_andV (fun z => nomatch z) (fun _ => ?_)
        exact q false _ s4 ⟨fun e => (nomatch e), fun g => absurd (pr_dig g) h3⟩
      rw [decide_eq_true (nil.mpr h3)]
      walk_at "go"
      obtain ⟨p, p1, rfl⟩ := dig_fig (s := z) (by omega) h3 (by rw [hc]; intro e; exact h4 (Option.some.inj e))
      walk_at "go"
      refine k_intS (fig_intL (by omega) (by omega)) (by omega) ?_
      walk_at "go"
      refine k_rI ⟨by decide, by decide, by decide⟩ ?_
      walk_at "go"
      rw [show (10 : Int) ^ (30 : Int).toNat = bigP by decide +kernel]
      exact q _ _ s4 (by rw [decide_eq_true_eq, pr_iff p1 h2])
theorem ok_dueL (B : Bl mg) (T : DefAt K mg "_law_due" s_due) (G_law_is_name : DefOk P w K mg base CX0 1 "_law_is_name" ["_law_word"] spIsNameL) (G_law_is_price : DefOk P w K mg base CX0 1 "_law_is_price" ["_law_word"] spIsPriceL) : DefOk P w K mg base CX0 2 "_law_due" ["_law_text"] spDueL := by
  refine T.ok sc_due (fun _ _ _ _ _ _ us hl => match us, hl with | [_], _ => rfl) (fun vs H Q E h => ?_) (fun f cdv A outer s H vs Q E hr hcd h => ?_)
  · obtain ⟨z, rfl, _⟩ := h
    rfl
  · obtain ⟨t, rfl, tB, q⟩ := h
    refine ⟨_, (pss_cons (ps_set (i := 1) sc_due.nd rfl (by first | exact Or.inl rfl | exact Or.inr rfl) (pe_lst pa_nil))
      (pss_cons (ps_set (i := 2) sc_due.nd rfl (by first | exact Or.inl rfl | exact Or.inr rfl) (ob_split rfl (pv 0) pe_str))
      (pss_cons (ps_for PassesOwn.never rfl (pi_range1 (by rfl) B.range (pa_cons (pe_callB (id := "len") (r := rLenB K) (bk_len rfl) (by rfl) B.len (by decide +kernel) (pa_cons (pv 2) pa_nil)) pa_nil)) (pg_name (i := 3) sc_due.nd rfl (by first | exact Or.inl rfl | exact Or.inr rfl)) (pss_cons (ps_set (i := 4) sc_due.nd rfl (by first | exact Or.inl rfl | exact Or.inr rfl) (ob_split rfl (pe_ix (r := rIxL K) (ob_ixL rfl) (pv 2) (pv 3) (fun _ _ => rfl)) pe_str))
      (pss_cons (ps_if (PW.pt (pw_or (pt_cmpR op_gt (pv 3) pe_int (nomark _)) (pw_or (pt_cmpR op_lt (pe_callB (id := "len") (r := rLenB K) (bk_len rfl) (by rfl) B.len (by decide +kernel) (pa_cons (pv 4) pa_nil)) pe_int (nomark _)) (pw_or (pt_not (pt_val (pe_callD G_law_is_name (hr.mono (by decide)) (by rfl) pass0 (pa_cons (pe_ix (r := rIxL K) (ob_ixL rfl) (pv 4) pe_int (fun _ _ => rfl)) pa_nil)))) (pw_or1 (pt_cmpR (r := rIn K false) (ob_in rfl) (pe_ix (r := rIxL K) (ob_ixL rfl) (pv 4) pe_int (fun _ _ => rfl)) (pv 1) (by rfl))))))) (pss_one (ps_ret (pv 3))) pss_nil)
      (pss_cons (ps_if (PW.pt (pw_or (pt_not (pt_val (pe_callD G_law_is_price (hr.mono (by decide)) (by rfl) pass0 (pa_cons (pe_ix (r := rIxL K) (ob_ixL rfl) (pv 4) pe_int (fun _ _ => rfl)) pa_nil)))) (pw_or1 (pt_cmpR (r := rNeD K) (ob_neD rfl hr.units) (pe_lc (own := [("_law_word", 5)]) (g := gName 5) (by rfl) sc_due.nd (pi_list (pe_slice (r := rSlL K) (ob_slL rfl) (pv 4) (po_some pe_int) po_none)) (blkOk_by (own := [("_law_word", 5)]) (N := ["_law_text", "_law_ahead", "_law_lines_here", "_law_place", "_law_words", "_law_word"]) (sc := defScope s_due) (by decide +kernel)) (fun _ _ _ _ _ => (pg_name (i := 5) sc_due.nd rfl (by first | exact Or.inl rfl | exact Or.inr rfl))) (fun _ _ _ _ _ => (pts_one (pt_cmpR (r := rIn K true) (ob_notIn rfl) (pv 5) (pv 1) (by rfl)))) (fun _ _ _ _ _ => (pv 5))) (pe_lst pa_nil) (nomark _))))) (pss_one (ps_ret (pv 3))) pss_nil)
      (pss_cons (ps_if (pt_cmpR op_ne (pe_lenSetG (by rfl) B.len (by rfl) B.set (pe_slice (r := rSlL K) (ob_slL rfl) (pv 4) (po_some pe_int) po_none)) (pe_callB (id := "len") (r := rLenB K) (bk_len rfl) (by rfl) B.len (by decide +kernel) (pa_cons (pe_slice (r := rSlL K) (ob_slL rfl) (pv 4) (po_some pe_int) po_none) pa_nil)) (nomark _)) (pss_one (ps_ret (pv 3))) pss_nil)
      (pss_one (ps_expr (pe_bm PySem.F.plainAttrs_list PySem.F.slot_list_append PySem.F.type_list_append mt_append (pv 1) (pa_cons (pe_ix (r := rIxL K) (ob_ixL rfl) (pv 4) pe_int (fun _ _ => rfl)) pa_nil)))))))))
      (pss_one (ps_ret pe_non))))), ?_⟩
    walk_at "start"
    have lnB : ∀ l ∈ Txt.split t "\n", TxB l := fun l hl => tB.line hl
    have lsl := tB.lines
    obtain ⟨ls, hls⟩ : ∃ ls, Txt.split t "\n" = ls := ⟨_, rfl⟩
    rw [hls] at q lnB lsl
    refine k_lst (smallE (by simp)) fun d hd => ?_
    have s1 := L2.Same.new (o := .lst []) hd
    have d1 : (upd H d (.lst [])) d = some (.lst ((ahd ls 0).map V.str)) := upd_same
    generalize upd H d (.lst []) = H1 at s1 d1 ⊢
    walk_at "go"
    refine r_tM1 ?_
    walk_at "go"
    refine ⟨⟨_, rfl⟩, ?_⟩
    walk_at "go"
    refine k_split hls (by decide +kernel) (by have := tB.1; omega) fun lt hlt => ?_
    have s2 := s1.newer (o := .lst (ls.map V.str)) hlt
    have d2 := L2.Same.new (o := .lst (ls.map V.str)) hlt _ _ d1
    have t2 : (upd H1 lt (.lst (ls.map V.str))) lt = some (.lst (ls.map V.str)) := upd_same
    have ndl : lt ≠ d := (ne_of_none d1 hlt).symm
    generalize upd H1 lt (.lst (ls.map V.str)) = H2 at s2 d2 t2 ⊢
    walk_at "go"
    refine k_len (sql_lst t2) ?_
    rw [List.length_map]
    walk_at "go"
    refine k_iR1 (n := ls.length) (by omega) (by omega) (by omega) ?_
    refine k_forR (fun i σ' H' => ∃ (x3 x4 x5 : Option V), σ' = [some (.str t), some (.ref d), some (.ref lt), x3, x4, x5] ∧ Same H H' ∧ H' d = some (.lst ((ahd ls i).map V.str)) ∧ H' lt = some (.lst (ls.map V.str)) ∧ ∀ j, j < i → OkAt ls j) ⟨_, _, _, rfl, s2, d2, t2, fun j hj => by omega⟩ (fun i σ' H' hi z => ?_) (fun σ' H' z => ?_)
    · obtain ⟨x3, x4, x5, rfl, s3, d3, t3, okl⟩ := z
      obtain ⟨l0, hl0⟩ : ∃ l0, ls[i]? = some l0 := ⟨_, List.getElem?_eq_getElem hi⟩
      have lB := lnB l0 (List.mem_of_getElem? hl0)
      have gl : ls.getD i "" = l0 := by rw [List.getD_eq_getElem?_getD, hl0]; rfl
      have ew : lnW ls i = Txt.split l0 " " := by unfold lnW; rw [gl]
      obtain ⟨wl1, wl, wb, wok⟩ := lB.words
      obtain ⟨ws, hws⟩ : ∃ ws, Txt.split l0 " " = ws := ⟨_, rfl⟩
      rw [hws] at ew wl1 wl wb wok
      walk_at "go"
      refine r_tM1 ?_
      walk_at "go"
      refine k_ixL (sql_lst t3) (v := .str l0) (by rw [Int.zero_add]; exact atI_nat (by rw [List.getElem?_map, hl0]; rfl)) ?_
      walk_at "go"
      refine ⟨⟨_, rfl⟩, ?_⟩
      walk_at "go"
      refine k_split hws (by decide +kernel) (by have := lB.1; omega) fun lw hlw => ?_
      have r2 := L2.Same.new (o := .lst (ws.map V.str)) hlw
      have w2 : (upd H' lw (.lst (ws.map V.str))) lw = some (.lst (ws.map V.str)) := upd_same
      generalize upd H' lw (.lst (ws.map V.str)) = H5 at r2 w2 ⊢
      have d5 := r2 _ _ d3
      have no : ∀ (H6 : Hp), Same H5 H6 → ¬ OkAt ls i → Q (.int (0 + (i : Nat))) H6 := fun H6 s6 g => by
        rw [Int.zero_add]
        exact q (some i) H6 ((s3.trans r2).trans s6) ⟨hi, g, okl⟩
      walk_at "go"
      by_cases h40 : i < 40
      rotate_left
      · refine k_or (fun _ => ?_) (fun z => by have := of_decide_eq_false z; omega)
        walk_at "go"
        exact no _ (Same.refl _) fun g => h40 g.1
      refine k_or (fun z => by have := of_decide_eq_true z; omega) (fun _ => ?_)
      walk_at "go"
      refine k_len (sql_lst w2) ?_
      rw [List.length_map]
      walk_at "go"
      by_cases h2 : 2 ≤ ws.length
      rotate_left
      · refine k_or (fun _ => ?_) (fun z => by have := of_decide_eq_false z; omega)
        walk_at "go"
        exact no _ (Same.refl _) fun g => h2 (ew ▸ g.2).1
      refine k_or (fun z => by have := of_decide_eq_true z; omega) (fun _ => ?_)
      obtain ⟨zn, pn, es, rfl⟩ : ∃ zn pn es, ws = zn :: pn :: es := match ws, h2 with | zn :: pn :: es, _ => ⟨zn, pn, es, rfl⟩
      have rf : OkAt ls i ↔ NmGood zn ∧ zn ∉ ahd ls i ∧ PrGood pn ∧ es.Nodup ∧ ∀ e ∈ es, e ∈ ahd ls i := by
        unfold OkAt
        rw [ew]
        exact ⟨fun g => g.2.2, fun g => ⟨h40, h2, g⟩⟩
      walk_at "go"
      refine k_ixL (sql_lst w2) (v := .str zn) (atI_nat (j := 0) rfl) ?_
      walk_at "go"
      refine ⟨zn, rfl, wb zn (by simp), wok zn (by simp), fun b1 H6 s6 e1 => ?_⟩
      cases b1 with
      | false =>
        walk_at "go"
        refine k_or (fun _ => ?_) (fun z => by simp at z)
        walk_at "go"
        exact no _ s6 fun g => nomatch e1.mpr (rf.mp g).1
      | true =>
      walk_at "go"
      refine k_ixL (sql_lst (s6 _ _ w2)) (v := .str zn) (atI_nat (j := 0) rfl) ?_
      walk_at "go"
      refine k_inLS (sql_lst (s6 _ _ d5)) ?_
      walk_at "go"
      by_cases h3 : zn ∈ ahd ls i
      · refine k_ifT' (decide_eq_true h3) ?_
        walk_at "go"
        exact no _ s6 fun g => (rf.mp g).2.1 h3
      refine k_ifF' (decide_eq_false h3) ?_
      walk_at "go"
      refine k_ixL (sql_lst (s6 _ _ w2)) (v := .str pn) (atI_nat (j := 1) rfl) ?_
      walk_at "go"
      refine ⟨pn, rfl, wb pn (by simp), wok pn (by simp), fun b2 H7 s7 e2 => ?_⟩
      have s57 := s6.trans s7
      cases b2 with
      | false =>
        walk_at "go"
        refine k_or (fun _ => ?_) (fun z => by simp at z)
        walk_at "go"
        exact no _ s57 fun g => nomatch e2.mpr (rf.mp g).2.2.1
      | true =>
      walk_at "go"
      refine k_slL (sql_lst (s57 _ _ w2)) fun sl hsl => ?_
      rw [show cutV ((zn :: pn :: es).map V.str) (some 2) none = es.map V.str from cut_lo _ 2]
      have s8 := s57.newer (o := .lst (es.map V.str)) hsl
      have l8 : (upd H7 sl (.lst (es.map V.str))) sl = some (.lst (es.map V.str)) := upd_same
      generalize upd H7 sl (.lst (es.map V.str)) = H8 at s8 l8 ⊢
      have el : es.length ≤ 2000 := by simp at wl; omega
      have d8 := s8 _ _ d5
      walk_at "go"
      refine k_iList (sql_lst l8) ?_
      refine k_lcL (xs := es.map V.str) (fun Dl k H9 => Same H8 H9 ∧ H9 Dl = some (.lst (((es.take k).filter fun e => !decide (e ∈ ahd ls i)).map V.str))) (fun Dl hD => ⟨L2.Same.new hD, upd_same⟩) (fun Dl k H9 hD hk z => sql_lst (z.1 _ _ l8)) (fun Dl k x H9 hD hx z => ?_) (fun Dl H9 hD z => ?_)
      · obtain ⟨s9, hDl⟩ := z
        obtain ⟨e, he, rfl⟩ := map_get hx
        have fl : ((es.take k).filter fun e => !decide (e ∈ ahd ls i)).length ≤ 2000 := Nat.le_trans (List.length_filter_le _ _) (by rw [List.length_take]; omega)
        walk_at "lct"
        refine k_notInLS (sql_lst (s9 _ _ d8)) ?_
        walk_at "go"
        refine k_lcb (fun h => ?_) (fun h => ?_)
        · walk_at "go"
          refine k_lca hDl (small (by rw [List.length_map]; omega)) ⟨s9.mut hD, ?_⟩
          rw [upd_same, take_next he, List.filter_append, List.filter_cons, if_pos h, List.map_append]
          rfl
        · refine ⟨s9, ?_⟩
          rw [hDl, take_next he, List.filter_append, List.filter_cons, if_neg (by rw [h]; simp)]
          simp
      obtain ⟨s9, hDl⟩ := z
      rw [List.length_map, List.take_length] at hDl
      walk_at "go"
      refine k_lst (smallE (by simp)) fun nl hnl => ?_
      have s10 := s9.newer (o := .lst []) hnl
      refine k_neNilS (ss := es.filter fun e => !decide (e ∈ ahd ls i)) (fun x hx => wok x (by have := (List.mem_filter.mp hx).1; simp [this])) (L2.Same.new hnl _ _ hDl) upd_same ?_
      have nil : (es.filter fun e => !decide (e ∈ ahd ls i)) = [] ↔ ∀ e ∈ es, e ∈ ahd ls i := by
        rw [List.filter_eq_nil_iff]
        exact ⟨fun g c hc => by simpa using g c hc, fun g c hc => by simpa using g c hc⟩
      have s510 := s8.trans s10
      generalize upd H9 nl (.lst []) = H10 at s10 s510 ⊢
      by_cases h5 : ∀ e ∈ es, e ∈ ahd ls i
      rotate_left
      · rw [decide_eq_false fun e => h5 (nil.mp e)]
        walk_at "go"
        exact no _ s510 fun g => h5 (rf.mp g).2.2.2.2
      rw [decide_eq_true (nil.mpr h5)]
      walk_at "go"
      refine k_slL (sql_lst (s510 _ _ w2)) fun sl2 hsl2 => ?_
      rw [show cutV ((zn :: pn :: es).map V.str) (some 2) none = es.map V.str from cut_lo _ 2]
      have s11 := s510.newer (o := .lst (es.map V.str)) hsl2
      have l11 : (upd H10 sl2 (.lst (es.map V.str))) sl2 = some (.lst (es.map V.str)) := upd_same
      generalize upd H10 sl2 (.lst (es.map V.str)) = H11 at s11 l11 ⊢
      refine ⟨sl2, es, rfl, sql_lst l11, by omega, ?_⟩
      walk_at "go"
      refine k_slL (sql_lst (s11 _ _ w2)) fun sl3 hsl3 => ?_
      rw [show cutV ((zn :: pn :: es).map V.str) (some 2) none = es.map V.str from cut_lo _ 2]
      have s12 := s11.newer (o := .lst (es.map V.str)) hsl3
      have l12 : (upd H11 sl3 (.lst (es.map V.str))) sl3 = some (.lst (es.map V.str)) := upd_same
      generalize upd H11 sl3 (.lst (es.map V.str)) = H12 at s12 l12 ⊢
      walk_at "go"
      refine k_len (sql_lst l12) ?_
      rw [List.length_map]
      walk_at "go"
      have s512 := s12
      have dn : (((disN es es.length : Nat) : Int) = ((es.length : Nat) : Int)) ↔ es.Nodup := by
        rw [← dis_iff]
        omega
      by_cases h6 : es.Nodup
      rotate_left
      · refine k_ifT' (by simpa using fun e => h6 (dn.mp (by omega))) ?_
        walk_at "go"
        exact no _ s512 fun g => h6 (rf.mp g).2.2.2.1
      refine k_ifF' (by simpa using dn.mpr h6) ?_
      walk_at "go"
      have d12 := s512 _ _ d5
      refine ⟨ty_list (sql_lst d12), ?_⟩
      walk_at "go"
      refine k_ixL (sql_lst (s512 _ _ w2)) (v := .str zn) (atI_nat (j := 0) rfl) ?_
      walk_at "go"
      refine k_append d12 (small (by rw [List.length_map, ahd_len]; omega)) ?_
      have okn : ∀ j, j < i + 1 → OkAt ls j := fun j hj => by
        rcases Nat.lt_or_ge j i with lt | ge
        · exact okl j lt
        · obtain rfl : j = i := by omega
          exact rf.mpr ⟨e1.mp rfl, h3, e2.mp rfl, h6, h5⟩
      refine ⟨_, _, _, rfl, ((s3.trans r2).trans s512).mut hd, ?_, ?_, okn⟩
      · rw [upd_same, ahd_succ, ew, List.map_append]
        rfl
      · rw [upd_ne ndl]
        exact s512 _ _ (r2 _ _ t3)
    · obtain ⟨x3, x4, x5, rfl, s3, d3, t3, okl⟩ := z
      walk_at "go"
      exact q none H' s3 okl
end
abbrev s_is_name : Stmt := topS 23
theorem sc_is_name : FnScope ["word", "sign"] ["word"] (defScope s_is_name) := ⟨rfl, rfl, rfl, by decide +kernel, rfl, by decide +kernel, by decide +kernel⟩
abbrev s_is_price : Stmt := topS 24
theorem sc_is_price : FnScope ["word", "sign"] ["word"] (defScope s_is_price) := ⟨rfl, rfl, rfl, by decide +kernel, rfl, by decide +kernel, by decide +kernel⟩
abbrev s_is_row : Stmt := topS 22
theorem sc_is_row : FnScope ["words", "ahead", "name", "price", "elders", "elder"] ["words", "ahead"] (defScope s_is_row) := ⟨rfl, rfl, rfl, by decide +kernel, rfl, by decide +kernel, by decide +kernel⟩
section
variable {P : Program} {w : World} {K : PySem.W.Frag} {mg : Str → Option Value} {base : Heap}
theorem ok_isname {aN : Addr} (B : Bl mg) (T : DefAt K mg "_is_name" s_is_name) (m8 : ∃ t, mg "MOST_LETTERS" = some (.int 8 t)) (mL : ∃ t, mg "LETTERS" = some (.str abc t)) (gN : mg "NO_NAMES" = some (.ref aN)) (hN : ∀ H, SqT K H aN (noNm.map V.str)) : DefOk P w K mg base CX0 1 "_is_name" ["word"] spIsNameG := by
  refine T.ok sc_is_name (fun _ _ _ _ _ _ us hl => match us, hl with | [_], _ => rfl) (fun vs H Q E h => ?_) (fun f cdv A outer s H vs Q E hr hcd h => ?_)
  · obtain ⟨z, rfl, _⟩ := h
    rfl
  · obtain ⟨t8, h8⟩ := m8
    obtain ⟨tL, hL⟩ := mL
    obtain ⟨z, rfl, zl, q⟩ := h
    refine ⟨_, (pss_cons (ps_if (PW.pt (pw_or (pt_not (pt_chain op_le op_le pe_int (pe_callB (id := "len") (r := rLenB K) (bk_len rfl) (by rfl) B.len (by decide +kernel) (pa_cons (pv 0) pa_nil)) (pe_glob (v := .int 8) (by rfl) h8 ⟨t8, rfl⟩))) (pw_or1 (pt_cmpR (r := rIn K false) (ob_in rfl) (pv 0) (pe_glob (v := .ref aN) (by rfl) gN rfl) (by rfl))))) (pss_one (ps_ret pe_bl)) pss_nil)
      (pss_one (ps_ret (pe_callB (id := "all") (r := rAll K) (bk_all rfl rfl) (by rfl) B.all (by decide +kernel) (pa_cons (pe_lc (own := [("sign", 1)]) (g := gName 1) (by rfl) sc_is_name.nd (pi_str (pv 0)) (blkOk_by (own := [("sign", 1)]) (N := ["word", "sign"]) (sc := defScope s_is_name) (by decide +kernel)) (fun _ _ _ _ _ => (pg_name (i := 1) sc_is_name.nd rfl (by first | exact Or.inl rfl | exact Or.inr rfl))) (fun _ _ _ _ _ => pts_nil) (fun _ _ _ _ _ => (pe_cmpR (r := rInSg) ob_inSg (pv 1) (pe_glob (v := .str abc) (by rfl) hL ⟨tL, rfl⟩) (by rfl)))) pa_nil))))), ?_⟩
    walk_at "start"
    refine ⟨_, z.length, rfl, ⟨smallE (by omega), rfl⟩, ?_⟩
    walk_at "go"
    by_cases h1 : 1 ≤ z.length
    rotate_left
    · refine k_chain (fun hc => by have := of_decide_eq_true hc; omega) (fun _ => ?_)
      walk_at "go"
      exact q false _ (Same.refl _) ⟨fun e => (nomatch e), fun g => absurd g.1 h1⟩
    refine k_chain (fun _ => ?_) (fun h0 => by have := of_decide_eq_false h0; omega)
    walk_at "go"
    by_cases h2 : z.length ≤ 8
    rotate_left
    · rw [decide_eq_false (show ¬ ((z.length : Nat) : Int) ≤ 8 by omega)]
      walk_at "go"
      exact q false _ (Same.refl _) ⟨fun e => (nomatch e), fun g => absurd g.2.1 h2⟩
    rw [decide_eq_true (show ((z.length : Nat) : Int) ≤ 8 by omega)]
    walk_at "go"
    refine k_inTS (ss := noNm) (hN H) ?_
    walk_at "go"
    by_cases h3 : z ∈ noNm
    · refine k_ifT' (decide_eq_true h3) ?_
      walk_at "go"
      exact q false _ (Same.refl _) ⟨fun e => (nomatch e), fun g => absurd h3 g.2.2.1⟩
    refine k_ifF' (decide_eq_false h3) ?_
    walk_at "go"
    refine k_lcSt (fun Dl i H3 => Same H H3 ∧ H3 Dl = some (.lst (((z.cps.toList.take i).map fun c => decide (c ∈ abc.cps.toList)).map V.bl))) (fun Dl hD => ⟨L2.Same.new hD, upd_same⟩) (fun Dl i c H3 hD hc y => ?_) (fun Dl H3 hD y => ?_)
    · obtain ⟨s3, hDl⟩ := y
      have lz : z.cps.toList.length = z.length := rfl
      have lt := (List.getElem?_eq_some_iff.mp hc).1
      walk_at "lct"
      refine k_inSg ?_
      refine k_lca hDl (small (by simp; omega)) ⟨s3.mut hD, ?_⟩
      rw [upd_same, take_next hc, List.map_append, List.map_append]
      rfl
    · obtain ⟨s3, hDl⟩ := y
      rw [show z.length = z.cps.toList.length from rfl, List.take_length] at hDl
      walk_at "go"
      refine k_all (bs := z.cps.toList.map fun c => decide (c ∈ abc.cps.toList)) (sql_lst hDl) ?_
      refine q _ _ s3 ⟨fun e => ⟨h1, h2, h3, fun c hc => ?_⟩, fun g => ?_⟩
      · rw [List.all_map, List.all_eq_true] at e
        exact of_decide_eq_true (e c hc)
      · rw [List.all_map, List.all_eq_true]
        exact fun c hc => decide_eq_true (g.2.2.2 c hc)
theorem ok_isprice (B : Bl mg) (T : DefAt K mg "_is_price" s_is_price) (m31 : ∃ t, mg "MOST_FIGURES" = some (.int 31 t)) (mF : ∃ t, mg "FIGURES" = some (.str figS t)) : DefOk P w K mg base CX0 1 "_is_price" ["word"] spIsPriceG := by
  refine T.ok sc_is_price (fun _ _ _ _ _ _ us hl => match us, hl with | [_], _ => rfl) (fun vs H Q E h => ?_) (fun f cdv A outer s H vs Q E hr hcd h => ?_)
  · obtain ⟨z, rfl, _⟩ := h
    rfl
  · obtain ⟨t31, h31⟩ := m31
    obtain ⟨tF, hF⟩ := mF
    obtain ⟨z, rfl, zl, q⟩ := h
    refine ⟨_, (pss_cons (ps_if (PW.pt (pw_or (pt_not (pt_chain op_le op_le pe_int (pe_callB (id := "len") (r := rLenB K) (bk_len rfl) (by rfl) B.len (by decide +kernel) (pa_cons (pv 0) pa_nil)) (pe_glob (v := .int 31) (by rfl) h31 ⟨t31, rfl⟩))) (pw_or1 (pt_not (pt_val (pe_callB (id := "all") (r := rAll K) (bk_all rfl rfl) (by rfl) B.all (by decide +kernel) (pa_cons (pe_lc (own := [("sign", 1)]) (g := gName 1) (by rfl) sc_is_price.nd (pi_str (pv 0)) (blkOk_by (own := [("sign", 1)]) (N := ["word", "sign"]) (sc := defScope s_is_price) (by decide +kernel)) (fun _ _ _ _ _ => (pg_name (i := 1) sc_is_price.nd rfl (by first | exact Or.inl rfl | exact Or.inr rfl))) (fun _ _ _ _ _ => pts_nil) (fun _ _ _ _ _ => (pe_cmpR (r := rInSg) ob_inSg (pv 1) (pe_glob (v := .str figS) (by rfl) hF ⟨tF, rfl⟩) (by rfl)))) pa_nil))))))) (pss_one (ps_ret pe_bl)) pss_nil)
      (pss_one (ps_ret (pe_and (pe_cmpR op_ne (pe_ix (r := rIx K) (ob_ix rfl) (pv 0) pe_int (fun _ _ => rfl)) pe_str (nomark _)) (pe_one (pe_cmpR op_le (pe_callTy (T := "int") (r := rIntS) bk_intS (by rfl) B.int (by decide +kernel) (pa_cons (pv 0) pa_nil)) (pe_op op_pow pe_int pe_int) (nomark _))))))), ?_⟩
    walk_at "start"
    refine ⟨_, z.length, rfl, ⟨smallE (by omega), rfl⟩, ?_⟩
    walk_at "go"
    by_cases h1 : 1 ≤ z.length
    rotate_left
    · refine k_chain (fun hc => by have := of_decide_eq_true hc; omega) (fun _ => ?_)
      walk_at "go"
      exact q false _ (Same.refl _) ⟨fun e => (nomatch e), fun g => absurd (pr_len g).1 h1⟩
    refine k_chain (fun _ => ?_) (fun h0 => by have := of_decide_eq_false h0; omega)
    walk_at "go"
    by_cases h2 : z.length ≤ 31
    rotate_left
    · rw [decide_eq_false (show ¬ ((z.length : Nat) : Int) ≤ 31 by omega)]
      walk_at "go"
      exact q false _ (Same.refl _) ⟨fun e => (nomatch e), fun g => absurd (pr_len g).2 h2⟩
    rw [decide_eq_true (show ((z.length : Nat) : Int) ≤ 31 by omega)]
    walk_at "go"
    refine k_lcSt (fun Dl i H3 => Same H H3 ∧ H3 Dl = some (.lst (((z.cps.toList.take i).map fun c => decide (c ∈ figS.cps.toList)).map V.bl))) (fun Dl hD => ⟨L2.Same.new hD, upd_same⟩) (fun Dl i c H3 hD hc y => ?_) (fun Dl H3 hD y => ?_)
    · obtain ⟨s3, hDl⟩ := y
      have lz : z.cps.toList.length = z.length := rfl
      have lt := (List.getElem?_eq_some_iff.mp hc).1
      walk_at "lct"
      refine k_inSg ?_
      refine k_lca hDl (small (by simp; omega)) ⟨s3.mut hD, ?_⟩
      rw [upd_same, take_next hc, List.map_append, List.map_append]
      rfl
    · obtain ⟨s3, hDl⟩ := y
      rw [show z.length = z.cps.toList.length from rfl, List.take_length] at hDl
      walk_at "go"
      refine k_all (bs := z.cps.toList.map fun c => decide (c ∈ figS.cps.toList)) (sql_lst hDl) ?_
      have al : ((z.cps.toList.map fun c => decide (c ∈ figS.cps.toList)).all id = true) ↔ ∀ c ∈ z.cps.toList, c ∈ figS.cps.toList := by
        rw [List.all_map, List.all_eq_true]
        exact ⟨fun e c hc => of_decide_eq_true (e c hc), fun e c hc => decide_eq_true (e c hc)⟩
      by_cases h3 : ∀ c ∈ z.cps.toList, c ∈ figS.cps.toList
      rotate_left
      · rw [show ((z.cps.toList.map fun c => decide (c ∈ figS.cps.toList)).all id) = false by rw [← Bool.not_eq_true, al]; exact h3]
        walk_at "go"
        exact q false _ s3 ⟨fun e => (nomatch e), fun g => absurd (pr_dig g) h3⟩
      rw [al.mpr h3]
      walk_at "go"
      obtain ⟨c, hc⟩ : ∃ c, z.cps.toList[0]? = some c := ⟨_, List.getElem?_eq_getElem (show 0 < z.cps.toList.length from h1)⟩
      refine k_ixS (z := z) (by omega) (atI_nat (j := 0) hc) ?_
      walk_at "go"
      refine k_neS ?_
      have eq0 : ((⟨#[c]⟩ : Str) = "0") ↔ c = 48 := by
        have e0 : ("0" : Str) = ⟨#[48]⟩ := by decide +kernel
        rw [e0]
        exact ⟨fun z => by simpa using z, fun z => by rw [z]⟩
      by_cases h4 : c = 48
      · rw [decide_eq_true (eq0.mpr h4)]
        walk_at "go"
        refine k_andV (fun z => nomatch z) (fun _ => ?_)
        exact q false _ s3 ⟨fun e => (nomatch e), fun g => absurd (by rw [hc, h4]) (pr_hd g)⟩
      rw [decide_eq_false fun e => h4 (eq0.mp e)]
      walk_at "go"
      refine k_andV (fun _ => ?_) (fun z => nomatch z)
      obtain ⟨p, p1, rfl⟩ := dig_fig (s := z) (by omega) h3 (by rw [hc]; intro e; exact h4 (Option.some.inj e))
      walk_at "go"
      refine k_intS (fig_intL (by omega) (by omega)) (by omega) ?_
      walk_at "go"
      refine k_rI ⟨by decide, by decide, by decide⟩ ?_
      walk_at "go"
      rw [show (10 : Int) ^ (30 : Int).toNat = bigP by decide +kernel]
      exact q _ _ s3 (by rw [decide_eq_true_eq, pr_iff p1 h2])
theorem ok_isrow (B : Bl mg) (T : DefAt K mg "_is_row" s_is_row) (G_is_name : DefOk P w K mg base CX0 1 "_is_name" ["word"] spIsNameG) (G_is_price : DefOk P w K mg base CX0 1 "_is_price" ["word"] spIsPriceG) : DefOk P w K mg base CX0 2 "_is_row" ["words", "ahead"] spIsRowG := by
  refine T.ok sc_is_row (fun _ _ _ _ _ _ us hl => match us, hl with | [_, _], _ => rfl) (fun vs H Q E h => ?_) (fun f cdv A outer s H vs Q E hr hcd h => ?_)
  · obtain ⟨lw, la, ws, ah, rfl, _⟩ := h
    rfl
  · obtain ⟨lw, la, ws, ah, rfl, hw, ha, wl, al, wb, q⟩ := h
    refine ⟨_, (pss_cons (ps_if (pt_cmpR op_lt (pe_callB (id := "len") (r := rLenB K) (bk_len rfl) (by rfl) B.len (by decide +kernel) (pa_cons (pv 0) pa_nil)) pe_int (nomark _)) (pss_one (ps_ret pe_bl)) pss_nil)
      (pss_cons (ps_asg (pv 0) (pg_star2 (by rfl) (pgs_cons (pg_name (i := 2) sc_is_row.nd rfl (by first | exact Or.inl rfl | exact Or.inr rfl)) (pgs_cons (pg_name (i := 3) sc_is_row.nd rfl (by first | exact Or.inl rfl | exact Or.inr rfl)) (pgs_star (pg_name (i := 4) sc_is_row.nd rfl (by first | exact Or.inl rfl | exact Or.inr rfl)) pgs_nil)))))
      (pss_cons (ps_if (PW.pt (pw_or (pt_not (pt_val (pe_callD G_is_name (hr.mono (by decide)) (by rfl) pass0 (pa_cons (pv 2) pa_nil)))) (pw_or (pt_cmpR (r := rIn K false) (ob_in rfl) (pv 2) (pv 1) (by rfl)) (pw_or1 (pt_not (pt_val (pe_callD G_is_price (hr.mono (by decide)) (by rfl) pass0 (pa_cons (pv 3) pa_nil)))))))) (pss_one (ps_ret pe_bl)) pss_nil)
      (pss_one (ps_ret (pe_and (pe_cmpR op_eq (pe_lenSetG (by rfl) B.len (by rfl) B.set (pv 4)) (pe_callB (id := "len") (r := rLenB K) (bk_len rfl) (by rfl) B.len (by decide +kernel) (pa_cons (pv 4) pa_nil)) (nomark _)) (pe_one (pe_callB (id := "all") (r := rAll K) (bk_all rfl rfl) (by rfl) B.all (by decide +kernel) (pa_cons (pe_lc (own := [("elder", 5)]) (g := gName 5) (by rfl) sc_is_row.nd (pi_list (pv 4)) (blkOk_by (own := [("elder", 5)]) (N := ["words", "ahead", "name", "price", "elders", "elder"]) (sc := defScope s_is_row) (by decide +kernel)) (fun _ _ _ _ _ => (pg_name (i := 5) sc_is_row.nd rfl (by first | exact Or.inl rfl | exact Or.inr rfl))) (fun _ _ _ _ _ => pts_nil) (fun _ _ _ _ _ => (pe_cmpR (r := rIn K false) (ob_in rfl) (pv 5) (pv 1) (by rfl)))) pa_nil))))))))), ?_⟩
    walk_at "start"
    refine k_len (sql_lst hw) ?_
    walk_at "go"
    by_cases h1 : 2 ≤ ws.length
    rotate_left
    · refine k_ifT' (decide_eq_true (by simp; omega)) ?_
      walk_at "go"
      exact q false _ (Same.refl _) ⟨fun e => (nomatch e), fun g => absurd g.1 h1⟩
    refine k_ifF' (decide_eq_false (by simp; omega)) ?_
    obtain ⟨z, p, es, rfl⟩ : ∃ z p es, ws = z :: p :: es := match ws, h1 with | z :: p :: es, _ => ⟨z, p, es, rfl⟩
    have rf : RowFine (z :: p :: es) ah ↔ NmGood z ∧ z ∉ ah ∧ PrGood p ∧ es.Nodup ∧ ∀ e ∈ es, e ∈ ah := ⟨fun g => g.2, fun g => ⟨h1, g⟩⟩
    rw [rf] at q
    have bz := wb z (by simp)
    have bp := wb p (by simp)
    have el : es.length ≤ 2000 := by simp at wl; omega
    walk_at "go"
    refine k_star2 (sql_lst hw) (by simp) fun l hl => ?_
    have s1 := L2.Same.new (o := .lst (es.map V.str)) hl
    have l1 : (upd H l (.lst (es.map V.str))) l = some (.lst (es.map V.str)) := upd_same
    rw [show (((z :: p :: es).map V.str).drop 2) = es.map V.str from rfl, show (((z :: p :: es).map V.str).take 2) = [.str z, .str p] from rfl]
    generalize upd H l (.lst (es.map V.str)) = H1 at s1 l1 ⊢
    dsimp only [List.cons_append, List.nil_append]
    walk_at "go"
    refine ⟨z, rfl, bz, fun b1 H2 s2 e1 => ?_⟩
    cases b1 with
    | false =>
      walk_at "go"
      exact q false _ (s1.trans s2) ⟨fun e => (nomatch e), fun g => nomatch e1.mpr g.1⟩
    | true =>
    walk_at "go"
    refine k_inLS (sql_lst (s2 _ _ (s1 _ _ ha))) ?_
    by_cases h3 : z ∈ ah
    · rw [decide_eq_true h3]
      walk_at "go"
      exact q false _ (s1.trans s2) ⟨fun e => (nomatch e), fun g => absurd h3 g.2.1⟩
    rw [decide_eq_false h3]
    walk_at "go"
    refine ⟨p, rfl, bp, fun b2 H3 s3 e2 => ?_⟩
    have s13 := s2.trans s3
    cases b2 with
    | false =>
      walk_at "go"
      exact q false _ (s1.trans s13) ⟨fun e => (nomatch e), fun g => nomatch e2.mpr g.2.2.1⟩
    | true =>
    walk_at "go"
    refine ⟨l, es, rfl, sql_lst (s13 _ _ l1), by omega, ?_⟩
    walk_at "go"
    refine k_len (sql_lst (s13 _ _ l1)) ?_
    rw [List.length_map]
    walk_at "go"
    have dn : (((disN es es.length : Nat) : Int) = ((es.length : Nat) : Int)) ↔ es.Nodup := by
      rw [← dis_iff]
      omega
    by_cases h4 : es.Nodup
    rotate_left
    · refine k_andV (fun z => by have := dn.mp (of_decide_eq_true z); exact absurd this h4) (fun z => ?_)
      exact q false _ (s1.trans s13) ⟨fun e => (nomatch e), fun g => absurd g.2.2.2.1 h4⟩
    refine k_andV (fun _ => ?_) (fun z => absurd (dn.mpr h4) (of_decide_eq_false z))
    walk_at "go"
    refine k_iList (sql_lst (s13 _ _ l1)) ?_
    refine k_lcL (xs := es.map V.str) (fun Dl i H4 => Same H3 H4 ∧ H4 Dl = some (.lst (((es.take i).map fun e => decide (e ∈ ah)).map V.bl))) (fun Dl hD => ⟨L2.Same.new hD, upd_same⟩) (fun Dl i H4 hD hi z => sql_lst (z.1 _ _ (s13 _ _ l1))) (fun Dl i x H4 hD hx z => ?_) (fun Dl H4 hD z => ?_)
    · obtain ⟨s4, hDl⟩ := z
      obtain ⟨e, he, rfl⟩ := map_get hx
      have lt := (List.getElem?_eq_some_iff.mp he).1
      walk_at "lct"
      refine k_inLS (sql_lst (s4 _ _ (s13 _ _ (s1 _ _ ha)))) ?_
      refine k_lca hDl (small (by simp; omega)) ⟨s4.mut hD, ?_⟩
      rw [upd_same, take_next he, List.map_append, List.map_append]
      rfl
    · obtain ⟨s4, hDl⟩ := z
      rw [List.length_map, List.take_length] at hDl
      walk_at "go"
      refine k_all (bs := es.map fun e => decide (e ∈ ah)) (sql_lst hDl) ?_
      refine q _ _ ((s1.trans s13).trans s4) ?_
      rw [List.all_map, List.all_eq_true]
      exact ⟨fun e => ⟨e1.mp rfl, h3, e2.mp rfl, h4, fun x hx => of_decide_eq_true (e x hx)⟩, fun g x hx => decide_eq_true (g.2.2.2.2 x hx)⟩
end
abbrev s_read_net : Stmt := topS 21
theorem sc_read_net : FnScope ["text", "named", "row", "line", "words", "ahead", "name", "price", "elders", "one", "_"] ["text"] (defScope s_read_net) := ⟨rfl, rfl, rfl, by decide +kernel, rfl, by decide +kernel, by decide +kernel⟩
section
variable {P : Program} {w : World} {K : PySem.W.Frag} {mg : Str → Option Value} {base : Heap}
theorem ok_readG {C : Addr} (B : Bl mg) (T : DefAt K mg "read_net" s_read_net) (m40 : ∃ t, mg "MOST_MAKES" = some (.int 40 t)) (G_is_row : DefOk P w K mg base CX0 2 "_is_row" ["words", "ahead"] spIsRowG) (M : MkAt P w K mg base "NoText" C "row") : DefOk P w K mg base (L2.CX P w) 3 "read_net" ["text"] (spReadG K C) := by
  refine T.okX sc_read_net (fun _ _ _ _ _ _ us hl => match us, hl with | [_], _ => rfl) (fun vs H Q E h => ?_) (fun f cdv A outer s H vs Q E hr hcd h => ?_)
  · obtain ⟨v, rfl, _⟩ := h
    rfl
  · obtain ⟨t40, h40⟩ := m40
    obtain ⟨v, rfl, tb, no, q, bad⟩ := h
    refine ⟨_, (pss_cons (ps_if (pt_not (pt_val (pe_callB (id := "isinstance") (r := rIsi K) (bk_isi rfl) (by rfl) B.isinstance (by decide +kernel) (pa_cons (pv 0) (pa_cons (pe_bltn (v := .ty "str") (by rfl) B.str (by decide +kernel) rfl) pa_nil))))) (pss_one (ps_mk1 M hr (takes_of rfl rfl rfl rfl) (by rfl) (pe_int (i := 0)))) pss_nil)
      (pss_cons (ps_set (i := 1) sc_read_net.nd rfl (by first | exact Or.inl rfl | exact Or.inr rfl) (pe_lst pa_nil))
      (pss_cons (ps_for (passes_of rfl) rfl (pi_enumK false (by rfl) B.enumerate (pa_cons (ob_split rfl (pv 0) pe_str) pa_nil)) (pg_tup (by rfl) (pgs_cons (pg_name (i := 2) sc_read_net.nd rfl (by first | exact Or.inl rfl | exact Or.inr rfl)) (pgs_cons (pg_name (i := 3) sc_read_net.nd rfl (by first | exact Or.inl rfl | exact Or.inr rfl)) pgs_nil))) (pss_cons (ps_set (i := 4) sc_read_net.nd rfl (by first | exact Or.inl rfl | exact Or.inr rfl) (ob_split rfl (pv 3) pe_str))
      (pss_cons (ps_setLc (i := 5) (own := [("one", 9), ("_", 10)]) (g := (gTup K 3 (gCons (gName 9) (gCons (gName 10) (gCons (gName 10) gNil))))) (by rfl) sc_read_net.nd rfl rfl (sw_true rfl rfl rfl (by decide +kernel)) (pi_list (pv 1)) (blkOk_by (own := [("one", 9), ("_", 10)]) (N := ["text", "named", "row", "line", "words", "ahead", "name", "price", "elders", "one", "_"]) (sc := defScope s_read_net) (by decide +kernel)) (fun _ _ _ _ _ => (pg_tup (by rfl) (pgs_cons (pg_name (i := 9) sc_read_net.nd rfl (by first | exact Or.inl rfl | exact Or.inr rfl)) (pgs_cons (pg_name (i := 10) sc_read_net.nd rfl (by first | exact Or.inl rfl | exact Or.inr rfl)) (pgs_cons (pg_name (i := 10) sc_read_net.nd rfl (by first | exact Or.inl rfl | exact Or.inr rfl)) pgs_nil))))) (fun _ _ _ _ _ => pts_nil) (fun _ _ _ _ _ => (pv 9)))
      (pss_cons (ps_if (PW.pt (pw_or (pt_cmpR op_ge (pv 2) (pe_glob (v := .int 40) (by rfl) h40 ⟨t40, rfl⟩) (nomark _)) (pw_or1 (pt_not (pt_val (pe_callD G_is_row (hr.mono (by decide)) (by rfl) pass0 (pa_cons (pv 4) (pa_cons (pv 5) pa_nil)))))))) (pss_one (ps_mk1 M hr (takes_of rfl rfl rfl rfl) (by rfl) (pv 2))) pss_nil)
      (pss_cons (ps_asg (pv 4) (pg_star2 (by rfl) (pgs_cons (pg_name (i := 6) sc_read_net.nd rfl (by first | exact Or.inl rfl | exact Or.inr rfl)) (pgs_cons (pg_name (i := 7) sc_read_net.nd rfl (by first | exact Or.inl rfl | exact Or.inr rfl)) (pgs_star (pg_name (i := 8) sc_read_net.nd rfl (by first | exact Or.inl rfl | exact Or.inr rfl)) pgs_nil)))))
      (pss_one (ps_expr (pe_bm PySem.F.plainAttrs_list PySem.F.slot_list_append PySem.F.type_list_append mt_append (pv 1) (pa_cons (pe_tup (pa_cons (pv 6) (pa_cons (pe_callTy (T := "int") (r := rIntS) bk_intS (by rfl) B.int (by decide +kernel) (pa_cons (pv 7) pa_nil)) (pa_cons (pe_callTy (T := "tuple") (r := rTupB K) (bk_tuple rfl) (by rfl) B.tuple (by decide +kernel) (pa_cons (pv 8) pa_nil)) pa_nil)))) pa_nil)))))))))
      (pss_one (ps_ret (pv 1)))))), ?_⟩
    walk_at "start"
    by_cases hv : ∃ t, v = .str t
    rotate_left
    · have hn : ∀ t, v ≠ .str t := fun t e => hv ⟨t, e⟩
      obtain ⟨a, ty, kb⟩ := no hn
      refine k_isi ty kb ?_
      walk_at "go"
      refine k_mk1 (by decide) fun d hd => ?_
      exact bad 0 d _ (.inr ⟨hn, rfl⟩) (Same.refl _) hd hd
    obtain ⟨t, rfl⟩ := hv
    have tB := tb t rfl
    have q := q t rfl
    have bad : ∀ (i : Nat) (d : Addr) (H1 : Hp), DueIs (Txt.split t "\n") (some i) → Same H H1 → H d = none → H1 d = none → E (.ref C) (some d) (upd H1 d (.xd [("row", .int (i : Nat))])) := fun i d H1 h => bad i d H1 (.inl ⟨t, rfl, h⟩)
    have lnB : ∀ l ∈ Txt.split t "\n", TxB l := fun l hl => tB.line hl
    have lsl := tB.lines
    obtain ⟨ls, hls⟩ : ∃ ls, Txt.split t "\n" = ls := ⟨_, rfl⟩
    rw [hls] at q bad lnB lsl
    refine k_isStr ?_
    walk_at "go"
    refine k_lst (smallE (by simp)) fun d hd => ?_
    have s1 := L2.Same.new (o := .lst []) hd
    have d1 : (upd H d (.lst [])) d = some (.lst (([] : List Addr).map V.ref)) := upd_same
    generalize upd H d (.lst []) = H1 at s1 d1 ⊢
    walk_at "go"
    refine r_tM1 ?_
    walk_at "go"
    refine ⟨⟨_, rfl⟩, ?_⟩
    walk_at "go"
    refine k_split hls (by decide +kernel) (by have := tB.1; omega) fun lt hlt => ?_
    have s2 := s1.newer (o := .lst (ls.map V.str)) hlt
    have d2 := L2.Same.new (o := .lst (ls.map V.str)) hlt _ _ d1
    have t2 : (upd H1 lt (.lst (ls.map V.str))) lt = some (.lst (ls.map V.str)) := upd_same
    have ndl : lt ≠ d := (ne_of_none d1 hlt).symm
    have hlt0 := s1.free hlt
    generalize upd H1 lt (.lst (ls.map V.str)) = H2 at s2 d2 t2 ⊢
    walk_at "go"
    refine k_iE (kd := false) (sql_lst t2) ?_
    refine k_forEK (kd := false) (xs := ls.map V.str) (fun i σ' H' => ∃ (as : List Addr) (x2 x3 x4 x5 x6 x7 x8 x9 x10 : Option V), σ' = [some (.str t), some (.ref d), x2, x3, x4, x5, x6, x7, x8, x9, x10] ∧ Same H H' ∧ H' d = some (.lst (as.map V.ref)) ∧ H' lt = some (.lst (ls.map V.str)) ∧ as.length = i ∧ (∀ (j : Nat) (a : Addr), as[j]? = some a → ∃ p e, H' a = some (.tup [.str ((lnW ls j).getD 0 ""), .int p, .ref e])) ∧ ∀ j, j < i → OkAt ls j) ⟨[], _, _, _, _, _, _, _, _, _, rfl, s2, d2, t2, rfl, by simp, fun j hj => by omega⟩ (fun i σ' H' z => ?_) (fun i x Tp σ' H' hx z hTp => ?_) (fun σ' H' z => ?_)
    · obtain ⟨as, x2, x3, x4, x5, x6, x7, x8, x9, x10, rfl, s3, d3, t3, al, en, okl⟩ := z
      exact sql_lst t3
    · obtain ⟨as, x2, x3, x4, x5, x6, x7, x8, x9, x10, rfl, s3, d3, t3, al, en, okl⟩ := z
      obtain ⟨l0, hl0, rfl⟩ := map_get hx
      have lti := (List.getElem?_eq_some_iff.mp hl0).1
      have lB := lnB l0 (List.mem_of_getElem? hl0)
      have gl : ls.getD i "" = l0 := by rw [List.getD_eq_getElem?_getD, hl0]; rfl
      have ew : lnW ls i = Txt.split l0 " " := by unfold lnW; rw [gl]
      obtain ⟨wl1, wl, wb, _⟩ := lB.words
      obtain ⟨ws, hws⟩ : ∃ ws, Txt.split l0 " " = ws := ⟨_, rfl⟩
      rw [hws] at ew wl1 wl wb
      refine k_tupG (sqt_tup upd_same) rfl ?_
      have r1 := L2.Same.new (o := .tup [.int (i : Nat), .str l0]) hTp
      generalize upd H' Tp (.tup [.int (i : Nat), .str l0]) = H4 at r1 ⊢
      walk_at "go"
      refine r_tM1 ?_
      walk_at "go"
      refine ⟨⟨_, rfl⟩, ?_⟩
      walk_at "go"
      refine k_split hws (by decide +kernel) (by have := lB.1; omega) fun lw hlw => ?_
      have r2 := r1.newer (o := .lst (ws.map V.str)) hlw
      have w2 : (upd H4 lw (.lst (ws.map V.str))) lw = some (.lst (ws.map V.str)) := upd_same
      generalize upd H4 lw (.lst (ws.map V.str)) = H5 at r2 w2 ⊢
      walk_at "go"
      have d5 := r2 _ _ d3
      refine k_iList (sql_lst d5) ?_
      refine k_lcL (xs := as.map V.ref) (fun Dl k H6 => Same H5 H6 ∧ H6 Dl = some (.lst ((ahd ls k).map V.str))) (fun Dl hD => ⟨L2.Same.new hD, by rw [upd_same]; rfl⟩) (fun Dl k H6 hD hk z => sql_lst (z.1 _ _ d5)) (fun Dl k x H6 hD hx z => ?_) (fun Dl H6 hD z => ?_)
      · obtain ⟨s6, hD6⟩ := z
        obtain ⟨b, hb, rfl⟩ := map_get hx
        have lt := (List.getElem?_eq_some_iff.mp hb).1
        obtain ⟨p, e, g1⟩ := en k b hb
        refine r_lcT ?_
        dsimp only [L2.wipe, List.set_cons_succ, List.set_cons_zero]
        walk_at "go"
        refine k_tupG (sqt_tup (s6 _ _ (r2 _ _ g1))) rfl ?_
        walk_at "go"
        refine k_lcU rfl ?_
        walk_at "go"
        refine k_lca hD6 (small (by rw [List.length_map, ahd_len]; omega)) ⟨s6.mut hD, ?_⟩
        rw [upd_same, ahd_succ, List.map_append]
        rfl
      obtain ⟨s6, hD6⟩ := z
      rw [List.length_map, al] at hD6
      have r6 := r2.trans s6
      walk_at "go"
      by_cases h40 : i < 40
      rotate_left
      · refine k_or (fun _ => ?_) (fun z => by have := of_decide_eq_false z; omega)
        walk_at "go"
        refine k_mk1 (log_small (by omega)) fun dd hdd => ?_
        exact bad i dd _ ⟨lti, fun g => h40 g.1, okl⟩ (s3.trans r6) ((s3.trans r6).free hdd) hdd
      refine k_or (fun z => by have := of_decide_eq_true z; omega) (fun _ => ?_)
      walk_at "go"
      refine ⟨lw, Dl, ws, ahd ls i, rfl, s6 _ _ w2, hD6, wl, by rw [ahd_len]; omega, wb, fun b H7 s7 eb => ?_⟩
      have w7 := s7 _ _ (s6 _ _ w2)
      have r7 := r6.trans s7
      cases b with
      | false =>
        walk_at "go"
        refine k_mk1 (log_small (by omega)) fun dd hdd => ?_
        have nok : ¬ OkAt ls i := fun g => by
          have g2 := g.2
          rw [ew] at g2
          exact nomatch eb.mpr g2
        exact bad i dd _ ⟨lti, nok, okl⟩ (s3.trans r7) ((s3.trans r7).free hdd) hdd
      | true =>
      have fine := eb.mp rfl
      have okn : ∀ j, j < i + 1 → OkAt ls j := fun j hj => by
        rcases Nat.lt_or_ge j i with lt | ge
        · exact okl j lt
        · obtain rfl : j = i := by omega
          exact ⟨h40, ew ▸ fine⟩
      obtain ⟨zn, pn, es, rfl⟩ : ∃ zn pn es, ws = zn :: pn :: es := match ws, fine.1 with | zn :: pn :: es, _ => ⟨zn, pn, es, rfl⟩
      obtain ⟨p, p1, p2, epn⟩ := fine.2.2.2.1
      obtain rfl : pn = figT p := epn
      walk_at "go"
      refine k_star2 (sql_lst w7) (by simp) fun l hl => ?_
      have r8 := r7.newer (o := .lst (es.map V.str)) hl
      have l8 : (upd H7 l (.lst (es.map V.str))) l = some (.lst (es.map V.str)) := upd_same
      rw [show (((zn :: figT p :: es).map V.str).drop 2) = es.map V.str from rfl, show (((zn :: figT p :: es).map V.str).take 2) = [.str zn, .str (figT p)] from rfl]
      generalize upd H7 l (.lst (es.map V.str)) = H8 at r8 l8 ⊢
      dsimp only [List.cons_append, List.nil_append]
      walk_at "go"
      have d8 := r8 _ _ d3
      refine ⟨ty_list (sql_lst d8), ?_⟩
      walk_at "go"
      refine k_intS (fig_int (by omega) p2) (by have := fig_len (p := p) (by omega) p2; omega) ?_
      walk_at "go"
      refine k_tupof (sql_lst l8) fun tt ht => ?_
      have r9 := r8.newer (o := .tup (es.map V.str)) ht
      generalize upd H8 tt (.tup (es.map V.str)) = H9 at r9 ⊢
      walk_at "go"
      refine k_tup (smallE (by simp)) fun a ha => ?_
      have r10 := r9.newer (o := .tup [.str zn, .int p, .ref tt]) ha
      have a10 : (upd H9 a (.tup [.str zn, .int p, .ref tt])) a = some (.tup [.str zn, .int p, .ref tt]) := upd_same
      generalize upd H9 a (.tup [.str zn, .int p, .ref tt]) = H10 at r10 a10 ⊢
      have d10 := r10 _ _ d3
      walk_at "go"
      refine k_append d10 (small (by rw [List.length_map]; omega)) ?_
      rw [map_snoc]
      have tp : ∀ b xs, H10 b = some (.tup xs) → (upd H10 d (.lst ((as ++ [a]).map V.ref))) b = some (.tup xs) := fun b xs hb => by
        rw [upd_ne (ne_of hb d10 (by intro z; cases z))]
        exact hb
      refine ⟨as ++ [a], _, _, _, _, _, _, _, _, _, rfl, (s3.trans r10).mut hd, upd_same, by rw [upd_ne ndl]; exact r10 _ _ t3, by simp [al], fun j b hb => ?_, okn⟩
      rcases Nat.lt_or_ge j as.length with lt | ge
      · rw [List.getElem?_append_left lt] at hb
        obtain ⟨p', e', g1⟩ := en j b hb
        exact ⟨p', e', tp _ _ (r10 _ _ g1)⟩
      · rw [List.getElem?_append_right ge] at hb
        have ej : j - as.length = 0 := by
          have := (List.getElem?_eq_some_iff.mp hb).1
          simp at this
          omega
        rw [ej] at hb
        obtain rfl : a = b := Option.some.inj hb
        obtain rfl : j = i := by omega
        refine ⟨p, tt, tp _ _ ?_⟩
        rw [ew]
        exact a10
    · obtain ⟨as, x2, x3, x4, x5, x6, x7, x8, x9, x10, rfl, s3, d3, t3, al, en, okl⟩ := z
      walk_at "go"
      rw [List.length_map] at al okl
      exact q okl d as H' s3 d3 al
end
abbrev s_told : Stmt := topS 34
theorem sc_told : FnScope ["_law_thing", "_law_found", "_law_caught", "e"] ["_law_thing"] (defScope s_told) := ⟨rfl, rfl, rfl, by decide +kernel, rfl, by decide +kernel, by decide +kernel⟩
section
variable {P : Program} {w : World} {K : PySem.W.Frag} {mg : Str → Option Value} {base : Heap}
theorem ok_toldG {C CH c1 c2 c3 c4 c5 c6 c7 c8 c9 c10 c11 : Addr} (B : Bl mg) (T : DefAt K mg "_law_told" s_told) (XF : XFacts K mg C CH "NoText" "row" [("NoNet", c1), ("NoOrder", c2), ("NoMake", c3), ("NoTrial", c4), ("NoTruth", c5), ("NoPlan", c6), ("NoBook", c7), ("TooGreat", c8), ("NoName", c9), ("NothingTold", c10), ("NoRow", c11)])
    (G_read_net : DefOk P w K mg base (L2.CX P w) 3 "read_net" ["text"] (spReadG K C)) : DefOk P w K mg base CX0 4 "_law_told" ["_law_thing"] (spToldL K) := by
  refine T.ok sc_told (fun _ _ _ _ _ _ us hl => match us, hl with | [_], _ => rfl) (fun vs H Q E h => ?_) (fun f cdv A outer s H vs Q E hr hcd h => ?_)
  · obtain ⟨v, rfl, _⟩ := h
    rfl
  · obtain ⟨v, rfl, tb, no, q1, q2⟩ := h
    refine ⟨_, (pss_cons (ps_set (i := 1) sc_told.nd rfl (by first | exact Or.inl rfl | exact Or.inr rfl) pe_non)
      (pss_cons (ps_set (i := 2) sc_told.nd rfl (by first | exact Or.inl rfl | exact Or.inr rfl) pe_non)
      (pss_cons (ps_try_keep (i := 3) rfl rfl rfl sc_told.nd rfl rfl ⟨by rfl, by decide, .inl XF.gH⟩ takes0 (fun W pn xe tk _ => (pss_one (ps_set (i := 1) sc_told.nd rfl (by first | exact Or.inl rfl | exact Or.inr rfl) (pe_callDS G_read_net (hr.mono (by decide)) (by rfl) (fun σ => passAt tk σ) (pa_cons (pv 0) pa_nil))))) (fun a oe pn => (pss_one (ps_set (i := 2) sc_told.nd rfl (by first | exact Or.inl rfl | exact Or.inr rfl) (pv 3)))))
      (pss_cons (ps_if (pt_cmpR op_isN1 (pv 2) pe_non (nomark _)) (pss_one (ps_ret (pe_tup (pa_cons pe_str (pa_cons (pe_callB (id := "len") (r := rLenB K) (bk_len rfl) (by rfl) B.len (by decide +kernel) (pa_cons (pv 1) pa_nil)) pa_nil))))) pss_nil)
      (pss_cons (ps_if (PW.pt (pw_or (pt_not (pt_val (pe_callB (id := "isinstance") (r := rIsX K) (bk_isX rfl) (by rfl) B.isinstance (by decide +kernel) (pa_cons (pv 2) (pa_cons (pe_glob (v := .ref C) (by rfl) XF.gC rfl) pa_nil))))) (pw_or1 (pt_not (pt_val (pe_callB (id := "isinstance") (r := rIsX K) (bk_isX rfl) (by rfl) B.isinstance (by decide +kernel) (pa_cons (pv 2) (pa_cons (pe_bltn (v := .ty "ValueError") (by rfl) B.ValueError (by decide +kernel) rfl) pa_nil)))))))) (pss_one (ps_ret (pe_tup (pa_cons pe_str (pa_cons pe_int pa_nil))))) pss_nil)
      (pss_cons (ps_if (pt_val (pe_callB (id := "isinstance") (r := rIsXT K) (bk_isXT rfl) (by rfl) B.isinstance (by decide +kernel) (pa_cons (pv 2) (pa_cons (pe_tup (pa_cons (pe_glob (v := .ref c1) (by rfl) (XF.go ("NoNet", c1) (by simp)) rfl) (pa_cons (pe_glob (v := .ref c2) (by rfl) (XF.go ("NoOrder", c2) (by simp)) rfl) (pa_cons (pe_glob (v := .ref c3) (by rfl) (XF.go ("NoMake", c3) (by simp)) rfl) (pa_cons (pe_glob (v := .ref c4) (by rfl) (XF.go ("NoTrial", c4) (by simp)) rfl) (pa_cons (pe_glob (v := .ref c5) (by rfl) (XF.go ("NoTruth", c5) (by simp)) rfl) (pa_cons (pe_glob (v := .ref c6) (by rfl) (XF.go ("NoPlan", c6) (by simp)) rfl) (pa_cons (pe_glob (v := .ref c7) (by rfl) (XF.go ("NoBook", c7) (by simp)) rfl) (pa_cons (pe_glob (v := .ref c8) (by rfl) (XF.go ("TooGreat", c8) (by simp)) rfl) (pa_cons (pe_glob (v := .ref c9) (by rfl) (XF.go ("NoName", c9) (by simp)) rfl) (pa_cons (pe_glob (v := .ref c10) (by rfl) (XF.go ("NothingTold", c10) (by simp)) rfl) (pa_cons (pe_glob (v := .ref c11) (by rfl) (XF.go ("NoRow", c11) (by simp)) rfl) pa_nil)))))))))))) pa_nil)))) (pss_one (ps_ret (pe_tup (pa_cons pe_str (pa_cons pe_int pa_nil))))) pss_nil)
      (pss_cons (ps_if (PW.pt (pw_or (pt_not (pt_val (pe_callB (id := "isinstance") (r := rIsi K) (bk_isi rfl) (by rfl) B.isinstance (by decide +kernel) (pa_cons (pe_xr (pv 2)) (pa_cons (pe_bltn (v := .ty "int") (by rfl) B.int (by decide +kernel) rfl) pa_nil))))) (pw_or1 (pt_val (pe_callB (id := "isinstance") (r := rIsi K) (bk_isi rfl) (by rfl) B.isinstance (by decide +kernel) (pa_cons (pe_xr (pv 2)) (pa_cons (pe_bltn (v := .ty "bool") (by rfl) B.bool (by decide +kernel) rfl) pa_nil))))))) (pss_one (ps_ret (pe_tup (pa_cons pe_str (pa_cons pe_int pa_nil))))) pss_nil)
      (pss_one (ps_ret (pe_tup (pa_cons pe_str (pa_cons (pe_xr (pv 2)) pa_nil)))))))))))), ?_⟩
    walk_at "start"
    have fin : ∀ (i : Nat) (u : Addr) (H' : Hp), ((∃ t : Str, v = .str t ∧ DueIs (Txt.split t "\n") (some i)) ∨ ((∀ t : Str, v ≠ .str t) ∧ i = 0)) → Same H H' → H' u = some (.tup [.str "no", .int (i : Nat)]) → Q (.ref u) H' := fun i u H' h s hu => by
      rcases h with ⟨t, rfl, hd⟩ | ⟨hn, rfl⟩
      · exact q1 t rfl (some i) u H' hd s hu
      · exact q2 hn u H' s hu
    refine ⟨v, rfl, tb, no, fun t ev hd l as H1 s1 hl al => ?_, fun i d H1 hi s1 d0 d1 => ?_⟩
    · walk_at "go"
      refine k_ifT' (by simp) ?_
      walk_at "go"
      refine k_len (sql_lst hl) ?_
      rw [List.length_map, al]
      walk_at "go"
      refine k_tup (smallE (by simp)) fun u hu => ?_
      exact q1 t ev none u _ hd (s1.newer hu) upd_same
    · refine k_we XF.exm fun a ha => ?_
      have nda : d ≠ a := ne_of_none upd_same ha
      have XA : XAt K (upd (upd H1 d (.xd [("row", .int (i : Nat))])) a (exr a C d)) a C d [("row", .int (i : Nat))] := ⟨upd_same, by rw [upd_ne nda]; exact upd_same, XF.xc⟩
      have s2 := (s1.newer (o := .xd [("row", .int (i : Nat))]) d1).newer (o := exr a C d) ha
      have lk : List.lookup ("row" : Str) ([(("row" : Str), V.int (i : Nat))] : List (Str × V)) = some (V.int (i : Nat)) := by simp [List.lookup]
      walk_at "go"
      refine k_ifF' (by simp) ?_
      walk_at "go"
      refine k_isXc XA XF.kit1 ?_
      walk_at "go"
      refine k_isXty XA XF.kitV ?_
      walk_at "go"
      refine k_tup (smallE (by simp)) fun tp htp => ?_
      have XA2 := XA.same (L2.Same.new (o := .tup [.ref c1, .ref c2, .ref c3, .ref c4, .ref c5, .ref c6, .ref c7, .ref c8, .ref c9, .ref c10, .ref c11]) htp)
      have s3 := s2.newer (o := .tup [.ref c1, .ref c2, .ref c3, .ref c4, .ref c5, .ref c6, .ref c7, .ref c8, .ref c9, .ref c10, .ref c11]) htp
      walk_at "go"
      refine k_isXT (cs := [c1, c2, c3, c4, c5, c6, c7, c8, c9, c10, c11]) XA2 upd_same XF.kitA ?_
      walk_at "go"
      refine k_xr XA2 XF.no lk ?_
      walk_at "go"
      refine k_xr XA2 XF.no lk ?_
      walk_at "go"
      refine k_xr XA2 XF.no lk ?_
      walk_at "go"
      refine k_tup (smallE (by simp)) fun l hl => ?_
      exact fin i l _ hi (s3.newer hl) upd_same
end
abbrev s_law : Stmt := topS 36
theorem sc_law : FnScope ["_law_script", "_law_feed_here", "_law_turn", "_law_good", "_law_rows_here", "_law_k", "_law_signed_here", "_law_text", "_law_due_here", "_law_great", "_law_thing"] ["_law_script"] (defScope s_law) := ⟨rfl, rfl, rfl, by decide +kernel, rfl, by decide +kernel, by decide +kernel⟩
section
variable {P : Program} {w : World} {K : PySem.W.Frag} {mg : Str → Option Value} {base : Heap}
theorem ok_law {f : Addr} {fd : FuncData} (F : Fun K "law" "law" s_law f fd) (B : Bl mg) (G_feed : DefOk P w K mg base CX0 1 "_law_feed" ["_law_script"] (spFeed K)) (G_take : DefOk P w K mg base CX0 1 "_law_take" ["_law_feed_here", "_law_many"] spTake) (G_rows : DefOk P w K mg base CX0 2 "_law_rows" ["_law_feed_here"] spRowsD) (G_spoiled : DefOk P w K mg base CX0 2 "_law_spoiled" ["_law_feed_here", "_law_rows_here"] spSpoil81)
    (G_signed : DefOk P w K mg base CX0 2 "_law_signed" ["_law_feed_here", "_law_text"] spSigned) (G_lines : DefOk P w K mg base CX0 1 "_law_lines" ["_law_rows_here"] spLinesD) (G_due : DefOk P w K mg base CX0 2 "_law_due" ["_law_text"] spDueL) (G_told : DefOk P w K mg base CX0 4 "_law_told" ["_law_thing"] (spToldL K)) :
    FnOk P w K mg base CX0 7 f fd ["_law_script"] (spLaw K) := by
  refine F.ok sc_law (fun vs H Q E h => ?_) (fun cdv A outer s H vs Q E hr h => ?_)
  · obtain ⟨a, ns, rfl, _⟩ := h
    rfl
  · obtain ⟨a, ns, rfl, hS, hlen, q⟩ := h
    have hu := hu_of hr
    refine ⟨_, (pss_cons (ps_set (i := 1) sc_law.nd rfl (by first | exact Or.inl rfl | exact Or.inr rfl) (pe_callD G_feed (hr.mono (by decide)) (by rfl) pass0 (pa_cons (pv 0) pa_nil)))
      (pss_cons (ps_for PassesOwn.never rfl (pi_range1 (by rfl) B.range (pa_cons pe_int pa_nil)) (pg_name (i := 2) sc_law.nd rfl (by first | exact Or.inl rfl | exact Or.inr rfl)) (pss_cons (ps_set (i := 3) sc_law.nd rfl (by first | exact Or.inl rfl | exact Or.inr rfl) (pe_callD G_rows (hr.mono (by decide)) (by rfl) pass0 (pa_cons (pv 1) pa_nil)))
      (pss_cons (ps_set (i := 4) sc_law.nd rfl (by first | exact Or.inl rfl | exact Or.inr rfl) (pv 3))
      (pss_cons (ps_for PassesOwn.never rfl (pi_range1 (by rfl) B.range (pa_cons (pe_op op_add pe_int (pe_callD G_take (hr.mono (by decide)) (by rfl) pass0 (pa_cons (pv 1) (pa_cons pe_int pa_nil)))) pa_nil)) (pg_name (i := 5) sc_law.nd rfl (by first | exact Or.inl rfl | exact Or.inr rfl)) (pss_one (ps_set (i := 4) sc_law.nd rfl (by first | exact Or.inl rfl | exact Or.inr rfl) (pe_callD G_spoiled (hr.mono (by decide)) (by rfl) pass0 (pa_cons (pv 1) (pa_cons (pv 4) pa_nil))))))
      (pss_cons (ps_for PassesOwn.never rfl (pi_range1 (by rfl) B.range (pa_cons (pe_op op_add (pe_op op_mul (pe_op op_sub pe_int (pe_callB (id := "len") (r := rLenB K) (bk_len rfl) (by rfl) B.len (by decide +kernel) (pa_cons (pv 4) pa_nil))) (pe_callTy (T := "int") (r := rIntOf) bk_int (by rfl) B.int (by decide +kernel) (pa_cons (pe_cmpR op_eq (pe_callD G_take (hr.mono (by decide)) (by rfl) pass0 (pa_cons (pv 1) (pa_cons pe_int pa_nil))) pe_int (nomark _)) pa_nil))) (pe_op op_mul (pe_callD G_take (hr.mono (by decide)) (by rfl) pass0 (pa_cons (pv 1) (pa_cons pe_int pa_nil))) (pe_callTy (T := "int") (r := rIntOf) bk_int (by rfl) B.int (by decide +kernel) (pa_cons (pe_cmpR op_gt (pe_callB (id := "len") (r := rLenB K) (bk_len rfl) (by rfl) B.len (by decide +kernel) (pa_cons (pv 4) pa_nil)) pe_int (nomark _)) pa_nil)))) pa_nil)) (pg_name (i := 5) sc_law.nd rfl (by first | exact Or.inl rfl | exact Or.inr rfl)) (pss_one (ps_set (i := 4) sc_law.nd rfl (by first | exact Or.inl rfl | exact Or.inr rfl) (pe_op op_cat (pv 4) (pe_lst (pa_cons (pe_lst (pa_cons (pe_op op_add_strS (pe_op (r := rMulS) ob_mulS pe_str (pe_op op_add pe_int (pe_op op_fdiv (pv 5) pe_int))) (pe_ix (r := rIx K) (ob_ix rfl) pe_str (pe_op op_mod (pv 5) pe_int) (fun _ _ => rfl))) (pa_cons pe_str pa_nil))) pa_nil))))))
      (pss_cons (ps_set (i := 6) sc_law.nd rfl (by first | exact Or.inl rfl | exact Or.inr rfl) (pe_cmpR op_eq (pe_callD G_take (hr.mono (by decide)) (by rfl) pass0 (pa_cons (pv 1) (pa_cons pe_int pa_nil))) pe_int (nomark _)))
      (pss_cons (ps_set (i := 7) sc_law.nd rfl (by first | exact Or.inl rfl | exact Or.inr rfl) (pe_callD G_lines (hr.mono (by decide)) (by rfl) pass0 (pa_cons (pv 4) pa_nil)))
      (pss_cons (ps_if (pt_val (pv 6)) (pss_one (ps_set (i := 7) sc_law.nd rfl (by first | exact Or.inl rfl | exact Or.inr rfl) (pe_callD G_signed (hr.mono (by decide)) (by rfl) pass0 (pa_cons (pv 1) (pa_cons (pv 7) pa_nil))))) pss_nil)
      (pss_cons (ps_set (i := 8) sc_law.nd rfl (by first | exact Or.inl rfl | exact Or.inr rfl) (pe_tup (pa_cons pe_str (pa_cons (pe_op op_add (pe_bm (r := rCountS) PySem.F.plainAttrs_str PySem.F.slot_str_count PySem.F.type_str_count bk_countS (pv 7) (pa_cons pe_str pa_nil)) pe_int) pa_nil))))
      (pss_cons (ps_if (pt_cmpR op_notN1 (pe_callD G_due (hr.mono (by decide)) (by rfl) pass0 (pa_cons (pv 7) pa_nil)) pe_non (nomark _)) (pss_one (ps_set (i := 8) sc_law.nd rfl (by first | exact Or.inl rfl | exact Or.inr rfl) (pe_tup (pa_cons pe_str (pa_cons (pe_callD G_due (hr.mono (by decide)) (by rfl) pass0 (pa_cons (pv 7) pa_nil)) pa_nil))))) pss_nil)
      (pss_one (ps_if (PW.pt (pw_or (pt_cmpR (r := rNeD K) (ob_neD rfl hr.units) (pe_callD G_told (hr.mono (by decide)) (by rfl) pass0 (pa_cons (pv 7) pa_nil)) (pv 8) (nomark _)) (pw_or (pt_cmpR (r := rNeD K) (ob_neD rfl hr.units) (pe_callD G_told (hr.mono (by decide)) (by rfl) pass0 (pa_cons (pe_callD G_lines (hr.mono (by decide)) (by rfl) pass0 (pa_cons (pv 3) pa_nil)) pa_nil)) (pe_tup (pa_cons pe_str (pa_cons (pe_callB (id := "len") (r := rLenB K) (bk_len rfl) (by rfl) B.len (by decide +kernel) (pa_cons (pv 3) pa_nil)) pa_nil))) (nomark _)) (pw_or1 (pt_cmpR (r := rNeD K) (ob_neD rfl hr.units) (pe_callD G_told (hr.mono (by decide)) (by rfl) pass0 (pa_cons (pv 7) pa_nil)) (pv 8) (nomark _)))))) (pss_one (ps_ret pe_bl)) pss_nil))))))))))))
      (pss_cons (ps_set (i := 9) sc_law.nd rfl (by first | exact Or.inl rfl | exact Or.inr rfl) (pe_op op_cat (pe_slice (r := rSlL K) (ob_slL rfl) (pv 3) po_none (po_some pe_int)) (pe_lst (pa_cons (pe_lst (pa_cons pe_str (pa_cons (pe_op (r := rMulS) ob_mulS pe_str (pe_op op_add pe_int (pe_callD G_take (hr.mono (by decide)) (by rfl) pass0 (pa_cons (pv 1) (pa_cons pe_int pa_nil))))) pa_nil))) pa_nil))))
      (pss_cons (ps_if (pt_cmpR (r := rNeD K) (ob_neD rfl hr.units) (pe_callD G_told (hr.mono (by decide)) (by rfl) pass0 (pa_cons (pe_callD G_lines (hr.mono (by decide)) (by rfl) pass0 (pa_cons (pv 9) pa_nil)) pa_nil)) (pe_tup (pa_cons pe_str (pa_cons (pe_op op_sub (pe_callB (id := "len") (r := rLenB K) (bk_len rfl) (by rfl) B.len (by decide +kernel) (pa_cons (pv 9) pa_nil)) pe_int) pa_nil))) (nomark _)) (pss_one (ps_ret pe_bl)) pss_nil)
      (pss_cons (ps_set (i := 10) sc_law.nd rfl (by first | exact Or.inl rfl | exact Or.inr rfl) (pe_ix (r := rIxL K) (ob_ixL rfl) (pe_lst (pa_cons pe_non (pa_cons pe_int (pa_cons pe_bl (pa_cons (pe_lst (pa_cons pe_str pa_nil)) (pa_cons (pe_tup (pa_cons pe_str pa_nil)) (pa_cons (pe_un un_neg pe_int) pa_nil))))))) (pe_callD G_take (hr.mono (by decide)) (by rfl) pass0 (pa_cons (pv 1) (pa_cons pe_int pa_nil))) (fun _ _ => rfl)))
      (pss_one (ps_ret (pe_and (pe_cmpR (r := rEqD K) (ob_eqD rfl hr.units) (pe_callD G_told (hr.mono (by decide)) (by rfl) pass0 (pa_cons (pv 10) pa_nil)) (pe_tup (pa_cons pe_str (pa_cons pe_int pa_nil))) (nomark _)) (pe_one (pe_cmpR (r := rEqD K) (ob_eqD rfl hr.units) (pe_callD G_told (hr.mono (by decide)) (by rfl) pass0 (pa_cons pe_str pa_nil)) (pe_tup (pa_cons pe_str (pa_cons pe_int pa_nil))) (nomark _))))))))))), ?_⟩
    walk_at "start"
    refine ⟨a, ns, rfl, hS, fun d H1 d0 F1 => ?_⟩
    walk_at "go"
    refine k_iR1 (n := 4) rfl (by omega) (by omega) ?_
    refine k_forR (fun i σ' H' => ∃ (G' : Hp) (x2 x3 x4 x5 x6 x7 x8 : Option V), σ' = [some (.ref a), some (.ref d), x2, x3, x4, x5, x6, x7, x8, none, none] ∧ FeedAt G' H' d ∧ (0 < i → ∃ (l : Addr) (bs : List Addr) (st : Str) (rws : List (List Str)), x3 = some (.ref l) ∧ RwsAt G' l bs rws ∧ GdRows st rws ∧ 1 ≤ rws.length)) ⟨H, _, _, _, _, _, _, _, rfl, F1, fun h => absurd h (by decide)⟩ (fun i σ' H' hi z => ?_) (fun σ' H' z => ?_)
    · obtain ⟨G1, x2, x3, x4, x5, x6, x7, x8, rfl, F2, _⟩ := z
      walk_at "go"
      refine ⟨G1, d, rfl, F2, fun l bs st rws G2 H3 s2 R2 D2 l1 F3 => ?_⟩
      have l40 := D2.2.2.1
      have B0 := D2.rowsB l1
      walk_at "go"
      refine ⟨G2, d, 3, rfl, F3, by decide, by decide, fun n H4 n0 n1 F4 => ?_⟩
      walk_at "go"
      refine k_iR1 (n := (1 + n).toNat) (by omega) (by omega) (by omega) ?_
      refine k_forR (fun j σ' H' => ∃ (G3 : Hp) (l2 : Addr) (cs : List Addr) (rw2 : List (List Str)) (x5 : Option V), σ' = [some (.ref a), some (.ref d), some (.int (0 + (i : Nat))), some (.ref l), some (.ref l2), x5, x6, x7, x8, none, none] ∧ Same G2 G3 ∧ RwsAt G3 l2 cs rw2 ∧ RowsB j rw2 ∧ rw2.length ≤ 40 + j ∧ FeedAt G3 H' d) ⟨G2, l, bs, rws, _, rfl, Same.refl _, R2, B0, by omega, F4⟩ (fun j σ' H' hj z => ?_) (fun σ' H' z => ?_)
      · obtain ⟨G3, l2, cs, rw2, x5, rfl, s3, R3, B3, len3, F5⟩ := z
        walk_at "go"
        refine ⟨G3, d, l2, cs, j, rw2, rfl, F5, R3, B3, by omega, fun l' cs' rw' G4 H6 s4 R4 B4 len4 F6 => ?_⟩
        walk_at "go"
        exact ⟨G4, l', cs', rw', _, rfl, s3.trans s4, R4, B4, by omega, F6⟩
      obtain ⟨G3, l2, cs, rw2, x5, rfl, s3, R3, B3, len3, F5⟩ := z
      have B3 := B3.upTo (m := 3) (by omega)
      walk_at "go"
      refine k_len (sql_lst (F5.same _ _ R3.1)) ?_
      rw [List.length_map, R3.2.1]
      walk_at "go"
      refine ⟨G3, d, 9, rfl, F5, by decide, by decide, fun t9 H6 _ _ F6 => ?_⟩
      walk_at "go"
      obtain ⟨c1, ec1, hc1⟩ : ∃ c : Int, (if decide (t9 = 0) = true then (1 : Int) else 0) = c ∧ (c = 0 ∨ c = 1) := by
        by_cases e : t9 = 0
        · exact ⟨1, by rw [if_pos (decide_eq_true e)], .inr rfl⟩
        · exact ⟨0, by rw [if_neg (by simp [e])], .inl rfl⟩
      rw [ec1]
      have l43 : rw2.length ≤ 43 := by omega
      refine k_rI (.inr ⟨by omega, by omega⟩) ?_
      obtain ⟨p1, ep1, hp1⟩ : ∃ p : Int, (41 - (rw2.length : Int)) * c1 = p ∧ (p = 0 ∨ p = 41 - (rw2.length : Int)) := by
        rcases hc1 with rfl | rfl
        · exact ⟨0, by rw [Int.mul_zero], .inl rfl⟩
        · exact ⟨_, Int.mul_one _, .inr rfl⟩
      rw [ep1]
      walk_at "go"
      refine ⟨G3, d, 2, rfl, F6, by decide, by decide, fun t2 H7 t20 t21 F7 => ?_⟩
      walk_at "go"
      refine k_len (sql_lst (F7.same _ _ R3.1)) ?_
      rw [List.length_map, R3.2.1]
      walk_at "go"
      obtain ⟨c2, ec2, hc2⟩ : ∃ c : Int, (if decide ((40 : Int) < (rw2.length : Int)) = true then (1 : Int) else 0) = c ∧ ((c = 0 ∧ rw2.length ≤ 40) ∨ (c = 1 ∧ 40 < rw2.length)) := by
        by_cases e : 40 < rw2.length
        · exact ⟨1, by rw [if_pos (decide_eq_true (by omega))], .inr ⟨rfl, e⟩⟩
        · exact ⟨0, by rw [if_neg (by simp; omega)], .inl ⟨rfl, by omega⟩⟩
      rw [ec2]
      refine k_rI (.inr ⟨by omega, by omega⟩) ?_
      obtain ⟨p2, ep2, hp2⟩ : ∃ p : Int, t2 * c2 = p ∧ 0 ≤ p ∧ p ≤ 1 ∧ (rw2.length ≤ 40 → p = 0) := by
        rcases hc2 with ⟨rfl, e⟩ | ⟨rfl, e⟩
        · exact ⟨0, by rw [Int.mul_zero], by omega, by omega, fun _ => rfl⟩
        · exact ⟨_, Int.mul_one _, by omega, by omega, fun z => by omega⟩
      rw [ep2]
      walk_at "go"
      obtain ⟨N, eN, hN⟩ : ∃ N : Nat, (p1 + p2).toNat = N ∧ rw2.length + N ≤ 44 := ⟨_, rfl, by omega⟩
      refine k_iR1 (n := N) eN (by omega) (by omega) ?_
      refine k_forR (fun j σ' H' => ∃ (G4 : Hp) (l3 : Addr) (cs3 : List Addr) (rw3 : List (List Str)) (x5 : Option V), σ' = [some (.ref a), some (.ref d), some (.int (0 + (i : Nat))), some (.ref l), some (.ref l3), x5, x6, x7, x8, none, none] ∧ Same G2 G4 ∧ RwsAt G4 l3 cs3 rw3 ∧ RowsB 3 rw3 ∧ rw3.length = rw2.length + j ∧ FeedAt G4 H' d) ⟨G3, l2, cs, rw2, _, rfl, s3, R3, B3, rfl, F7⟩ (fun j σ' H' hj z => ?_) (fun σ' H' z => ?_)
      · obtain ⟨G4, l3, cs3, rw3, x5, rfl, s4, R4, B4, len4, F8⟩ := z
        walk_at "go"
        refine k_rI ⟨by decide, by decide⟩ ?_
        walk_at "go"
        have jd : 0 ≤ (1 + (0 + (j : Int)) / 9) ∧ (1 + (0 + (j : Int)) / 9) ≤ 20 := by omega
        refine k_mulS jd.1 (by omega) (by decide +kernel) ?_
        walk_at "go"
        refine k_rI (by decide) ?_
        obtain ⟨c, hc, c1, c2⟩ := abi_at (r := (0 + (j : Int)) % 9) (Int.emod_nonneg _ (by decide)) (Int.emod_lt_of_pos _ (by decide))
        refine k_ixS (z := abi) (by have : abi.length = 9 := by decide +kernel
                                    omega) hc ?_
        walk_at "go"
        have yr := y_row jd.1 jd.2 ⟨c1, c2⟩
        have yl : (Txt.mul "y" (1 + (0 + (j : Int)) / 9)).length ≤ 20 := by
          have l := len_mul "y" (1 + (0 + (j : Int)) / 9)
          rw [show ("y" : Str).length = 1 by decide +kernel, decide_eq_false (show ¬ (1 + (0 + (j : Int)) / 9) < 0 by omega)] at l
          have l : ((Txt.mul "y" (1 + (0 + (j : Int)) / 9)).length : Int) = (1 + (0 + (j : Int)) / 9) := by simpa using l
          omega
        refine k_catS (by have : (⟨#[c]⟩ : Str).length = 1 := rfl
                          omega) ?_
        generalize Txt.mul "y" (1 + (0 + (j : Int)) / 9) ++ ⟨#[c]⟩ = yw at yr ⊢
        walk_at "go"
        refine k_lst (smallE (by simp)) fun z1 hz1 => ?_
        have z10 : G4 z1 = none := F8.same.free hz1
        have F9 := F8.new (o := .lst ([yw, "1"].map V.str)) hz1
        have s9 := L2.Same.new (o := .lst ([yw, "1"].map V.str)) z10
        have e9 : (upd G4 z1 (.lst ([yw, "1"].map V.str))) z1 = some (.lst ([yw, "1"].map V.str)) := upd_same
        rw [show (upd H' z1 (.lst [.str yw, .str "1"])) = upd H' z1 (.lst ([yw, "1"].map V.str)) from rfl]
        generalize upd G4 z1 (.lst ([yw, "1"].map V.str)) = G9 at F9 s9 e9
        generalize upd H' z1 (.lst ([yw, "1"].map V.str)) = H9 at F9 ⊢
        walk_at "go"
        refine k_lst (smallE (by simp)) fun z2 hz2 => ?_
        have n2 := L2.Same.new (o := .lst ([z1].map V.ref)) hz2
        have e2 : (upd H9 z2 (.lst ([z1].map V.ref))) z2 = some (.lst ([z1].map V.ref)) := upd_same
        rw [show (upd H9 z2 (.lst [.ref z1])) = upd H9 z2 (.lst ([z1].map V.ref)) from rfl]
        generalize upd H9 z2 (.lst ([z1].map V.ref)) = H10 at n2 e2 ⊢
        have F10 := F9.more n2
        have R9 := R4.same s9
        have cl3 := R4.2.1
        walk_at "go"
        refine k_cat (F10.same _ _ R9.1) e2 (by simp; omega) fun l4 hl4 => ?_
        rw [show cs3.map V.ref ++ [z1].map V.ref = (cs3 ++ [z1]).map V.ref by simp]
        have l40' : G9 l4 = none := F10.same.free hl4
        have F11 := F10.new (o := .lst ((cs3 ++ [z1]).map V.ref)) hl4
        have s11 := L2.Same.new (o := .lst ((cs3 ++ [z1]).map V.ref)) l40'
        walk_at "go"
        refine ⟨_, l4, cs3 ++ [z1], rw3 ++ [[yw, "1"]], _, rfl, (s4.trans s9).trans s11, ⟨upd_same, by simp [cl3], fun m b r h1 h2 => ?_⟩, ⟨by simp, by simp; omega, fun r hr => ?_⟩, by simp; omega, F11⟩
        · rcases Nat.lt_or_ge m cs3.length with lt | ge
          · rw [List.getElem?_append_left lt] at h1
            rw [List.getElem?_append_left (by omega)] at h2
            exact s11 _ _ (R9.2.2 m b r h1 h2)
          · rw [List.getElem?_append_right ge] at h1
            rw [List.getElem?_append_right (by omega)] at h2
            have e0 : m - cs3.length = 0 := by
              have := (List.getElem?_eq_some_iff.mp h1).1
              simp at this
              omega
            rw [e0] at h1
            rw [show m - rw3.length = 0 by omega] at h2
            obtain rfl := Option.some.inj h1
            obtain rfl := Option.some.inj h2
            exact s11 _ _ e9
        · rcases List.mem_append.mp hr with z | z
          · exact B4.2.2 r z
          · obtain rfl : r = [yw, "1"] := by simpa using z
            exact yr
      obtain ⟨G4, l3, cs3, rw3, x5, rfl, s4, R4, B4, len4, F8⟩ := z
      walk_at "go"
      refine ⟨G4, d, 4, rfl, F8, by decide, by decide, fun t4 H10 _ _ F10 => ?_⟩
      walk_at "go"
      have LL := lines_of B4 (by decide)
      refine ⟨l3, cs3, rw3, rfl, R4.same F10.same, LL.1, LL.2.1, LL.2.2.1, LL.2.2.2, fun H11 s11 => ?_⟩
      have F11 := F10.more s11
      walk_at "go"
      refine k_cutIf (fun σ2 H2 => ∃ (t : Str), σ2 = [some (.ref a), some (.ref d), some (.int (0 + (i : Nat))), some (.ref l), some (.ref l3), x5, some (.bl (decide (t4 = 1))), some (.str t), x8, none, none] ∧ TxB t ∧ FeedAt G4 H2 d) ?_ ?_
      rotate_left
      · intro M hM
        refine k_ifP (fun e => ?_) (fun e => ?_)
        · walk_at "go"
          refine ⟨G4, d, 3, rw3, rfl, F11, B4, by decide, fun t H12 tB F12 => ?_⟩
          walk_at "go"
          exact hM _ _ ⟨t, rfl, tB, F12⟩
        · walk_at "go"
          exact hM _ _ ⟨_, rfl, txR_B B4 (by decide), F11⟩
      rintro σ2 H12 ⟨t, rfl, tB, F12⟩
      walk_at "go"
      refine ⟨rfl, ?_⟩
      walk_at "go"
      refine ⟨t, "\n", rfl, rfl, ?_⟩
      walk_at "go"
      obtain ⟨n, hn⟩ : ∃ n, (Txt.split t "\n").length = n := ⟨_, rfl⟩
      have ecn : Txt.count t "\n" + 1 = (n : Int) := by
        have := split_count t 10
        rw [show (⟨#[10]⟩ : Str) = "\n" by decide +kernel] at this
        omega
      rw [ecn]
      refine k_tup (smallE (by simp)) fun u1 hu1 => ?_
      have F13 := F12.more (L2.Same.new (o := .tup [.str "read", .int (n : Nat)]) hu1)
      have e13 : (upd H12 u1 (.tup [.str "read", .int (n : Nat)])) u1 = some (.tup [.str "read", .int (n : Nat)]) := upd_same
      generalize upd H12 u1 (.tup [.str "read", .int (n : Nat)]) = H13 at F13 e13 ⊢
      walk_at "go"
      refine ⟨t, rfl, tB, fun dd H14 s14 hdd => ?_⟩
      have F14 := F13.more s14
      have e14 := s14 _ _ e13
      walk_at "go"
      refine k_cutIf (fun σ2 H2 => ∃ (u : Addr), σ2 = [some (.ref a), some (.ref d), some (.int (0 + (i : Nat))), some (.ref l), some (.ref l3), x5, some (.bl (decide (t4 = 1))), some (.str t), some (.ref u), none, none] ∧ H2 u = some (.tup [.str (toldS dd), .int (toldN n dd : Nat)]) ∧ FeedAt G4 H2 d) ?_ ?_
      rotate_left
      · intro M hM
        cases dd with
        | none =>
          refine k_ifF' (by simp [dueV]) ?_
          walk_at "go"
          exact hM _ _ ⟨u1, rfl, e14, F14⟩
        | some m =>
          refine k_ifT' (by simp [dueV]) ?_
          walk_at "go"
          refine ⟨t, rfl, tB, fun d2 H15 s15 hd2 => ?_⟩
          obtain rfl := hd2.one hdd
          walk_at "go"
          refine k_tup (smallE (by simp)) fun u2 hu2 => ?_
          walk_at "go"
          exact hM _ _ ⟨u2, rfl, upd_same, (F14.more s15).more (L2.Same.new hu2)⟩
      rintro σ2 H15 ⟨u, rfl, e15, F15⟩
      have gdd := gd_due D2 l1
      have tB0 := txR_B B0 (by decide)
      have L0 := lines_of B0 (by decide)
      have R4l := R2.same s4
      walk_at "go"
      refine ⟨.str t, rfl, fun t' e => by cases e; exact tB, fun z => absurd rfl (z t), fun t' e d1 v1 H16 hd1 s16 hv1 => ?_, fun z => absurd rfl (z t)⟩
      cases e
      obtain rfl := hd1.one hdd
      rw [hn] at hv1
      walk_at "go"
      refine k_neTold (told_ok _) hv1 (s16 _ _ e15) ?_
      have F16 := F15.more s16
      walk_at "go"
      refine ⟨l, bs, rws, rfl, R4l.same F16.same, L0.1, L0.2.1, L0.2.2.1, L0.2.2.2, fun H17 s17 => ?_⟩
      have F17 := F16.more s17
      walk_at "go"
      refine ⟨.str (txR rws), rfl, fun t' e => by cases e; exact tB0, fun z => absurd rfl (z _), fun t' e d2 v2 H18 hd2 s18 hv2 => ?_, fun z => absurd rfl (z _)⟩
      cases e
      obtain rfl := hd2.one gdd.1
      rw [gdd.2] at hv2
      have F18 := F17.more s18
      walk_at "go"
      refine k_len (sql_lst (F18.same _ _ R4l.1)) ?_
      rw [List.length_map, R4l.2.1]
      walk_at "go"
      refine k_tup (smallE (by simp)) fun u3 hu3 => ?_
      have n3 := L2.Same.new (o := .tup [.str "read", .int (rws.length : Nat)]) hu3
      refine k_neTold (told_ok none) (n3 _ _ hv2) upd_same ?_
      have s19 := ((s16.trans s17).trans s18).trans n3
      generalize upd H18 u3 (.tup [.str "read", .int (rws.length : Nat)]) = H19 at s19 ⊢
      have F19 := F15.more s19
      walk_at "go"
      refine ⟨.str t, rfl, fun t' e => by cases e; exact tB, fun z => absurd rfl (z t), fun t' e d3 v3 H20 hd3 s20 hv3 => ?_, fun z => absurd rfl (z t)⟩
      cases e
      obtain rfl := hd3.one hdd
      rw [hn] at hv3
      walk_at "go"
      refine k_neTold (told_ok _) hv3 (s20 _ _ (s19 _ _ e15)) ?_
      walk_at "go"
      exact ⟨G4, _, _, _, _, _, _, _, rfl, F19.more s20, fun _ => ⟨l, bs, st, rws, rfl, R4l, D2, l1⟩⟩
    obtain ⟨G1, x2, x3, x4, x5, x6, x7, x8, rfl, F2, gd⟩ := z
    obtain ⟨l, bs, st, rws, rfl, R2, D2, l1⟩ := gd (by decide)
    have B0 := D2.rowsB l1
    walk_at "go"
    refine k_slL (sql_lst (F2.same _ _ R2.1)) fun sl hsl => ?_
    rw [show cutV (bs.map V.ref) none (some 3) = (bs.take 3).map V.ref by rw [show (3 : Int) = ((3 : Nat) : Int) from rfl, cut_take, List.map_take]]
    have sl0 : G1 sl = none := F2.same.free hsl
    have F3 := F2.new (o := .lst ((bs.take 3).map V.ref)) hsl
    have s3 := L2.Same.new (o := .lst ((bs.take 3).map V.ref)) sl0
    have e0 : (upd G1 sl (.lst ((bs.take 3).map V.ref))) sl = some (.lst ((bs.take 3).map V.ref)) := upd_same
    generalize upd G1 sl (.lst ((bs.take 3).map V.ref)) = G2 at F3 s3 e0
    generalize upd H' sl (.lst ((bs.take 3).map V.ref)) = H2 at F3 ⊢
    have R3 := R2.same s3
    walk_at "go"
    refine ⟨G2, d, 200, rfl, F3, by decide, by decide, fun tn H4 n0 n1 F4 => ?_⟩
    walk_at "go"
    refine k_mulS (by omega) (by omega) (by decide +kernel) ?_
    have nine := nine_len (n := 4301 + tn) (by omega) (by omega)
    generalize Txt.mul "9" (4301 + tn) = nn at nine ⊢
    walk_at "go"
    refine k_lst (smallE (by simp)) fun z1 hz1 => ?_
    have m1 := L2.Same.new (o := .lst ([("zz" : Str), nn].map V.str)) hz1
    have e1 : (upd H4 z1 (.lst ([("zz" : Str), nn].map V.str))) z1 = some (.lst ([("zz" : Str), nn].map V.str)) := upd_same
    rw [show (upd H4 z1 (.lst [.str "zz", .str nn])) = upd H4 z1 (.lst ([("zz" : Str), nn].map V.str)) from rfl]
    generalize upd H4 z1 (.lst ([("zz" : Str), nn].map V.str)) = H5 at m1 e1 ⊢
    have F5 := F4.more m1
    walk_at "go"
    refine k_lst (smallE (by simp)) fun z2 hz2 => ?_
    have m2 := L2.Same.new (o := .lst ([z1].map V.ref)) hz2
    have e2 : (upd H5 z2 (.lst ([z1].map V.ref))) z2 = some (.lst ([z1].map V.ref)) := upd_same
    rw [show (upd H5 z2 (.lst [.ref z1])) = upd H5 z2 (.lst ([z1].map V.ref)) from rfl]
    have e1 := m2 _ _ e1
    generalize upd H5 z2 (.lst ([z1].map V.ref)) = H6 at m2 e2 e1 ⊢
    have F6 := F5.more m2
    have bl := R2.2.1
    walk_at "go"
    refine k_cat (F6.same _ _ e0) e2 (by simp; omega) fun l5 hl5 => ?_
    rw [show (bs.take 3).map V.ref ++ [z1].map V.ref = (bs.take 3 ++ [z1]).map V.ref by simp]
    have m3 := L2.Same.new (o := .lst ((bs.take 3 ++ [z1]).map V.ref)) hl5
    have e5 : (upd H6 l5 (.lst ((bs.take 3 ++ [z1]).map V.ref))) l5 = some (.lst ((bs.take 3 ++ [z1]).map V.ref)) := upd_same
    have e1 := m3 _ _ e1
    generalize upd H6 l5 (.lst ((bs.take 3 ++ [z1]).map V.ref)) = H7 at m3 e5 e1 ⊢
    have F7 := F6.more m3
    have R7 := R3.same F7.same
    have tk : (bs.take 3).length = (rws.take 3).length := by rw [List.length_take, List.length_take, bl]
    have RG : RwsAt H7 l5 (bs.take 3 ++ [z1]) (rws.take 3 ++ [[("zz" : Str), nn]]) := ⟨e5, by simp [bl], fun m b r h1 h2 => by
      rcases Nat.lt_or_ge m (bs.take 3).length with lt | ge
      · rw [List.getElem?_append_left lt] at h1
        rw [List.getElem?_append_left (by omega)] at h2
        rw [List.getElem?_take] at h1 h2
        have m3 : m < 3 := by rw [List.length_take] at lt; omega
        rw [if_pos m3] at h1 h2
        exact R7.2.2 m b r h1 h2
      · rw [List.getElem?_append_right ge] at h1
        rw [List.getElem?_append_right (by omega)] at h2
        have e0 : m - (bs.take 3).length = 0 := by
          have := (List.getElem?_eq_some_iff.mp h1).1
          simp at this
          rw [List.length_take]
          omega
        rw [e0] at h1
        rw [show m - (rws.take 3).length = 0 by omega] at h2
        obtain rfl := Option.some.inj h1
        obtain rfl := Option.some.inj h2
        exact e1⟩
    have GL := great_len B0 (nine := nn) nine.2.1 nine.2.2
    have GD := great_due D2 l1 (nine := nn) nine.1 fun c hc => (nine.2.2 c hc).1
    walk_at "go"
    refine ⟨l5, _, _, rfl, RG, GL.1, GL.2.1, GL.2.2.1, GL.2.2.2.1, fun H8 s8 => ?_⟩
    have F8 := F7.more s8
    walk_at "go"
    refine ⟨.str _, rfl, fun t' e => by cases e; exact GL.2.2.2.2, fun z => absurd rfl (z _), fun t' e d1 v1 H9 hd1 s9 hv1 => ?_, fun z => absurd rfl (z _)⟩
    cases e
    obtain rfl := hd1.one GD
    walk_at "go"
    refine k_len (sql_lst (s9 _ _ (s8 _ _ e5))) ?_
    walk_at "go"
    rw [show ((((bs.take 3 ++ [z1]).map V.ref).length : Nat) : Int) - 1 = ((toldN (Txt.split (txR (rws.take 3 ++ [[("zz" : Str), nn]])) "\n").length (some (rws.take 3).length) : Nat) : Int) by
      rw [List.length_map, List.length_append, List.length_singleton, tk]
      show (((rws.take 3).length + 1 : Nat) : Int) - 1 = (((rws.take 3).length : Nat) : Int)
      omega]
    refine k_tup (smallE (by simp)) fun u3 hu3 => ?_
    have m9 := L2.Same.new (o := .tup [.str "no", .int (toldN (Txt.split (txR (rws.take 3 ++ [[("zz" : Str), nn]])) "\n").length (some (rws.take 3).length) : Nat)]) hu3
    have F9 := (F8.more s9).more m9
    refine k_neTold (told_ok (some 0)) (m9 _ _ hv1) upd_same ?_
    generalize upd H9 u3 (.tup [.str "no", .int (toldN (Txt.split (txR (rws.take 3 ++ [[("zz" : Str), nn]])) "\n").length (some (rws.take 3).length) : Nat)]) = H10 at F9 ⊢
    walk_at "go"
    refine k_lst (smallE (by simp)) fun q1 hq1 => ?_
    have g1 : G2 q1 = none := F9.same.free hq1
    have F10 := F9.new (o := .lst [.str "a 1"]) hq1
    have t1 := L2.Same.new (o := .lst [.str "a 1"]) g1
    have d1 : (upd G2 q1 (.lst [.str "a 1"])) q1 = some (.lst [.str "a 1"]) := upd_same
    generalize upd G2 q1 (.lst [.str "a 1"]) = G3 at F10 t1 d1
    generalize upd H10 q1 (.lst [.str "a 1"]) = H11 at F10 ⊢
    walk_at "go"
    refine k_tup (smallE (by simp)) fun q2 hq2 => ?_
    have g2 : G3 q2 = none := F10.same.free hq2
    have F11 := F10.new (o := .tup [.str "a 1"]) hq2
    have t2 := L2.Same.new (o := .tup [.str "a 1"]) g2
    have d2 : (upd G3 q2 (.tup [.str "a 1"])) q2 = some (.tup [.str "a 1"]) := upd_same
    have d1 := t2 _ _ d1
    generalize upd G3 q2 (.tup [.str "a 1"]) = G4 at F11 t2 d2 d1
    generalize upd H11 q2 (.tup [.str "a 1"]) = H12 at F11 ⊢
    walk_at "go"
    refine k_lst (smallE (by simp)) fun q3 hq3 => ?_
    have g3 : G4 q3 = none := F11.same.free hq3
    have F12 := F11.new (o := .lst [.non, .int 7, .bl true, .ref q1, .ref q2, .int (-1)]) hq3
    have t3 := L2.Same.new (o := .lst [.non, .int 7, .bl true, .ref q1, .ref q2, .int (-1)]) g3
    have d3 : (upd G4 q3 (.lst [.non, .int 7, .bl true, .ref q1, .ref q2, .int (-1)])) q3 = some (.lst [.non, .int 7, .bl true, .ref q1, .ref q2, .int (-1)]) := upd_same
    have d1 := t3 _ _ d1
    have d2 := t3 _ _ d2
    generalize upd G4 q3 (.lst [.non, .int 7, .bl true, .ref q1, .ref q2, .int (-1)]) = G5 at F12 t3 d3 d2 d1
    generalize upd H12 q3 (.lst [.non, .int 7, .bl true, .ref q1, .ref q2, .int (-1)]) = H13 at F12 ⊢
    walk_at "go"
    refine ⟨G5, d, 6, rfl, F12, by decide, by decide, fun r6 H14 r60 r61 F13 => ?_⟩
    obtain ⟨v, ev, nv, tv⟩ : ∃ v : V, atI [.non, .int 7, .bl true, .ref q1, .ref q2, .int (-1)] r6 = some v ∧ (∀ t : Str, v ≠ .str t) ∧ ∃ a : String, TyX K H14 v (.type a) ∧ kitB a "str" = some false := by
      have : r6 = 0 ∨ r6 = 1 ∨ r6 = 2 ∨ r6 = 3 ∨ r6 = 4 ∨ r6 = 5 := by omega
      rcases this with rfl | rfl | rfl | rfl | rfl | rfl
      · exact ⟨.non, rfl, fun t e => (nomatch e), "NoneType", .base .non, by decide +kernel⟩
      · exact ⟨.int 7, rfl, fun t e => (nomatch e), "int", .base (.int 7), by decide +kernel⟩
      · exact ⟨.bl true, rfl, fun t e => (nomatch e), "bool", .base (.bl true), by decide +kernel⟩
      · exact ⟨.ref q1, rfl, fun t e => (nomatch e), "list", .base (.lst (F13.same _ _ d1)), by decide +kernel⟩
      · exact ⟨.ref q2, rfl, fun t e => (nomatch e), "tuple", .base (.tup (F13.same _ _ d2)), by decide +kernel⟩
      · exact ⟨.int (-1), rfl, fun t e => (nomatch e), "int", .base (.int (-1)), by decide +kernel⟩
    refine k_ixL (sql_lst (F13.same _ _ d3)) ev ?_
    walk_at "go"
    refine ⟨v, rfl, fun t e => absurd e (nv t), fun _ => tv, fun t e => absurd e (nv t), fun _ u4 H15 s15 hu4 => ?_⟩
    walk_at "go"
    refine k_tup (smallE (by simp)) fun u5 hu5 => ?_
    have m5 := L2.Same.new (o := .tup [.str "no", .int 0]) hu5
    refine k_eqToldS (by decide +kernel) (m5 _ _ hu4) upd_same ?_
    generalize upd H15 u5 (.tup [.str "no", .int 0]) = H16
    walk_at "go"
    refine ⟨.str "", rfl, fun t e => by cases e; exact tx_empty, fun z => absurd rfl (z _), fun t' e d9 v9 H17 hd9 s17 hv9 => ?_, fun z => absurd rfl (z _)⟩
    cases e
    obtain rfl := hd9.one due_empty
    walk_at "go"
    refine k_tup (smallE (by simp)) fun u6 hu6 => ?_
    have m6 := L2.Same.new (o := .tup [.str "no", .int 0]) hu6
    refine k_eqToldS (by decide +kernel) (m6 _ _ hv9) upd_same ?_
    exact q _
end
theorem all_mk {l : PySem.W.OpenLaw} {w : World} {K : PySem.W.Frag} {h : Heap} {mg : Str → Option Value} {fa : Addr} (X : K.In h) (G : h.Ns mainGlobals mg) (hfa : mg "law" = some (.ref fa))
    {f0 : Addr} {od0 an0 : Option Addr} {sl0 : Array (Option Value)} {oc0 kV0 dc0 pm0 cd0 ct0 : Value}
    (a0 : PySem.W.nsIn K mainGlobals "_law_feed" = some (some (.ref f0))) (l0 : K.lookup f0 = some ⟨oc0, od0, .func (PySem.W.fnOf "_law_feed" "_law_feed" (defArgs s_feed) (defBody s_feed) (defScope s_feed) .none kV0 dc0 pm0 an0 cd0 ct0), sl0⟩) (c0 : PySem.W.codeIn K cd0 "_law_feed" = true) (k0 : PySem.W.keepIn K (.ref f0) = true)
    {f1 : Addr} {od1 an1 : Option Addr} {sl1 : Array (Option Value)} {oc1 kV1 dc1 pm1 cd1 ct1 : Value}
    (a1 : PySem.W.nsIn K mainGlobals "_law_take" = some (some (.ref f1))) (l1 : K.lookup f1 = some ⟨oc1, od1, .func (PySem.W.fnOf "_law_take" "_law_take" (defArgs s_take) (defBody s_take) (defScope s_take) .none kV1 dc1 pm1 an1 cd1 ct1), sl1⟩) (c1 : PySem.W.codeIn K cd1 "_law_take" = true) (k1 : PySem.W.keepIn K (.ref f1) = true)
    {f2 : Addr} {od2 an2 : Option Addr} {sl2 : Array (Option Value)} {oc2 kV2 dc2 pm2 cd2 ct2 : Value}
    (a2 : PySem.W.nsIn K mainGlobals "_law_rows" = some (some (.ref f2))) (l2 : K.lookup f2 = some ⟨oc2, od2, .func (PySem.W.fnOf "_law_rows" "_law_rows" (defArgs s_rows) (defBody s_rows) (defScope s_rows) .none kV2 dc2 pm2 an2 cd2 ct2), sl2⟩) (c2 : PySem.W.codeIn K cd2 "_law_rows" = true) (k2 : PySem.W.keepIn K (.ref f2) = true)
    {f3 : Addr} {od3 an3 : Option Addr} {sl3 : Array (Option Value)} {oc3 kV3 dc3 pm3 cd3 ct3 : Value}
    (a3 : PySem.W.nsIn K mainGlobals "_law_spoiled" = some (some (.ref f3))) (l3 : K.lookup f3 = some ⟨oc3, od3, .func (PySem.W.fnOf "_law_spoiled" "_law_spoiled" (defArgs s_spoiled) (defBody s_spoiled) (defScope s_spoiled) .none kV3 dc3 pm3 an3 cd3 ct3), sl3⟩) (c3 : PySem.W.codeIn K cd3 "_law_spoiled" = true) (k3 : PySem.W.keepIn K (.ref f3) = true)
    {f4 : Addr} {od4 an4 : Option Addr} {sl4 : Array (Option Value)} {oc4 kV4 dc4 pm4 cd4 ct4 : Value}
    (a4 : PySem.W.nsIn K mainGlobals "_law_signed" = some (some (.ref f4))) (l4 : K.lookup f4 = some ⟨oc4, od4, .func (PySem.W.fnOf "_law_signed" "_law_signed" (defArgs s_signed) (defBody s_signed) (defScope s_signed) .none kV4 dc4 pm4 an4 cd4 ct4), sl4⟩) (c4 : PySem.W.codeIn K cd4 "_law_signed" = true) (k4 : PySem.W.keepIn K (.ref f4) = true)
    {f5 : Addr} {od5 an5 : Option Addr} {sl5 : Array (Option Value)} {oc5 kV5 dc5 pm5 cd5 ct5 : Value}
    (a5 : PySem.W.nsIn K mainGlobals "_law_is_name" = some (some (.ref f5))) (l5 : K.lookup f5 = some ⟨oc5, od5, .func (PySem.W.fnOf "_law_is_name" "_law_is_name" (defArgs s_law_is_name) (defBody s_law_is_name) (defScope s_law_is_name) .none kV5 dc5 pm5 an5 cd5 ct5), sl5⟩) (c5 : PySem.W.codeIn K cd5 "_law_is_name" = true) (k5 : PySem.W.keepIn K (.ref f5) = true)
    {f6 : Addr} {od6 an6 : Option Addr} {sl6 : Array (Option Value)} {oc6 kV6 dc6 pm6 cd6 ct6 : Value}
    (a6 : PySem.W.nsIn K mainGlobals "_law_is_price" = some (some (.ref f6))) (l6 : K.lookup f6 = some ⟨oc6, od6, .func (PySem.W.fnOf "_law_is_price" "_law_is_price" (defArgs s_law_is_price) (defBody s_law_is_price) (defScope s_law_is_price) .none kV6 dc6 pm6 an6 cd6 ct6), sl6⟩) (c6 : PySem.W.codeIn K cd6 "_law_is_price" = true) (k6 : PySem.W.keepIn K (.ref f6) = true)
    {f7 : Addr} {od7 an7 : Option Addr} {sl7 : Array (Option Value)} {oc7 kV7 dc7 pm7 cd7 ct7 : Value}
    (a7 : PySem.W.nsIn K mainGlobals "_law_due" = some (some (.ref f7))) (l7 : K.lookup f7 = some ⟨oc7, od7, .func (PySem.W.fnOf "_law_due" "_law_due" (defArgs s_due) (defBody s_due) (defScope s_due) .none kV7 dc7 pm7 an7 cd7 ct7), sl7⟩) (c7 : PySem.W.codeIn K cd7 "_law_due" = true) (k7 : PySem.W.keepIn K (.ref f7) = true)
    {f8 : Addr} {od8 an8 : Option Addr} {sl8 : Array (Option Value)} {oc8 kV8 dc8 pm8 cd8 ct8 : Value}
    (a8 : PySem.W.nsIn K mainGlobals "_law_told" = some (some (.ref f8))) (l8 : K.lookup f8 = some ⟨oc8, od8, .func (PySem.W.fnOf "_law_told" "_law_told" (defArgs s_told) (defBody s_told) (defScope s_told) .none kV8 dc8 pm8 an8 cd8 ct8), sl8⟩) (c8 : PySem.W.codeIn K cd8 "_law_told" = true) (k8 : PySem.W.keepIn K (.ref f8) = true)
    {f9 : Addr} {od9 an9 : Option Addr} {sl9 : Array (Option Value)} {oc9 kV9 dc9 pm9 cd9 ct9 : Value}
    (a9 : PySem.W.nsIn K mainGlobals "_law_lines" = some (some (.ref f9))) (l9 : K.lookup f9 = some ⟨oc9, od9, .func (PySem.W.fnOf "_law_lines" "_law_lines" (defArgs s_lines) (defBody s_lines) (defScope s_lines) .none kV9 dc9 pm9 an9 cd9 ct9), sl9⟩) (c9 : PySem.W.codeIn K cd9 "_law_lines" = true) (k9 : PySem.W.keepIn K (.ref f9) = true)
    {f10 : Addr} {od10 an10 : Option Addr} {sl10 : Array (Option Value)} {oc10 kV10 dc10 pm10 cd10 ct10 : Value}
    (a10 : PySem.W.nsIn K mainGlobals "read_net" = some (some (.ref f10))) (l10 : K.lookup f10 = some ⟨oc10, od10, .func (PySem.W.fnOf "read_net" "read_net" (defArgs s_read_net) (defBody s_read_net) (defScope s_read_net) .none kV10 dc10 pm10 an10 cd10 ct10), sl10⟩) (c10 : PySem.W.codeIn K cd10 "read_net" = true) (k10 : PySem.W.keepIn K (.ref f10) = true)
    {f11 : Addr} {od11 an11 : Option Addr} {sl11 : Array (Option Value)} {oc11 kV11 dc11 pm11 cd11 ct11 : Value}
    (a11 : PySem.W.nsIn K mainGlobals "_is_row" = some (some (.ref f11))) (l11 : K.lookup f11 = some ⟨oc11, od11, .func (PySem.W.fnOf "_is_row" "_is_row" (defArgs s_is_row) (defBody s_is_row) (defScope s_is_row) .none kV11 dc11 pm11 an11 cd11 ct11), sl11⟩) (c11 : PySem.W.codeIn K cd11 "_is_row" = true) (k11 : PySem.W.keepIn K (.ref f11) = true)
    {f12 : Addr} {od12 an12 : Option Addr} {sl12 : Array (Option Value)} {oc12 kV12 dc12 pm12 cd12 ct12 : Value}
    (a12 : PySem.W.nsIn K mainGlobals "_is_name" = some (some (.ref f12))) (l12 : K.lookup f12 = some ⟨oc12, od12, .func (PySem.W.fnOf "_is_name" "_is_name" (defArgs s_is_name) (defBody s_is_name) (defScope s_is_name) .none kV12 dc12 pm12 an12 cd12 ct12), sl12⟩) (c12 : PySem.W.codeIn K cd12 "_is_name" = true) (k12 : PySem.W.keepIn K (.ref f12) = true)
    {f13 : Addr} {od13 an13 : Option Addr} {sl13 : Array (Option Value)} {oc13 kV13 dc13 pm13 cd13 ct13 : Value}
    (a13 : PySem.W.nsIn K mainGlobals "_is_price" = some (some (.ref f13))) (l13 : K.lookup f13 = some ⟨oc13, od13, .func (PySem.W.fnOf "_is_price" "_is_price" (defArgs s_is_price) (defBody s_is_price) (defScope s_is_price) .none kV13 dc13 pm13 an13 cd13 ct13), sl13⟩) (c13 : PySem.W.codeIn K cd13 "_is_price" = true) (k13 : PySem.W.keepIn K (.ref f13) = true)
    {f14 : Addr} {od14 an14 : Option Addr} {sl14 : Array (Option Value)} {oc14 kV14 dc14 pm14 cd14 ct14 : Value}
    (a14 : PySem.W.nsIn K mainGlobals "law" = some (some (.ref f14))) (l14 : K.lookup f14 = some ⟨oc14, od14, .func (PySem.W.fnOf "law" "law" (defArgs s_law) (defBody s_law) (defScope s_law) .none kV14 dc14 pm14 an14 cd14 ct14), sl14⟩) (c14 : PySem.W.codeIn K cd14 "law" = true) (k14 : PySem.W.keepIn K (.ref f14) = true)
    {v_MOST_LETTERS : Value} (q_MOST_LETTERS : PySem.W.nsIn K mainGlobals "MOST_LETTERS" = some (some v_MOST_LETTERS)) (e_MOST_LETTERS : ∃ t, v_MOST_LETTERS = .int 8 t)
    {v_LETTERS : Value} (q_LETTERS : PySem.W.nsIn K mainGlobals "LETTERS" = some (some v_LETTERS)) (e_LETTERS : ∃ t, v_LETTERS = .str abc t)
    {v_MOST_FIGURES : Value} (q_MOST_FIGURES : PySem.W.nsIn K mainGlobals "MOST_FIGURES" = some (some v_MOST_FIGURES)) (e_MOST_FIGURES : ∃ t, v_MOST_FIGURES = .int 31 t)
    {v_FIGURES : Value} (q_FIGURES : PySem.W.nsIn K mainGlobals "FIGURES" = some (some v_FIGURES)) (e_FIGURES : ∃ t, v_FIGURES = .str figS t)
    {v_MOST_MAKES : Value} (q_MOST_MAKES : PySem.W.nsIn K mainGlobals "MOST_MAKES" = some (some v_MOST_MAKES)) (e_MOST_MAKES : ∃ t, v_MOST_MAKES = .int 40 t)
    (z_len : PySem.W.nsIn K mainGlobals "len" = some none)    (z_range : PySem.W.nsIn K mainGlobals "range" = some none)    (z_list : PySem.W.nsIn K mainGlobals "list" = some none)    (z_tuple : PySem.W.nsIn K mainGlobals "tuple" = some none)    (z_isinstance : PySem.W.nsIn K mainGlobals "isinstance" = some none)    (z_zip : PySem.W.nsIn K mainGlobals "zip" = some none)    (z_enumerate : PySem.W.nsIn K mainGlobals "enumerate" = some none)    (z_sorted : PySem.W.nsIn K mainGlobals "sorted" = some none)    (z_set : PySem.W.nsIn K mainGlobals "set" = some none)    (z_all : PySem.W.nsIn K mainGlobals "all" = some none)    (z_any : PySem.W.nsIn K mainGlobals "any" = some none)    (z_min : PySem.W.nsIn K mainGlobals "min" = some none)    (z_max : PySem.W.nsIn K mainGlobals "max" = some none)    (z_int : PySem.W.nsIn K mainGlobals "int" = some none)    (z_bool : PySem.W.nsIn K mainGlobals "bool" = some none)    (z_str : PySem.W.nsIn K mainGlobals "str" = some none)    (z_dict : PySem.W.nsIn K mainGlobals "dict" = some none)    (z_sum : PySem.W.nsIn K mainGlobals "sum" = some none)    (z_ValueError : PySem.W.nsIn K mainGlobals "ValueError" = some none)
    {C CH fI cc cI o1 o2 o3 o4 o5 o6 o7 o8 o9 o10 o11 : Addr} {nmC qC : Str} {NC : Addr} {bsC bmC : List Value} {snC : List Str} {subC : List Value} {abC : Bool} {colC : Option Bool} {ddC : Option Addr} {kC0 kC1 kC2 kC3 kC5 : Option Value}
    {ocI kVI docI pmI ctI clI cclI : Value} {odI anI cldI cddI : Option Addr} {oslI cslI ccsI : Array (Option Value)} {vsI : Array Value} {fileI : Str} {tfI : Tok}
    (xC : PySem.W.nsIn K mainGlobals "NoText" = some (some (.ref C)))
    (xH : PySem.W.nsIn K mainGlobals "HuntError" = some (some (.ref CH)))
    (xL : K.lookup C = some (excClassObj nmC qC C NC bsC bmC true snC subC abC colC ddC kC0 kC1 kC2 kC3 kC5 "ValueError.__new__"))
    (xM : PySem.HandSPX.refsVE bmC = true)
    (xsa : PySem.W.findIn K (.ref C) "__setattr__" = some (some (.builtin "object.__setattr__")))
    (xga : PySem.W.findIn K (.ref C) "__getattribute__" = some (some (.builtin "BaseException.__getattribute__")))
    (xgg : PySem.W.findIn K (.ref C) "__getattr__" = some none)
    (xno : PySem.W.findIn K (.ref C) "row" = some none)
    (xI : PySem.W.findIn K (.ref C) "__init__" = some (some (.ref fI)))
    (xcl : PySem.W.findIn K (.ref C) "__class__" = some (some (.builtin "object.__class__")))
    (xT : PySem.W.typeIn K (.ref fI) = some (.type "function"))
    (xl : K.lookup fI = some (⟨ocI, odI, .func (PySem.W.fnX "__init__" "NoText.__init__" (defArgs i_NoText) (defBody i_NoText) (defScope i_NoText) [("__class__", cc)] .none kVI docI pmI anI (.ref cI) ctI), oslI⟩ : Obj))
    (xcd : PySem.W.codeIn K (.ref cI) "NoText.__init__" = true)
    (xk : PySem.W.keepIn K (.ref C) = true)
    (xB : PySem.W.subIn K (.ref C) (.type "BaseException") = some true)
    (xV : PySem.W.subIn K (.ref C) (.type "ValueError") = some true)
    (xt : PySem.W.typeIn K (.ref C) = some (.type "type"))
    (xd : PySem.W.hasDictIn K C = true)
    (xi : PySem.W.isClsIn K C = true)
    (xHB : PySem.W.subIn K (.ref CH) (.type "BaseException") = some true)
    (xHd : PySem.W.hasDictIn K CH = true)
    (xHt : PySem.W.typeIn K (.ref CH) = some (.type "type"))
    (xCH : PySem.W.subIn K (.ref C) (.ref CH) = some true)
    (xce : K.lookup cc = some (⟨clI, cldI, .cell (some (.ref C)), cslI⟩ : Obj))
    (xco : K.lookup cI = some (⟨cclI, cddI, .fields vsI, ccsI⟩ : Obj))
    (xfi : vsI[2]? = some (.str fileI tfI))
    (xfe : ((l.prog.main.file : Str) == fileI) = true)
    (xto : (l.prog.main.scope.names.lookup ("super" : Str)).isSome = false)
    (xsu : PySem.W.nsIn K mainGlobals "super" = some none)
    (xan : PySem.W.nsIn K cStatics "thirdparty.any" = some none)
    (xmC : PySem.W.mroIn K C (.ref C) = some true)
    (xmo : PySem.W.mroIn K C (.type "object") = some true)
    (xsi : PySem.W.ks_superIn K C C "__init__" = some (some (.builtin "ValueError.__init__")))
    (xgs : PySem.W.specialIn K (.builtin "object.__class__") "__get__" = some (some (.builtin "getset_descriptor.__get__")))
    (xtk : PySem.W.takesIn K (.builtin "object.__class__") = some true)
    (xk1 : PySem.W.kitOne K (.ref C) (.ref C) = some true)
    (xkV : PySem.W.kitOne K (.ref C) (.type "ValueError") = some true)
    (x1 : PySem.W.nsIn K mainGlobals "NoNet" = some (some (.ref o1)))
    (x2 : PySem.W.nsIn K mainGlobals "NoOrder" = some (some (.ref o2)))
    (x3 : PySem.W.nsIn K mainGlobals "NoMake" = some (some (.ref o3)))
    (x4 : PySem.W.nsIn K mainGlobals "NoTrial" = some (some (.ref o4)))
    (x5 : PySem.W.nsIn K mainGlobals "NoTruth" = some (some (.ref o5)))
    (x6 : PySem.W.nsIn K mainGlobals "NoPlan" = some (some (.ref o6)))
    (x7 : PySem.W.nsIn K mainGlobals "NoBook" = some (some (.ref o7)))
    (x8 : PySem.W.nsIn K mainGlobals "TooGreat" = some (some (.ref o8)))
    (x9 : PySem.W.nsIn K mainGlobals "NoName" = some (some (.ref o9)))
    (x10 : PySem.W.nsIn K mainGlobals "NothingTold" = some (some (.ref o10)))
    (x11 : PySem.W.nsIn K mainGlobals "NoRow" = some (some (.ref o11)))
    (xkA : PySem.W.kitAny K (.ref C) [.ref o1, .ref o2, .ref o3, .ref o4, .ref o5, .ref o6, .ref o7, .ref o8, .ref o9, .ref o10, .ref o11] = some false)
    {aA : Addr} {dA : Option Addr} {nA : Nat} {sA : Array (Option Value)} {ta tb : Tok}
    (xA : PySem.W.nsIn K mainGlobals "NO_NAMES" = some (some (.ref aA)))
    (yA : K.lookup aA = some (⟨.type "tuple", dA, .seq #[.str "none" ta, .str "open" tb] nA, sA⟩ : Obj))
    : ∃ fd : FuncData, (∀ (s : Shared) (v : Value), BindsTo s fd ⟨[v], []⟩ [("_law_script", v)]) ∧ ∀ base : Heap, K.In base → base.Ns mainGlobals mg → FnOk l.prog w K mg base CX0 7 fa fd ["_law_script"] (spLaw K) := by
  have B : Bl mg := ⟨PySem.W.mg_none_of X G z_len, PySem.W.mg_none_of X G z_range, PySem.W.mg_none_of X G z_list, PySem.W.mg_none_of X G z_tuple, PySem.W.mg_none_of X G z_isinstance, PySem.W.mg_none_of X G z_zip, PySem.W.mg_none_of X G z_enumerate, PySem.W.mg_none_of X G z_sorted, PySem.W.mg_none_of X G z_set, PySem.W.mg_none_of X G z_all, PySem.W.mg_none_of X G z_any, PySem.W.mg_none_of X G z_min, PySem.W.mg_none_of X G z_max, PySem.W.mg_none_of X G z_int, PySem.W.mg_none_of X G z_bool, PySem.W.mg_none_of X G z_str, PySem.W.mg_none_of X G z_dict, PySem.W.mg_none_of X G z_sum, PySem.W.mg_none_of X G z_ValueError⟩
  have T_feed : DefAt K mg "_law_feed" s_feed := defAt_mk X G a0 l0 c0 k0
  have T_take : DefAt K mg "_law_take" s_take := defAt_mk X G a1 l1 c1 k1
  have T_rows : DefAt K mg "_law_rows" s_rows := defAt_mk X G a2 l2 c2 k2
  have T_spoiled : DefAt K mg "_law_spoiled" s_spoiled := defAt_mk X G a3 l3 c3 k3
  have T_signed : DefAt K mg "_law_signed" s_signed := defAt_mk X G a4 l4 c4 k4
  have T_law_is_name : DefAt K mg "_law_is_name" s_law_is_name := defAt_mk X G a5 l5 c5 k5
  have T_law_is_price : DefAt K mg "_law_is_price" s_law_is_price := defAt_mk X G a6 l6 c6 k6
  have T_due : DefAt K mg "_law_due" s_due := defAt_mk X G a7 l7 c7 k7
  have T_told : DefAt K mg "_law_told" s_told := defAt_mk X G a8 l8 c8 k8
  have T_lines : DefAt K mg "_law_lines" s_lines := defAt_mk X G a9 l9 c9 k9
  have T_read_net : DefAt K mg "read_net" s_read_net := defAt_mk X G a10 l10 c10 k10
  have T_is_row : DefAt K mg "_is_row" s_is_row := defAt_mk X G a11 l11 c11 k11
  have T_is_name : DefAt K mg "_is_name" s_is_name := defAt_mk X G a12 l12 c12 k12
  have T_is_price : DefAt K mg "_is_price" s_is_price := defAt_mk X G a13 l13 c13 k13
  obtain ⟨fd, hb, F⟩ := law_mk X G hfa a14 l14 c14 k14 (fun s v => .of_eq rfl)
  have m_MOST_LETTERS : ∃ t, mg "MOST_LETTERS" = some (.int 8 t) := by
    obtain ⟨t, e⟩ := e_MOST_LETTERS
    exact ⟨t, e ▸ PySem.W.mg_of X G q_MOST_LETTERS⟩
  have m_LETTERS : ∃ t, mg "LETTERS" = some (.str abc t) := by
    obtain ⟨t, e⟩ := e_LETTERS
    exact ⟨t, e ▸ PySem.W.mg_of X G q_LETTERS⟩
  have m_MOST_FIGURES : ∃ t, mg "MOST_FIGURES" = some (.int 31 t) := by
    obtain ⟨t, e⟩ := e_MOST_FIGURES
    exact ⟨t, e ▸ PySem.W.mg_of X G q_MOST_FIGURES⟩
  have m_FIGURES : ∃ t, mg "FIGURES" = some (.str figS t) := by
    obtain ⟨t, e⟩ := e_FIGURES
    exact ⟨t, e ▸ PySem.W.mg_of X G q_FIGURES⟩
  have m_MOST_MAKES : ∃ t, mg "MOST_MAKES" = some (.int 40 t) := by
    obtain ⟨t, e⟩ := e_MOST_MAKES
    exact ⟨t, e ▸ PySem.W.mg_of X G q_MOST_MAKES⟩

  have oex : OexC K C := ⟨⟨_, _, _, _, _, _, _, _, _, _, _, _, _, _, _, xL, xM⟩, xsa, xB, xt, xk⟩
  have gC := PySem.W.mg_of X G xC
  have ic : InitC l.prog K mg C cc cI := ⟨oex, ⟨_, _, _, xce⟩, ⟨_, _, _, _, _, _, xco, xfi, xfe⟩, xto, PySem.W.mg_none_of X G xsu, xan, xmC, xsi, xV⟩
  have xc : XcC K C := ⟨xi, xga, xgg, xB, xd, xcl, xgs, xtk, xmo⟩
  have XF : XFacts K mg C CH "NoText" "row" [("NoNet", o1), ("NoOrder", o2), ("NoMake", o3), ("NoTrial", o4), ("NoTruth", o5), ("NoPlan", o6), ("NoBook", o7), ("TooGreat", o8), ("NoName", o9), ("NothingTold", o10), ("NoRow", o11)] := ⟨gC, PySem.W.mg_of X G xH, PySem.W.exm_ref xHB xHd xHt xCH, xc, xno, xk1, xkV, xkA, fun p hp => by
    simp only [List.mem_cons, List.not_mem_nil, or_false] at hp
    rcases hp with rfl | rfl | rfl | rfl | rfl | rfl | rfl | rfl | rfl | rfl | rfl
    · exact PySem.W.mg_of X G x1
    · exact PySem.W.mg_of X G x2
    · exact PySem.W.mg_of X G x3
    · exact PySem.W.mg_of X G x4
    · exact PySem.W.mg_of X G x5
    · exact PySem.W.mg_of X G x6
    · exact PySem.W.mg_of X G x7
    · exact PySem.W.mg_of X G x8
    · exact PySem.W.mg_of X G x9
    · exact PySem.W.mg_of X G x10
    · exact PySem.W.mg_of X G x11⟩
  have gA := PySem.W.mg_of X G xA
  have hA : ∀ H, SqT K H aA (noNm.map V.str) := fun H => .inr ⟨_, _, _, yA, rfl, rfl, smallE (by simp [noNm]), .cons ⟨_, rfl⟩ (.cons ⟨_, rfl⟩ .nil)⟩
  refine ⟨fd, hb, fun base _ _ => ?_⟩
  have M : MkAt l.prog w K mg base "NoText" C "row" := ⟨gC, oex, fI, _, xI, xT, init_NoText ic xno xl xcd, Binds.all fun us hu => match us, hu with | [_, _], _ => rfl⟩
  have G_feed := ok_feed (P := l.prog) (w := w) (base := base) B T_feed
  have G_take := ok_take (P := l.prog) (w := w) (base := base) T_take
  have G_rows := ok_rows81 B T_rows G_take
  have G_spoiled := ok_spoil81 B T_spoiled G_take
  have G_signed := ok_signed81 B T_signed G_take
  have G_lines := ok_lines81 (P := l.prog) (w := w) (base := base) B T_lines
  have G_lname := ok_isnameL (P := l.prog) (w := w) (base := base) B T_law_is_name
  have G_lprice := ok_ispriceL (P := l.prog) (w := w) (base := base) B T_law_is_price
  have G_due := ok_dueL B T_due G_lname G_lprice
  have G_isname := ok_isname (P := l.prog) (w := w) (base := base) B T_is_name m_MOST_LETTERS m_LETTERS gA hA
  have G_isprice := ok_isprice (P := l.prog) (w := w) (base := base) B T_is_price m_MOST_FIGURES m_FIGURES
  have G_isrow := ok_isrow B T_is_row G_isname G_isprice
  have G_read := ok_readG B T_read_net m_MOST_MAKES G_isrow M
  have G_told := ok_toldG B T_told XF G_read
  exact ok_law F B G_feed G_take G_rows G_spoiled G_signed G_lines G_due G_told
end Bk
open PySem PySem.W PyProof.Rows in
set_option maxRecDepth 100000 in
set_option maxHeartbeats 0 in
theorem PySem.Challenge.cw_badbegins_k81_texts_that_write_no_net_holds : PySem.Challenge.rw_badbegins_k81_texts_that_write_no_net.Holds := by
  w_on; o_law; k_head; (case hw => w_witness2)
  k_fill
  refine Bk.walk_law (l := PySem.Challenge.rw_badbegins_k81_texts_that_write_no_net) (k := 7) rfl rfl ⟨rfl, by decide, by decide⟩ (fun w h Y => PySem.W.kIn_of Y) ?F
  case F =>
    intro w mg fa h KX G hmg
    refine' Bk.all_mk KX G hmg ?a0 ?l0 ?c0 ?k0 ?a1 ?l1 ?c1 ?k1 ?a2 ?l2 ?c2 ?k2 ?a3 ?l3 ?c3 ?k3 ?a4 ?l4 ?c4 ?k4 ?a5 ?l5 ?c5 ?k5 ?a6 ?l6 ?c6 ?k6 ?a7 ?l7 ?c7 ?k7 ?a8 ?l8 ?c8 ?k8 ?a9 ?l9 ?c9 ?k9 ?a10 ?l10 ?c10 ?k10 ?a11 ?l11 ?c11 ?k11 ?a12 ?l12 ?c12 ?k12 ?a13 ?l13 ?c13 ?k13 ?a14 ?l14 ?c14 ?k14 ?q_MOST_LETTERS ?e_MOST_LETTERS ?q_LETTERS ?e_LETTERS ?q_MOST_FIGURES ?e_MOST_FIGURES ?q_FIGURES ?e_FIGURES ?q_MOST_MAKES ?e_MOST_MAKES ?z_len ?z_range ?z_list ?z_tuple ?z_isinstance ?z_zip ?z_enumerate ?z_sorted ?z_set ?z_all ?z_any ?z_min ?z_max ?z_int ?z_bool ?z_str ?z_dict ?z_sum ?z_ValueError ?xC ?xH ?xL ?xM ?xsa ?xga ?xgg ?xno ?xI ?xcl ?xT ?xl ?xcd ?xk ?xB ?xV ?xt ?xd ?xi ?xHB ?xHd ?xHt ?xCH ?xce ?xco ?xfi ?xfe ?xto ?xsu ?xan ?xmC ?xmo ?xsi ?xgs ?xtk ?xk1 ?xkV ?x1 ?x2 ?x3 ?x4 ?x5 ?x6 ?x7 ?x8 ?x9 ?x10 ?x11 ?xkA ?xA ?yA
    (case a0 => k_is)
    (case l0 => k_is)
    (case c0 => k_is)
    (case k0 => k_is)
    (case a1 => k_is)
    (case l1 => k_is)
    (case c1 => k_is)
    (case k1 => k_is)
    (case a2 => k_is)
    (case l2 => k_is)
    (case c2 => k_is)
    (case k2 => k_is)
    (case a3 => k_is)
    (case l3 => k_is)
    (case c3 => k_is)
    (case k3 => k_is)
    (case a4 => k_is)
    (case l4 => k_is)
    (case c4 => k_is)
    (case k4 => k_is)
    (case a5 => k_is)
    (case l5 => k_is)
    (case c5 => k_is)
    (case k5 => k_is)
    (case a6 => k_is)
    (case l6 => k_is)
    (case c6 => k_is)
    (case k6 => k_is)
    (case a7 => k_is)
    (case l7 => k_is)
    (case c7 => k_is)
    (case k7 => k_is)
    (case a8 => k_is)
    (case l8 => k_is)
    (case c8 => k_is)
    (case k8 => k_is)
    (case a9 => k_is)
    (case l9 => k_is)
    (case c9 => k_is)
    (case k9 => k_is)
    (case a10 => k_is)
    (case l10 => k_is)
    (case c10 => k_is)
    (case k10 => k_is)
    (case a11 => k_is)
    (case l11 => k_is)
    (case c11 => k_is)
    (case k11 => k_is)
    (case a12 => k_is)
    (case l12 => k_is)
    (case c12 => k_is)
    (case k12 => k_is)
    (case a13 => k_is)
    (case l13 => k_is)
    (case c13 => k_is)
    (case k13 => k_is)
    (case a14 => k_is)
    (case l14 => k_is)
    (case c14 => k_is)
    (case k14 => k_is)
    (case q_MOST_LETTERS => k_is)
    (case e_MOST_LETTERS => exact ⟨_, rfl⟩)
    (case q_LETTERS => k_is)
    (case e_LETTERS => exact ⟨_, rfl⟩)
    (case q_MOST_FIGURES => k_is)
    (case e_MOST_FIGURES => exact ⟨_, rfl⟩)
    (case q_FIGURES => k_is)
    (case e_FIGURES => exact ⟨_, rfl⟩)
    (case q_MOST_MAKES => k_is)
    (case e_MOST_MAKES => exact ⟨_, rfl⟩)
    (case z_len => k_is)
    (case z_range => k_is)
    (case z_list => k_is)
    (case z_tuple => k_is)
    (case z_isinstance => k_is)
    (case z_zip => k_is)
    (case z_enumerate => k_is)
    (case z_sorted => k_is)
    (case z_set => k_is)
    (case z_all => k_is)
    (case z_any => k_is)
    (case z_min => k_is)
    (case z_max => k_is)
    (case z_int => k_is)
    (case z_bool => k_is)
    (case z_str => k_is)
    (case z_dict => k_is)
    (case z_sum => k_is)
    (case z_ValueError => k_is)

    (case xC => k_is)
    (case xH => k_is)
    (case xL => k_is)
    (case xM => decide +kernel)
    (case xsa => k_is)
    (case xga => k_is)
    (case xgg => k_is)
    (case xno => k_is)
    (case xI => k_is)
    (case xcl => k_is)
    (case xT => k_is)
    (case xl => k_is)
    (case xcd => k_is)
    (case xk => k_is)
    (case xB => k_is)
    (case xV => k_is)
    (case xt => k_is)
    (case xd => k_is)
    (case xi => k_is)
    (case xHB => k_is)
    (case xHd => k_is)
    (case xHt => k_is)
    (case xCH => k_is)
    (case xce => k_is)
    (case xco => k_is)
    (case xfi => exact rfl)
    (case xfe => decide +kernel)
    (case xto => decide +kernel)
    (case xsu => k_is)
    (case xan => k_is)
    (case xmC => k_is)
    (case xmo => k_is)
    (case xsi => ks_is)
    (case xgs => k_is)
    (case xtk => k_is)
    (case xk1 => kit_is)
    (case xkV => kit_is)
    (case x1 => k_is)
    (case x2 => k_is)
    (case x3 => k_is)
    (case x4 => k_is)
    (case x5 => k_is)
    (case x6 => k_is)
    (case x7 => k_is)
    (case x8 => k_is)
    (case x9 => k_is)
    (case x10 => k_is)
    (case x11 => k_is)
    (case xkA => kit_is)
    (case xA => k_is)
    (case yA => k_is)

#print axioms PySem.Challenge.cw_badbegins_k81_texts_that_write_no_net_holds

