import PyProof.Rows.All
import Wide.All
import OpenK.AllK
import Wide.FinOn
import HandS.ForMost
import HandS.Style
import HandS.Flow
import HandS.IsInst
import HandS.TupAny
import HandS.Evl
import HandS.Walk
import KE.KDictZip
import PyProof.Rows.IntBool
import HandS.TupSets
import KE.SortData
import HandS.Defaults
import HandS.MakeKwOnly
import HandS.DictComp
import HandS.Deep
import HandS.Zip0
import HandS.NoneIn
import HandS.SetBool
import HandS.Exc
import HandS.ExcOwn
import HandS.ExcInit
import HandS.Nested
import KE.KExcSuper
import KE.KExcIs
import KE.KIsAll
import HandS.ExcIs
import HandS.ExcField
import PyProof.Rows.TupDisplay
import KE.DataCmp
import HandS.WordsExc
import HandS.Conv
import HandS.SetKeys
import HandS.DictTup
import PyProof.EqKinds
import PyProof.NeKinds
import KE.KEqDict
import PyProof.TupleOfSeq
import HandS.Text
import HandS.Codes
import KE.IntTextText
import HandS.FStr
import KE.KRevSl
import PySem.Challenge.RW_fewkept_k53_texts_of_links
set_option Elab.async false
set_option linter.all false
set_option maxRecDepth 100000
set_option maxHeartbeats 8000000
namespace Fk
open PySem PySem.Spec PyProof.Rows L2

/-- a def of the text as its callers see it -/
structure Cal (P : Program) (w : World) (K : PySem.W.Frag) (mg : Str → Option Value) (base : Heap) (k : Nat) (x : Str) (ps : List Str) (sp : Sp) : Prop where
  ex : ∃ (f : Addr) (fd : FuncData), FnOk P w K mg base CX0 k f fd ps sp ∧ mg x = some (.ref f) ∧ PySem.W.keepIn K (.ref f) = true ∧ Binds K fd ps []

section
variable {X : Cx} {k : Nat} {x : Str} {ps : List Str} {sp : Sp} {p pos : Pos} {e : Expr} {es : List Expr} {t : TA}
theorem pc (C : Cal X.prog X.w X.K X.mg X.base k x ps sp) (hr : Room k X.A) (hg : Gl X x) (ha : PA X (e :: es) t) (hdb : (x == ("__debug__" : Str)) = false := by decide)
    (he : starEach (e :: es) X.env = (false, eval e X.env) :: starEach es X.env := by rfl) (hpl : (backTo pos (starEach es X.env)).any (·.1) = false := by rfl) :
    PE X (.Call (.Name x p) (e :: es) [] pos) (tCall sp [] E0 t) := by
  obtain ⟨f, fd, F, hm, hk, hb⟩ := C.ex
  exact pe_call F hr hg hm hk hb .nil pass0 ha hdb he hpl
theorem Cal.mono {P : Program} {w : World} {K : PySem.W.Frag} {mg : Str → Option Value} {base : Heap} {k j : Nat} (C : Cal P w K mg base k x ps sp) (h : k ≤ j) : Cal P w K mg base j x ps sp := by
  obtain ⟨f, fd, F, r⟩ := C.ex
  exact ⟨f, fd, F.mono h, r⟩
theorem Cal.imp {P : Program} {w : World} {K : PySem.W.Frag} {mg : Str → Option Value} {base : Heap} {k : Nat} {sp' : Sp} (C : Cal P w K mg base k x ps sp) (h : ∀ vs H Q E, sp' vs H Q E → sp vs H Q E) : Cal P w K mg base k x ps sp' := by
  obtain ⟨f, fd, F, r⟩ := C.ex
  exact ⟨f, fd, F.imp h, r⟩
theorem Cal.of {P : Program} {w : World} {K : PySem.W.Frag} {mg : Str → Option Value} {base : Heap} {k : Nat} {f : Addr} {fd : FuncData} {st : Stmt} {qual : Str} (F : Fun K x qual st f fd) (ok : FnOk P w K mg base CX0 k f fd ps sp)
    (hm : mg x = some (.ref f)) (hb : Binds K fd ps []) : Cal P w K mg base k x ps sp := ⟨f, fd, ok, hm, F.kp, hb⟩

/-- powers of numbers of some hundred signs -/
def CPowN (i j : Int) : Prop := 0 ≤ j ∧ j ≤ 1000 ∧ i.natAbs < 2 ^ 2000
theorem op_powN : OpR X (binaryOp .Pow) (rI CPowN fun i j => .int (i ^ j.toNat)) := opI fun i j _ _ _ _ _ hc q => by
  obtain ⟨h0, h1, h2⟩ := hc
  refine pow_int h0 ?_ q
  have hb : Builtin.Int.intBits i ≤ 2000 := intBits_le h2
  have h3 : ((Builtin.Int.intBits i : Nat) : Int) * j ≤ 2000 * 1000 := Int.mul_le_mul (by omega) h1 h0 (by omega)
  have h4 : (2000 * 1000 : Int) ≤ 2 ^ 27 := by decide
  omega
end

theorem cpow_small {i j : Int} (h0 : 0 ≤ j) (h1 : j ≤ 1000) (h2 : i.natAbs < 2 ^ 64) : CPowN i j := ⟨h0, h1, Nat.lt_of_lt_of_le h2 (Nat.pow_le_pow_right (by omega) (by omega))⟩
def Drw (H : Hp) (d : Addr) (n : Nat) : Prop := ∃ a b c : Int, H d = some (.lst [.int a, .int b, .int c]) ∧ 0 ≤ a ∧ 0 ≤ c ∧ c ≤ (n : Int)
/-- nothing but what stands at d is otherwise -/
def Bt (d : Addr) (H H' : Hp) : Prop := ∀ a, a ≠ d → H' a = H a
theorem Bt.refl (d : Addr) (H : Hp) : Bt d H H := fun _ _ => rfl
theorem Bt.trans {d : Addr} {H H1 H2 : Hp} (x : Bt d H H1) (y : Bt d H1 H2) : Bt d H H2 := fun a h => (y a h).trans (x a h)
theorem Bt.upd {d : Addr} {H H1 : Hp} {o : HO} (x : Bt d H H1) : Bt d H (upd H1 d o) := fun a h => by rw [upd_ne h]; exact x a h

/-- what a drawing of a number below m promises -/
def spNext : Sp := fun vs H Q _ => ∃ (d : Addr) (n : Nat) (m : Int), vs = [.ref d, .int m] ∧ Drw H d n ∧ n ≤ 100000 ∧ 0 < m ∧ m < 1073741824 ∧
  ∀ (r : Int) (H' : Hp), 0 ≤ r → r < m → Bt d H H' → Drw H' d (n + 1) → Q (.int r) H'
theorem pow3_nn {x : Int} (h : 0 ≤ x) : 0 ≤ x ^ (3 : Int).toNat := Int.pow_nonneg h
theorem set0 {a b c x : V} : ([a, b, c] : List V).set 0 x = [x, b, c] := rfl
theorem set2 {a b c x : V} : ([a, b, c] : List V).set 2 x = [a, b, x] := rfl
theorem pow_bd {b c : Int} {n : Nat} (c0 : 0 ≤ c) (cn : c ≤ (n : Int)) (hn : n ≤ 100000) :
    CPowN ((b % 2147483629 + 104729 * (c + 1)) * (b % 2147483587 + 7919 * (c + 1) * (c + 1) + 11)) 3 := by
  refine ⟨by omega, by omega, ?_⟩
  have h1 : 0 ≤ b % 2147483629 := Int.emod_nonneg _ (by omega)
  have h2 : b % 2147483629 < 2147483629 := Int.emod_lt_of_pos _ (by omega)
  have h3 : 0 ≤ b % 2147483587 := Int.emod_nonneg _ (by omega)
  have h4 : b % 2147483587 < 2147483587 := Int.emod_lt_of_pos _ (by omega)
  have h5 : 7919 * (c + 1) * (c + 1) ≤ 7919 * 100001 * 100001 := Int.mul_le_mul (by omega) (by omega) (by omega) (by omega)
  have h6 : 0 ≤ 7919 * (c + 1) * (c + 1) := Int.mul_nonneg (by omega) (by omega)
  rw [Int.natAbs_mul]
  have e : (2 : Nat) ^ 2000 = 2 ^ 1000 * 2 ^ 1000 := by rw [← Nat.pow_add]
  rw [e]
  have big : (2 : Nat) ^ 100 ≤ 2 ^ 1000 := Nat.pow_le_pow_right (by omega) (by omega)
  have e1 : (2 : Nat) ^ 100 = 1267650600228229401496703205376 := by decide
  exact Nat.mul_lt_mul'' (by omega) (by omega)
theorem mod3_nn {x : Int} {m : Int} (m0 : 0 < m) : 0 ≤ x ^ (3 : Int).toNat % 2147483647 / 11 % m ∧ x ^ (3 : Int).toNat % 2147483647 / 11 % m < m := ⟨Int.emod_nonneg _ (by omega), Int.emod_lt_of_pos _ m0⟩
theorem Bt.rd {d : Addr} {H H' : Hp} {a : Addr} {u : HO} (b : Bt d H H') (n : a ≠ d) (h : Rd H a u) : Rd H' a u := by
  rcases h with h | ⟨o, h⟩
  · exact .inl (by rw [b a n]; exact h)
  · exact .inr ⟨o, by rw [b a n]; exact h⟩
theorem Bt.seqL {K : PySem.W.Frag} {d : Addr} {H H' : Hp} {a : Addr} {xs : List V} (b : Bt d H H') (n : a ≠ d) (h : SqL K H a xs) : SqL K H' a xs := by
  rcases h with h | h
  · exact .inl (b.rd n h)
  · exact .inr h
theorem Bt.seqT {K : PySem.W.Frag} {d : Addr} {H H' : Hp} {a : Addr} {xs : List V} (b : Bt d H H') (n : a ≠ d) (h : SqT K H a xs) : SqT K H' a xs := by
  rcases h with h | h
  · exact .inl (b.rd n h)
  · exact .inr h
theorem nat_of {r : Int} {m : Nat} (h0 : 0 ≤ r) (h1 : r < (m : Int)) : ∃ i : Nat, r = (i : Int) ∧ i < m := ⟨r.toNat, by omega, by omega⟩
theorem get_of {α : Type} {xs : List α} {i : Nat} (h : i < xs.length) : ∃ v, xs[i]? = some v := ⟨xs[i], List.getElem?_eq_getElem h⟩
theorem atI_of {α : Type} {xs : List α} {i : Nat} {v : α} (h : xs[i]? = some v) : atI xs (i : Int) = some v := atI_nat h
end Fk
namespace Fk
open PySem PySem.Spec PyProof.Rows L2
section
variable {σ : L2.St} {H : Hp} {Q : VK} {v x y : V} {ta tb te tc : TE} {t u : TS} {D : Ends} {K : PySem.W.Frag} {i j : Int} {b c : Bool} {QB : Bool → Hp → Prop} {t1 t2 : TT} {tr : TA} {QL : List V → Hp → Prop}
theorem w_from (σ : L2.St) (h : t D σ H) : t D σ H := h
theorem w_seq (h : t { D with nx := u D } σ H) : tSeq t u D σ H := h
theorem w_next (h : D.nx σ H) : tNext D σ H := h
theorem w_set {n : Nat} (h : te σ H fun x H1 => D.nx (σ.set n (some x)) H1) : tAsg te (gName n) D σ H := h
theorem w_asg {g : TG} (h : te σ H fun x H1 => g x σ H1 D.nx) : tAsg te g D σ H := h
theorem w_drop (h : te σ H fun _ H1 => D.nx σ H1) : tDrop te D σ H := h
theorem w_ret (h : te σ H D.rt) : tRet te D σ H := h
theorem w_retN (h : D.rt .non H) : tRetN D σ H := h
theorem w_if (h : t1 σ H fun b H1 => if b = true then t D σ H1 else u D σ H1) : tIfS t1 t u D σ H := h
theorem w_op {r : R2} (h : ta σ H fun x H1 => tb σ H1 fun y H2 => r x y H2 Q) : tOp r ta tb σ H Q := h
theorem w_un {r : V → Hp → VK → Prop} (h : ta σ H fun x H1 => r x H1 Q) : tUn r ta σ H Q := h
theorem w_c (h : Q v H) : tC v σ H Q := h
theorem w_var {n : Nat} (h : σ[n]? = some (some v)) (q : Q v H) : tVar n σ H Q := ⟨v, h, q⟩
theorem w_test (h : ta σ H fun x H1 => ∃ k, x = .bl k ∧ QB k H1) : tTest ta σ H QB := h
theorem w_B (h : ta σ H fun x H1 => ∃ k, x = .bl k ∧ QB k H1) : tB ta σ H QB := h
theorem w_exb {R : Bool → Prop} (h : R b) : ∃ k, V.bl b = .bl k ∧ R k := ⟨b, rfl, h⟩
theorem w_I0 {g : Int → Int → V} (q : Q (g i j) H) : rI0 g (.int i) (.int j) H Q := ⟨i, j, rfl, rfl, q⟩
theorem w_I {C : Int → Int → Prop} {g : Int → Int → V} (hc : C i j) (q : Q (g i j) H) : rI C g (.int i) (.int j) H Q := ⟨i, j, rfl, rfl, hc, q⟩
theorem w_U {g : Int → V} (q : Q (g i) H) : rU g (.int i) H Q := ⟨i, rfl, q⟩
theorem w_eq (h : scal x y = true) (q : Q (.bl (decide (x = y))) H) : rEq x y H Q := ⟨h, q⟩
theorem w_ne (h : scal x y = true) (q : Q (.bl (!decide (x = y))) H) : rNe x y H Q := ⟨h, q⟩
theorem w_nil (h : QL [] H) : tNil σ H QL := h
theorem w_cons (h : te σ H fun x H1 => tr σ H1 fun xs H2 => QL (x :: xs) H2) : tCons te tr σ H QL := h
theorem w_call {sp : Sp} {E : XK} (h : tr σ H fun vs H1 => sp (vs ++ []) H1 Q E) : tCall sp [] E tr σ H Q := h
theorem w_cb {r : List V → Hp → VK → Prop} (h : tr σ H fun vs H1 => r vs H1 Q) : tCB r tr σ H Q := h
theorem w_tup (h : tr σ H fun xs H1 => xs.length ≤ sizeLine ∧ ∀ p, H1 p = none → Q (.ref p) (upd H1 p (.tup xs))) : tTup tr σ H Q := h
theorem w_lst (h : tr σ H fun xs H1 => xs.length ≤ sizeLine ∧ ∀ p, H1 p = none → Q (.ref p) (upd H1 p (.lst xs))) : tLst tr σ H Q := h
theorem w_and (h : t1 σ H fun c H1 => if c = true then t2 σ H1 QB else QB false H1) : tAnd t1 t2 σ H QB := h
theorem w_or (h : t1 σ H fun c H1 => if c = true then QB true H1 else t2 σ H1 QB) : tOr t1 t2 σ H QB := h
theorem w_not (h : t1 σ H fun c H1 => QB (!c) H1) : tNot t1 σ H QB := h
theorem w_andV (h : ta σ H fun x H1 => ∃ c, x = .bl c ∧ if c = true then tb σ H1 Q else Q (.bl false) H1) : tAndV ta tb σ H Q := h
theorem w_orV (h : ta σ H fun x H1 => ∃ c, x = .bl c ∧ if c = true then Q (.bl true) H1 else tb σ H1 Q) : tOrV ta tb σ H Q := h
theorem w_notV (h : ta σ H fun x H1 => ∃ c, x = .bl c ∧ Q (.bl (!c)) H1) : tNotV ta σ H Q := h
theorem w_ifE (h : t1 σ H fun c H1 => if c = true then ta σ H1 Q else tb σ H1 Q) : tIf t1 ta tb σ H Q := h
theorem w_chain {r r' : R2} (h : ta σ H fun x H1 => tb σ H1 fun y H2 => r x y H2 fun z H3 => ∃ k, z = .bl k ∧ (if k = true then tc σ H3 fun w' H4 => r' y w' H4 Q else Q (.bl false) H3)) : tChain r r' ta tb tc σ H Q := h
theorem w_par {m n : Nat} (h : tr σ H fun vs H1 => ∃ v w, vs = [v, w] ∧ D.nx ((σ.set m (some v)).set n (some w)) H1) : tPar m n tr D σ H := h
theorem w_two {R : V → V → Prop} (h : R x y) : ∃ v w, ([x, y] : List V) = [v, w] ∧ R v w := ⟨x, y, rfl, h⟩
theorem w_gname {n : Nat} {R : L2.St → Hp → Prop} (h : R (σ.set n (some v)) H) : gName n v σ H R := h
theorem w_gsub {to ti : TE} {st : TSet} {R : L2.St → Hp → Prop} (h : to σ H fun o H1 => ti σ H1 fun i H2 => st o i v H2 fun H3 => R σ H3) : gSub to ti st v σ H R := h
theorem w_setL {p : Addr} {xs : List V} {k : Int} {j : Nat} {R : Hp → Prop} (h : H p = some (.lst xs)) (hj : ixN xs.length k = some j) (q : R (upd H p (.lst (xs.set j v)))) : rSetL (.ref p) (.int k) v H R := ⟨p, xs, k, j, rfl, rfl, h, hj, q⟩
theorem w_m1 {r : V → List V → Hp → VK → Prop} (h : ta σ H fun x H1 => (∃ a, x = .str a) ∧ tb σ H1 fun y H2 => r x [y] H2 Q) : tM1 r ta tb σ H Q := h
theorem w_m0 {r : V → List V → Hp → VK → Prop} (h : ta σ H fun x H1 => (∃ a, x = .str a) ∧ r x [] H1 Q) : tM0 r ta σ H Q := h
theorem w_estr {z : Str} {A : Prop} (h : A) : (∃ a, V.str z = .str a) ∧ A := ⟨⟨z, rfl⟩, h⟩
theorem w_slS {z : Str} {lo hi : Option Int} (hz : z.length ≤ sizeLine) (q : Q (.str (cutS z lo hi)) H) : rSlS (.str z) lo hi H Q := ⟨z, rfl, hz, q⟩
theorem w_gtup {n : Nat} {t : TGs} {a : Addr} {xs : List V} {R : L2.St → Hp → Prop} (h : SqT K H a xs) (hl : xs.length = n) (q : t xs σ H R) : gTup K n t (.ref a) σ H R := ⟨a, xs, rfl, h, hl, q⟩
theorem w_gcons {t : TG} {u : TGs} {v : V} {r : List V} {R : L2.St → Hp → Prop} (q : t v σ H fun σ' H' => u r σ' H' R) : gCons t u (v :: r) σ H R := ⟨v, r, rfl, q⟩
theorem w_gnil {R : L2.St → Hp → Prop} (q : R σ H) : gNil [] σ H R := ⟨rfl, q⟩
theorem w_exr {R : Addr → Prop} {a : Addr} (h : R a) : ∃ b, V.ref a = .ref b ∧ R b := ⟨a, rfl, h⟩
theorem small {n : Nat} (h : n ≤ 100000) : n ≤ sizeLine := Nat.le_trans h (by decide)
theorem smallS {n : Nat} (h : n < 100000) : n < sizeLine := Nat.lt_of_lt_of_le h (by decide)
theorem w_ixL {p : Addr} {xs : List V} {k : Int} (h : SqL K H p xs) (hv : atI xs k = some v) (q : Q v H) : rIxL K (.ref p) (.int k) H Q := ⟨p, xs, k, v, rfl, rfl, h, hv, q⟩
theorem w_ixT {p : Addr} {xs : List V} {k : Int} (h : SqT K H p xs) (hv : atI xs k = some v) (q : Q v H) : rIxT K (.ref p) (.int k) H Q := ⟨p, xs, k, v, rfl, rfl, h, hv, q⟩
theorem w_ixS {z : Str} {k : Int} {c : Nat} (hz : z.length ≤ sizeLine) (hv : atI z.cps.toList k = some c) (q : Q (.str ⟨#[c]⟩) H) : rIxS (.str z) (.int k) H Q := ⟨z, k, c, rfl, rfl, hz, hv, q⟩
theorem w_app {l : Addr} {xs : List V} (h : H l = some (.lst xs)) (hz : xs.length < sizeLine) (q : Q .non (upd H l (.lst (xs ++ [v])))) : rAppend (.ref l) [v] H Q := ⟨l, xs, v, rfl, rfl, h, hz, q⟩
theorem w_bm {T : String} {r : V → List V → Hp → VK → Prop} (h : ta σ H fun x H1 => tyV K T x H1 ∧ tr σ H1 fun xs H2 => r x xs H2 Q) : tBM K T r ta tr σ H Q := h
theorem w_sl {r : V → Option Int → Option Int → Hp → VK → Prop} {tl th : TO} (h : te σ H fun x H1 => tl σ H1 fun l H2 => th σ H2 fun u H3 => r x l u H3 Q) : tSl r te tl th σ H Q := h
theorem w_noP {R : Option Int → Hp → Prop} (h : R none H) : tNoPart σ H R := h
theorem w_part {R : Option Int → Hp → Prop} (h : te σ H fun x H1 => ∃ i, x = .int i ∧ R (some i) H1) : tPart te σ H R := h
theorem w_exi {R : Int → Prop} (h : R i) : ∃ k, V.int i = .int k ∧ R k := ⟨i, rfl, h⟩
theorem w_dec {p : Prop} [Decidable p] {A B : Prop} (h1 : p → A) (h2 : ¬ p → B) : if decide p = true then A else B := by
  by_cases h : p
  · rw [decide_eq_true h]; exact h1 h
  · rw [decide_eq_false h]; exact h2 h
theorem w_ndec {p : Prop} [Decidable p] {A B : Prop} (h1 : ¬ p → A) (h2 : p → B) : if (!decide p) = true then A else B := by
  by_cases h : p
  · rw [decide_eq_true h]; exact h2 h
  · rw [decide_eq_false h]; exact h1 h
theorem w_bool {A B : Prop} (h1 : b = true → A) (h2 : b = false → B) : if b = true then A else B := by
  cases b with
  | true => exact h1 rfl
  | false => exact h2 rfl
end
end Fk
namespace Fk
open PySem PySem.Spec PyProof.Rows L2

def SignOk (c : Nat) : Prop := 97 ≤ c ∧ c ≤ 122
/-- a place: one to six small letters -/
def Place (s : Str) : Prop := 1 ≤ s.length ∧ s.length ≤ 6 ∧ ∀ c ∈ s.cps.toList, SignOk c
instance (c : Nat) : Decidable (SignOk c) := by unfold SignOk; infer_instance
instance (s : Str) : Decidable (Place s) := by unfold Place; infer_instance
def cL (s : Str) : List Nat := s.cps.toList
theorem cL_len (s : Str) : s.length = (cL s).length := by simp [cL, Str.length]
theorem cL_ext {a b : Str} (h : cL a = cL b) : a = b := ext_toList h
theorem cL_mk (l : List Nat) : cL ⟨l.toArray⟩ = l := rfl
theorem cL_one (c : Nat) : cL ⟨#[c]⟩ = [c] := rfl
theorem cL_app (a b : Str) : cL (a ++ b) = cL a ++ cL b := by
  show (a ++ b).cps.toList = _
  rw [Str.cps_append, Array.toList_append]
  rfl
theorem place_iff {s : Str} : Place s ↔ 1 ≤ (cL s).length ∧ (cL s).length ≤ 6 ∧ ∀ c ∈ cL s, SignOk c := by
  unfold Place
  rw [cL_len]
  exact Iff.rfl

theorem nodup_len {α : Type} [DecidableEq α] : ∀ (l D : List α), l.Nodup → (∀ x ∈ l, x ∈ D) → l.length ≤ D.length
  | [], D, _, _ => Nat.zero_le _
  | x :: r, D, nd, h => by
    have hx : x ∈ D := h x (List.mem_cons_self ..)
    have ih := nodup_len r (D.erase x) (List.nodup_cons.mp nd).2 (fun y hy => by
      have hne : y ≠ x := fun e => (List.nodup_cons.mp nd).1 (e ▸ hy)
      exact (List.mem_erase_of_ne hne).mpr (h y (List.mem_cons_of_mem _ hy)))
    rw [List.length_erase_of_mem hx] at ih
    have h0 : 0 < D.length := List.length_pos_of_mem hx
    show r.length + 1 ≤ D.length
    omega

/-- the signs of texts put together without anything between -/
theorem join_cL : ∀ ys : List Str, cL (Str.join ⟨#[]⟩ ys) = (ys.map cL).flatten
  | [] => rfl
  | [x] => by show cL x = cL x ++ []; rw [List.append_nil]
  | x :: y :: r => by
    show cL (x ++ ⟨#[]⟩ ++ Str.join ⟨#[]⟩ (y :: r)) = cL x ++ (List.map cL (y :: r)).flatten
    rw [cL_app, cL_app, join_cL (y :: r)]
    show cL x ++ [] ++ _ = _
    rw [List.append_nil]
theorem join_ones : ∀ cs : List Nat, cL (Txt.join ⟨#[]⟩ (cs.map fun c => (⟨#[c]⟩ : Str))) = cs := by
  intro cs
  rw [TL.join_eq, join_cL, List.map_map]
  induction cs with
  | nil => rfl
  | cons c r ih =>
    show [c] ++ _ = c :: r
    rw [ih]
    rfl
theorem place_join {cs : List Nat} (h1 : 1 ≤ cs.length) (h6 : cs.length ≤ 6) (h : ∀ c ∈ cs, SignOk c) : Place (Txt.join ⟨#[]⟩ (cs.map fun c => (⟨#[c]⟩ : Str))) := by
  rw [place_iff, join_ones]
  exact ⟨h1, h6, h⟩
/-- the first five signs -/
theorem cut5 (z : Str) : cL (cutS z none (some 5)) = (cL z).take 5 := by
  unfold cutS
  rw [cL_mk]
  have e1 : HT.sIx z.length 0 none = 0 := HT.sIx_none _ _
  have e2 : HT.sIx z.length z.length (some 5) = min 5 z.length := HT.sIx_nat z.length _ 5
  rw [e1, e2, List.drop_zero, Nat.sub_zero, cL_len]
  show List.take (min 5 (cL z).length) (cL z) = _
  by_cases h : 5 ≤ (cL z).length
  · rw [Nat.min_eq_left h]
  · rw [Nat.min_eq_right (by omega), List.take_length, List.take_of_length_le (by omega)]
/-- another name: the first five signs and one more -/
def other (z : Str) (c : Nat) : Str := cutS z none (some 5) ++ ⟨#[c]⟩
theorem other_cL (z : Str) (c : Nat) : cL (other z c) = (cL z).take 5 ++ [c] := by
  unfold other
  rw [cL_app, cut5]
  rfl
theorem other_inj (z : Str) {c d : Nat} (h : other z c = other z d) : c = d := by
  have e := congrArg cL h
  rw [other_cL, other_cL] at e
  exact List.cons.inj (List.append_cancel_left e) |>.1
theorem other_place {z : Str} (h : Place z) {c : Nat} (hc : SignOk c) : Place (other z c) := by
  rw [place_iff] at h ⊢
  rw [other_cL]
  refine ⟨by rw [List.length_append]; simp, by rw [List.length_append, List.length_take]; simp; omega, fun x hx => ?_⟩
  rcases List.mem_append.mp hx with hx | hx
  · exact h.2.2 x (List.mem_of_mem_take hx)
  · rw [List.mem_singleton.mp hx]
    exact hc
def abc : List Nat := (List.range 26).map (97 + ·)
theorem abc_nodup : abc.Nodup := by decide
theorem abc_ok : ∀ c ∈ abc, SignOk c := by decide
theorem other_left (z : Str) {D : List Str} (h : D.length < 26) : ∃ c ∈ abc, other z c ∉ D := by
  by_cases hx : ∃ c ∈ abc, other z c ∉ D
  · exact hx
  · exfalso
    have h1 : ∀ x ∈ abc.map (other z), x ∈ D := fun x hm => by
      obtain ⟨c, hc, rfl⟩ := List.mem_map.mp hm
      by_cases q : other z c ∈ D
      · exact q
      · exact (hx ⟨c, hc, q⟩).elim
    have nd : (abc.map (other z)).Nodup := by
      rw [List.nodup_iff_pairwise_ne, List.pairwise_map]
      exact (List.nodup_iff_pairwise_ne.mp abc_nodup).imp fun hne e => hne (other_inj z e)
    have := nodup_len _ D nd h1
    rw [List.length_map] at this
    have e : abc.length = 26 := rfl
    omega
/-- rising texts -/
def Lts (a b : Str) : Prop := cL a < cL b
theorem rising_pw : ∀ (p : Str) (l : List Str), risingS p l = true → (∀ x ∈ l, cL p ≤ cL x) ∧ l.Pairwise (fun a b => cL a ≤ cL b)
  | p, [], _ => ⟨fun _ h => by simp at h, List.Pairwise.nil⟩
  | p, x :: r, h => by
    have h' : (!ltCps x.cps.toList p.cps.toList && risingS x r) = true := h
    rw [Bool.and_eq_true, Bool.not_eq_true', ltCps_eq, decide_eq_false_iff_not] at h'
    obtain ⟨i1, i2⟩ := rising_pw x r h'.2
    have hp : cL p ≤ cL x := List.not_lt.mp h'.1
    refine ⟨fun y hy => ?_, List.Pairwise.cons i1 i2⟩
    rcases List.mem_cons.mp hy with rfl | hy
    · exact hp
    · exact List.le_trans hp (i1 y hy)
theorem sortedS_pw {l : List Str} (h : sortedS l = true) : l.Pairwise (fun a b => cL a ≤ cL b) := by
  cases l with
  | nil => exact List.Pairwise.nil
  | cons x r =>
    obtain ⟨i1, i2⟩ := rising_pw x r h
    exact List.Pairwise.cons i1 i2
theorem sortedS_lt {l : List Str} (h : sortedS l = true) (nd : l.Nodup) : l.Pairwise Lts := by
  have a := sortedS_pw h
  have b := List.nodup_iff_pairwise_ne.mp nd
  refine (a.and b).imp fun {x y} q => ?_
  have : ¬ cL y < cL x := List.not_lt.mpr q.1
  rcases Decidable.em (cL x < cL y) with w | w
  · exact w
  · exact absurd (cL_ext (List.le_antisymm q.1 (List.not_lt.mp w))) q.2
/-- the places of a law's input: rising, each once -/
structure Names (l : List Str) : Prop where
  pl : ∀ s ∈ l, Place s
  up : l.Pairwise Lts

def Go (d : Addr) (H H' : Hp) : Prop := ∀ a o, a ≠ d → H a = some o → H' a = some o
theorem Go.refl (d : Addr) (H : Hp) : Go d H H := fun _ _ _ h => h
theorem Go.trans {d : Addr} {H H1 H2 : Hp} (x : Go d H H1) (y : Go d H1 H2) : Go d H H2 := fun a o n h => y a o n (x a o n h)
theorem Go.bt {d : Addr} {H H1 H2 : Hp} (x : Go d H H1) (y : Bt d H1 H2) : Go d H H2 := fun a o n h => (y a n).trans (x a o n h)
theorem Bt.go {d : Addr} {H H1 : Hp} (y : Bt d H H1) : Go d H H1 := fun a o n h => (y a n).trans h
/-- a place that stood free at the beginning may be written -/
theorem Go.put {d p : Addr} {H H1 : Hp} {o : HO} (x : Go d H H1) (h : H p = none) : Go d H (upd H1 p o) := fun a u n e => by
  rw [upd_ne (ne_of_none e h)]
  exact x a u n e
theorem Go.new {d p : Addr} {H H1 : Hp} {o : HO} (x : Go d H H1) (hd : ∃ u, H1 d = some u) (h : H1 p = none) : Go d H (upd H1 p o) := fun a u n e => by
  rw [upd_ne (ne_of_none (x a u n e) h)]
  exact x a u n e
theorem Go.rd {d : Addr} {H H' : Hp} {a : Addr} {u : HO} (b : Go d H H') (n : a ≠ d) (h : Rd H a u) : Rd H' a u := by
  rcases h with h | ⟨o, h⟩
  · exact .inl (b _ _ n h)
  · exact .inr ⟨o, b _ _ n h⟩
theorem Go.seqL {K : PySem.W.Frag} {d : Addr} {H H' : Hp} {a : Addr} {xs : List V} (b : Go d H H') (n : a ≠ d) (h : SqL K H a xs) : SqL K H' a xs := by
  rcases h with h | h
  · exact .inl (b.rd n h)
  · exact .inr h
theorem Go.seqT {K : PySem.W.Frag} {d : Addr} {H H' : Hp} {a : Addr} {xs : List V} (b : Go d H H') (n : a ≠ d) (h : SqT K H a xs) : SqT K H' a xs := by
  rcases h with h | h
  · exact .inl (b.rd n h)
  · exact .inr h
theorem Go.ex {d : Addr} {H H' : Hp} (g : Go d H H') (h : H d = none) : Evl.Ex H H' := fun a o e => g a o (ne_of_none e h) e
theorem Drw.ex {H H' : Hp} {d : Addr} {n : Nat} (h : Drw H d n) (e : Evl.Ex H H') : Drw H' d n := by
  obtain ⟨a, b, c, h, r⟩ := h
  exact ⟨a, b, c, e _ _ h, r⟩
theorem Drw.some {H : Hp} {d : Addr} {n : Nat} (h : Drw H d n) : ∃ o, H d = some o := by
  obtain ⟨a, b, c, h, _⟩ := h
  exact ⟨_, h⟩
theorem Drw.put {H : Hp} {d p : Addr} {n : Nat} {o : HO} (h : Drw H d n) (ne : d ≠ p) : Drw (upd H p o) d n := by
  obtain ⟨a, b, c, h, r⟩ := h
  exact ⟨a, b, c, by rw [upd_ne ne]; exact h, r⟩
theorem Drw.new {H : Hp} {d p : Addr} {n : Nat} {o : HO} (h : Drw H d n) (hp : H p = none) : Drw (upd H p o) d n := by
  obtain ⟨u, hu⟩ := h.some
  exact h.put (ne_of_none hu hp)
theorem Drw.le {H : Hp} {d : Addr} {n m : Nat} (h : Drw H d n) (hm : n ≤ m) : Drw H d m := by
  obtain ⟨a, b, c, h, a0, c0, cn⟩ := h
  exact ⟨a, b, c, h, a0, c0, by omega⟩
theorem Go.back {H H1 : Hp} {d C : Addr} {n : Nat} (g : Go d H H1) (hd : Drw H1 d n) (h : H1 C = none) : H C = none := by
  cases q : H C with
  | none => rfl
  | some u =>
    have cd : C ≠ d := fun e => by
      obtain ⟨u, hu⟩ := hd.some
      rw [e, hu] at h
      cases h
    rw [g C u cd q] at h
    cases h
theorem Drw.ne {H : Hp} {d p : Addr} {n : Nat} (h : Drw H d n) (hp : H p = none) : p ≠ d := by
  obtain ⟨u, hu⟩ := h.some
  exact fun e => by rw [e, hu] at hp; cases hp
end Fk
namespace Fk
open PySem PySem.Spec PyProof.Rows L2
section
variable {X : Cx}
def rAddT : R2 := fun x y H Q => ∃ i j, x = .str i ∧ y = .str j ∧ i.length + j.length ≤ sizeLine ∧ Q (.str (i ++ j)) H
theorem kAddS : OpR X (binaryOp .Add) rAddT := op_add_str
def rLeT : R2 := fun x y H Q => ∃ i j, x = .str i ∧ y = .str j ∧ Q (.bl (!decide (j.cps.toList < i.cps.toList))) H
theorem kLeS : OpR X (compareOp .LtE) rLeT := op_le_str
def rLtT : R2 := fun x y H Q => ∃ i j, x = .str i ∧ y = .str j ∧ Q (.bl (decide (i.cps.toList < j.cps.toList))) H
theorem kLtS : OpR X (compareOp .Lt) rLtT := op_lt_str
def rInSg : R2 := fun x y H Q => ∃ (c : Nat) (z : Str), x = .str ⟨#[c]⟩ ∧ y = .str z ∧ Q (.bl (decide (c ∈ z.cps.toList))) H
theorem kInS : OpR X (compareOp .In) rInSg := op_in_sign
def rNotInSg : R2 := fun x y H Q => ∃ (c : Nat) (z : Str), x = .str ⟨#[c]⟩ ∧ y = .str z ∧ Q (.bl (!decide (c ∈ z.cps.toList))) H
theorem kNotInS : OpR X (compareOp .NotIn) rNotInSg := op_notIn_sign
def rMaxT : List V → Hp → VK → Prop := fun xs H Q => ∃ i j, xs = [.int i, .int j] ∧ Q (.int (if j > i then j else i)) H
theorem kmax2 (hc : X.calm = true) : CallR X (.builtin "max") rMaxT := call_max2 hc
def rStrI : List V → Hp → VK → Prop := fun xs H Q => ∃ i : Int, xs = [.int i] ∧ i.natAbs.log2 < 1920 ∧ Q (.str (toString i)) H
theorem kstrI : CallR X (.type "str") rStrI := call_str_int
end
section
variable {X : Cx} (K : PySem.W.Frag)
theorem kixL (h : X.K = K := by rfl) : IxR X (rIxL K) := by subst h; exact ix_list
theorem kixT (h : X.K = K := by rfl) : IxR X (rIxT K) := by subst h; exact ix_tup
theorem kix (h : X.K = K := by rfl) : IxR X (rIx K) := by subst h; exact ix_seq
theorem kIn (h : X.K = K := by rfl) : OpR X (compareOp .In) (rIn K false) := by subst h; exact op_in_seq
theorem kNotIn (h : X.K = K := by rfl) : OpR X (compareOp .NotIn) (rIn K true) := by subst h; exact op_notIn_seq
theorem kEq (hu : X.A.units + 64 < cLine) (h : X.K = K := by rfl) : OpR X (compareOp .Eq) (rEqD K) := by subst h; exact op_eqD hu
theorem kNe (hu : X.A.units + 64 < cLine) (h : X.K = K := by rfl) : OpR X (compareOp .NotEq) (rNeD K) := by subst h; exact op_neD hu
theorem kslL (h : X.K = K := by rfl) : SlR X (rSlL K) := by subst h; exact sl_list
theorem kslT (h : X.K = K := by rfl) : SlR X (rSlA K) := by subst h; exact sl_tupA
theorem kcatT (h : X.K = K := by rfl) : OpR X (binaryOp .Add) (rCatA K) := by subst h; exact op_catA
def rLen (K : PySem.W.Frag) : List V → Hp → VK → Prop := fun xs H Q => ∃ x n, xs = [x] ∧ LenV K x H n ∧ Q (.int (n : Nat)) H
theorem klen (h : X.K = K := by rfl) : CallR X (.builtin "len") (rLen K) := by subst h; exact call_len
theorem kisi (h : X.K = K := by rfl) : CallR X (.builtin "isinstance") (rIsi K) := by subst h; exact call_isi
theorem kisiT (h : X.K = K := by rfl) : CallR X (.builtin "isinstance") (rIsiT K) := by subst h; exact call_isiT
theorem ksortedS (h : X.K = K := by rfl) : CallR X (.builtin "sorted") (rSortedS K) := by subst h; exact cr_sortedS
def rListOf (K : PySem.W.Frag) : List V → Hp → VK → Prop := fun xs H Q => ∃ p ys, xs = [.ref p] ∧ (SqL K H p ys ∨ SqT K H p ys) ∧ ∀ l, H l = none → Q (.ref l) (upd H l (.lst ys))
theorem klist (h : X.K = K := by rfl) : CallR X (.type "list") (rListOf K) := by subst h; exact call_list_of
theorem kall (hc : X.calm = true) (h : X.K = K := by rfl) : CallR X (.builtin "all") (rAll K) := by subst h; exact cr_all hc
def rJoin (K : PySem.W.Frag) : V → List V → Hp → VK → Prop := fun x xs H Q => ∃ a p, ∃ ys : List Str, x = .str a ∧ xs = [.ref p] ∧ (SqL K H p (ys.map V.str) ∨ SqT K H p (ys.map V.str)) ∧
  (ys.map (·.length)).sum + ys.length * a.length ≤ 16777216 ∧ Q (.str (Txt.join a ys)) H
variable {o e : Expr} {to te : TE} {ta : TA} {tg : Expr}
theorem kjoin {apos pos : Pos} (ho : PE X o to) (he : PE X e te) (hs : starEach [e] X.env = [(false, eval e X.env)] := by rfl) (hbase : attributeBase o "join" X.env (eval o X.env) = eval o X.env := by rfl) (hline : (apos.endLine == pos.line) = true := by rfl) (h : X.K = K := by rfl) :
    PE X (.Call (.Attribute o "join" apos) [e] [] pos) (tM1 (rJoin K) to te) := by subst h; exact pe_join ho he hs hbase hline
theorem klistI (he : PE X e te) (h : X.K = K := by rfl) : PI X tg e (iList K te) := by subst h; exact pi_list he
theorem ktupI (he : PE X e te) (h : X.K = K := by rfl) : PI X tg e (iTup K te) := by subst h; exact pi_tup he
theorem kenumI {e : Expr} {p pos tpos : Pos} {elts : List Expr} {kk : Nat} (hg : Gl X "enumerate") (hm : X.mg "enumerate" = none) (ha : PA X [e] ta) (hs : starEach [e] X.env = [(false, eval e X.env)] := by rfl) (h : X.K = K := by rfl) :
    PI X (.Tuple elts kk tpos) (.Call (.Name "enumerate" p) [e] [] pos) (iEnum K ta) := by subst h; exact pi_enum hg hm ha hs
theorem kzipI {e e2 : Expr} {p pos tpos : Pos} {elts : List Expr} {kk : Nat} (hg : Gl X "zip") (hm : X.mg "zip" = none) (ha : PA X [e, e2] ta)
    (hs : starEach [e, e2] X.env = (false, eval e X.env) :: starEach [e2] X.env := by rfl) (hpl : (backTo pos (starEach [e2] X.env)).any (·.1) = false := by rfl) (h : X.K = K := by rfl) :
    PI X (.Tuple elts kk tpos) (.Call (.Name "zip" p) [e, e2] [] pos) (iZip K ta) := by subst h; exact pi_zip hg hm ha hs hpl
theorem ktup {es : List Expr} {k : Nat} {t : TGs} {n : Nat} {pos : Pos} (hc : X.calm = true) (ht : PGs X es t)
    (hn : (assignEach es X.env).length = n := by rfl) (hst : (assignEach es X.env).findIdx? (·.1) = none := by rfl) (h : X.K = K := by rfl) : PG X (.Tuple es k pos) (gTup K n t) := by subst h; exact pg_tup hc ht hn hst
def tTruth (K : PySem.W.Frag) (te : TE) : TT := fun σ H Q => te σ H fun x H1 => ∃ k, TruV K x H1 k ∧ Q k H1
theorem ktruth {a : Expr} {te : TE} (ha : PE X a te) (he : ∀ whole, isTrue a X.env whole = (do let v ← whole; standAt a.pos; holding [v] (truthy v))) (h : X.K = K := by rfl) : PT X a (tTruth K te) := by subst h; exact pt_truth ha he
variable {name : Str} {id : String} {r : V → List V → Hp → VK → Prop} {es : List Expr}
theorem kapp {apos cpos : Pos} (ho : PE X o to) (ha : PA X (e :: es) ta)
    (hbase : attributeBase o "append" X.env (eval o X.env) = eval o X.env := by rfl)
    (hfew : ((backTo cpos (starEach (e :: es) X.env)).all (fun x => !x.1) && (backToKw cpos (keywordEach [] X.env)).all (fun x => x.1.isSome)
      && decide ((e :: es).length + ([] : List Keyword).length + (if ([] : List Keyword).isEmpty then 0 else 1) < 30)) = true := by rfl)
    (hline : (apos.endLine == cpos.line) = true := by rfl) (hs : starEach (e :: es) X.env = (false, eval e X.env) :: starEach es X.env := by rfl) (hplain : (backTo cpos (starEach es X.env)).any (·.1) = false := by rfl) (h : X.K = K := by rfl) :
    PE X (.Call (.Attribute o "append" apos) (e :: es) [] cpos) (tBM K "list" rAppend to ta) := by
  subst h
  exact pe_bm PySem.F.plainAttrs_list PySem.F.slot_list_append PySem.F.type_list_append mt_append ho ha hbase hfew hline hs hplain
end
end Fk
namespace Fk
open PySem PySem.Spec PyProof.Rows L2
section
variable {σ : L2.St} {H : Hp} {Q : VK} {K : PySem.W.Frag} {D : Ends} {ta : TA} {te tl : TE} {tu : TS} {j : Nat} {g : TG} {tt : TT} {vs : List Nat}
/-- what a for asks of the walked thing -/
def ForGo (g : TG) (tu : TS) (D : Ends) (σ : L2.St) (J : It) (H1 : Hp) : Prop := ∃ W : Nat → Nat → L2.St → Hp → Prop, (∃ m, W 0 m σ H1) ∧ ∀ i m σ H, W i m σ H →
  (J.stop i H ∧ D.nx σ H) ∨ (J.go i H ∧ ∃ N : L2.St → Hp → Prop, (∀ σ' H', N σ' H' → ∃ m', m' < m ∧ W (i + 1) m' σ' H') ∧ ∀ x H', J.yld i H x H' → g x σ H' fun σ2 H2 => tu { D with nx := N, ct := N, bk := D.nx } σ2 H2)
/-- what a comprehension asks -/
def LcGo (g : TG) (tt : TT) (te : TE) (vs : List Nat) (σ : L2.St) (Q : VK) (J : It) (H1 : Hp) : Prop := ∀ C, H1 C = none → ∃ W : Nat → Nat → Hp → Prop, (∃ m, W 0 m (upd H1 C (.lst []))) ∧ ∀ i m H, W i m H →
  (J.stop i H ∧ Q (.ref C) H) ∨ (J.go i H ∧ ∃ Nx : Hp → Prop, (∀ H', Nx H' → ∃ m', m' < m ∧ W (i + 1) m' H') ∧ ∀ x H', J.yld i H x H' → g x (wipe σ vs) H' fun σ2 H2 => wipe σ2 vs = wipe σ vs ∧ tt σ2 H2 fun b H3 =>
    if b = true then te σ2 H3 fun y H4 => ∃ acc, H4 C = some (.lst acc) ∧ acc.length < sizeLine ∧ Nx (upd H4 C (.lst (acc ++ [y]))) else Nx H3)
theorem w_for {wi : TI} (h : wi σ H fun J H1 => ForGo g tu D σ J H1) : tFor wi g tu D σ H := h
theorem w_lc {wi : TI} (h : wi σ H fun J H1 => LcGo g tt te vs σ Q J H1) : tLc wi g tt te vs σ H Q := h
theorem w_yes {QB : Bool → Hp → Prop} (h : QB true H) : tYes σ H QB := h
variable {R : It → Hp → Prop}
theorem w_iR1 (h : ta σ H fun us H1 => ∃ j : Int, us = [.int j] ∧ -(2 ^ 62) ≤ j ∧ j < 2 ^ 62 ∧ R (Itr 0 j.toNat) H1) : iRng1 ta σ H R := h
theorem w_iL (h : tl σ H fun x H1 => ∃ a, x = .ref a ∧ (∃ xs, SqL K H1 a xs) ∧ R (Itl K a) H1) : iList K tl σ H R := h
theorem w_iT (h : tl σ H fun x H1 => ∃ a, x = .ref a ∧ (∃ xs, SqT K H1 a xs) ∧ R (Itt K a) H1) : iTup K tl σ H R := h
theorem w_iE (h : ta σ H fun us H1 => ∃ a xs, us = [.ref a] ∧ SqL K H1 a xs ∧ R (Ite K a) H1) : iEnum K ta σ H R := h
theorem w_iZ (h : ta σ H fun us H1 => ∃ a b xs ys, us = [.ref a, .ref b] ∧ SqL K H1 a xs ∧ SqL K H1 b ys ∧ R (Itz K a b) H1) : iZip K ta σ H R := h
theorem w_iS (h : tl σ H fun x H1 => ∃ z, x = .str z ∧ R (Its z) H1) : iStr tl σ H R := h
theorem w_r1 {m : Nat} (hm : m ≤ 100000) (q : R (Itr 0 m) H) : ∃ j : Int, ([.int (m : Int)] : List V) = [.int j] ∧ -(2 ^ 62) ≤ j ∧ j < 2 ^ 62 ∧ R (Itr 0 j.toNat) H :=
  ⟨(m : Int), rfl, by omega, by omega, by rw [Int.toNat_natCast]; exact q⟩
theorem w_l1 {a : Addr} {xs : List V} (h : SqL K H a xs) (q : R (Itl K a) H) : ∃ b, V.ref a = .ref b ∧ (∃ xs, SqL K H b xs) ∧ R (Itl K b) H := ⟨a, rfl, ⟨xs, h⟩, q⟩
theorem w_t1 {a : Addr} {xs : List V} (h : SqT K H a xs) (q : R (Itt K a) H) : ∃ b, V.ref a = .ref b ∧ (∃ xs, SqT K H b xs) ∧ R (Itt K b) H := ⟨a, rfl, ⟨xs, h⟩, q⟩
theorem w_e1 {a : Addr} {xs : List V} (h : SqL K H a xs) (q : R (Ite K a) H) : ∃ b xs, ([.ref a] : List V) = [.ref b] ∧ SqL K H b xs ∧ R (Ite K b) H := ⟨a, xs, rfl, h, q⟩
theorem w_z1 {a b : Addr} {xs ys : List V} (h : SqL K H a xs) (h2 : SqL K H b ys) (q : R (Itz K a b) H) : ∃ c d xs ys, ([.ref a, .ref b] : List V) = [.ref c, .ref d] ∧ SqL K H c xs ∧ SqL K H d ys ∧ R (Itz K c d) H := ⟨a, b, xs, ys, rfl, h, h2, q⟩
theorem w_s1 {z : Str} (q : R (Its z) H) : ∃ y, V.str z = .str y ∧ R (Its y) H := ⟨z, rfl, q⟩

theorem forR {m : Nat} (Pv : Nat → L2.St → Hp → Prop) (h0 : Pv 0 σ H) (hs : ∀ i σ' H', i < m → Pv i σ' H' → g (.int (i : Int)) σ' H' fun σ2 H2 => tu { D with nx := Pv (i + 1), ct := Pv (i + 1), bk := D.nx } σ2 H2) (hd : ∀ σ' H', Pv m σ' H' → D.nx σ' H') : ForGo g tu D σ (Itr 0 m) H :=
  for_range (lo := 0) (n := m) Pv h0 (fun i σ' H' hi p => by
    have e0 : (0 : Int) + (i : Int) = (i : Int) := Int.zero_add _
    show g (.int ((0 : Int) + (i : Int))) σ' H' _
    rw [e0]
    exact hs i σ' H' hi p) hd
theorem forL {a : Addr} {xs : List V} (Pv : Nat → L2.St → Hp → Prop) (h0 : Pv 0 σ H) (hl : ∀ i σ' H', i ≤ xs.length → Pv i σ' H' → SqL K H' a xs)
    (hs : ∀ i x σ' H', xs[i]? = some x → Pv i σ' H' → g x σ' H' fun σ2 H2 => tu { D with nx := Pv (i + 1), ct := Pv (i + 1), bk := D.nx } σ2 H2) (hd : ∀ σ' H', Pv xs.length σ' H' → D.nx σ' H') : ForGo g tu D σ (Itl K a) H := for_list Pv h0 hl hs hd
theorem forT {a : Addr} {xs : List V} (Pv : Nat → L2.St → Hp → Prop) (h0 : Pv 0 σ H) (hl : ∀ i σ' H', i ≤ xs.length → Pv i σ' H' → SqT K H' a xs)
    (hs : ∀ i x σ' H', xs[i]? = some x → Pv i σ' H' → g x σ' H' fun σ2 H2 => tu { D with nx := Pv (i + 1), ct := Pv (i + 1), bk := D.nx } σ2 H2) (hd : ∀ σ' H', Pv xs.length σ' H' → D.nx σ' H') : ForGo g tu D σ (Itt K a) H := for_tup Pv h0 hl hs hd
/-- for i, x in enumerate(a list): a new pair each turn -/
theorem forE {a : Addr} {xs : List V} (Pv : Nat → L2.St → Hp → Prop) (h0 : Pv 0 σ H) (hl : ∀ i σ' H', i ≤ xs.length → Pv i σ' H' → SqL K H' a xs)
    (hs : ∀ i x T σ' H', xs[i]? = some x → Pv i σ' H' → H' T = none → g (.ref T) σ' (upd H' T (.tup [.int (i : Nat), x])) fun σ2 H2 => tu { D with nx := Pv (i + 1), ct := Pv (i + 1), bk := D.nx } σ2 H2) (hd : ∀ σ' H', Pv xs.length σ' H' → D.nx σ' H') : ForGo g tu D σ (Ite K a) H :=
  for_it (walk_enum (xs := xs)) Pv h0 hl (fun i x σ' H1 H2 hi p y => by
    obtain ⟨T, x1, x2, rfl, hT, rfl, e1, e2⟩ := y
    cases e1
    exact hs i x2 T σ' H1 e2 p hT) hd
/-- one turn: the new item x stands at the names, the list so far at C -/
def LcTurn (g : TG) (tt : TT) (te : TE) (vs : List Nat) (σ : L2.St) (C : Addr) (x : V) (H' : Hp) (Nx : Hp → Prop) : Prop := g x (wipe σ vs) H' fun σ2 H2 => wipe σ2 vs = wipe σ vs ∧ tt σ2 H2 fun b H3 =>
  if b = true then te σ2 H3 fun y H4 => ∃ acc, H4 C = some (.lst acc) ∧ acc.length < sizeLine ∧ Nx (upd H4 C (.lst (acc ++ [y]))) else Nx H3
theorem lcR {m : Nat} (Pv : Addr → Nat → Hp → Prop) (h0 : ∀ C, H C = none → Pv C 0 (upd H C (.lst []))) (hs : ∀ C i H', H C = none → i < m → Pv C i H' → LcTurn g tt te vs σ C (.int (i : Int)) H' (Pv C (i + 1))) (hd : ∀ C H', H C = none → Pv C m H' → Q (.ref C) H') : LcGo g tt te vs σ Q (Itr 0 m) H := fun C hC =>
  lc_it walk_range (Pv C) (h0 C hC) (fun _ _ _ _ => trivial) (fun i x H1 H2 hi p y => by
    obtain ⟨rfl, rfl⟩ := y
    have e0 : (0 : Int) + (i : Int) = (i : Int) := Int.zero_add _
    have q := hs C i H2 hC hi p
    show LcTurn g tt te vs σ C (.int ((0 : Int) + (i : Int))) H2 (Pv C (i + 1))
    rw [e0]
    exact q) (fun H' p => hd C H' hC p)
theorem lcL {a : Addr} {xs : List V} (Pv : Addr → Nat → Hp → Prop) (h0 : ∀ C, H C = none → Pv C 0 (upd H C (.lst []))) (hl : ∀ C i H', H C = none → i ≤ xs.length → Pv C i H' → SqL K H' a xs)
    (hs : ∀ C i x H', H C = none → xs[i]? = some x → Pv C i H' → LcTurn g tt te vs σ C x H' (Pv C (i + 1))) (hd : ∀ C H', H C = none → Pv C xs.length H' → Q (.ref C) H') : LcGo g tt te vs σ Q (Itl K a) H := fun C hC =>
  lc_it (walk_list (xs := xs)) (Pv C) (h0 C hC) (fun i H' hi p => hl C i H' hC hi p) (fun i x H1 H2 hi p y => by
    obtain ⟨rfl, e⟩ := y
    exact hs C i x H2 hC e p) (fun H' p => hd C H' hC p)
theorem lcT {a : Addr} {xs : List V} (Pv : Addr → Nat → Hp → Prop) (h0 : ∀ C, H C = none → Pv C 0 (upd H C (.lst []))) (hl : ∀ C i H', H C = none → i ≤ xs.length → Pv C i H' → SqT K H' a xs)
    (hs : ∀ C i x H', H C = none → xs[i]? = some x → Pv C i H' → LcTurn g tt te vs σ C x H' (Pv C (i + 1))) (hd : ∀ C H', H C = none → Pv C xs.length H' → Q (.ref C) H') : LcGo g tt te vs σ Q (Itt K a) H := fun C hC =>
  lc_it (walk_tup (xs := xs)) (Pv C) (h0 C hC) (fun i H' hi p => hl C i H' hC hi p) (fun i x H1 H2 hi p y => by
    obtain ⟨rfl, e⟩ := y
    exact hs C i x H2 hC e p) (fun H' p => hd C H' hC p)
theorem lcS {z : Str} (Pv : Addr → Nat → Hp → Prop) (h0 : ∀ C, H C = none → Pv C 0 (upd H C (.lst [])))
    (hs : ∀ C i c H', H C = none → (cL z)[i]? = some c → Pv C i H' → LcTurn g tt te vs σ C (.str ⟨#[c]⟩) H' (Pv C (i + 1))) (hd : ∀ C H', H C = none → Pv C (cL z).length H' → Q (.ref C) H') : LcGo g tt te vs σ Q (Its z) H := fun C hC =>
  lc_it walk_str (Pv C) (h0 C hC) (fun _ _ _ _ => trivial) (fun i x H1 H2 hi p y => by
    obtain ⟨rfl, c, e, rfl⟩ := y
    exact hs C i c H2 hC (by show z.cps.toList[i]? = some c; rw [Array.getElem?_toList]; exact e) p) (fun H' p => hd C H' hC (by rw [← cL_len]; exact p))
theorem w_turn {n : Nat} {x : V} {C : Addr} {H' : Hp} {Nx : Hp → Prop} (hw : wipe ((wipe σ vs).set n (some x)) vs = wipe σ vs) (h : tt ((wipe σ vs).set n (some x)) H' fun b H3 =>
    if b = true then te ((wipe σ vs).set n (some x)) H3 fun y H4 => ∃ acc, H4 C = some (.lst acc) ∧ acc.length < sizeLine ∧ Nx (upd H4 C (.lst (acc ++ [y]))) else Nx H3) : LcTurn (gName n) tt te vs σ C x H' Nx := ⟨hw, h⟩
end
end Fk
namespace Fk
open PySem L2
/-- H' is H with a new object o at p -/
structure New (H : Hp) (p : Addr) (o : HO) (H' : Hp) : Prop where
  free : H p = none
  here : H' p = some o
  ne : ∀ a, a ≠ p → H' a = H a
theorem New.of {H H' : Hp} {p : Addr} {o : HO} (h : H p = none) (e : upd H p o = H') : New H p o H' := by
  subst e
  exact ⟨h, upd_same, fun a n => upd_ne n⟩
/-- H' is H, at p another object -/
structure Put (H : Hp) (p : Addr) (o : HO) (H' : Hp) : Prop where
  here : H' p = some o
  ne : ∀ a, a ≠ p → H' a = H a
theorem Put.of {H H' : Hp} {p : Addr} {o : HO} (e : upd H p o = H') : Put H p o H' := by
  subst e
  exact ⟨upd_same, fun a n => upd_ne n⟩
section
variable {H H1 H2 : Hp} {p d a : Addr} {o u : HO} {n : Nat}
theorem New.keep (N : New H p o H1) (h : H a = some u) : H1 a = some u := (N.ne a (ne_of_none h N.free)).trans h
theorem New.ex (N : New H p o H1) : Evl.Ex H H1 := fun _ _ h => N.keep h
theorem New.go (N : New H p o H1) (g : Go d H2 H) : Go d H2 H1 := fun a u ne h => N.keep (g a u ne h)
theorem New.go1 (N : New H p o H1) : Go d H H1 := N.go (Go.refl d H)
theorem New.drw (N : New H p o H1) (h : Drw H d n) : Drw H1 d n := by
  obtain ⟨x, y, z, h, r⟩ := h
  exact ⟨x, y, z, N.keep h, r⟩
theorem New.apart (N : New H p o H1) (h : H a = some u) : a ≠ p := ne_of_none h N.free
theorem New.back (N : New H p o H1) (h : H1 a = none) : H a = none := by
  cases e : H a with
  | none => rfl
  | some u => rw [N.keep e] at h; cases h
theorem Put.keep (N : Put H p o H1) (h : H a = some u) (ne : a ≠ p) : H1 a = some u := (N.ne a ne).trans h
theorem Put.go (N : Put H p o H1) (g : Go d H2 H) (h : H2 p = none) : Go d H2 H1 := fun a u ne e => N.keep (g a u ne e) (ne_of_none e h)
theorem Put.drw (N : Put H p o H1) (h : Drw H d n) (ne : d ≠ p) : Drw H1 d n := by
  obtain ⟨x, y, z, h, r⟩ := h
  exact ⟨x, y, z, N.keep h ne, r⟩
theorem Put.same (N : Put H p o H1) : Bt p H H1 := N.ne
theorem Bt.keep {H H1 : Hp} (b : Bt d H H1) (h : H a = some u) (ne : a ≠ d) : H1 a = some u := (b a ne).trans h
theorem Bt.free {H H1 : Hp} (b : Bt d H H1) (h : H1 a = none) (ne : a ≠ d) : H a = none := (b a ne).symm.trans h
end
end Fk
namespace Fk
open PySem L2
/-- the things of which one is picked: a list, a tuple, or the signs of a text -/
inductive Lot (K : PySem.W.Frag) (H : Hp) : V → Nat → (Nat → V → Prop) → Prop where
  | lst {a : Addr} {xs : List V} (h : SqL K H a xs) : Lot K H (.ref a) xs.length fun i v => xs[i]? = some v
  | tup {a : Addr} {xs : List V} (h : SqT K H a xs) : Lot K H (.ref a) xs.length fun i v => xs[i]? = some v
  | str {z : Str} (h : z.length ≤ sizeLine) : Lot K H (.str z) z.length fun i v => ∃ c, z.cps.toList[i]? = some c ∧ v = .str ⟨#[c]⟩
theorem Lot.len {K : PySem.W.Frag} {H : Hp} {x : V} {m : Nat} {R : Nat → V → Prop} (h : Lot K H x m R) : LenV K x H m := by
  cases h with
  | lst h => exact .inl ⟨_, h, rfl⟩
  | tup h => exact .inr ⟨_, h, rfl⟩
  | str h => exact ⟨h, rfl⟩
def spPick (K : PySem.W.Frag) : Sp := fun vs H Q _ => ∃ (d : Addr) (n : Nat) (x : V) (m : Nat), vs = [.ref d, x] ∧ Drw H d n ∧ n ≤ 100000 ∧ (∃ R, Lot K H x m R ∧ x ≠ .ref d ∧
  0 < m ∧ m < 1073741824 ∧ ∀ (i : Nat) (v : V) (H' : Hp), i < m → R i v → Bt d H H' → Drw H' d (n + 1) → Q v H')
def spBegun : Sp := fun vs H Q _ => ∃ (x m : Int), vs = [.int x, .int m] ∧ ∀ (d : Addr) (H' : Hp), H d = none → Bt d H H' → Drw H' d 0 → Q (.ref d) H'
section
variable {K : PySem.W.Frag} {H : Hp} {Q : VK} {E : XK} {d p : Addr} {n : Nat} {xs : List V}
theorem pick_l (hd : Drw H d n) (hn : n ≤ 100000) (hq : SqL K H p xs) (ne : p ≠ d) (m0 : 0 < xs.length) (m1 : xs.length ≤ 100000)
    (q : ∀ v H', v ∈ xs → Bt d H H' → Drw H' d (n + 1) → Q v H') : spPick K ([.ref d, .ref p] ++ []) H Q E :=
  ⟨d, n, .ref p, xs.length, rfl, hd, hn, _, Lot.lst hq, fun e => ne (by cases e; rfl), m0, by omega, fun i v H' _ hv bt hd' => q v H' (List.mem_of_getElem? hv) bt hd'⟩
theorem pick_t (hd : Drw H d n) (hn : n ≤ 100000) (hq : SqT K H p xs) (ne : p ≠ d) (m0 : 0 < xs.length) (m1 : xs.length ≤ 100000)
    (q : ∀ v H', v ∈ xs → Bt d H H' → Drw H' d (n + 1) → Q v H') : spPick K ([.ref d, .ref p] ++ []) H Q E :=
  ⟨d, n, .ref p, xs.length, rfl, hd, hn, _, Lot.tup hq, fun e => ne (by cases e; rfl), m0, by omega, fun i v H' _ hv bt hd' => q v H' (List.mem_of_getElem? hv) bt hd'⟩
theorem pick_s {z : Str} (hd : Drw H d n) (hn : n ≤ 100000) (m0 : 0 < (cL z).length) (m1 : (cL z).length ≤ 100000)
    (q : ∀ c H', c ∈ cL z → Bt d H H' → Drw H' d (n + 1) → Q (.str ⟨#[c]⟩) H') : spPick K ([.ref d, .str z] ++ []) H Q E :=
  ⟨d, n, .str z, z.length, rfl, hd, hn, _, Lot.str (by rw [cL_len]; exact small m1), (fun e => nomatch e), by rw [cL_len]; exact m0, by rw [cL_len]; omega, fun i v H' _ ⟨c, hv, e⟩ bt hd' => by
    subst e
    exact q c H' (List.mem_of_getElem? hv) bt hd'⟩
theorem next_i {m : Int} (hd : Drw H d n) (hn : n ≤ 100000) (m0 : 0 < m) (m1 : m < 1073741824)
    (q : ∀ (r : Int) H', 0 ≤ r → r < m → Bt d H H' → Drw H' d (n + 1) → Q (.int r) H') : spNext ([.ref d, .int m] ++ []) H Q E := ⟨d, n, m, rfl, hd, hn, m0, m1, q⟩
end
end Fk
namespace Fk
open PySem PySem.Spec PyProof.Rows L2
theorem inV_str (z : Str) : ∀ l : List Str, inV (.str z) (l.map V.str) = decide (z ∈ l)
  | [] => by simp [inV]
  | x :: r => by
    have ih := inV_str z r
    unfold inV at ih ⊢
    rw [List.map_cons, List.any_cons, ih]
    show ((x == z) || decide (z ∈ r)) = decide (z ∈ x :: r)
    rw [Bool.eq_iff_iff]
    simp only [Bool.or_eq_true, beq_iff_eq, decide_eq_true_eq, List.mem_cons]
    exact or_congr_left ⟨fun h => h.symm, fun h => h.symm⟩
theorem flat_str (l : List Str) : (l.map V.str).all flatV = true := by
  rw [List.all_map, List.all_eq_true]
  intro x _
  rfl
section
variable {K : PySem.W.Frag} {H : Hp} {Q : VK} {p : Addr} {z : Str} {l : List Str}
theorem w_inS (h : SqL K H p (l.map V.str)) (q : Q (.bl (decide (z ∈ l))) H) : rIn K false (.str z) (.ref p) H Q :=
  ⟨p, _, rfl, .inl h, rfl, flat_str l, by
    show Q (.bl (inV (.str z) (l.map V.str))) H
    rw [inV_str]
    exact q⟩
theorem w_ninS (h : SqL K H p (l.map V.str)) (q : Q (.bl (!decide (z ∈ l))) H) : rIn K true (.str z) (.ref p) H Q :=
  ⟨p, _, rfl, .inl h, rfl, flat_str l, by
    show Q (.bl (!inV (.str z) (l.map V.str))) H
    rw [inV_str]
    exact q⟩
theorem w_addS {i j : Str} (hz : i.length + j.length ≤ sizeLine) (q : Q (.str (i ++ j)) H) : rAddT (.str i) (.str j) H Q := ⟨i, j, rfl, rfl, hz, q⟩
theorem cut5_len (z : Str) : (cutS z none (some 5)).length ≤ 5 := by
  rw [cL_len, cut5, List.length_take]
  exact Nat.min_le_left _ _
theorem ones_sum : ∀ cs : List Nat, ((cs.map fun c => (⟨#[c]⟩ : Str)).map (·.length)).sum = cs.length
  | [] => rfl
  | c :: r => by
    rw [List.map_cons, List.map_cons, List.sum_cons, ones_sum r, List.length_cons]
    show 1 + r.length = r.length + 1
    omega
/-- the names that are left, of those with one sign exchanged -/
def left (z : Str) (l : List Str) (cs : List Nat) : List Nat := cs.filter fun c => !decide (other z c ∈ l)
theorem left_take {z : Str} {l : List Str} {cs : List Nat} {i c : Nat} (h : cs[i]? = some c) : left z l (cs.take (i + 1)) = if other z c ∈ l then left z l (cs.take i) else left z l (cs.take i) ++ [c] := by
  unfold left
  rw [List.take_add_one, h, List.filter_append]
  by_cases q : other z c ∈ l
  · rw [if_pos q]
    simp [q]
  · rw [if_neg q]
    simp [q]
theorem left_ne {z : Str} {l : List Str} (h : l.length < 26) : ∃ c r, left z l abc = c :: r ∧ SignOk c ∧ other z c ∉ l := by
  obtain ⟨c, hc, hn⟩ := other_left z h
  have hm : c ∈ left z l abc := List.mem_filter.mpr ⟨hc, by simp [hn]⟩
  cases e : left z l abc with
  | nil => rw [e] at hm; cases hm
  | cons x r =>
    have hx : x ∈ left z l abc := by rw [e]; exact List.mem_cons_self ..
    obtain ⟨h1, h2⟩ := List.mem_filter.mp hx
    exact ⟨x, r, rfl, abc_ok x h1, by simpa using h2⟩
end
end Fk
namespace Fk
open PySem PySem.Spec PyProof.Rows L2
section
variable {K : PySem.W.Frag} {H : Hp} {Q : VK} {p a b : Addr} {xs ys : List V} {lo hi : Option Int}
theorem w_slL (h : SqL K H a xs) (q : ∀ p, H p = none → Q (.ref p) (upd H p (.lst (cutV xs lo hi)))) : rSlL K (.ref a) lo hi H Q := ⟨a, xs, rfl, h, q⟩
theorem w_cat (h : H a = some (.lst xs)) (h2 : H b = some (.lst ys)) (hz : xs.length + ys.length ≤ 100000) (q : ∀ p, H p = none → Q (.ref p) (upd H p (.lst (xs ++ ys)))) : rCat (.ref a) (.ref b) H Q := ⟨a, b, xs, ys, rfl, rfl, h, h2, small hz, q⟩
theorem w_len {x : V} {n : Nat} (h : LenV K x H n) (q : Q (.int (n : Nat)) H) : rLen K [x] H Q := ⟨x, n, rfl, h, q⟩
theorem cut_from {i : Nat} : cutV xs (some ((i : Int) + 1)) none = xs.drop (i + 1) := by
  have e : ((i : Int) + 1) = ((i + 1 : Nat) : Int) := by omega
  rw [e]
  unfold cutV
  rw [HT.sIx_nat, HT.sIx_none]
  by_cases h : i + 1 ≤ xs.length
  · rw [Nat.min_eq_left h, List.take_of_length_le (by rw [List.length_drop]; omega)]
  · rw [Nat.min_eq_right (by omega), List.drop_of_length_le (Nat.le_refl _), List.drop_of_length_le (by omega)]
    simp
theorem Names.lt {l : List Str} (h : Names l) {i j : Nat} {s t : Str} (hi : l[i]? = some s) (hj : l[j]? = some t) (ij : i < j) : Lts s t := by
  obtain ⟨h1, e1⟩ := List.getElem?_eq_some_iff.mp hi
  obtain ⟨h2, e2⟩ := List.getElem?_eq_some_iff.mp hj
  rw [← e1, ← e2]
  exact List.pairwise_iff_getElem.mp h.up i j h1 h2 ij
end
end Fk
namespace Fk
open PySem PySem.Spec PyProof.Rows L2
theorem cut_one {xs : List V} : cutV xs (some 1) none = xs.drop 1 := cut_from (i := 0)
end Fk
namespace Fk
open PySem PySem.Spec PySem.Calls PySem.W PyProof.Rows PyProof.V
/-- how a walk of two lists side by side stands after n turns -/
structure ZAt (z TI TO i1 i2 l1 l2 S : Addr) (xs ys : Array Value) (n : Nat) (h : Heap) : Prop where
  ti : IsPair h TI (.ref i1) (.ref i2)
  a1 : h.IsListIter i1 l1 n
  a2 : h.IsListIter i2 l2 n
  b1 : h.IsList l1 xs
  b2 : h.IsList l2 ys
  st : (IsZip h z TI TO .none ∧ ∃ a b, IsPair h TO a b) ∨ ∃ T f oT, IsZipHeld h z TI TO T f ∧ h.get? T = some oT ∧ T ≠ z ∧ T ≠ i1 ∧ T ≠ i2 ∧ T ≠ S
section
variable {z TI TO i1 i2 l1 l2 S : Addr} {xs ys : Array Value} {n : Nat} {h h' : Heap}
theorem ZAt.frame (st : ZAt z TI TO i1 i2 l1 l2 S xs ys n h) (k : ∀ b o, b ≠ S → h.get? b = some o → h'.get? b = some o) (d : S ∉ [z, TI, TO, i1, i2, l1, l2]) : ZAt z TI TO i1 i2 l1 l2 S xs ys n h' := by
  simp only [List.mem_cons, List.not_mem_nil, or_false, not_or] at d
  obtain ⟨d1, d2, d3, d4, d5, d6, d7⟩ := d
  refine ⟨k _ _ (Ne.symm d2) st.ti, st.a1.at fun o e => k _ o (Ne.symm d4) e, st.a2.at fun o e => k _ o (Ne.symm d5) e, st.b1.at fun o e => k _ o (Ne.symm d6) e, st.b2.at fun o e => k _ o (Ne.symm d7) e, ?_⟩
  rcases st.st with ⟨e, a, b, q⟩ | ⟨T, f, oT, e, q, r1, r2, r3, r4⟩
  · exact .inl ⟨k _ _ (Ne.symm d1) e, a, b, k _ _ (Ne.symm d3) q⟩
  · exact .inr ⟨T, f, oT, k _ _ (Ne.symm d1) e, k _ _ r4 q, r1, r2, r3, r4⟩
end
section
variable {prog : Program} {w : World} {A : Around} {E : Value → Shared → Prop} {s : Shared}
theorem zat_item {z TI TO i1 i2 l1 l2 S : Addr} {xs ys : Array Value} {n : Nat} {Q : Option Value → Shared → Prop} (D : ZipApart z TI TO i1 i2 l1 l2) (st : ZAt z TI TO i1 i2 l1 l2 S xs ys n s.heap) (hS : S < s.heap.objs.size) (hx : n < xs.size) (hy : n < ys.size)
    (q : ∀ h', ZAt z TI TO i1 i2 l1 l2 S xs ys (n + 1) h' → IsPair h' s.heap.objs.size xs[n] ys[n] → h'.objs.size = s.heap.objs.size + 1 → (∀ b o, b ∉ [z, TO, i1, i2] → s.heap.get? b = some o → h'.get? b = some o) → Q (some (.ref s.heap.objs.size)) { s with heap := h' }) :
    wpAny (model prog w) A (pyNext (.ref z)) Q E s := by
  have ex := Array.getElem?_eq_getElem hx
  have ey := Array.getElem?_eq_getElem hy
  have lt : ∀ {c o}, s.heap.get? c = some o → s.heap.objs.size ≠ c := fun e => Nat.ne_of_gt (Heap.lt_size e)
  have m1 : s.heap.objs.size ≠ i1 := let ⟨_, e, _⟩ := st.a1; lt e
  have m2 : s.heap.objs.size ≠ i2 := let ⟨_, e, _⟩ := st.a2; lt e
  have out : ∀ {b c : Addr}, b ∉ [z, TO, i1, i2] → b ≠ z ∧ b ≠ TO ∧ b ≠ i1 ∧ b ≠ i2 := fun hb => by
    simpa only [List.mem_cons, List.not_mem_nil, or_false, not_or] using hb
  rcases st.st with ⟨e, a, b, hTO⟩ | ⟨T, f, oT, e, hT, r1, r2, r3, r4⟩
  · refine wpAny_pyNext_zip_item D e st.ti hTO st.a1 st.a2 st.b1 st.b2 ex ey fun g c1 c2 c3 c4 c5 c6 k => q g ?_ c5 c6 ?_
    · exact ⟨k _ _ D.TIz D.TITO D.TIi1 D.TIi2 st.ti, c3, c4, st.b1.at fun o y => k _ o D.l1z D.l1TO D.l1i1 D.l1i2 y, st.b2.at fun o y => k _ o D.l2z D.l2TO D.l2i1 D.l2i2 y, .inr ⟨_, false, _, c1, c5, lt e, m1, m2, Nat.ne_of_gt hS⟩⟩
    · intro b o hb y
      obtain ⟨x1, x2, x3, x4⟩ := out (c := 0) hb
      exact k b o x1 x2 x3 x4 y
  · refine wpAny_pyNext_zip_item_held D e hT st.ti st.a1 st.a2 st.b1 st.b2 ex ey fun g c1 c3 c4 c5 c6 k => q g ?_ c5 c6 ?_
    · exact ⟨k _ _ D.TIz D.TIi1 D.TIi2 st.ti, c3, c4, st.b1.at fun o y => k _ o D.l1z D.l1i1 D.l1i2 y, st.b2.at fun o y => k _ o D.l2z D.l2i1 D.l2i2 y, .inr ⟨T, true, oT, c1, k _ _ r1 r2 r3 hT, r1, r2, r3, r4⟩⟩
    · intro b o hb y
      obtain ⟨x1, x2, x3, x4⟩ := out (c := 0) hb
      exact k b o x1 x3 x4 y
theorem zat_done {z TI TO i1 i2 l1 l2 S : Addr} {xs ys : Array Value} {n : Nat} {Q : Option Value → Shared → Prop} (hh : A.handled = none) (D : ZipApart z TI TO i1 i2 l1 l2) (st : ZAt z TI TO i1 i2 l1 l2 S xs ys n s.heap) (hn : min xs.size ys.size ≤ n)
    (q : ∀ h', (∀ b o, b ∉ [z, TO, i1, i2] → s.heap.get? b = some o → h'.get? b = some o) → Q none { s with heap := h' }) :
    wpAny (model prog w) A (pyNext (.ref z)) Q E s := by
  have out : ∀ {b : Addr}, b ∉ [z, TO, i1, i2] → b ≠ z ∧ b ≠ TO ∧ b ≠ i1 ∧ b ≠ i2 := fun hb => by
    simpa only [List.mem_cons, List.not_mem_nil, or_false, not_or] using hb
  have no : xs[n]? = none ∨ ys[n]? = none := by
    rcases Nat.le_total xs.size ys.size with y | y
    · left
      rw [Nat.min_eq_left y] at hn
      exact Array.getElem?_eq_none hn
    · right
      rw [Nat.min_eq_right y] at hn
      exact Array.getElem?_eq_none hn
  rcases st.st with ⟨e, a, b, hTO⟩ | ⟨T, f, oT, e, hT, r1, r2, r3, r4⟩
  · refine wpAny_pyNext_zip_end hh D e st.ti hTO st.a1 st.a2 st.b1 st.b2 no fun g k => q g fun b o hb y => ?_
    obtain ⟨x1, x2, x3, x4⟩ := out hb
    exact k b o x1 x2 x3 x4 y
  · refine wpAny_pyNext_zip_end_held hh D e hT st.ti st.a1 st.a2 st.b1 st.b2 no fun g k => q g fun b o hb y => ?_
    obtain ⟨x1, x2, x3, x4⟩ := out hb
    exact k b o x1 x3 x4 y
end
/-- the pairs gathered, at rising addresses above S -/
structure ZG (xs ys : Array Value) (S : Addr) (h : Heap) (as : List Addr) : Prop where
  up : as.Pairwise (· < ·)
  low : ∀ a ∈ as, S < a
  at_ : ∀ (j : Nat) (a : Addr), as[j]? = some a → ∃ x y, xs[j]? = some x ∧ ys[j]? = some y ∧ IsPair h a x y
theorem ZG.there {xs ys : Array Value} {S : Addr} {h : Heap} {as : List Addr} (g : ZG xs ys S h as) {a : Addr} (ha : a ∈ as) : a < h.objs.size := by
  obtain ⟨j, hj⟩ := List.mem_iff_getElem?.mp ha
  obtain ⟨_, _, _, _, e⟩ := g.at_ j a hj
  exact Heap.lt_size e
section
variable {prog : Program} {w : World} {A : Around} {s : Shared} {R : Result → Shared → Prop}
theorem zip_loop {z TI TO i1 i2 l1 l2 S : Addr} {xs ys : Array Value} (hh : A.handled = none) (D : ZipApart z TI TO i1 i2 l1 l2) (dS : S ∉ [z, TI, TO, i1, i2, l1, l2]) (hb : ∀ b ∈ [z, TO, i1, i2], b < S) (hn : xs.size ≤ sizeLine) (res : Value) {h₁ : Heap}
    (hR : ∀ h' tk acc c as, (∀ b o, b ≠ S → b ∉ [z, TO, i1, i2] → h₁.get? b = some o → h'.get? b = some o) → h'.get? S = some { cls := .type "list", dict := none, data := .seq acc c, slots := #[] } →
      as.length = min xs.size ys.size → ZG xs ys S h' as → acc.toList = as.map Value.ref → R (.ok (.ret res)) { s with heap := h', toks := tk }) :
    ∀ (k i : Nat) (h : Heap) (tk c : Nat) (acc : Array Value) (as : List Addr), min xs.size ys.size - i = k → i ≤ min xs.size ys.size → ZAt z TI TO i1 i2 l1 l2 S xs ys i h → (∀ b o, b ≠ S → b ∉ [z, TO, i1, i2] → h₁.get? b = some o → h.get? b = some o) →
      h.get? S = some { cls := .type "list", dict := none, data := .seq acc c, slots := #[] } → acc.toList = as.map Value.ref → as.length = i → ZG xs ys S h as →
      codeAny (model prog w) A (.builtin "list.extend.loop" ⟨[.ref S, .ref z, res], []⟩) R { s with heap := h, toks := tk } := by
  have hSw : S ∉ [z, TO, i1, i2] := fun hm => Nat.lt_irrefl _ (hb _ hm)
  intro k
  induction k with
  | zero =>
    intro i h tk c acc as hk hi st kp hS ha hl G
    refine codeAny_builtin PySem.F.entry_extend_loop ?_
    rw [Around.under_plainId PySem.F.plain_extend_loop _]
    show wpAny _ A.in1 (pyNext (.ref z) >>= _) _ _ _
    refine wpAny_bind (zat_done (s := { s with heap := h, toks := tk }) (A := A.in1) hh D st (by omega) fun g e => ?_)
    refine wpAny_pure (hR g tk acc c as (fun b o y1 y2 y => e b o y2 (kp b o y1 y2 y)) (e S _ hSw hS) (by omega) ⟨G.up, G.low, fun j a hj => ?_⟩ ha)
    obtain ⟨x, y, e1, e2, e3⟩ := G.at_ j a hj
    exact ⟨x, y, e1, e2, e a _ (fun hm => Nat.lt_irrefl _ (Nat.lt_trans (G.low a (List.mem_of_getElem? hj)) (hb a hm))) e3⟩
  | succ k ih =>
    intro i h tk c acc as hk hi st kp hS ha hl G
    have hlt : i < min xs.size ys.size := by omega
    have sz : acc.size = i := by rw [← Array.length_toList, ha, List.length_map, hl]
    have hx : i < xs.size := by omega
    have hy : i < ys.size := by omega
    refine codeAny_builtin PySem.F.entry_extend_loop ?_
    rw [Around.under_plainId PySem.F.plain_extend_loop _]
    show wpAny _ A.in1 (pyNext (.ref z) >>= _) _ _ _
    refine wpAny_bind (zat_item (s := { s with heap := h, toks := tk }) (S := S) D st (Heap.lt_size hS) hx hy fun g st' ht hz k1 => ?_)
    dsimp only at ht hz k1 ⊢
    have hS' := k1 S _ hSw hS
    have hSl : S < h.objs.size := Heap.lt_size hS
    have up : ∀ b o, b ≠ S → g.get? b = some o → (g.update S (Obj.mapSeq (·.push (Value.ref h.objs.size)))).get? b = some o := fun b o n e => (Heap.get?_update_other _ _ (Ne.symm n)).trans e
    show wpAny _ A.in1 (updateSeq S (·.push (Value.ref h.objs.size)) >>= _) _ _ _
    refine wpAny_bind ?_
    refine wpAny_updateSeq hS' rfl (wpAny_pure ⟨plainId_quiet PySem.F.plain_extend_loop _, ih (i + 1) _ tk _ (acc.push (Value.ref h.objs.size)) (as ++ [h.objs.size]) (by omega) hlt (st'.frame up dS)
      (fun b o y1 y2 e => up b o y1 (k1 b o y2 (kp b o y1 y2 e))) (Heap.get?_update_self _ hS' rfl) (by rw [Array.toList_push, ha, List.map_append]; rfl) (by rw [List.length_append, hl]; rfl) ⟨?_, ?_, ?_⟩⟩) (by rw [sz]; omega) (by show (acc.push (Value.ref h.objs.size)).size ≤ sizeLine + 1; rw [Array.size_push, sz]; omega)
    · refine List.pairwise_append.mpr ⟨G.up, List.pairwise_singleton _ _, fun a m b m' => ?_⟩
      rw [List.mem_singleton.mp m']
      exact G.there m
    · intro a m
      rcases List.mem_append.mp m with m | m
      · exact G.low a m
      · rw [List.mem_singleton.mp m]; exact hSl
    · intro j b hj
      rcases Nat.lt_trichotomy j as.length with y | y | y
      · rw [List.getElem?_append_left y] at hj
        obtain ⟨x, x', e1, e2, e3⟩ := G.at_ j b hj
        have lb := G.low b (List.mem_of_getElem? hj)
        exact ⟨x, x', e1, e2, up b _ (Nat.ne_of_gt lb) (k1 b _ (fun m => Nat.lt_irrefl _ (Nat.lt_trans lb (hb b m))) e3)⟩
      · subst y
        have e : h.objs.size = b := by simpa using hj
        subst e
        subst hl
        exact ⟨_, _, Array.getElem?_eq_getElem hx, Array.getElem?_eq_getElem hy, up _ _ (Nat.ne_of_gt hSl) ht⟩
      · have none' : (as ++ [h.objs.size])[j]? = none := List.getElem?_eq_none (by rw [List.length_append, List.length_singleton]; omega)
        rw [none'] at hj; cases hj
end
theorem zip_no_len : typeLookup (.type "zip") "__len__" = pure none := am_miss_of_fast (by decide +kernel)
theorem zip_no_hint : typeLookup (.type "zip") "__length_hint__" = pure none := am_miss_of_fast (by decide +kernel)
section
variable {prog : Program} {w : World} {A : Around} {E : Value → Shared → Prop} {s : Shared}
theorem zip_hint {z : Addr} (hT : s.TypeIs (.ref z) "zip") {Q : Bool → Shared → Prop} (q : Q true s) : wpAny (model prog w) A (Builtin.List.listLengthHint (.ref z)) Q E s := by
  unfold Builtin.List.listLengthHint
  refine wpAny_bind (wpAny_specialOf hT zip_no_len ?_)
  wp_delta
  refine wpAny_ite_split (fun y => absurd y (by decide)) (fun _ => ?_)
  refine wpAny_bind (wpAny_specialOf hT zip_no_hint ?_)
  exact wpAny_pure q
end
end Fk
namespace Fk
open PySem PySem.Spec PySem.Calls PySem.W PyProof.Rows PyProof.V
section
variable {prog : Program} {w : World} {A : Around} {E : Value → Shared → Prop} {s : Shared} {z TI TO i1 i2 l1 l2 S : Addr} {xs ys : Array Value}
theorem zip_extend {R : Result → Shared → Prop} (hh : A.handled = none) (D : ZipApart z TI TO i1 i2 l1 l2) (dS : S ∉ [z, TI, TO, i1, i2, l1, l2]) (hb : ∀ b ∈ [z, TO, i1, i2], b < S) (hn : xs.size ≤ sizeLine) (res : Value) (c₀ : Nat)
    (st : ZAt z TI TO i1 i2 l1 l2 S xs ys 0 s.heap) (zz : IsZip s.heap z TI TO .none) (hS : s.heap.get? S = some { cls := .type "list", data := .seq #[] c₀ })
    (hR : ∀ h' tk acc c as, (∀ b o, b ≠ S → b ∉ [z, TO, i1, i2] → s.heap.get? b = some o → h'.get? b = some o) → h'.get? S = some { cls := .type "list", dict := none, data := .seq acc c, slots := #[] } →
      as.length = min xs.size ys.size → ZG xs ys S h' as → acc.toList = as.map Value.ref → R (.ok (.ret res)) { s with heap := h', toks := tk }) :
    wpAny (model prog w) A.in1 (Builtin.List.listExtendWith (.ref S) (.ref z) res)
      (fun fin s' => match fin with | .done f => R (.ok f) s' | .again c' => c'.quiet = true ∧ codeAny (model prog w) A c' R s') (fun e s' => R (.error e) s') s := by
  have zS : S ≠ z := fun e => dS (by rw [e]; simp)
  obtain ⟨hz, hzt⟩ : ∃ o, s.heap.get? z = some o ∧ o.cls = .type "zip" := by
    rcases st.st with ⟨e, _⟩ | ⟨_, _, _, e, _⟩
    · exact ⟨_, e, rfl⟩
    · exact ⟨_, e, rfl⟩
  have key : ∀ (h : Heap) (c₁ tk : Nat), (∀ b o, b ≠ S → s.heap.get? b = some o → h.get? b = some o) → h.get? S = some { cls := .type "list", data := .seq #[] c₁ } →
      codeAny (model prog w) A (.builtin "list.extend.loop" ⟨[.ref S, .ref z, res], []⟩) R { s with heap := h, toks := tk } := by
    intro h c₁ tk k e
    exact zip_loop (s := s) (h₁ := s.heap) hh D dS hb hn res hR (min xs.size ys.size) 0 h tk c₁ #[] [] (Nat.sub_zero _) (Nat.zero_le _) (st.frame k dS) (fun b o y _ e => k b o y e) e rfl rfl
      ⟨List.Pairwise.nil, (fun _ m => nomatch m), (fun j a m => by simp at m)⟩
  unfold Builtin.List.listExtendWith
  refine wpAny_bind (wpAny_typeOf (T := "zip") ⟨_, hzt⟩ ?_)
  have n1 : Builtin.List.listSameRef (.ref S) (.ref z) = false := by simp [Builtin.List.listSameRef, zS]
  have n2 : (Value.type "zip" == Value.type "list") = false := by decide
  have n3 : (Value.type "zip" == Value.type "tuple") = false := by decide
  simp only [n1, n2, n3, Bool.or_false, Bool.false_eq_true, if_false]
  refine wpAny_bind (wpAny_pyIter_zip zz ?_)
  refine wpAny_bind (wpAny_holding (zip_hint ⟨_, hzt⟩ ?_))
  refine wpAny_ite_split (fun _ => ?_) (fun _ => wpAny_pure ⟨plainId_quiet PySem.F.plain_extend_loop _, key _ c₀ _ (fun b o _ e => e) hS⟩)
  refine wpAny_bind (wpAny_rule ?_)
  refine wpAny_bind ?_
  show wpAny _ _ (updateSeq S (·.push .none) >>= fun _ => updateSeq S (·.pop)) _ _ _
  refine wpAny_bind (wpAny_updateSeq hS rfl ?_)
  have e₂ := Heap.get?_update_self (Obj.mapSeq (·.push Value.none)) hS rfl
  refine wpAny_updateSeq (hz := by seq_fits) e₂ rfl ?_
  have e₃ := Heap.get?_update_self (Obj.mapSeq (·.pop)) e₂ rfl
  refine wpAny_pure ⟨plainId_quiet PySem.F.plain_extend_loop _, key _ _ _ (fun b o n e => ?_) e₃⟩
  exact (Heap.get?_update_other _ _ (Ne.symm n)).trans ((Heap.get?_update_other _ _ (Ne.symm n)).trans e)
theorem zip_init {R : Result → Shared → Prop} (hh : A.handled = none) (D : ZipApart z TI TO i1 i2 l1 l2) (dS : S ∉ [z, TI, TO, i1, i2, l1, l2]) (hb : ∀ b ∈ [z, TO, i1, i2], b < S) (hn : xs.size ≤ sizeLine)
    (st : ZAt z TI TO i1 i2 l1 l2 S xs ys 0 s.heap) (zz : IsZip s.heap z TI TO .none) (hS : s.heap.get? S = some { cls := .type "list", data := .seq #[] })
    (hR : ∀ h' tk acc c as, (∀ b o, b ≠ S → b ∉ [z, TO, i1, i2] → s.heap.get? b = some o → h'.get? b = some o) → h'.get? S = some { cls := .type "list", dict := none, data := .seq acc c, slots := #[] } →
      as.length = min xs.size ys.size → ZG xs ys S h' as → acc.toList = as.map Value.ref → R (.ok (.ret .none)) { s with heap := h', toks := tk }) :
    wpAny (model prog w) A.in1 (Builtin.«list.__init__» ⟨[.ref S, .ref z], []⟩)
      (fun fin s' => match fin with | .done f => R (.ok f) s' | .again c' => c'.quiet = true ∧ codeAny (model prog w) A c' R s') (fun e s' => R (.error e) s') s := by
  show wpAny _ _ (do let old ← Builtin.List.listItems (.ref S); Builtin.List.listUpdate (.ref S) (fun _ => #[]); letGo old.toList.reverse; Builtin.List.listExtendWith (.ref S) (.ref z) .none) _ _ s
  refine wpAny_bind ?_
  unfold Builtin.List.listItems
  refine wpAny_bind (wpAny_seqItems hS rfl (wpAny_pure ?_))
  show wpAny _ _ (updateSeq S (fun _ => #[]) >>= fun _ => letGo (#[] : Array Value).toList.reverse >>= fun _ => Builtin.List.listExtendWith (.ref S) (.ref z) .none) _ _ s
  refine wpAny_bind (wpAny_updateSeq hS rfl ?_)
  have e₂ := Heap.get?_update_self (Obj.mapSeq (fun _ => (#[] : Array Value))) hS rfl
  have oth : ∀ b o, b ≠ S → s.heap.get? b = some o → (s.heap.update S (Obj.mapSeq (fun _ => (#[] : Array Value)))).get? b = some o := fun b o n e => (Heap.get?_update_other _ _ (Ne.symm n)).trans e
  refine wpAny_bind (wpAny_letGo ?_)
  refine zip_extend hh D dS hb hn .none _ (st.frame oth dS) (oth _ _ (fun e => dS (by rw [← e]; simp)) zz) e₂ (fun h' tk acc c as k e l G a => ?_)
  exact hR h' tk acc c as (fun b o y1 y2 e => k b o y1 y2 (oth b o y1 e)) e l G a
theorem zip_list {Q : Value → Shared → Prop} (hh : A.handled = none) (D : ZipApart z TI TO i1 i2 l1 l2) (dS : ∀ b ∈ [z, TI, TO, i1, i2, l1, l2], b < s.heap.objs.size) (hn : xs.size ≤ sizeLine)
    (st : ∀ S h', (∀ b o, s.heap.get? b = some o → h'.get? b = some o) → ZAt z TI TO i1 i2 l1 l2 S xs ys 0 h') (zz : IsZip s.heap z TI TO .none)
    (q : ∀ h' tk acc c as, (∀ b o, b ∉ [z, TO, i1, i2] → s.heap.get? b = some o → h'.get? b = some o) → h'.get? s.heap.objs.size = some { cls := .type "list", dict := none, data := .seq acc c, slots := #[] } →
      as.length = min xs.size ys.size → ZG xs ys s.heap.objs.size h' as → acc.toList = as.map Value.ref → Q (.ref s.heap.objs.size) { s with heap := h', toks := tk }) :
    wpAny (model prog w) A (call (.type "list") [.ref z]) Q E s := by
  refine callType_codes (Q₁ := fun obj s₁ => obj = .ref s.heap.objs.size ∧ s₁ = { s with heap := s.heap.push { cls := .type "list", data := .seq #[] } }) PySem.F.called_list (PySem.F.typeCall_list_1 _) PySem.F.entry_list_init
    (code_list_new _ ⟨rfl, rfl⟩) fun obj s₁ e => ?_
  obtain ⟨rfl, rfl⟩ := e
  have hS : (s.heap.push { cls := .type "list", data := .seq #[] }).get? s.heap.objs.size = some { cls := .type "list", data := .seq #[] } := Heap.get?_push_size _ rfl
  refine ⟨⟨_, hS, rfl⟩, PySem.F.args_list_init_2 _ _, zip_init (A := A.in1) hh D (fun m => Nat.lt_irrefl _ (dS _ m)) (fun b m => dS b ?_) hn (st _ _ fun b o e => Heap.get?_push_of_some _ e) (Heap.get?_push_of_some _ zz) hS (fun h' tk acc c as k e l G a => ?_)⟩
  · simp only [List.mem_cons, List.not_mem_nil, or_false] at m ⊢
    rcases m with m | m | m | m
    · exact .inl m
    · exact .inr (.inr (.inl m))
    · exact .inr (.inr (.inr (.inl m)))
    · exact .inr (.inr (.inr (.inr (.inl m))))
  · exact ⟨rfl, q h' tk acc c as (fun b o n e => k b o (Nat.ne_of_lt (Heap.lt_size e)) n (Heap.get?_push_of_some _ e)) e l G a⟩
end
end Fk
namespace Fk
open PySem PySem.Spec PyProof.Rows L2
/-- the pairs told of at their addresses -/
def putZ : Hp → List Addr → List (V × V) → Hp
  | H, a :: as, p :: ps => putZ (upd H a (.tup [p.1, p.2])) as ps
  | H, [], _ => H
  | H, _ :: _, [] => H
theorem putZ_off {b : Addr} : ∀ (as : List Addr) (ps : List (V × V)) (H : Hp), b ∉ as → putZ H as ps b = H b
  | [], _, _, _ => rfl
  | _ :: _, [], _, _ => rfl
  | a :: as, p :: ps, H, n => by
    have n1 : b ≠ a := fun e => n (by simp [e])
    have n2 : b ∉ as := fun e => n (by simp [e])
    rw [putZ, putZ_off as ps _ n2, upd_ne n1]
theorem putZ_at : ∀ (as : List Addr) (ps : List (V × V)) (H : Hp), as.length = ps.length → as.Nodup → ∀ {j : Nat} {a : Addr}, as[j]? = some a → ∃ p, ps[j]? = some p ∧ putZ H as ps a = some (.tup [p.1, p.2])
  | [], _, _, _, _, j, a, e => by simp at e
  | _ :: _, [], _, l, _, _, _, _ => by simp at l
  | c :: as, p :: ps, H, l, nd, 0, a, e => by
    have q := List.nodup_cons.mp nd
    have e' : c = a := by simpa using e
    subst e'
    exact ⟨p, rfl, by rw [putZ, putZ_off as ps _ q.1, upd_same]⟩
  | c :: as, p :: ps, H, l, nd, j + 1, a, e => by
    have q := List.nodup_cons.mp nd
    obtain ⟨r, r1, r2⟩ := putZ_at as ps (upd H c (.tup [p.1, p.2])) (by simpa using l) q.2 (j := j) (a := a) (by simpa using e)
    exact ⟨r, by simpa using r1, r2⟩
theorem refs_vals : ∀ as : List Addr, Vals (as.map V.ref) (as.map Value.ref)
  | [] => .nil
  | _ :: as => .cons rfl (refs_vals as)
theorem zip_laid {X : Cx} {pins : List (Addr × Obj)} {σ : L2.St} {H : Hp} {s : Shared} {h' : Heap} {tk c : Nat} {acc : Array Value} {as : List Addr} {xs ys : List V} {us ws : List Value} {S : Addr} (I : Inv X pins σ H s) (rx : Vals xs us) (ry : Vals ys ws) (hz : xs.length ≤ sizeLine)
    (hS0 : s.heap.objs.size ≤ S) (k : ∀ b o, s.heap.get? b = some o → h'.get? b = some o) (hS : h'.get? S = some { cls := .type "list", dict := none, data := .seq acc c, slots := #[] }) (hl : as.length = min us.toArray.size ws.toArray.size) (G : ZG us.toArray ws.toArray S h' as) (ha : acc.toList = as.map Value.ref) :
    ∃ H' : Hp, Evl.Ex H H' ∧ H S = none ∧ H' S = some (.lst (as.map V.ref)) ∧ as.length = min xs.length ys.length ∧ (∀ (i : Nat) (t : Addr), as[i]? = some t → ∃ x y, xs[i]? = some x ∧ ys[i]? = some y ∧ H' t = some (.tup [x, y])) ∧ Inv X pins σ H' { s with heap := h', toks := tk } := by
  have lx := rx.length
  have ly := ry.length
  have hl' : as.length = min xs.length ys.length := by rw [hl, lx, ly]; simp
  have hSn : S ∉ as := fun m => Nat.lt_irrefl _ (G.low _ m)
  have nd : as.Nodup := List.Pairwise.imp (fun {a b} (h : a < b) => Nat.ne_of_lt h) G.up
  have new : ∀ t ∈ as, H t = none := fun t m => I.hok.fresh (Nat.le_trans hS0 (Nat.le_of_lt (G.low t m)))
  have newS : H S = none := I.hok.fresh hS0
  have lz : as.length = (xs.zip ys).length := by rw [hl', List.length_zip]
  have off : ∀ b, b ∉ as → b ≠ S → putZ (upd H S (.lst (as.map V.ref))) as (xs.zip ys) b = H b := fun b n1 n2 => by rw [putZ_off as _ _ n1, upd_ne n2]
  have low : ∀ b o, s.heap.get? b = some o → b ∉ as ∧ b ≠ S := fun b o e => ⟨fun m => absurd (Nat.lt_of_lt_of_le (Heap.lt_size e) hS0) (Nat.not_lt.mpr (Nat.le_of_lt (G.low b m))), Nat.ne_of_lt (Nat.lt_of_lt_of_le (Heap.lt_size e) hS0)⟩
  have kp : ∀ b u, H b = some u → putZ (upd H S (.lst (as.map V.ref))) as (xs.zip ys) b = some u := fun b u e => by
    rw [off b (fun m => by rw [new b m] at e; cases e) (fun z => by rw [z, newS] at e; cases e)]
    exact e
  have eS : putZ (upd H S (.lst (as.map V.ref))) as (xs.zip ys) S = some (.lst (as.map V.ref)) := by rw [putZ_off as _ _ hSn, upd_same]
  have at_ : ∀ {j : Nat} {a : Addr}, as[j]? = some a → ∃ x y, xs[j]? = some x ∧ ys[j]? = some y ∧ putZ (upd H S (.lst (as.map V.ref))) as (xs.zip ys) a = some (.tup [x, y]) := fun {j a} e => by
    obtain ⟨p, e1, e2⟩ := putZ_at as (xs.zip ys) (upd H S (.lst (as.map V.ref))) lz nd e
    have e3 := List.getElem?_zip_eq_some.mp e1
    exact ⟨p.1, p.2, e3.1, e3.2, e2⟩
  refine ⟨_, kp, newS, eS, hl', fun i t e => at_ e, ?_⟩
  refine I.call' (ch := []) rfl ⟨fun b o q _ _ _ => k b o q, fun b o q _ _ _ => ⟨o.slots, k b o q⟩, fun b o q n _ => ?_, fun b o q _ => ⟨o, k b o q⟩, fun b _ q => kp b _ q, fun b o u q => kp b _ q, fun b ps q => ⟨#[], by rw [kp b _ q]; simp⟩⟩ (fun b u q => ?_) I.bare fun b z => by simp at z
  · obtain ⟨z1, z2⟩ := low b o q
    rw [off b z1 z2]
    exact n
  · by_cases hb : b ∈ as
    · obtain ⟨j, hj⟩ := List.mem_iff_getElem?.mp hb
      obtain ⟨x, y, e1, e2, e3⟩ := at_ hj
      rw [e3] at q
      cases q
      obtain ⟨u, w', g1, g2, g3⟩ := G.at_ j b hj
      obtain ⟨u', f1, f2⟩ := rx.get e1
      obtain ⟨w'', f3, f4⟩ := ry.get e2
      have i1 : u' = u := by
        have g1' : us[j]? = some u := by simpa using g1
        rw [f1] at g1'; exact Option.some.inj g1'
      have i2 : w'' = w' := by
        have g2' : ws[j]? = some w' := by simpa using g2
        rw [f3] at g2'; exact Option.some.inj g2'
      subst i1
      subst i2
      exact ⟨by show 2 ≤ sizeLine; decide, [u', w''], .cons f2 (.cons f4 .nil), ⟨_, g3, rfl, _, rfl⟩⟩
    · by_cases hb2 : b = S
      · rw [hb2] at q ⊢
        rw [eS] at q
        cases q
        refine ⟨by rw [List.length_map]; omega, acc.toList, c, by rw [ha]; exact refs_vals as, ?_⟩
        rw [Array.toArray_toList]
        exact hS
      · rw [off b hb hb2] at q
        exact (I.hok b u q).stay (fun d v _ y => k d v y) (fun d y => kp d _ y) fun d _ y => kp d _ y
theorem z_lt5 {n a b c : Nat} (ha : a < n) (hb : b < n) (m : c = n + 4 ∨ c = n + 2 ∨ c = n + 3 ∨ c = n ∨ c = n + 1 ∨ c = a ∨ c = b) : c < n + 5 := by omega
theorem z_no5 {n c : Nat} (l : c < n) (m : c = n + 4 ∨ c = n + 3 ∨ c = n ∨ c = n + 1) : False := by omega
theorem z_le5 (n : Nat) : n ≤ n + 5 := by omega
/-- list(zip(xs, ys)): a new list of new pairs -/
def tListZip (K : PySem.W.Frag) (ta : TA) : TE := fun σ H Q => ta σ H fun vs H1 => ∃ a b xs ys, vs = [.ref a, .ref b] ∧ SqL K H1 a xs ∧ SqL K H1 b ys ∧ ∀ (p : Addr) (ts : List Addr) (H2 : Hp), Evl.Ex H1 H2 → H1 p = none → H2 p = some (.lst (ts.map V.ref)) →
  ts.length = min xs.length ys.length → (∀ (i : Nat) (t : Addr), ts[i]? = some t → ∃ x y, xs[i]? = some x ∧ ys[i]? = some y ∧ H2 t = some (.tup [x, y])) → Q (.ref p) H2
theorem w_lz {K : PySem.W.Frag} {ta : TA} {σ : L2.St} {H : Hp} {Q : VK} (h : ta σ H fun vs H1 => ∃ a b xs ys, vs = [.ref a, .ref b] ∧ SqL K H1 a xs ∧ SqL K H1 b ys ∧ ∀ (p : Addr) (ts : List Addr) (H2 : Hp), Evl.Ex H1 H2 → H1 p = none → H2 p = some (.lst (ts.map V.ref)) →
  ts.length = min xs.length ys.length → (∀ (i : Nat) (t : Addr), ts[i]? = some t → ∃ x y, xs[i]? = some x ∧ ys[i]? = some y ∧ H2 t = some (.tup [x, y])) → Q (.ref p) H2) : tListZip K ta σ H Q := h
theorem pe_listZip {X : Cx} (K : PySem.W.Frag) {e e2 : Expr} {ta : TA} {p p2 pos pos2 : Pos} (hc : X.calm = true) (hgl : Gl X "list") (ml : X.mg "list" = none) (hg : Gl X "zip") (hm : X.mg "zip" = none) (ha : PA X [e, e2] ta)
    (hs : starEach [e, e2] X.env = (false, eval e X.env) :: starEach [e2] X.env := by rfl) (hpl : (backTo pos2 (starEach [e2] X.env)).any (·.1) = false := by rfl)
    (hs1 : starEach [.Call (.Name "zip" p2) [e, e2] [] pos2] X.env = (false, eval (.Call (.Name "zip" p2) [e, e2] [] pos2) X.env) :: starEach [] X.env := by rfl) (h : X.K = K := by rfl) :
    PE X (.Call (.Name "list" p) [.Call (.Name "zip" p2) [e, e2] [] pos2] [] pos) (tListZip K ta) := by
  subst h
  refine ⟨fun pins s σ H Q I hq => ?_⟩
  refine Call_ (ld_blt I hgl ml (show bootBuiltins "list" = some (.type "list") by rfl) (PyProof.Rows.callWith_type1 ?_ hs1 rfl))
  rw [hs1]
  show wpAny _ _ (spliced ((false, eval (.Call (.Name "zip" p2) [e, e2] [] pos2) X.env) :: backTo pos (starEach [] X.env))) _ _ s
  refine Calls.spliced_cons ?_
  refine Call_ (ld_blt I hg hm PyProof.Rows.boot_zip (PyProof.Rows.callWith_type1 (thn (ha.run pos2 pins s σ H _ I hq) fun us s1 ⟨vs, H1, I1, r1, q1⟩ => ?_) hs hpl))
  obtain ⟨a, b, xs, ys, ex, sx, sy, q⟩ := q1
  subst ex
  obtain ⟨u, us', e1, r, rr⟩ : ∃ u us', us = u :: us' ∧ RelV (.ref a) u ∧ Vals [.ref b] us' := by
    cases r1 with | cons r rr => exact ⟨_, _, rfl, r, rr⟩
  obtain ⟨u2, e2', r2⟩ : ∃ u2, us' = [u2] ∧ RelV (.ref b) u2 := by
    cases rr with | cons r rr => cases rr; exact ⟨_, rfl, r⟩
  subst e1
  subst e2'
  obtain rfl : u = Value.ref a := r
  obtain rfl : u2 = Value.ref b := r2
  obtain ⟨us, rx, px, zx⟩ := I1.list sx
  obtain ⟨ws, ry, py, zy⟩ := I1.list sy
  have la : a < s1.heap.objs.size := px.lt
  have lb : b < s1.heap.objs.size := py.lt
  refine call_zip_2 px.isList py.isList fun g hz hTI hTO h1 h2 hsz hk => ?_
  refine Calls.spliced_nil ?_
  have D : ZipApart (s1.heap.objs.size + 4) (s1.heap.objs.size + 2) (s1.heap.objs.size + 3) s1.heap.objs.size (s1.heap.objs.size + 1) a b := PySem.W.ktu_apart s1.heap.objs.size a b la lb
  refine zip_list (s := { s1 with heap := g }) (xs := us.toArray) (ys := ws.toArray) (I1.ok.hd hc) D (fun c hm => ?_) (by simpa [← rx.length] using zx) (fun S h' k => ?_) hz fun h' tk acc c as k e l G a' => ?_
  · simp only [List.mem_cons, List.not_mem_nil, or_false] at hm
    show c < g.objs.size
    rw [hsz]
    exact z_lt5 la lb hm
  · exact ⟨k _ _ hTI, h1.at fun o e => k _ o e, h2.at fun o e => k _ o e, px.isList.at fun o e => k _ o (hk _ o e), py.isList.at fun o e => k _ o (hk _ o e), .inl ⟨k _ _ hz, _, _, k _ _ hTO⟩⟩
  · have kk : ∀ b o, s1.heap.get? b = some o → h'.get? b = some o := fun b o y => k b o (fun m => by
      have lt := Heap.lt_size y
      simp only [List.mem_cons, List.not_mem_nil, or_false] at m
      exact z_no5 lt m) (hk b o y)
    obtain ⟨H2, k1, k2, k3, k4, k5, J⟩ := zip_laid (tk := tk) (S := g.objs.size) I1 rx ry zx (by rw [hsz]; exact z_le5 _) kk e l G a'
    exact ⟨.ref g.objs.size, H2, J, rfl, q _ _ _ k1 k2 k3 k4 k5⟩
end Fk
namespace Fk
open PySem PySem.Spec PyProof.Rows L2

/-- a thing: a number, a text, a truth, None, a list, a tuple of things, an empty dict -/
inductive Kd (H : Hp) : V → Prop where
  | non : Kd H .non
  | bl (b : Bool) : Kd H (.bl b)
  | int (i : Int) : Kd H (.int i)
  | str (z : Str) (h : z.length ≤ 100000) (hc : ∀ c ∈ cL z, c < 128) : Kd H (.str z)
  | lst {a : Addr} {xs : List V} (h : H a = some (.lst xs)) : Kd H (.ref a)
  | tup {a : Addr} {xs : List V} (h : H a = some (.tup xs)) (hl : xs.length ≤ 1000) (hx : ∀ x ∈ xs, Kd H x) : Kd H (.ref a)
  | dct {a : Addr} {kvs : List (Key × V)} (h : H a = some (.dK kvs)) : Kd H (.ref a)
/-- the name of its type -/
def tyN (H : Hp) : V → String
  | .non => "NoneType"
  | .bl _ => "bool"
  | .int _ => "int"
  | .str _ => "str"
  | .ref a => match H a with
    | some (.lst _) => "list"
    | some (.tup _) => "tuple"
    | some (.dK _) => "dict"
    | _ => ""
  | _ => ""
theorem tyN_lst {H : Hp} {a : Addr} {xs : List V} (h : H a = some (.lst xs)) : tyN H (.ref a) = "list" := by
  show (match H a with | some (.lst _) => "list" | some (.tup _) => "tuple" | some (.dK _) => "dict" | _ => "") = "list"
  rw [h]
theorem tyN_tup {H : Hp} {a : Addr} {xs : List V} (h : H a = some (.tup xs)) : tyN H (.ref a) = "tuple" := by
  show (match H a with | some (.lst _) => "list" | some (.tup _) => "tuple" | some (.dK _) => "dict" | _ => "") = "tuple"
  rw [h]
theorem tyN_dK {H : Hp} {a : Addr} {kvs : List (Key × V)} (h : H a = some (.dK kvs)) : tyN H (.ref a) = "dict" := by
  show (match H a with | some (.lst _) => "list" | some (.tup _) => "tuple" | some (.dK _) => "dict" | _ => "") = "dict"
  rw [h]
theorem Kd.ty {K : PySem.W.Frag} {H : Hp} {x : V} (h : Kd H x) : TyX K H x (.type (tyN H x)) := by
  cases h with
  | non => exact .base .non
  | bl b => exact .base (.bl b)
  | int i => exact .base (.int i)
  | str z h hc => exact .base (.str z)
  | lst h => rw [tyN_lst h]; exact .base (.lst h)
  | tup h hl hx => rw [tyN_tup h]; exact .base (.tup h)
  | dct h => rw [tyN_dK h]; exact .base (.dK h)
def kinds : List String := ["NoneType", "bool", "int", "str", "list", "tuple", "dict"]
theorem Kd.mem {H : Hp} {x : V} (h : Kd H x) : tyN H x ∈ kinds := by
  cases h with
  | non => exact (by decide : "NoneType" ∈ kinds)
  | bl b => exact (by decide : "bool" ∈ kinds)
  | int i => exact (by decide : "int" ∈ kinds)
  | str z h hc => exact (by decide : "str" ∈ kinds)
  | lst h => rw [tyN_lst h]; exact (by decide : "list" ∈ kinds)
  | tup h hl hx => rw [tyN_tup h]; exact (by decide : "tuple" ∈ kinds)
  | dct h => rw [tyN_dK h]; exact (by decide : "dict" ∈ kinds)
def isB (A B : String) : Bool := A == B || (B == "int" && A == "bool")
theorem kit_all : ∀ A ∈ kinds, ∀ B ∈ ["int", "str", "tuple", "bool", "list"], kitB A B = some (isB A B) := by decide +kernel
section
variable {K : PySem.W.Frag} {H H' : Hp} {x : V} {Q : VK}
theorem w_isi {B : String} (h : Kd H x) (hB : B ∈ ["int", "str", "tuple", "bool", "list"]) (q : Q (.bl (isB (tyN H x) B)) H) : rIsi K [x, .ty B] H Q :=
  ⟨x, .ty B, _, .type B, _, rfl, .ty B, h.ty, kit_ty (kit_all _ h.mem B hB), q⟩
theorem Kd.ex (e : Evl.Ex H H') (h : Kd H x) : Kd H' x := by
  induction h with
  | non => exact .non
  | bl b => exact .bl b
  | int i => exact .int i
  | str z h hc => exact .str z h hc
  | lst h => exact .lst (e _ _ h)
  | tup h hl _ ih => exact .tup (e _ _ h) hl ih
  | dct h => exact .dct (e _ _ h)
theorem Kd.tyN_ex (e : Evl.Ex H H') (h : Kd H x) : tyN H' x = tyN H x := by
  cases h with
  | lst h => rw [tyN_lst h, tyN_lst (e _ _ h)]
  | tup h hl hx => rw [tyN_tup h, tyN_tup (e _ _ h)]
  | dct h => rw [tyN_dK h, tyN_dK (e _ _ h)]
  | _ => rfl
/-- whether a value is a place, a number up to m -/
def plV : V → Bool
  | .str z => decide (Place z)
  | _ => false
def numV (m : Int) : V → Bool
  | .int i => decide (0 ≤ i) && decide (i ≤ m)
  | _ => false
instance ltsDec (a b : Str) : Decidable (Lts a b) := inferInstanceAs (Decidable (cL a < cL b))
def ltV : V → V → Bool
  | .str a, .str b => decide (Lts a b)
  | _, _ => false
def fourV : List V → Bool
  | [c, m, a, b] => numV 1000000 c && numV 1000000 m && (plV a && plV b && ltV a b)
  | _ => false
/-- whether it is a link -/
def linkV (H : Hp) : V → Bool
  | .ref a => match H a with
    | some (.tup xs) => fourV xs
    | _ => false
  | _ => false
theorem linkV_eq (H : Hp) (a : Addr) : linkV H (.ref a) = match H a with | some (.tup xs) => fourV xs | _ => false := rfl
theorem linkV_tup {a : Addr} {xs : List V} (h : H a = some (.tup xs)) : linkV H (.ref a) = fourV xs := by
  rw [linkV_eq, h]
theorem linkV_lst {a : Addr} {xs : List V} (h : H a = some (.lst xs)) : linkV H (.ref a) = false := by
  rw [linkV_eq, h]
theorem linkV_dK {a : Addr} {xs : List (Key × V)} (h : H a = some (.dK xs)) : linkV H (.ref a) = false := by
  rw [linkV_eq, h]
theorem Kd.link_ex (e : Evl.Ex H H') (h : Kd H x) : linkV H' x = linkV H x := by
  cases h with
  | lst h => rw [linkV_lst h, linkV_lst (e _ _ h)]
  | tup h hl hx => rw [linkV_tup h, linkV_tup (e _ _ h)]
  | dct h => rw [linkV_dK h, linkV_dK (e _ _ h)]
  | _ => rfl
theorem Kd.str_of (h : Kd H x) (e : isB (tyN H x) "str" = true) : ∃ z, x = .str z ∧ z.length ≤ 100000 ∧ ∀ c ∈ cL z, c < 128 := by
  cases h with
  | str z hz hc => exact ⟨z, rfl, hz, hc⟩
  | non => exact absurd e (by show ¬ isB "NoneType" "str" = true; decide)
  | bl b => exact absurd e (by show ¬ isB "bool" "str" = true; decide)
  | int i => exact absurd e (by show ¬ isB "int" "str" = true; decide)
  | lst h => rw [tyN_lst h] at e; exact absurd e (by decide)
  | tup h hl hx => rw [tyN_tup h] at e; exact absurd e (by decide)
  | dct h => rw [tyN_dK h] at e; exact absurd e (by decide)
theorem Kd.str_no (h : Kd H x) (e : isB (tyN H x) "str" = false) : plV x = false := by
  cases h with
  | str z hz hc => exact absurd e (by show ¬ isB "str" "str" = false; decide)
  | _ => rfl
theorem Kd.tup_of (h : Kd H x) (e : isB (tyN H x) "tuple" = true) : ∃ a xs, x = .ref a ∧ H a = some (.tup xs) ∧ xs.length ≤ 1000 ∧ ∀ y ∈ xs, Kd H y := by
  cases h with
  | tup h hl hx => exact ⟨_, _, rfl, h, hl, hx⟩
  | non => exact absurd e (by show ¬ isB "NoneType" "tuple" = true; decide)
  | bl b => exact absurd e (by show ¬ isB "bool" "tuple" = true; decide)
  | int i => exact absurd e (by show ¬ isB "int" "tuple" = true; decide)
  | str z h hc => exact absurd e (by show ¬ isB "str" "tuple" = true; decide)
  | lst h => rw [tyN_lst h] at e; exact absurd e (by decide)
  | dct h => rw [tyN_dK h] at e; exact absurd e (by decide)
theorem Kd.tup_no (h : Kd H x) (e : isB (tyN H x) "tuple" = false) : linkV H x = false := by
  cases h with
  | tup h hl hx => rw [tyN_tup h] at e; exact absurd e (by decide)
  | lst h => exact linkV_lst h
  | dct h => exact linkV_dK h
  | _ => rfl
theorem Kd.int_of (h : Kd H x) (e : isB (tyN H x) "int" = true) (e2 : isB (tyN H x) "bool" = false) : ∃ i, x = .int i := by
  cases h with
  | int i => exact ⟨i, rfl⟩
  | non => exact absurd e (by show ¬ isB "NoneType" "int" = true; decide)
  | bl b => exact absurd e2 (by show ¬ isB "bool" "bool" = false; decide)
  | str z h hc => exact absurd e (by show ¬ isB "str" "int" = true; decide)
  | tup h hl hx => rw [tyN_tup h] at e; exact absurd e (by decide)
  | lst h => rw [tyN_lst h] at e; exact absurd e (by decide)
  | dct h => rw [tyN_dK h] at e; exact absurd e (by decide)
theorem Kd.int_no {m : Int} (h : Kd H x) (e : isB (tyN H x) "int" = false) : numV m x = false := by
  cases h with
  | int i => exact absurd e (by show ¬ isB "int" "int" = false; decide)
  | _ => rfl
theorem Kd.bool_no {m : Int} (h : Kd H x) (e : isB (tyN H x) "bool" = true) : numV m x = false := by
  cases h with
  | int i => exact absurd e (by show ¬ isB "int" "bool" = true; decide)
  | _ => rfl
theorem w_leS {i j : Str} (q : Q (.bl (!decide (cL j < cL i))) H) : rLeT (.str i) (.str j) H Q := ⟨i, j, rfl, rfl, q⟩
theorem w_ltS {i j : Str} (q : Q (.bl (decide (cL i < cL j))) H) : rLtT (.str i) (.str j) H Q := ⟨i, j, rfl, rfl, q⟩
theorem w_inSg {c : Nat} {z : Str} (q : Q (.bl (decide (c ∈ cL z))) H) : rInSg (.str ⟨#[c]⟩) (.str z) H Q := ⟨c, z, rfl, rfl, q⟩
theorem w_notInSg {c : Nat} {z : Str} (q : Q (.bl (!decide (c ∈ cL z))) H) : rNotInSg (.str ⟨#[c]⟩) (.str z) H Q := ⟨c, z, rfl, rfl, q⟩
theorem w_all {a : Addr} {bs : List Bool} (h : SqL K H a (bs.map V.bl)) (q : Q (.bl (bs.all id)) H) : rAll K [.ref a] H Q := ⟨a, bs, rfl, h, q⟩
theorem le_a (c : Nat) : (!decide (cL ⟨#[c]⟩ < cL "a")) = decide (97 ≤ c) := by
  have e : cL "a" = [97] := by decide +kernel
  rw [cL_one, e, Bool.eq_iff_iff]
  simp [List.cons_lt_cons_iff]
theorem le_z (c : Nat) : (!decide (cL "z" < cL ⟨#[c]⟩)) = decide (c ≤ 122) := by
  have e : cL "z" = [122] := by decide +kernel
  rw [cL_one, e, Bool.eq_iff_iff]
  simp [List.cons_lt_cons_iff]
def signB (c : Nat) : Bool := decide (97 ≤ c) && decide (c ≤ 122)
theorem all_signs (l : List Nat) : (l.map signB).all id = decide (∀ c ∈ l, SignOk c) := by
  rw [Bool.eq_iff_iff]
  rw [decide_eq_true_eq, List.all_map, List.all_eq_true]
  simp [signB, SignOk]
end
end Fk
namespace Fk
open PySem PySem.Spec PyProof.Rows L2
theorem inV_int (z : Int) : ∀ l : List Int, inV (.int z) (l.map V.int) = decide (z ∈ l)
  | [] => by simp [inV]
  | x :: r => by
    have ih := inV_int z r
    unfold inV at ih ⊢
    rw [List.map_cons, List.any_cons, ih]
    show ((x == z) || decide (z ∈ r)) = decide (z ∈ x :: r)
    rw [Bool.eq_iff_iff]
    simp only [Bool.or_eq_true, beq_iff_eq, decide_eq_true_eq, List.mem_cons]
    exact or_congr_left ⟨fun h => h.symm, fun h => h.symm⟩
theorem flat_int (l : List Int) : (l.map V.int).all flatV = true := by
  rw [List.all_map, List.all_eq_true]
  intro x _
  rfl
theorem abc_iff {c : Nat} : c ∈ abc ↔ SignOk c := by
  constructor
  · exact abc_ok c
  · rintro ⟨h1, h2⟩
    refine List.mem_map.mpr ⟨c - 97, List.mem_range.mpr (by omega), ?_⟩
    show 97 + (c - 97) = c
    omega
section
variable {K : PySem.W.Frag} {H : Hp} {Q : VK} {p : Addr} {z : Int} {ns : List Int}
theorem w_ninI (h : SqL K H p (ns.map V.int) ∨ SqT K H p (ns.map V.int)) (q : Q (.bl (!decide (z ∈ ns))) H) : rIn K true (.int z) (.ref p) H Q :=
  ⟨p, _, rfl, h, rfl, flat_int ns, by
    show Q (.bl (!inV (.int z) (ns.map V.int))) H
    rw [inV_int]
    exact q⟩
theorem w_eqD {x y : V} {d e : PyData} (hx : Dp K H x d) (hy : Dp K H y e) (sd : SeqAt.shaped d = true) (se : SeqAt.shaped e = true) (q : Q (.bl (PyData.eqv d e)) H) : rEqD K x y H Q := ⟨d, e, hx, hy, sd, se, q⟩
theorem w_neD {x y : V} {d e : PyData} (hx : Dp K H x d) (hy : Dp K H y e) (sd : SeqAt.shaped d = true) (se : SeqAt.shaped e = true) (q : Q (.bl (!PyData.eqv d e)) H) : rNeD K x y H Q := ⟨d, e, hx, hy, sd, se, q⟩
theorem dp_strs : ∀ cs : List Nat, DpAll K H (cs.map (V.str ∘ fun c => (⟨#[c]⟩ : Str))) (cs.map fun c => PyData.str ⟨#[c]⟩)
  | [] => .nil
  | c :: r => .cons (.str _) (dp_strs r)
theorem lay_strs : ∀ cs : List Nat, (∀ c ∈ cs, c < 128) → PyData.canLayAll0 (cs.map fun c => PyData.str ⟨#[c]⟩) = true
  | [], _ => rfl
  | c :: r, h => by
    have h1 : c < 128 := h c (List.mem_cons_self ..)
    show (PyData.canLay0 (.str ⟨#[c]⟩) && PyData.canLayAll0 (r.map fun c => PyData.str ⟨#[c]⟩)) = true
    rw [lay_strs r fun d hd => h d (List.mem_cons_of_mem _ hd)]
    have h2 : c < 1114112 := by omega
    simp [PyData.canLay0, PyData.strOk, h2]
theorem depth_strs : ∀ cs : List Nat, PyData.depthAll (cs.map fun c => PyData.str ⟨#[c]⟩) = 0
  | [] => rfl
  | c :: r => by
    show max 0 (PyData.depthAll (r.map fun c => PyData.str ⟨#[c]⟩)) = 0
    rw [depth_strs r]
    rfl
theorem shaped_strs {cs : List Nat} (h : ∀ c ∈ cs, c < 128) : SeqAt.shaped (.list (cs.map fun c => .str ⟨#[c]⟩)) = true := by
  unfold SeqAt.shaped
  rw [Bool.and_eq_true]
  refine ⟨lay_strs cs h, ?_⟩
  show decide (PyData.depthAll (cs.map fun c => PyData.str ⟨#[c]⟩) + 1 ≤ 64) = true
  rw [depth_strs]
  rfl
end
end Fk
namespace Fk
open PySem PySem.Spec PyProof.Rows L2
section
variable {prog : Program} {w : World} {A : Around} {E : Value → Shared → Prop} {s : Shared}
/-- what a slice of step -1 without bounds tells of n items -/
theorem rev_parts {sl : Addr} {v1 v2 v3 : Value} {n : Nat} {R : Int × Int × Nat → Shared → Prop} (hs : s.heap.IsSliceOf sl v1 v2 v3) (p1 : IsPart v1 none) (p2 : IsPart v2 none) (p3 : IsPart v3 (some (-1)))
    (q : R ((n : Int) - 1, -1, n) s) : wpAny (model prog w) A (Builtin.Slice.sliceApplied (.ref sl) (pure (n : Int))) R E s := by
  obtain ⟨ob, h1, h2, h3⟩ := id hs
  unfold Builtin.Slice.sliceApplied Builtin.Slice.sliceFields
  refine wpAny_bind (wpAny_bind (wpAny_field h1 h3 (x := v1) rfl (wpAny_bind (wpAny_field h1 h3 (x := v2) rfl (wpAny_bind (wpAny_field h1 h3 (x := v3) rfl (wpAny_pure ?_)))))))
  refine wpAny_bind (HT.slicePart_ p3 ?_)
  show wpAny _ _ (if ((-1 : Int) == 0) = true then _ else _) _ _ s
  rw [if_neg (show ¬ ((-1 : Int) == 0) = true by decide)]
  refine wpAny_bind (HT.slicePart_ p1 (wpAny_bind (HT.slicePart_ p2 (wpAny_bind (wpAny_pure ?_)))))
  have e1 : Builtin.Slice.sliceAdjust none none (-1) (n : Int) = ((n : Int) - 1, -1) := rfl
  show wpAny _ _ (match Builtin.Slice.sliceAdjust none none (-1) (n : Int) with | (lo, hi) => pure (lo, (-1 : Int), Builtin.Slice.slicePlaces lo hi (-1))) _ _ s
  rw [e1]
  have e2 : Builtin.Slice.slicePlaces ((n : Int) - 1) (-1) (-1) = n := by
    unfold Builtin.Slice.slicePlaces
    rw [if_neg (by decide)]
    by_cases h0 : n = 0
    · subst h0
      rfl
    · rw [if_pos (by omega)]
      show (((n : Int) - 1 - (-1) - 1) / (- -1) + 1).toNat = n
      rw [Int.neg_neg, Int.ediv_one]
      omega
  show wpAny _ _ (pure ((n : Int) - 1, (-1 : Int), Builtin.Slice.slicePlaces ((n : Int) - 1) (-1) (-1))) _ _ s
  rw [e2]
  exact wpAny_pure q
theorem rev_pick (its : Array Value) : ((List.range its.size).filterMap fun (k : Nat) => its[((its.size : Int) - 1 + (k : Int) * (-1)).toNat]?).toArray = its.toList.reverse.toArray := by
  congr 1
  apply List.ext_getElem?
  have g : (List.range its.size).filterMap (fun (k : Nat) => its[((its.size : Int) - 1 + (k : Int) * (-1)).toNat]?) = (List.range its.size).map fun k => its.getD (its.size - 1 - k) .none := by
    have : ∀ l : List Nat, (∀ k ∈ l, k < its.size) → l.filterMap (fun (k : Nat) => its[((its.size : Int) - 1 + (k : Int) * (-1)).toNat]?) = l.map fun k => its.getD (its.size - 1 - k) .none := by
      intro l
      induction l with
      | nil => intro _; rfl
      | cons x r ih =>
        intro h
        have hx := h x (List.mem_cons_self ..)
        have e : ((its.size : Int) - 1 + (x : Int) * (-1)).toNat = its.size - 1 - x := by omega
        rw [List.filterMap_cons, e, List.map_cons, ih fun k hk => h k (List.mem_cons_of_mem _ hk)]
        have hl : its.size - 1 - x < its.size := by omega
        simp [Array.getD, hl]
    exact this _ fun k hk => List.mem_range.mp hk
  rw [g]
  intro i
  by_cases hi : i < its.size
  · rw [List.getElem?_map, List.getElem?_range hi, List.getElem?_reverse (by simpa using hi)]
    have hl : its.size - 1 - i < its.size := by omega
    simp [Array.getD, hl]
  · rw [List.getElem?_eq_none (by simpa using hi), List.getElem?_eq_none (by simpa using hi)]
theorem tup_rev {t sl : Addr} {its : Array Value} {v1 v2 v3 : Value} {R : Value → Shared → Prop} (tp : IsTup s.heap t its) (hs : s.heap.IsSliceOf sl v1 v2 v3) (p1 : IsPart v1 none) (p2 : IsPart v2 none) (p3 : IsPart v3 (some (-1)))
    (q : R (.ref s.heap.objs.size) { s with heap := s.heap.push { cls := .type "tuple", data := .seq its.toList.reverse.toArray } }) (lz : its.size ≤ sizeLine) : wpAny (model prog w) A (getItem (.ref t) (.ref sl)) R E s := by
  have fits : sizeOk (.seq its.toList.reverse.toArray) := by
    show its.toList.reverse.toArray.size ≤ sizeLine
    rw [List.size_toArray, List.length_reverse, Array.length_toList]
    exact lz
  obtain ⟨ob, h1, h2, h3⟩ := id hs
  have tySl : s.TypeIs (.ref sl) "slice" := ⟨ob, h1, h2⟩
  unfold getItem
  try (with_reducible refine wpAny_holding ?_)
  first | (refine wpAny_bind (wpAny_pure ?_)) | skip
  refine wpAny_bind (wpAny_sequenceKey tp.typeIs (by decide) (wpAny_bind (wpAny_callSpecial?_slot (name := Str.ofString "__getitem__") tp.typeIs PyProof.Rows.slot_tuple_getitem
    (wpAny_call_entry PyProof.Rows.slot_tuple_getitem tp.typeIs PyProof.Rows.entry_tuple_getitem ?_ (PyProof.Rows.args_tuple_getitem _ _)))))
  show wpAny _ _ (Builtin.Tuple.tupleItemsOf (.ref t) >>= fun _ => _) _ _ s
  refine wpAny_bind (tupleItemsOf_ tp (wpAny_bind (wpAny_typeOf tySl ?_)))
  rw [if_pos (show (Value.type "slice" == .type "slice") = true by decide)]
  refine wpAny_bind (rev_parts hs p1 p2 p3 ?_)
  show wpAny _ _ (if (((its.size : Int) - 1) == 0 && (-1 : Int) == 1 && its.size == its.size) = true then _ else _) _ _ s
  rw [if_neg (by rw [show ((-1 : Int) == 1) = false from rfl, Bool.and_false, Bool.false_and]; decide), rev_pick]
  first
    | exact wpAny_bind (m := Builtin.Tuple.tupleExact _) (wpAny_newObj_type (wpAny_pure ⟨_, rfl, wpAny_pure q⟩) fits)
    | exact wpAny_bind (m := Builtin.Tuple.tupleExact _) (wpAny_newObj_type (wpAny_bind (wpAny_pure (wpAny_pure ⟨_, rfl, wpAny_pure q⟩))) fits)
    | exact wpAny_bind (wpAny_bind (m := Builtin.Tuple.tupleExact _) (wpAny_newObj_type (wpAny_pure (wpAny_pure ⟨_, rfl, wpAny_pure q⟩)) fits))
    | exact wpAny_bind (wpAny_bind (m := Builtin.Tuple.tupleExact _) (wpAny_newObj_type (wpAny_pure ⟨_, rfl, wpAny_pure q⟩) fits))
end
section
variable {K : PySem.W.Frag} {H : Hp} {Q : VK} {a b : Addr} {xs ys : List V} {lo hi : Option Int}
/-- t[lo:hi], the tuple itself or a new one -/
theorem w_slT (h : H a = some (.tup xs)) (q : ∀ p H', Evl.Ex H H' → H' p = some (.tup (cutV xs lo hi)) → Q (.ref p) H') : rSlA K (.ref a) lo hi H Q := by
  refine ⟨a, xs, rfl, SqT.of h, fun hw => q a H (Evl.Ex.refl H) ?_, fun _ p hp => q p _ (Evl.Ex.new hp) upd_same⟩
  rw [h]
  unfold cutV
  rw [hw.1, hw.2, List.drop_zero, Nat.sub_zero, List.take_length]
/-- t + u -/
theorem w_catT (h : H a = some (.tup xs)) (h2 : H b = some (.tup ys)) (hz : xs.length + ys.length ≤ 100000) (q : ∀ p H', Evl.Ex H H' → H' p = some (.tup (xs ++ ys)) → Q (.ref p) H') : rCatA K (.ref a) (.ref b) H Q := by
  refine ⟨a, b, xs, ys, rfl, rfl, SqT.of h, SqT.of h2, small hz, fun e => q b H (Evl.Ex.refl H) ?_, fun _ e => q a H (Evl.Ex.refl H) ?_, fun _ _ p hp => q p _ (Evl.Ex.new hp) upd_same⟩
  · rw [h2, e, List.nil_append]
  · rw [h, e, List.append_nil]
theorem cutV_mem {y : V} (h : y ∈ cutV xs lo hi) : y ∈ xs := List.mem_of_mem_drop (List.mem_of_mem_take h)
/-- t[::-1] -/
def tRevT (K : PySem.W.Frag) (te : TE) : TE := fun σ H Q => te σ H fun x H1 => ∃ a xs, x = .ref a ∧ SqT K H1 a xs ∧ ∀ p, H1 p = none → Q (.ref p) (upd H1 p (.tup xs.reverse))
theorem pe_revT {X : Cx} (K : PySem.W.Frag) {e : Expr} {te : TE} {k : Nat} {p1 p2 p3 pos : Pos} (he : PE X e te) (h : X.K = K := by rfl) : PE X (.Subscript e (.Slice none none (some (.UnaryOp .USub (.Constant (.int 1) k p1) p2)) p3) pos) (tRevT K te) := by
  subst h
  refine ⟨fun ps s0 σ0 H0 R0 I0 w0 => Subscript_ (thn (he.run ps s0 σ0 H0 _ I0 w0) fun v s1 ⟨x, H1, I1, r1, a, xs, ex, hx, q⟩ => ?_)⟩
  subst ex
  cases r1
  have minus : PO X (some (.UnaryOp .USub (.Constant (.int 1) k p1) p2)) (tPart (tUn (rU fun i => .int (-i)) (tC (.int 1)))) := po_some (pe_un un_neg pe_int)
  refine wpAny_Slice (thn (po_none.run ps s1 σ0 H1 (fun o H2 => o = none ∧ H2 = H1) I1 ⟨rfl, rfl⟩) fun l0 s2 ⟨o2, H2, I2, pl, eo2, eh2⟩ => ?_)
  subst eo2 eh2
  refine thn (po_none.run ps s2 σ0 H2 (fun o H3 => o = none ∧ H3 = H2) I2 ⟨rfl, rfl⟩) fun u0 s3 ⟨o3, H3, I3, pu, eo3, eh3⟩ => ?_
  subst eo3 eh3
  refine thn (minus.run ps s3 σ0 H3 (fun o H4 => o = some (-1) ∧ H4 = H3) I3 ⟨1, rfl, -1, rfl, rfl, rfl⟩) fun t0 s4 ⟨o4, H4, I4, pt, eo4, eh4⟩ => ?_
  subst eo4 eh4
  have I5 : Inv X ps σ0 H4 { s4 with heap := s4.heap.push { cls := .type "slice", data := .fields #[l0, u0, t0] } } := I4.kept (t' := s4.toks) fun b ob hb => Heap.get?_push_of_some _ hb
  obtain ⟨its, rv, tp, lz⟩ := I5.tuple hx
  have same := rv.length
  show wpAny (model X.prog X.w) X.A (subscriptTail e (.Slice none none (some (.UnaryOp .USub (.Constant (.int 1) k p1) p2)) p3) (.ref a) (.ref s4.heap.objs.size)) (EP X ps σ0 R0) X.xe { s4 with heap := s4.heap.push { cls := .type "slice", data := .fields #[l0, u0, t0] } }
  refine tail_any (ops := [.ref a, .ref s4.heap.objs.size]) tp.typeIs PyProof.Rows.slot_tuple_getitem.lookup (tup_rev tp (Heap.IsSliceOf.new _ l0 u0 t0) pl pu pt ?_ (by rw [List.size_toArray]; omega)) (by with_unfolding_all rfl)
  refine ⟨.ref _, _, I5.laid (t' := s4.toks) (o := .tup xs.reverse) (fun b ob hb => Heap.get?_push_of_some _ hb) (Nat.le_refl _) ⟨by rw [List.length_reverse]; exact lz, its.reverse, rv.reverse, ?_⟩, rfl, q _ (I5.hok.fresh (Nat.le_refl _))⟩
  exact IsTup.new _ _
theorem w_revT {te : TE} {σ : L2.St} (h : te σ H fun x H1 => ∃ a xs, x = .ref a ∧ SqT K H1 a xs ∧ ∀ p, H1 p = none → Q (.ref p) (upd H1 p (.tup xs.reverse))) : tRevT K te σ H Q := h
end
/-- text * number -/
def rMulS : R2 := fun x y H Q => ∃ (z : Str) (n : Int), x = .str z ∧ y = .int n ∧ MulOk z n ∧ Q (.str (Txt.mul z n)) H
theorem kmulS {X : Cx} : OpR X (binaryOp .Mult) rMulS := by
  intro pins s σ H x y v u Q I rx ry h
  obtain ⟨z, n, rfl, rfl, hc, q⟩ := h
  obtain ⟨t, rfl⟩ := rx
  obtain ⟨t', rfl⟩ := ry
  exact PySem.SB.mul hc fun t2 k => ⟨.str _, H, I.tok _, ⟨_, rfl⟩, q⟩
theorem fold_cps : ∀ (n : Nat) (x : Array Nat) (acc : Array Nat), ((List.replicate n x).foldl (· ++ ·) acc).toList = acc.toList ++ (List.replicate n x.toList).flatten
  | 0, x, acc => by simp
  | n + 1, x, acc => by
    rw [List.replicate_succ, List.foldl_cons, fold_cps n x (acc ++ x), List.replicate_succ, List.flatten_cons, Array.toList_append, List.append_assoc]
theorem mul_cL {z : Str} {n : Nat} (hn : 1 ≤ n) : cL (Txt.mul z (n : Int)) = (List.replicate n (cL z)).flatten := by
  unfold Txt.mul
  rw [if_neg (by omega)]
  split
  next h =>
    rw [Bool.or_eq_true] at h
    rcases h with h | h
    · have e : n = 1 := by
        have := eq_of_beq h
        omega
      subst e
      simp
    · have e : cL z = [] := List.length_eq_zero_iff.mp (by rw [← cL_len]; exact eq_of_beq h)
      rw [e]
      simp
  next h =>
    show (List.foldl _ _ _ : Array Nat).toList = _
    rw [Int.toNat_natCast, fold_cps]
    rfl
theorem mulOk_small {z : Str} {n : Nat} (h1 : 1 ≤ n) (h : n ≤ 1000) (hz : z.length ≤ 1000) : MulOk z (n : Int) := by
  refine ⟨?_, fun _ _ => ?_, fun _ _ => ?_⟩
  · rw [Bool.or_eq_false_iff, decide_eq_false_iff_not, decide_eq_false_iff_not]
    omega
  · have h2 : (1000 : Int) * 1000 ≤ 2 ^ 63 - 1 := by decide
    have h3 : (1000 : Int) ≤ (2 ^ 63 - 1) / (n : Int) := by
      rw [Int.le_ediv_iff_mul_le (by omega)]
      have : (1000 : Int) * (n : Int) ≤ 1000 * 1000 := by omega
      omega
    omega
  · rw [Int.toNat_natCast]
    show decide (z.length * n > sizeLine) = false
    rw [decide_eq_false_iff_not]
    have : z.length * n ≤ 1000 * 1000 := Nat.mul_le_mul hz h
    have e : sizeLine = 16777216 := sizeLine_eq
    rw [e]
    omega
def rUpper : V → List V → Hp → VK → Prop := fun x xs H Q => ∃ a, x = .str a ∧ xs = [] ∧ a.length ≤ 5592405 ∧ Q (.str (Txt.upper a)) H
theorem kupper {X : Cx} {o : Expr} {to : TE} {apos pos : Pos} (ho : PE X o to) (hbase : attributeBase o "upper" X.env (eval o X.env) = eval o X.env := by rfl) (hline : (apos.endLine == pos.line) = true := by rfl) :
    PE X (.Call (.Attribute o "upper" apos) [] [] pos) (tM0 rUpper to) := pe_upper ho hbase hline
theorem upper_one : ∀ c, c < 128 → ∃ d, Unicode.upperOf c = [d] ∧ d < 128 := by
  have h : ((List.range 128).all fun c => match Unicode.upperOf c with | [d] => decide (d < 128) | _ => false) = true := by decide +kernel
  intro c hc
  have := List.all_eq_true.mp h c (List.mem_range.mpr hc)
  revert this
  cases e : Unicode.upperOf c with
  | nil => intro h; cases h
  | cons d r =>
    cases r with
    | nil => intro h; exact ⟨d, rfl, of_decide_eq_true h⟩
    | cons _ _ => intro h; cases h
theorem upper_cL {z : Str} (h : ∀ c ∈ cL z, c < 128) : (Txt.upper z).length = z.length ∧ ∀ c ∈ cL (Txt.upper z), c < 128 := by
  have e : cL (Txt.upper z) = ((cL z).map Unicode.upperOf).flatten := by
    show (placed z fun _ c => Unicode.upperOf c).toList = _
    unfold placed
    have e1 : (z.cps.mapIdx fun i c => (Unicode.upperOf c).toArray) = z.cps.map fun c => (Unicode.upperOf c).toArray := by
      apply Array.ext
      · simp
      · intro i h1 h2
        simp
    rw [e1]
    show (Array.map _ z.cps).flatten.toList = _
    rw [Array.toList_flatten]
    simp [cL, List.map_map]
    rfl
  have gen : ∀ l : List Nat, (∀ c ∈ l, c < 128) → ((l.map Unicode.upperOf).flatten).length = l.length ∧ ∀ c ∈ (l.map Unicode.upperOf).flatten, c < 128 := by
    intro l
    induction l with
    | nil => intro _; exact ⟨rfl, fun c h => absurd h (by simp)⟩
    | cons x r ih =>
      intro hl
      obtain ⟨d, hd, d8⟩ := upper_one x (hl x (List.mem_cons_self ..))
      obtain ⟨i1, i2⟩ := ih fun c hc => hl c (List.mem_cons_of_mem _ hc)
      rw [List.map_cons, List.flatten_cons, hd]
      refine ⟨by rw [List.length_append, i1, List.length_cons]; simp; omega, fun c hc => ?_⟩
      rcases List.mem_append.mp hc with hc | hc
      · rw [List.mem_singleton.mp hc]
        exact d8
      · exact i2 c hc
  rw [cL_len, cL_len, e]
  exact gen (cL z) h
theorem int_signs (i : Int) : ∀ c ∈ cL (toString i : String), c < 128 := by
  intro c hc
  have h : ¬ (c ≠ 45 ∧ (c < 48 ∨ 57 < c)) := fun hk => int_text_free' c hk i hc
  omega
theorem int_len {i : Int} {k : Nat} (hk : 0 < k) (h : i.natAbs < 10 ^ k) : (Str.ofString (toString i)).length ≤ k + 1 := by
  have e := int_text_length_le10 hk h
  rw [PySem.ofString_length]
  exact e
end Fk
namespace Fk
open PySem PySem.Spec PyProof.Rows L2
def bI (b : Bool) : Int := if b = true then 1 else 0
/-- a number, or a truth as one -/
inductive Num : V → Int → Prop where
  | int (i : Int) : Num (.int i) i
  | bl (b : Bool) : Num (.bl b) (bI b)
def rAddN : R2 := fun x y H Q => ∃ i j, Num x i ∧ y = .int j ∧ Q (.int (i + j)) H
def rSubN : R2 := fun x y H Q => ∃ i j, Num x i ∧ y = .int j ∧ Q (.int (i - j)) H
def rSubM : R2 := fun x y H Q => ∃ i j, x = .int i ∧ Num y j ∧ Q (.int (i - j)) H
section
variable {X : Cx}
theorem kAddN : OpR X (binaryOp .Add) rAddN := by
  intro pins s σ H x y v u Q I rx ry h
  obtain ⟨i, j, hn, rfl, q⟩ := h
  obtain ⟨t', rfl⟩ := ry
  cases hn with
  | int =>
    obtain ⟨t, rfl⟩ := rx
    exact add_int ⟨.int (i + j), H, I.tok _, ⟨_, rfl⟩, q⟩
  | bl b =>
    cases rx
    exact PySem.IntBool.add_bool_int ⟨.int (bI b + j), H, I.tok _, ⟨_, rfl⟩, q⟩
theorem kSubN : OpR X (binaryOp .Sub) rSubN := by
  intro pins s σ H x y v u Q I rx ry h
  obtain ⟨i, j, hn, rfl, q⟩ := h
  obtain ⟨t', rfl⟩ := ry
  cases hn with
  | int =>
    obtain ⟨t, rfl⟩ := rx
    exact sub_int ⟨.int (i - j), H, I.tok _, ⟨_, rfl⟩, q⟩
  | bl b =>
    cases rx
    exact PySem.IntBool.sub_bool_int ⟨.int (bI b - j), H, I.tok _, ⟨_, rfl⟩, q⟩
theorem kSubM : OpR X (binaryOp .Sub) rSubM := by
  intro pins s σ H x y v u Q I rx ry h
  obtain ⟨i, j, rfl, hn, q⟩ := h
  obtain ⟨t', rfl⟩ := rx
  cases hn with
  | int =>
    obtain ⟨t, rfl⟩ := ry
    exact sub_int ⟨.int (i - j), H, I.tok _, ⟨_, rfl⟩, q⟩
  | bl b =>
    cases ry
    exact PySem.IntBool.sub_int_bool ⟨.int (i - bI b), H, I.tok _, ⟨_, rfl⟩, q⟩
def rStrN : List V → Hp → VK → Prop := fun xs H Q => ∃ x, xs = [x] ∧ ((∃ i : Int, x = .int i ∧ i.natAbs.log2 < 1920 ∧ Q (.str (toString i)) H) ∨ ∃ b : Bool, x = .bl b ∧ Q (.str (if b then "True" else "False")) H)
theorem kstrN : CallR X (.type "str") rStrN := by
  intro pins s σ H xs us Q I r h
  obtain ⟨x, rfl, h⟩ := h
  obtain ⟨u, rfl, rx⟩ := vals1 r
  rcases h with ⟨i, rfl, hz, q⟩ | ⟨b, rfl, q⟩
  · obtain ⟨t, rfl⟩ := rx
    exact PySem.P.str_of_int hz ⟨.str _, H, I.tok _, ⟨_, rfl⟩, q⟩
  · cases rx
    exact PySem.P.str_of_bool ⟨.str _, H, I.tok _, ⟨_, rfl⟩, q⟩
/-- t != (): told by its length, whatever stands in it -/
def rNeT0 (K : PySem.W.Frag) : R2 := fun x y H Q => ∃ a b xs, x = .ref a ∧ y = .ref b ∧ SqT K H a xs ∧ SqT K H b [] ∧ Q (.bl (!xs.isEmpty)) H
theorem kNeT0 (K : PySem.W.Frag) (hu : X.A.units + 64 < cLine) (h : X.K = K := by rfl) : OpR X (compareOp .NotEq) (rNeT0 K) := by
  subst h
  intro pins s σ H x y v u Q I rx ry h
  obtain ⟨a, b, xs, rfl, rfl, ha, hb, q⟩ := h
  cases rx
  cases ry
  obtain ⟨its, r1, p1, _⟩ := I.tuple ha
  obtain ⟨its2, r2, p2, _⟩ := I.tuple hb
  cases r2
  have len := r1.length
  have out : EP X pins σ Q (.bool (!((List.range (min its.toArray.size ([] : List Value).toArray.size)).all (fun _ => true) && its.toArray.size == ([] : List Value).toArray.size))) s := by
    refine ⟨.bl (!xs.isEmpty), H, I, ?_, q⟩
    cases r1 with
    | nil => rfl
    | cons _ _ => rfl
  exact SeqAt.RcNeAt.tuples (A := X.A) (s := s) (e := fun _ => true) p1 p2 (by omega) (fun j h1 h2 => absurd h2 (by simp)) X.prog X.w X.xe _ out
end
end Fk
namespace Fk
open PySem PySem.Spec PyProof.Rows L2
/-- a text of signs below 128, not longer than L -/
def Asc (L : Nat) (z : Str) : Prop := z.length ≤ L ∧ ∀ c ∈ cL z, c < 128
theorem Asc.le {L M : Nat} {z : Str} (h : Asc L z) (e : L ≤ M) : Asc M z := ⟨Nat.le_trans h.1 e, h.2⟩
theorem Asc.cut {L : Nat} {z : Str} {lo hi : Option Int} (h : Asc L z) : Asc L (cutS z lo hi) := by
  have e : cL (cutS z lo hi) = ((cL z).drop (HT.sIx z.length 0 lo)).take (HT.sIx z.length z.length hi - HT.sIx z.length 0 lo) := rfl
  refine ⟨?_, fun c hc => ?_⟩
  · rw [cL_len, e, List.length_take, List.length_drop]
    have := h.1
    rw [cL_len] at this
    omega
  · rw [e] at hc
    exact h.2 c (List.mem_of_mem_drop (List.mem_of_mem_take hc))
theorem Asc.app {L M : Nat} {x y : Str} (h : Asc L x) (h2 : Asc M y) : Asc (L + M) (x ++ y) := by
  refine ⟨?_, fun c hc => ?_⟩
  · rw [cL_len, cL_app, List.length_append, ← cL_len, ← cL_len]
    have := h.1
    have := h2.1
    omega
  · rw [cL_app] at hc
    rcases List.mem_append.mp hc with hc | hc
    · exact h.2 c hc
    · exact h2.2 c hc
theorem Asc.mul {L n : Nat} {z : Str} (h : Asc L z) (hn : 1 ≤ n) : Asc (n * L) (Txt.mul z (n : Int)) := by
  refine ⟨?_, fun c hc => ?_⟩
  · rw [cL_len, mul_cL hn]
    have e : ∀ (m : Nat) (l : List Nat), (List.replicate m l).flatten.length = m * l.length := by
      intro m l
      induction m with
      | zero => simp
      | succ m ih =>
        rw [List.replicate_succ, List.flatten_cons, List.length_append, ih, Nat.add_mul, Nat.one_mul]
        omega
    rw [e, ← cL_len]
    exact Nat.mul_le_mul_left _ h.1
  · rw [mul_cL hn] at hc
    obtain ⟨l, hl, hc⟩ := List.mem_flatten.mp hc
    rw [(List.mem_replicate.mp hl).2] at hc
    exact h.2 c hc
theorem Asc.up {L : Nat} {z : Str} (h : Asc L z) : Asc L (Txt.upper z) := by
  obtain ⟨h1, h2⟩ := upper_cL h.2
  exact ⟨by rw [h1]; exact h.1, h2⟩
theorem Asc.one {c : Nat} (h : c < 128) : Asc 1 ⟨#[c]⟩ := ⟨Nat.le_refl _, fun d hd => by rw [cL_one, List.mem_singleton] at hd; rw [hd]; exact h⟩

/-- a thing after b bends: how long its texts and tuples may be, how great its numbers, n levels within one another; the draw is none of it -/
inductive Kb (d : Addr) (H : Hp) (b : Nat) : Nat → V → Prop where
  | non {n : Nat} : Kb d H b n .non
  | bl {n : Nat} (k : Bool) : Kb d H b n (.bl k)
  | int {n : Nat} (i : Int) (h : i.natAbs ≤ 1000000000000000000000000000000 + b) : Kb d H b n (.int i)
  | str {n : Nat} (z : Str) (h : Asc (40 * 4 ^ b) z) : Kb d H b n (.str z)
  | lst {n : Nat} {a : Addr} {xs : List V} (h : H a = some (.lst xs)) (ne : a ≠ d) : Kb d H b n (.ref a)
  | dct {n : Nat} {a : Addr} {kvs : List (Key × V)} (h : H a = some (.dK kvs)) : Kb d H b n (.ref a)
  | tup {n : Nat} {a : Addr} {xs : List V} (h : H a = some (.tup xs)) (hl : xs.length ≤ 4 * 4 ^ b) (hx : ∀ x ∈ xs, Kb d H b n x) : Kb d H b (n + 1) (.ref a)
theorem pow4 {b c : Nat} (h : b ≤ c) : 4 ^ b ≤ 4 ^ c := Nat.pow_le_pow_right (by omega) h
section
variable {d : Addr} {H H' : Hp} {b c m n k : Nat} {x : V}
theorem Kb.kd (hb : b ≤ 3) (h : Kb d H b n x) : Kd H x := by
  have e4 : (4 : Nat) ^ b ≤ 64 := pow4 (c := 3) hb
  induction h with
  | non => exact .non
  | bl k => exact .bl k
  | int i h => exact .int i
  | str z h => exact .str z (by have := h.1; omega) h.2
  | lst h ne => exact .lst h
  | dct h => exact .dct h
  | tup h hl hx ih => exact .tup h (by omega) ih
theorem Kb.mono (h : Kb d H b n x) (hb : b ≤ c) : ∀ {m : Nat}, n ≤ m → Kb d H c m x := by
  have e4 := pow4 hb
  induction h with
  | non => intro m _; exact .non
  | bl k => intro m _; exact .bl k
  | int i h => intro m _; exact .int i (by omega)
  | str z h => intro m _; exact .str z (h.le (by omega))
  | lst h ne => intro m _; exact .lst h ne
  | dct h => intro m _; exact .dct h
  | tup h hl hx ih =>
    intro m hm
    cases m with
    | zero => omega
    | succ m => exact .tup h (by omega) fun y hy => ih y hy (by omega)
theorem Kb.go (g : Go d H H') (hd : Drw H d k) (h : Kb d H b n x) : Kb d H' b n x := by
  have ned : ∀ {a : Addr} {o : HO}, H a = some o → (∀ xs, o ≠ .lst xs) → a ≠ d := fun {a o} h hn e => by
    obtain ⟨x, y, z, hd, _⟩ := hd
    rw [e, hd] at h
    exact hn _ (Option.some.inj h).symm
  induction h with
  | non => exact .non
  | bl k => exact .bl k
  | int i h => exact .int i h
  | str z h => exact .str z h
  | lst h ne => exact .lst (g _ _ ne h) ne
  | dct h => exact .dct (g _ _ (ned h fun _ e => by cases e) h)
  | tup h hl hx ih => exact .tup (g _ _ (ned h fun _ e => by cases e) h) hl ih
end
end Fk
namespace Fk
open PySem PySem.Spec PyProof.Rows L2
section
variable {d a : Addr} {H H' H1 H2 : Hp} {b c m n k : Nat} {x : V} {xs : List V}
theorem Kb.tup_of (h : Kb d H b n x) (e : isB (tyN H x) "tuple" = true) : ∃ m a xs, n = m + 1 ∧ x = .ref a ∧ H a = some (.tup xs) ∧ xs.length ≤ 4 * 4 ^ b ∧ ∀ y ∈ xs, Kb d H b m y := by
  cases h with
  | tup h hl hx => exact ⟨_, _, _, rfl, rfl, h, hl, hx⟩
  | non => exact absurd e (by show ¬ isB "NoneType" "tuple" = true; decide)
  | bl b => exact absurd e (by show ¬ isB "bool" "tuple" = true; decide)
  | int i => exact absurd e (by show ¬ isB "int" "tuple" = true; decide)
  | str z h => exact absurd e (by show ¬ isB "str" "tuple" = true; decide)
  | lst h ne => rw [tyN_lst h] at e; exact absurd e (by decide)
  | dct h => rw [tyN_dK h] at e; exact absurd e (by decide)
theorem Kb.str_of (h : Kb d H b n x) (e : isB (tyN H x) "str" = true) : ∃ z, x = .str z ∧ Asc (40 * 4 ^ b) z := by
  cases h with
  | str z h => exact ⟨z, rfl, h⟩
  | non => exact absurd e (by show ¬ isB "NoneType" "str" = true; decide)
  | bl b => exact absurd e (by show ¬ isB "bool" "str" = true; decide)
  | int i => exact absurd e (by show ¬ isB "int" "str" = true; decide)
  | tup h hl hx => rw [tyN_tup h] at e; exact absurd e (by decide)
  | lst h ne => rw [tyN_lst h] at e; exact absurd e (by decide)
  | dct h => rw [tyN_dK h] at e; exact absurd e (by decide)
theorem Kb.int_of (h : Kb d H b n x) (e : isB (tyN H x) "int" = true) : ∃ i, Num x i ∧ i.natAbs ≤ 1000000000000000000000000000000 + b := by
  cases h with
  | int i h => exact ⟨i, .int i, h⟩
  | bl b => exact ⟨_, .bl b, by unfold bI; split <;> omega⟩
  | non => exact absurd e (by show ¬ isB "NoneType" "int" = true; decide)
  | str z h => exact absurd e (by show ¬ isB "str" "int" = true; decide)
  | tup h hl hx => rw [tyN_tup h] at e; exact absurd e (by decide)
  | lst h ne => rw [tyN_lst h] at e; exact absurd e (by decide)
  | dct h => rw [tyN_dK h] at e; exact absurd e (by decide)
theorem Go.exx (g : Go d H H1) (e : Evl.Ex H1 H2) : Go d H H2 := fun a o ne h => e a o (g a o ne h)
theorem nd_tup (hd : Drw H d n) (h : H a = some (.tup xs)) : a ≠ d := fun e => by
  obtain ⟨x, y, z, hd, _⟩ := hd
  rw [e, hd] at h
  cases h
theorem Kb.up (h : Kb d H b n x) : Kb d H (b + 1) n x := h.mono (by omega) (Nat.le_refl _)
theorem four_pow (b : Nat) : 4 ^ (b + 1) = 4 * 4 ^ b := by rw [Nat.pow_succ]; omega
theorem str_num {i : Int} {b : Nat} (hb : b ≤ 2) (h : i.natAbs ≤ 1000000000000000000000000000000 + b) : i.natAbs.log2 < 1920 ∧ Asc 40 (toString i : String) := by
  have h31 : i.natAbs < 10 ^ 31 := by omega
  refine ⟨?_, ?_, int_signs i⟩
  · by_cases h0 : i.natAbs = 0
    · rw [h0]
      decide
    · rw [Nat.log2_lt h0]
      have : (10 : Nat) ^ 31 ≤ 2 ^ 128 := by decide
      have : (2 : Nat) ^ 128 ≤ 2 ^ 1920 := Nat.pow_le_pow_right (by omega) (by omega)
      omega
  · have := int_len (k := 31) (by omega) h31
    omega
end
end Fk
namespace Fk
open PySem PySem.Spec PyProof.Rows L2
section
variable {K : PySem.W.Frag} {H : Hp} {Q : VK} {x y z : Str} {L M n : Nat}
theorem w_addA (hx : Asc L x) (hy : Asc M y) (hb : L + M ≤ 100000) (q : Q (.str (x ++ y)) H) : rAddT (.str x) (.str y) H Q := w_addS (small (by have := hx.1; have := hy.1; omega)) q
theorem w_slA {lo hi : Option Int} (hz : Asc L z) (hb : L ≤ 100000) (q : Q (.str (cutS z lo hi)) H) : rSlS (.str z) lo hi H Q := w_slS (small (by have := hz.1; omega)) q
theorem Asc.first (h : Asc L z) : Asc n (cutS z none (some (n : Int))) := by
  refine ⟨?_, h.cut.2⟩
  have e : cL (cutS z none (some (n : Int))) = ((cL z).drop (HT.sIx z.length 0 none)).take (HT.sIx z.length z.length (some (n : Int)) - HT.sIx z.length 0 none) := rfl
  rw [cL_len, e, HT.sIx_nat, HT.sIx_none, List.length_take]
  omega
theorem w_strN {v : V} {j : Int} (nj : Num v j) {b : Nat} (hb : b ≤ 2) (h : j.natAbs ≤ 1000000000000000000000000000000 + b) (q : ∀ z, Asc 40 z → Q (.str z) H) : rStrN [v] H Q := by
  refine ⟨v, rfl, ?_⟩
  cases nj with
  | int =>
    obtain ⟨h1, h2⟩ := str_num hb h
    exact .inl ⟨j, rfl, h1, q _ h2⟩
  | bl b =>
    refine .inr ⟨b, rfl, q _ ?_⟩
    cases b
    · exact ⟨by decide +kernel, by decide +kernel⟩
    · exact ⟨by decide +kernel, by decide +kernel⟩
theorem w_dnew {σ : L2.St} (h : ∀ p, H p = none → Q (.ref p) (upd H p (.dK []))) : tDNewK σ H Q := h
theorem cL_none : ∀ c ∈ cL "", c < 128 := by decide +kernel
theorem bent_signs : ∀ c ∈ cL "abcxyzAZ09 _-{`~\x40[.\n", c < 128 := by decide +kernel
end
end Fk
namespace Fk
open PySem PySem.Spec PyProof.Rows L2
section
variable {K : PySem.W.Frag} {H : Hp} {Q : VK} {σ : L2.St} {ta tb : TE} {a b : Bool}
theorem w_isB (q : Q (.bl (decide (a = b))) H) : rIsB (.bl a) (.bl b) H Q := ⟨a, b, rfl, rfl, q⟩
theorem w_orT (h : ta σ H fun x H1 => ∃ k, TruV K x H1 k ∧ if k = true then Q x H1 else tb σ H1 Q) : tOrT K ta tb σ H Q := h
theorem korT {X : Cx} {a b : Expr} {rest : List Expr} {ta tb : TE} {pos : Pos} (K : PySem.W.Frag) (ha : PE X a ta) (hb : PE X (.BoolOp .Or (b :: rest) pos) tb) (h : X.K = K := by rfl) : PE X (.BoolOp .Or (a :: b :: rest) pos) (tOrT K ta tb) := by subst h; exact pe_orT ha hb
theorem Place.asc {z : Str} (h : Place z) {L : Nat} (hL : 6 ≤ L) : Asc L z := ⟨Nat.le_trans h.2.1 hL, fun c hc => by have := (h.2.2 c hc).2; omega⟩
end
end Fk
namespace Fk
open PySem PySem.Spec PyProof.Rows L2
section
variable {K : PySem.W.Frag} {H : Hp} {Q : VK} {σ : L2.St} {a : Addr} {ns : List Int} {i : Nat}
/-- script or [5]: some list of numbers, never an empty one -/
theorem w_orL (hv : σ[i]? = some (some (.ref a))) (hS : SqL K H a (ns.map V.int)) (hl : ns.length ≤ 63) (q : ∀ (s : Addr) (ms : List Int) (H1 : Hp), Evl.Ex H H1 → SqL K H1 s (ms.map V.int) → ms.length ≤ 63 → ms ≠ [] → Q (.ref s) H1) :
    tOrT K (tVar i) (tLst (tCons (tC (.int 5)) tNil)) σ H Q := by
  refine ⟨.ref a, hv, !(ns.map V.int).isEmpty, .inl ⟨_, hS, rfl⟩, ?_⟩
  cases ns with
  | nil =>
    refine iteF ?_
    show _ ∧ _
    refine ⟨small (by show 1 ≤ 100000; omega), fun p hp => ?_⟩
    exact q p [5] _ (Evl.Ex.new hp) (SqL.of upd_same) (by show 1 ≤ 63; omega) (by simp)
  | cons x r => exact iteT (q a (x :: r) H (Evl.Ex.refl H) hS hl (by simp))
end
end Fk
namespace Fk
open PySem L2
/-- whatever the hash, each slot begins a run soon -/
def Full (m : Nat) : Prop := ∀ (h : Int) (j : Nat), j ≤ m → ∃ n, n ≤ m + 12 ∧ runI m (SetTable.bits h) n = j
theorem lcg_off (m i a : Nat) : ∀ k, lcgI m (lcgI m i a) k = lcgI m i (a + k)
  | 0 => rfl
  | k + 1 => by
    have e := lcg_off m i a k
    show (lcgI m (lcgI m i a) k * 5 + 1) % (m + 1) = (lcgI m i (a + k) * 5 + 1) % (m + 1)
    rw [e]
/-- the slots of a round, as the bits of a number -/
def sweep (m : Nat) : Nat → Nat → Nat → Nat
  | 0, _, acc => acc
  | n + 1, x, acc => sweep m n ((x * 5 + 1) % (m + 1)) (acc ||| 2 ^ x)
theorem sweep_has (m j : Nat) : ∀ (n x acc : Nat), (sweep m n x acc).testBit j = true → acc.testBit j = true ∨ ∃ k, k < n ∧ lcgI m x k = j
  | 0, _, _, h => .inl h
  | n + 1, x, acc, h => by
    rcases sweep_has m j n _ _ h with e | ⟨k, hk, e⟩
    · rw [Nat.testBit_or, Bool.or_eq_true] at e
      rcases e with e | e
      · exact .inl e
      · rw [Nat.testBit_two_pow, decide_eq_true_eq] at e
        exact .inr ⟨0, Nat.succ_pos _, e⟩
    · refine .inr ⟨1 + k, by omega, ?_⟩
      rw [← lcg_off]
      exact e
theorem full_of {m : Nat} (h1 : sweep m (m + 1) 0 0 = 2 ^ (m + 1) - 1) (h2 : lcgI m 0 (m + 1) = 0) : Full m := by
  have one : ∀ j, j ≤ m → ∃ k, k < m + 1 ∧ lcgI m 0 k = j := fun j hj => by
    have e : (sweep m (m + 1) 0 0).testBit j = true := by
      rw [h1, Nat.testBit_two_pow_sub_one, decide_eq_true_eq]
      exact Nat.lt_succ_of_le hj
    rcases sweep_has m j _ _ _ e with z | z
    · rw [Nat.zero_testBit] at z; cases z
    · exact z
  intro h j hj
  obtain ⟨a, la, ea⟩ := one _ (runI_le m (SetTable.bits h) 12)
  obtain ⟨b, lb, eb⟩ := one j hj
  have again : ∀ k, lcgI m 0 (m + 1 + k) = lcgI m 0 k := fun k => by
    rw [← lcg_off, h2]
  rcases Nat.lt_or_ge b a with c | c
  · refine ⟨12 + (m + 1 + b - a), by omega, ?_⟩
    rw [runI_tail (bits_lt h), ← ea, lcg_off]
    have e : a + (m + 1 + b - a) = m + 1 + b := by omega
    rw [e, again, eb]
  · refine ⟨12 + (b - a), by omega, ?_⟩
    rw [runI_tail (bits_lt h), ← ea, lcg_off]
    have e : a + (b - a) = b := by omega
    rw [e, eb]
theorem full_7 : Full 7 := full_of (by decide +kernel) (by decide +kernel)
theorem full_31 : Full 31 := full_of (by decide +kernel) (by decide +kernel)
theorem full_127 : Full 127 := full_of (by decide +kernel) (by decide +kernel)
theorem full_511 : Full 511 := full_of (by decide +kernel) (by decide +kernel)
theorem off_le {m : Nat} : ∀ (n i b : Nat), i ≤ m → off m i b n ≤ 10 * n
  | 0, _, _, _ => Nat.zero_le _
  | n + 1, i, b, hi => by
    have e := off_le n (SetTable.leap m i b).1 (SetTable.leap m i b).2 (leap_le m i b)
    have r := runEnd_bd hi
    show SetTable.runEnd m i - i + 1 + off m (SetTable.leap m i b).1 (SetTable.leap m i b).2 n ≤ 10 * (n + 1)
    omega
theorem slot0 (m : Nat) (h : Int) : SetTable.bits h % (m + 1) ≤ m := Nat.le_of_lt_succ (Nat.mod_lt _ (Nat.succ_pos _))
/-- the way comes to a slot of any kind that there is, for the first time within these runs -/
theorem hit {m : Nat} (F : Full m) (h : Int) (p : Nat → Prop) {j : Nat} (hj : j ≤ m) (pj : p j) :
    ∃ n K, n ≤ m + 12 ∧ K ≤ off m (SetTable.bits h % (m + 1)) (SetTable.bits h) n ∧ K ≤ 10 * n ∧ p (way m h K) ∧ ∀ k, k < K → ¬ p (way m h k) := by
  obtain ⟨n, hn, e⟩ := F h j hj
  have there : way m h (off m (SetTable.bits h % (m + 1)) (SetTable.bits h) n) = j := by
    unfold way
    rw [nth_off, itL_run]
    exact e
  obtain ⟨K, k1, k2, k3⟩ := st_least (p := fun k => p (way m h k)) _ (show p (way m h (off m (SetTable.bits h % (m + 1)) (SetTable.bits h) n)) by rw [there]; exact pj)
  exact ⟨n, K, hn, k1, Nat.le_trans k1 (off_le n _ _ (slot0 m h)), k2, k3⟩
theorem on_le (m : Nat) (h : Int) (k : Nat) : way m h k ≤ m := by
  have r := runEnd_bd (slot0 m h)
  have q := nth_in (m := m) k (runAt m (SetTable.bits h % (m + 1)) (SetTable.bits h)) (by
    unfold runAt
    dsimp only
    omega)
  unfold way
  omega
/-- a table in which what has a hash is found on the hash's way ahead of any free slot -/
structure Tb (t : SetTable) (hs : List Int) : Prop where
  full : Full t.mask
  odd : t.mask % 2 = 1
  up : Ris t.place.toList
  no : t.dummies = #[]
  sz : t.place.size = hs.length
  bd : ∀ x ∈ t.place.toList, x ≤ t.mask
  on : ∀ (i : Nat) (h : Int) (j : Nat), hs[i]? = some h → t.place.toList[i]? = some j → ∃ k, way t.mask h k = j ∧ ∀ c, c < k → way t.mask h c ∈ t.place.toList
section
variable {t : SetTable} {hs : List Int}
theorem Tb.len (T : Tb t hs) : t.place.toList.length = hs.length := by rw [Array.length_toList]; exact T.sz
theorem Tb.free (T : Tb t hs) (l : hs.length ≤ t.mask) (h : Int) : ∃ K, K < 10 * SetTable.turns t.mask ∧ way t.mask h K ∉ t.place.toList ∧ ∀ k, k < K → way t.mask h k ∈ t.place.toList := by
  obtain ⟨j, j1, j2⟩ := st_missing t.place.toList (t.mask + 1) (by rw [T.len]; omega)
  obtain ⟨n, K, n1, _, n2, n3, n4⟩ := hit T.full h (fun x => x ∉ t.place.toList) (Nat.le_of_lt_succ j1) j2
  exact ⟨K, by unfold SetTable.turns; omega, n3, fun k hk => Classical.not_not.mp (n4 k hk)⟩
theorem Tb.ahead (T : Tb t hs) {h : Int} {K i : Nat} (hK : way t.mask h K ∉ t.place.toList) (hi : hs[i]? = some h) : ∃ k, k < K ∧ t.place.toList[i]? = some (way t.mask h k) := by
  have li : i < t.place.toList.length := by rw [T.len]; exact (List.getElem?_eq_some_iff.mp hi).1
  have ej := List.getElem?_eq_getElem li
  obtain ⟨k, e, b⟩ := T.on i h _ hi ej
  refine ⟨k, Nat.lt_of_not_le fun c => ?_, by rw [ej, e]⟩
  rcases Nat.lt_or_eq_of_le c with c | c
  · exact hK (b K c)
  · rw [c, e] at hK
    exact hK (List.mem_of_getElem? ej)
/-- one more is put where its way first comes to a free slot -/
theorem Tb.put (T : Tb t hs) {h : Int} {K : Nat} (hK : way t.mask h K ∉ t.place.toList) (hb : ∀ k, k < K → way t.mask h k ∈ t.place.toList) :
    SetTable.below t.place (way t.mask h K) ≤ hs.length ∧ Tb (t.put (way t.mask h K)).1 (hs.take (SetTable.below t.place (way t.mask h K)) ++ h :: hs.drop (SetTable.below t.place (way t.mask h K))) := by
  generalize ej : way t.mask h K = j at hK ⊢
  have cut := (below_cut T.up j).1
  have lp : SetTable.below t.place j ≤ t.place.toList.length := by rw [Array.length_toList]; exact cut
  have lh : SetTable.below t.place j ≤ hs.length := by rw [← T.len]; exact lp
  have new : t.place[SetTable.below t.place j]? ≠ some j := fun e => hK (List.mem_of_getElem? (Array.getElem?_toList.trans e))
  have pl := put_place t j
  have old : ∀ {x : Nat}, x ∈ t.place.toList → x ∈ (t.put j).1.place.toList := fun m => by rw [pl]; exact mem_ins.2 (.inr m)
  refine ⟨lh, T.full, T.odd, ris_insert T.up new, put_dm T.no j, ?_, fun x m => ?_, fun i g y e1 e2 => ?_⟩
  · rw [← Array.length_toList, pl, len_ins _ lp, len_ins _ lh, T.len]
  · rw [pl] at m
    rcases mem_ins.1 m with z | z
    · rw [z, ← ej]; exact on_le _ _ _
    · exact T.bd x z
  · rw [tins_get _ lh] at e1
    rw [pl, tins_get _ lp] at e2
    have far : ∀ i, hs[i]? = some g → t.place.toList[i]? = some y → ∃ k, way t.mask g k = y ∧ ∀ c, c < k → way t.mask g c ∈ (t.put j).1.place.toList := fun i q1 q2 => by
      obtain ⟨k, q3, q4⟩ := T.on i g y q1 q2
      exact ⟨k, q3, fun c hc => old (q4 c hc)⟩
    rcases Nat.lt_trichotomy i (SetTable.below t.place j) with c | c | c
    · rw [if_pos c] at e1 e2
      exact far i e1 e2
    · rw [if_neg (by omega), if_pos c] at e1 e2
      obtain rfl : h = g := Option.some.inj e1
      obtain rfl : j = y := Option.some.inj e2
      exact ⟨K, ej, fun c hc => old (hb c hc)⟩
    · rw [if_neg (by omega), if_neg (by omega)] at e1 e2
      exact far (i - 1) e1 e2
end
theorem own_step {m : Nat} (F : Full m) {done : List Int} {ow : Array (Option Nat)} (W : Own m done ow) (hl : done.length ≤ m) (h : Int) :
    ∃ j, SetTable.layClean.free m ow (SetTable.turns m) (SetTable.bits h % (m + 1)) (SetTable.bits h) = some j ∧ Own m (done ++ [h]) (ow.setIfInBounds j (some done.length)) := by
  obtain ⟨ps, lps, inps⟩ := W.ps
  obtain ⟨j, j1, j2⟩ := st_missing ps (m + 1) (by rw [lps]; omega)
  have j3 : oAt ow j = none := Classical.byContradiction fun c => j2 (inps j (Nat.le_of_lt_succ j1) c)
  obtain ⟨n, K, n1, n2, _, n3, n4⟩ := hit F h (fun x => oAt ow x = none) (Nat.le_of_lt_succ j1) j3
  have fr := free_spec m ow (SetTable.turns m) n (SetTable.bits h % (m + 1)) (SetTable.bits h) K (by unfold SetTable.turns; omega) n2
    (fun k hk => by
      have q : oAt ow (way m h k) ≠ none := n4 k hk
      show (oAt ow (way m h k)).isNone = false
      revert q
      cases oAt ow (way m h k) with
      | none => exact fun q => absurd rfl q
      | some _ => exact fun _ => rfl)
    (by show (oAt ow (way m h K)).isNone = true; rw [n3]; rfl)
  have js : way m h K < ow.size := by rw [W.sz]; exact Nat.lt_succ_of_le (on_le m h K)
  have here := oAt_set_self (some done.length) js
  have full' : ∀ {i : Nat}, oAt ow i ≠ none → oAt (ow.setIfInBounds (way m h K) (some done.length)) i ≠ none := fun {i} q => by
    by_cases c : i = way m h K
    · rw [c, here]; exact Option.some_ne_none _
    · rw [oAt_set_ne _ c]; exact q
  refine ⟨way m h K, fr, ⟨by rw [Array.size_setIfInBounds]; exact W.sz, fun j k lj e => ?_, fun k lk => ?_, way m h K :: ps, by simp [lps], fun j lj e => ?_⟩⟩
  · by_cases c : j = way m h K
    · rw [c, here] at e
      obtain rfl : done.length = k := Option.some.inj e
      exact ⟨h, K, by simp, c.symm, fun k' lk => full' (n4 k' lk)⟩
    · rw [oAt_set_ne _ c] at e
      obtain ⟨g, K', q1, q2, q3⟩ := W.at_ j k lj e
      exact ⟨g, K', by rw [List.getElem?_append_left (List.getElem?_eq_some_iff.mp q1).1]; exact q1, q2, fun k' lk => full' (q3 k' lk)⟩
  · rcases Nat.lt_or_ge k done.length with c | c
    · obtain ⟨j, lj, e⟩ := W.all k c
      exact ⟨j, lj, by rw [oAt_set_ne _ (fun z => by rw [z, n3] at e; cases e)]; exact e⟩
    · obtain rfl : k = done.length := by simp at lk; omega
      exact ⟨_, on_le m h K, here⟩
  · by_cases c : j = way m h K
    · simp [c]
    · rw [oAt_set_ne _ c] at e
      exact List.mem_cons_of_mem _ (inps j lj e)
theorem own_all {m : Nat} (F : Full m) : ∀ (rest done : List Int) (ow : Array (Option Nat)), Own m done ow → done.length + rest.length ≤ m →
    ∃ ow' n, rest.foldl (stepF m) (some (ow, done.length)) = some (ow', n) ∧ Own m (done ++ rest) ow'
  | [], done, ow, W, _ => ⟨ow, _, rfl, by simpa using W⟩
  | h :: rest, done, ow, W, hl => by
    rw [List.length_cons] at hl
    obtain ⟨j, e, W'⟩ := own_step F W (by omega) h
    obtain ⟨ow', n, e', W2⟩ := own_all F rest (done ++ [h]) _ W' (by simp; omega)
    refine ⟨ow', n, ?_, by simpa using W2⟩
    rw [List.foldl_cons, stepF_some e]
    simpa using e'
theorem relay_tb (t : SetTable) {hs : Array Int} {wanted M : Nat} (hw : SetTable.sizeAbove wanted - 1 = M) (F : Full M) (od : M % 2 = 1) (hn : hs.size ≤ M) :
    ∃ t' order, t.relaid hs wanted = some (t', order) ∧ order.toList.Perm (List.range hs.size) ∧ Tb t' (order.toList.map fun i => hs.getD i 0) ∧ t'.mask = M ∧ t'.led = t.led := by
  obtain ⟨ow, n, e, W⟩ := own_all F hs.toList [] _ (Own.init M) (by simpa using hn)
  rw [List.nil_append] at W
  have el : SetTable.layClean M hs = some ow := by
    rw [layClean_eq]
    exact congrArg (Option.map Prod.fst) e
  have laid : t.relaid hs wanted = some (tabOf t M ow, ((liveOf M ow).map (·.2)).toArray) := by
    rw [relaid_eq, hw, el]; rfl
  have rl := ris_live (fun j => ow.getD j none) (List.range (M + 1)) List.pairwise_lt_range
  have up : Ris ((liveOf M ow).map (·.1)) := rl.1
  have low : ∀ x ∈ (liveOf M ow).map (·.1), x ∈ List.range (M + 1) := rl.2
  have inn : ∀ k, k < hs.size → k ∈ (liveOf M ow).map (·.2) := fun k lk => by
    obtain ⟨j, lj, q⟩ := W.all k (by rw [Array.length_toList]; exact lk)
    exact List.mem_map.mpr ⟨(j, k), (mem_live W.sz).2 ⟨lj, q⟩, rfl⟩
  have len : (liveOf M ow).length = hs.size := by
    obtain ⟨ps, p1, p2⟩ := W.ps
    have nd : ((liveOf M ow).map (·.1)).Nodup := List.Pairwise.imp (fun q => Nat.ne_of_lt q) up
    have few := nat_nodup_len ((liveOf M ow).map (·.1)) ps nd fun x m => by
      obtain ⟨⟨y, k⟩, q, rfl⟩ := List.mem_map.mp m
      obtain ⟨b1, b2⟩ := (mem_live W.sz).1 q
      exact p2 y b1 (by rw [b2]; exact Option.some_ne_none _)
    have many := nat_nodup_len (List.range hs.size) ((liveOf M ow).map (·.2)) List.nodup_range fun k m => inn k (List.mem_range.mp m)
    simp only [List.length_map, List.length_range, Array.length_toList] at few many p1
    omega
  refine ⟨_, _, laid, perm_range hs.size _ (by simp [len]) inn, ⟨F, od, up, rfl, by simp [tabOf], fun x m => Nat.le_of_lt_succ (List.mem_range.mp (low x m)), fun i h j e1 e2 => ?_⟩, rfl, rfl⟩
  have e1' : (((liveOf M ow).map (·.2)).map fun i => hs.getD i 0)[i]? = some h := e1
  have e2' : ((liveOf M ow).map (·.1))[i]? = some j := e2
  obtain ⟨⟨y, k⟩, q, rfl⟩ : ∃ q, (liveOf M ow)[i]? = some q ∧ q.1 = j := by
    rw [List.getElem?_map] at e2'
    exact Option.map_eq_some_iff.mp e2'
  have eh : hs.getD k 0 = h := by
    rw [List.getElem?_map, List.getElem?_map, q] at e1'
    exact Option.some.inj e1'
  obtain ⟨b1, b2⟩ := (mem_live W.sz).1 (List.mem_of_getElem? q)
  obtain ⟨g, K, a1, a2, a3⟩ := W.at_ y k b1 b2
  have eg : hs.getD k 0 = g := by
    rw [Array.getElem?_toList] at a1
    simp [Array.getD_eq_getD_getElem?, a1]
  obtain rfl : g = h := eg.symm.trans eh
  refine ⟨K, a2, fun c hc => ?_⟩
  show way M g c ∈ (liveOf M ow).map (·.1)
  cases z : oAt ow (way M g c) with
  | none => exact absurd z (a3 c hc)
  | some k2 => exact List.mem_map.mpr ⟨(_, k2), (mem_live W.sz).2 ⟨on_le M g c, z⟩, rfl⟩
end Fk
namespace Fk
open PySem PySem.Spec PyProof.Rows L2
/-- where a search stands after c steps -/
def prb (m : Nat) (h : Int) (c : Nat) : SetTable.Probe := nth m (runAt m (SetTable.bits h % (m + 1)) (SetTable.bits h)) c
theorem prb_way (m : Nat) (h : Int) (c : Nat) : (prb m h c).j = way m h c := rfl
theorem prb_on (m : Nat) (h : Int) (c q : Nat) : nth m (prb m h c) q = prb m h (c + q) := (nth_add m c _ q).symm
theorem nth_dm {m : Nat} : ∀ (k : Nat) (p : SetTable.Probe), p.dummy = none → (nth m p k).dummy = none
  | 0, _, e => e
  | k + 1, p, e => nth_dm k (adv m p) (by unfold adv; split <;> exact e)
theorem prb_dm (m : Nat) (h : Int) (c : Nat) : (prb m h c).dummy = none := nth_dm c _ rfl
theorem Tb.next {t : SetTable} {hs : List Int} (T : Tb t hs) {h : Int} {K c : Nat} (hK : way t.mask h K ∉ t.place.toList) (hb : ∀ k, k < K → way t.mask h k ∈ t.place.toList) (hc : c ≤ K) (lK : K < 10 * SetTable.turns t.mask) (f : Nat → Int) :
    (∃ q i, c ≤ q ∧ q < K ∧ t.place.toList[i]? = some (way t.mask h q) ∧ f i = h ∧ (∀ q' i', c ≤ q' → q' < q → t.place.toList[i']? = some (way t.mask h q') → f i' ≠ h) ∧
      t.probe f h (prb t.mask h c) = some (.candidate (way t.mask h q) i (prb t.mask h (q + 1)))) ∨
    ((∀ q' i', c ≤ q' → q' < K → t.place.toList[i']? = some (way t.mask h q') → f i' ≠ h) ∧ t.probe f h (prb t.mask h c) = some (.empty (way t.mask h K) none)) := by
  have on : ∀ q, (nth t.mask (prb t.mask h c) q).j = way t.mask h (c + q) := fun q => by rw [prb_on]; rfl
  have back : ∀ {q' : Nat}, c ≤ q' → way t.mask h q' = (nth t.mask (prb t.mask h c) (q' - c)).j := fun {q'} l => by
    rw [on, Nat.add_sub_cancel' l]
  rcases go_spec t T.up T.no f h (10 * SetTable.turns t.mask) (K - c) (prb t.mask h c) (prb_dm _ _ _) (by omega) (fun k hk => by rw [on]; exact hb _ (by omega)) (by rw [on, Nat.add_sub_cancel' hc]; exact hK) with ⟨k, i, a1, a2, a3, a4, a5⟩ | ⟨a1, a2⟩
  · refine .inl ⟨c + k, i, Nat.le_add_right _ _, by omega, by rw [← on]; exact a2, a3, fun q' i' l1 l2 e => a4 (q' - c) i' (by omega) (by rw [← back l1]; exact e), ?_⟩
    rw [on, prb_on] at a5
    exact a5
  · refine .inr ⟨fun q' i' l1 l2 e => a1 (q' - c) i' (by omega) (by rw [← back l1]; exact e), ?_⟩
    rw [on, Nat.add_sub_cancel' hc] at a2
    exact a2
section
variable {P : Program} {w : World} {A : Around} {E : Value → Shared → Prop} {s : Shared}
/-- its things are numbers and texts -/
theorem mix_items {k : List Key} {vs : List Value} (h : ItemsAre (mixKind P w) k vs) : ∀ v ∈ vs, (∃ i t, v = Value.int i t) ∨ ∃ x t, v = Value.str x t := by
  induction h with
  | nil => exact fun v m => nomatch m
  | cons e _ ih =>
    intro v m
    cases m with
    | head =>
      rcases keyIs_shape e with ⟨i, t, _, q⟩ | ⟨x, t, _, q⟩
      · exact .inl ⟨i, t, q⟩
      · exact .inr ⟨x, t, q⟩
    | tail _ m => exact ih v m
theorem mix_cls (n : Nat) {v : Value} (h : (∃ i t, v = Value.int i t) ∨ ∃ x t, v = Value.str x t) : ofAClassStatement n v = pure false := by
  rcases h with ⟨i, t, rfl⟩ | ⟨x, t, rfl⟩ <;> cases n <;> rfl
theorem mix_byv (n : Nat) {v : Value} (h : (∃ i t, v = Value.int i t) ∨ ∃ x t, v = Value.str x t) : ∃ b, hashByValue n v = pure b := by
  rcases h with ⟨i, t, rfl⟩ | ⟨x, t, rfl⟩ <;> cases n <;> exact ⟨_, rfl⟩
theorem mix_calm {k : List Key} {b : Addr} {Q : Bool → Shared → Prop} (hk : IsTupleKey (mixKind P w) s.heap k b) (q : Q false s) : wpAny (model P w) A (ofAClassStatement 8 (.ref b)) Q E s := by
  have ty := hk.typeIs
  obtain ⟨o, its, n, ho, _, hd, hi⟩ := hk
  unfold ofAClassStatement
  refine wpAny_bind (wpAny_typeOf ty ?_)
  dsimp only
  have e : (("tuple" : String) == "tuple") = true := by decide
  simp only [e, if_true, Bool.not_true, Bool.false_eq_true, if_false]
  try refine wpAny_bind (wpAny_pure ?_)
  try simp only [Bool.not_true, Bool.false_eq_true, if_false]
  show wpAny _ _ (seqItems? (.ref b) >>= _) _ _ s
  refine wpAny_bind (wpAny_seqItems ho hd ?_)
  dsimp only
  refine wpAny_bind ?_
  show wpAny _ _ (forIn its _ _) _ _ s
  rw [← Array.forIn_toList]
  refine wpAny_forIn_list _ (fun rest r s₁ => r.1 = none ∧ s₁ = s ∧ ∀ v ∈ rest, (∃ i t, v = Value.int i t) ∨ ∃ x t, v = Value.str x t) _ ?_ ?_ _ _ ⟨rfl, rfl, mix_items hi⟩
  · rintro v rest r s₁ ⟨hr, rfl, all⟩
    rw [mix_cls _ (all v List.mem_cons_self)]
    refine wpAny_bind (wpAny_pure ?_)
    simp only [Bool.false_eq_true, if_false]
    exact wpAny_pure ⟨rfl, rfl, fun u m => all u (List.mem_cons_of_mem _ m)⟩
  · rintro ⟨r1, r2⟩ s₁ ⟨hr, rfl, _⟩
    simp only at hr
    subst hr
    exact wpAny_pure q
theorem mix_hashed {k : List Key} {b : Addr} {Q : Bool → Shared → Prop} (hk : IsTupleKey (mixKind P w) s.heap k b) (q : ∀ c, Q c s) : wpAny (model P w) A (hashByValue 8 (.ref b)) Q E s := by
  have ty := hk.typeIs
  obtain ⟨o, its, n, ho, _, hd, hi⟩ := hk
  unfold hashByValue
  refine wpAny_bind (wpAny_specialOf ty F.slot_tuple_hash.lookup ?_)
  show wpAny _ _ (seqItems? (.ref b) >>= _) _ _ s
  refine wpAny_bind (wpAny_seqItems ho hd ?_)
  refine wpAny_bind ?_
  show wpAny _ _ (forIn its _ _) _ _ s
  rw [← Array.forIn_toList]
  refine wpAny_forIn_list _ (fun rest r s₁ => r.1 = none ∧ s₁ = s ∧ ∀ v ∈ rest, (∃ i t, v = Value.int i t) ∨ ∃ x t, v = Value.str x t) _ ?_ ?_ _ _ ⟨rfl, rfl, mix_items hi⟩
  · rintro v rest r s₁ ⟨hr, rfl, all⟩
    obtain ⟨c, ec⟩ := mix_byv 7 (all v List.mem_cons_self)
    rw [ec]
    refine wpAny_bind (wpAny_pure ?_)
    cases c
    · simp only [Bool.not_false, if_true]
      exact wpAny_pure (wpAny_pure (q false))
    · simp only [Bool.not_true, Bool.false_eq_true, if_false]
      exact wpAny_pure ⟨rfl, rfl, fun u m => all u (List.mem_cons_of_mem _ m)⟩
  · rintro ⟨r1, r2⟩ s₁ ⟨hr, rfl, _⟩
    simp only at hr
    subst hr
    exact wpAny_pure (q true)
theorem mix_unseen {k : List Key} {b : Addr} {Q : Bool → Shared → Prop} (hk : IsTupleKey (mixKind P w) s.heap k b) {ys : List Value} (hy : ∀ y ∈ ys, ∃ k' c, y = Value.ref c ∧ IsTupleKey (mixKind P w) s.heap k' c) (q : Q false s) :
    wpAny (model P w) A (searchCouldBeSeen (.ref b) ys) Q E s := by
  unfold searchCouldBeSeen
  refine wpAny_bind (wpAny_forIn_list _ (fun rest r s₁ => r.1 = none ∧ s₁ = s ∧ ∀ y ∈ rest, ∃ k' c, y = Value.ref c ∧ IsTupleKey (mixKind P w) s.heap k' c) _ ?_ ?_ _ _ ⟨rfl, rfl, hy⟩)
  · rintro v rest r s₁ ⟨hr, rfl, all⟩
    obtain ⟨k', c, rfl, hc⟩ := all v List.mem_cons_self
    have on := fun u (m : u ∈ rest) => all u (List.mem_cons_of_mem _ m)
    dsimp only
    by_cases same : (b == c || (carriedByValue (.ref b) && carriedByValue (.ref c))) = true
    · exact wp_if_pos same (wpAny_pure ⟨rfl, rfl, on⟩)
    · refine wp_if_neg same (wpAny_bind (wpAny_eqIsQuiet_tuple hk ?_))
      simp only [Bool.not_true, Bool.false_eq_true, if_false]
      refine wpAny_bind (wpAny_eqIsQuiet_tuple hc ?_)
      simp only [Bool.not_true, Bool.false_eq_true, if_false]
      refine wpAny_bind (mix_calm hk ?_)
      simp only [Bool.false_eq_true, if_false]
      refine wpAny_bind (mix_calm hc ?_)
      simp only [Bool.false_eq_true, if_false]
      exact wpAny_pure ⟨rfl, rfl, on⟩
  · rintro ⟨r1, r2⟩ s₁ ⟨hr, rfl, _⟩
    simp only at hr
    subst hr
    exact wpAny_pure q
end
/-- a tuple's hash -/
abbrev kh (P : Program) (w : World) (k : List Key) : Int := tupleKeyHash (mixKind P w) k
/-- the set at a: its rows, each the address of a tuple and what it is of -/
structure StAt (P : Program) (w : World) (h : Heap) (a : Addr) (L : List (Addr × List Key)) (es : Array (Int × Value)) (ep : Nat) (t : SetTable) : Prop where
  ob : ∃ o, h.get? a = some o ∧ o.ExactSet ∧ o.data = .set es ep t
  rows : es.toList = L.map fun p => (kh P w p.2, Value.ref p.1)
  tb : Tb t (L.map fun p => kh P w p.2)
  nd : (L.map (·.2)).Nodup
  it : ∀ p ∈ L, IsTupleKey (mixKind P w) h p.2 p.1
  led : w.params.followText "set-order" = true ∨ t.led = true
  msk : t.mask = 7 ∨ t.mask = 31 ∨ t.mask = 127 ∨ t.mask = 511
  room : L.length * 5 < t.mask * 3
section
variable {P : Program} {w : World} {A : Around} {E : Value → Shared → Prop} {s : Shared} {a : Addr} {L : List (Addr × List Key)} {es : Array (Int × Value)} {ep : Nat} {t : SetTable} {h : Heap}
theorem StAt.size (R : StAt P w h a L es ep t) : es.size = L.length := by
  rw [← Array.length_toList, R.rows, List.length_map]
theorem Tb.fit {hs : List Int} (T : Tb t hs) {n : Nat} (hn : n = hs.length) (l : n ≤ t.mask) : t.fits n = true := by
  have z := T.sz
  unfold SetTable.fits SetTable.fill
  rw [T.no, Bool.and_eq_true, beq_iff_eq, decide_eq_true_eq]
  refine ⟨by rw [z, hn], ?_⟩
  rw [z, ← hn]
  exact l
theorem StAt.fit (R : StAt P w h a L es ep t) : t.fits es.size = true :=
  R.tb.fit (by rw [R.size, List.length_map]) (by have := R.room; rw [R.size]; omega)
theorem StAt.row (R : StAt P w h a L es ep t) {i : Nat} {p : Addr × List Key} (e : L[i]? = some p) : es[i]? = some (kh P w p.2, Value.ref p.1) := by
  rw [← Array.getElem?_toList, R.rows, List.getElem?_map, e]; rfl
theorem StAt.even (R : StAt P w h a L es ep t) : ¬ t.gaveWay = true := by
  unfold SetTable.gaveWay
  rw [R.tb.odd]
  decide
/-- the search for a tuple, from the c-th step on -/
theorem seek (R : StAt P w s.heap a L es ep t) {x : Addr} {k : List Key} (hx : IsTupleKey (mixKind P w) s.heap k x) (hu : A.units < cLine) {K : Nat} (lK : K < 10 * SetTable.turns t.mask)
    (hK : way t.mask (kh P w k) K ∉ t.place.toList) (hb : ∀ c, c < K → way t.mask (kh P w k) c ∈ t.place.toList) {Q : SetFound → Shared → Prop}
    (yes : k ∈ L.map (·.2) → Q (.there none) s) (no : k ∉ L.map (·.2) → Q (.free (way t.mask (kh P w k) K) false) s) :
    ∀ (f c : Nat) (stand : Option SetTable.Probe), stand.getD (t.probeStart (kh P w k)) = prb t.mask (kh P w k) c → c ≤ K → K - c < f →
      (∀ (i : Nat) (p : Addr × List Key), L[i]? = some p → p.2 = k → ∃ q, c ≤ q ∧ q < K ∧ t.place.toList[i]? = some (way t.mask (kh P w k) q)) →
      wpAny (model P w) A (setSearchFrom a (.ref x) (kh P w k) true f stand) Q E s
  | 0, _, _, _, _, l, _ => absurd l (Nat.not_lt_zero _)
  | f + 1, c, stand, es0, lc, l, due => by
    obtain ⟨o, ho, ex, hd⟩ := R.ob
    rw [setSearchFrom_succ]
    refine wpAny_bind (wpAny_setState_of ho hd R.fit ?_)
    dsimp only
    refine wp_if_neg R.even ?_
    try refine wpAny_bind (wpAny_pure ?_)
    have ofRow : ∀ {i : Nat} {p : Addr × List Key}, L[i]? = some p → (fun i => (es[i]?.map (·.1)).getD 0) i = kh P w p.2 := fun {i p} e => by
      show (es[i]?.map (·.1)).getD 0 = _
      rw [R.row e]; rfl
    have inL : ∀ {i j : Nat}, t.place.toList[i]? = some j → ∃ p, L[i]? = some p := fun {i j} e => by
      have li := (List.getElem?_eq_some_iff.mp e).1
      rw [R.tb.len, List.length_map] at li
      exact ⟨_, List.getElem?_eq_getElem li⟩
    rcases R.tb.next hK hb lc lK (fun i => (es[i]?.map (·.1)).getD 0) with ⟨q, i, q1, q2, ei, _, none', e⟩ | ⟨none', e⟩
    · rw [es0, e]
      dsimp only
      obtain ⟨p, ep'⟩ := inL ei
      have mp : p ∈ L := List.mem_of_getElem? ep'
      have look : wpAny (model P w) A (searchRest a (.ref x) (kh P w k) true f es t (way t.mask (kh P w k) q) i (prb t.mask (kh P w k) (q + 1))) Q E s := by
        unfold searchRest
        rw [R.row ep']
        dsimp only
        refine wpAny_bind (wpAny_holding (wpAny_eqBool_tuple hu (R.it p mp) hx ?_))
        refine wpAny_bind (wpAny_setState_of ho hd R.fit ?_)
        dsimp only
        by_cases same : p.2 = k
        · exact wp_if_pos (by simp [same]) (wpAny_pure (yes (List.mem_map.mpr ⟨p, mp, same⟩)))
        · refine wp_if_neg (by simp [same]) ?_
          try refine wpAny_bind (wpAny_pure ?_)
          rw [sameMem]
          dsimp only
          have live : t.slot (way t.mask (kh P w k) q) = .live i := slot_live R.tb.up ei
          simp only [if_true, live, R.row ep']
          refine wpAny_bind (wpAny_isSame_ref_self (wpAny_bind (wpAny_pure ?_)))
          simp only [if_true]
          refine wp_if_neg (by simp [same]) ?_
          refine seek R hx hu lK hK hb yes no f (q + 1) _ rfl q2 (by omega) fun i' p' e1 e2 => ?_
          obtain ⟨q', l1, l2, e3⟩ := due i' p' e1 e2
          refine ⟨q', Nat.lt_of_le_of_ne ?_ fun z => ?_, l2, e3⟩
          · exact Nat.le_of_not_lt fun z => none' q' i' l1 z e3 ((ofRow e1).trans (congrArg (kh P w) e2))
          · rw [← z] at e3
            have live' := slot_live R.tb.up e3
            rw [live] at live'
            injection live' with z
            rw [← z, ep'] at e1
            exact same ((congrArg Prod.snd (Option.some.inj e1)).trans e2)
      by_cases led : t.led = true
      · refine wp_if_neg (by simp [led]) ?_
        try refine wpAny_bind (wpAny_pure ?_)
        exact look
      · refine wp_if_pos (by simp [led]) (wpAny_bind (mix_unseen hx (fun y my => ?_) ?_))
        · obtain ⟨u, mu, eu⟩ := List.mem_map.mp my
          have mu' : u ∈ es.toList := by
            have z : u ∈ es ∧ u.1 = kh P w k := by simpa using mu
            simpa using z.1
          rw [R.rows] at mu'
          obtain ⟨p', mp', e'⟩ := List.mem_map.mp mu'
          exact ⟨p'.2, p'.1, by rw [← eu, ← e'], R.it p' mp'⟩
        · refine wp_if_neg (by decide) ?_
          try refine wpAny_bind (wpAny_pure ?_)
          exact look
    · rw [es0, e]
      dsimp only
      refine wpAny_pure (no fun m => ?_)
      obtain ⟨p, mp, e1⟩ := List.mem_map.mp m
      obtain ⟨i, ei⟩ := List.mem_iff_getElem?.mp mp
      obtain ⟨q, l1, l2, e2⟩ := due i p ei e1
      exact none' q i l1 l2 e2 ((ofRow ei).trans (congrArg (kh P w) e1))
theorem seek_all (R : StAt P w s.heap a L es ep t) {x : Addr} {k : List Key} (hx : IsTupleKey (mixKind P w) s.heap k x) (hu : A.units < cLine) {Q : SetFound → Shared → Prop} (yes : k ∈ L.map (·.2) → Q (.there none) s)
    (no : ∀ K, k ∉ L.map (·.2) → way t.mask (kh P w k) K ∉ t.place.toList → (∀ c, c < K → way t.mask (kh P w k) c ∈ t.place.toList) → Q (.free (way t.mask (kh P w k) K) false) s) :
    wpAny (model P w) A (setSearch a (.ref x) (kh P w k) true) Q E s := by
  have room := R.room
  obtain ⟨K, lK, hK, hb⟩ := R.tb.free (by rw [List.length_map]; omega) (kh P w k)
  have far : K < 100000 := by
    unfold SetTable.turns at lK
    rcases R.msk with e | e | e | e <;> rw [e] at lK <;> omega
  unfold setSearch
  refine seek R hx hu lK hK hb yes (fun n => no K n hK hb) 100000 0 none rfl (Nat.zero_le _) (by omega) fun i p e1 e2 => ?_
  obtain ⟨c, l, e⟩ := R.tb.ahead (i := i) hK (by rw [List.getElem?_map, e1, ← e2]; rfl)
  exact ⟨c, Nat.zero_le _, l, e⟩
end
end Fk
namespace Fk
open PySem PySem.Spec PyProof.Rows L2
/-- an object that is no tuple changes -/
theorem key_same {P : Program} {w : World} {h h' : Heap} {k : List Key} {a b : Addr} {o : Obj} {es : Array (Int × Value)} {ep : Nat} {t : SetTable} (hb : IsTupleKey (mixKind P w) h k b) (ho : h.get? a = some o) (hd : o.data = .set es ep t) (sb : Heap.SameBut a h h') : IsTupleKey (mixKind P w) h' k b := by
  obtain ⟨u, its, n, hu, hc, hud, hi⟩ := hb
  refine ⟨u, its, n, (sb.2 b fun z => ?_).trans hu, hc, hud, hi⟩
  rw [z, ho] at hu
  rw [← Option.some.inj hu, hd] at hud
  cases hud
theorem key_kept {P : Program} {w : World} {h h' : Heap} {k : List Key} {b : Addr} (x : IsTupleKey (mixKind P w) h k b) (kp : ∀ c o, h.get? c = some o → h'.get? c = some o) : IsTupleKey (mixKind P w) h' k b := by
  obtain ⟨o, its, n, ho, r⟩ := x
  exact ⟨o, its, n, kp b o ho, r⟩
theorem ins_perm {α : Type} (L : List α) (p : Nat) (x : α) : (L.take p ++ x :: L.drop p).Perm (x :: L) := by
  have e : (L.take p ++ x :: L.drop p).Perm (x :: (L.take p ++ L.drop p)) := List.perm_middle
  rwa [List.take_append_drop] at e
/-- entries by an order of their numbers are rows in an order -/
theorem rows_by {P : Program} {w : World} (L : List (Addr × List Key)) (es : Array (Int × Value)) (hr : es.toList = L.map fun p => (kh P w p.2, Value.ref p.1)) :
    ∀ l : List Nat, (∀ i ∈ l, i < L.length) → ∃ L' : List (Addr × List Key), l.filterMap (fun i => es[i]?) = (L'.map fun p => (kh P w p.2, Value.ref p.1)) ∧ L' = l.filterMap (fun i => L[i]?) ∧ (L'.map fun p => kh P w p.2) = l.map fun i => (es.map (·.1)).getD i 0
  | [], _ => ⟨[], rfl, rfl, rfl⟩
  | i :: l, b => by
    obtain ⟨L', e1, e2, e3⟩ := rows_by L es hr l fun j m => b j (List.mem_cons_of_mem _ m)
    have li := b i List.mem_cons_self
    have at_ : es[i]? = some (kh P w (L[i]).2, Value.ref (L[i]).1) := by
      rw [← Array.getElem?_toList, hr, List.getElem?_map, List.getElem?_eq_getElem li]; rfl
    refine ⟨L[i] :: L', ?_, ?_, ?_⟩
    · rw [List.filterMap_cons_some at_, e1]; rfl
    · rw [List.filterMap_cons_some (List.getElem?_eq_getElem li), e2]
    · have g : (es.map (·.1))[i]? = some (kh P w (L[i]).2) := by rw [Array.getElem?_map, at_]; rfl
      rw [List.map_cons, List.map_cons, e3, Array.getD_eq_getD_getElem?, g]; rfl
theorem range_rows {α : Type} (L : List α) : (List.range L.length).filterMap (fun i => L[i]?) = L := by
  have e : ∀ (M : List α) (f : Nat → Option α), (∀ i, f i = M[i]?) → (List.range M.length).filterMap f = M := by
    intro M
    induction M with
    | nil => intro f _; rfl
    | cons x M ih =>
      intro f hf
      rw [List.length_cons, List.range_succ_eq_map, List.filterMap_cons_some (by rw [hf 0]; rfl), List.filterMap_map]
      rw [ih (f ∘ Nat.succ) fun i => by show f (i + 1) = _; rw [hf]; rfl]
  exact e L _ fun _ => rfl
section
variable {P : Program} {w : World} {A : Around} {E : Value → Shared → Prop} {s : Shared} {a : Addr} {L : List (Addr × List Key)} {es : Array (Int × Value)} {ep : Nat} {t : SetTable}
theorem relaid_at {o : Obj} (ho : s.heap.get? a = some o) (ex : o.ExactSet) (hd : o.data = .set es ep t) (rows : es.toList = L.map fun p => (kh P w p.2, Value.ref p.1)) (fit : t.fits es.size = true) (nd : (L.map (·.2)).Nodup)
    (it : ∀ p ∈ L, IsTupleKey (mixKind P w) s.heap p.2 p.1) (led : w.params.followText "set-order" = true ∨ t.led = true) {wanted M : Nat} (hw : SetTable.sizeAbove wanted - 1 = M) (hM : M = 31 ∨ M = 127 ∨ M = 511) (small : SetTable.sizeAbove wanted ≤ 512)
    (room : L.length * 5 < M * 3) {Q : Unit → Shared → Prop}
    (q : ∀ h' L' es' ep' t', Heap.SameBut a s.heap h' → StAt P w h' a L' es' ep' t' → L'.Perm L → Q () { s with heap := h' }) : wpAny (model P w) A (setRelay a wanted) Q E s := by
  have sz : es.size = L.length := by rw [← Array.length_toList, rows, List.length_map]
  have F : Full M := by rcases hM with e | e | e <;> (subst e; first | exact full_31 | exact full_127 | exact full_511)
  have od : M % 2 = 1 := by rcases hM with e | e | e <;> (subst e; rfl)
  obtain ⟨t', order, e, pm, T, em, el⟩ := relay_tb t (hs := es.map (·.1)) (wanted := wanted) hw F od (by rw [Array.size_map, sz]; omega)
  rw [Array.size_map, sz] at pm
  obtain ⟨L', e1, e2, e3⟩ := rows_by L es rows order.toList fun i m => List.mem_range.mp (pm.mem_iff.mp m)
  have pL : L'.Perm L := by
    rw [e2]
    have z := pm.filterMap fun i => L[i]?
    rwa [range_rows] at z
  have e1' : (order.filterMap (es[·]?)).toList = L'.map fun p => (kh P w p.2, Value.ref p.1) := by
    first | (rw [Array.toList_filterMap]; exact e1) | simpa using e1
  rw [← e3] at T
  have sz' : (order.filterMap (es[·]?)).size = es.size := by rw [← Array.length_toList, e1', List.length_map, pL.length_eq, sz]
  rw [setRelay_eq]
  refine wpAny_bind (wpAny_setState_of ho hd fit ?_)
  dsimp only
  refine wp_if_neg (by rw [sizeLine_eq]; omega) ?_
  try refine wpAny_bind (wpAny_pure ?_)
  rw [e]
  dsimp only
  refine wpAny_bind (wp_if_neg (by rw [sz']; simp) ?_)
  try refine wpAny_bind (wpAny_pure ?_)
  refine wpAny_pure ?_
  dsimp only
  refine wpAny_storeSet_of ho hd ?_ (by rw [sz', sz, sizeLine_eq]; omega)
  have sb : Heap.SameBut a s.heap (s.heap.update a (Obj.putSet (order.filterMap (es[·]?)) t')) := Heap.SameBut.update ..
  refine q _ L' (order.filterMap (es[·]?)) (ep + 1) t' sb ⟨⟨_, store_at ho hd, ⟨ex.1, ex.2.1, ex.2.2⟩, rfl⟩, e1', T, (pL.map (·.2)).nodup_iff.mpr nd, fun p m => key_same (it p (pL.mem_iff.mp m)) ho hd sb, by rw [el]; exact led, ?_, by rw [pL.length_eq, em]; exact room⟩ pL
  rw [em]
  exact .inr hM
theorem put_led (t : SetTable) (j : Nat) : (t.put j).1.led = t.led ∧ (t.put j).1.mask = t.mask ∧ (t.put j).1.plain = t.plain := ⟨rfl, rfl, rfl⟩
theorem grown_5 : SetTable.sizeAbove (SetTable.grown 5) = 32 := by decide +kernel
theorem grown_19 : SetTable.sizeAbove (SetTable.grown 19) = 128 := by decide +kernel
theorem grown_77 : SetTable.sizeAbove (SetTable.grown 77) = 512 := by decide +kernel
theorem Tb.plain {hs : List Int} (T : Tb t hs) (b : Bool) : Tb { t with plain := b } hs := ⟨T.full, T.odd, T.up, T.no, T.sz, T.bd, T.on⟩
/-- a tuple is put in -/
theorem put_in (R : StAt P w s.heap a L es ep t) {x : Addr} {k : List Key} (hx : IsTupleKey (mixKind P w) s.heap k x) (hu : A.units < cLine) (few : L.length + 1 ≤ 300) {Q : Bool → Shared → Prop}
    (q : ∀ b h' L' es' ep' t', Heap.SameBut a s.heap h' → StAt P w h' a L' es' ep' t' → (k ∈ L.map (·.2) → L' = L) → (k ∉ L.map (·.2) → L'.Perm ((x, k) :: L)) → Q b { s with heap := h' }) :
    wpAny (model P w) A (setAddHashed a (.ref x) (kh P w k)) Q E s := by
  obtain ⟨o, ho, ex, hd⟩ := R.ob
  have room := R.room
  have sz := R.size
  unfold setAddHashed
  refine wpAny_holding ?_
  rw [show (100000 : Nat) = 99999 + 1 from rfl, setAddHashedIn_succ]
  refine wpAny_bind (wpAny_setState_of ho hd R.fit ?_)
  dsimp only
  refine wp_if_neg (by simp [byScan, Value.scannable]) ?_
  try refine wpAny_bind (wpAny_pure ?_)
  refine wpAny_bind (seek_all R hx hu (fun m => ?_) fun K nm hK hb => ?_)
  · dsimp only
    exact wpAny_pure (q false s.heap L es ep t (Heap.SameBut.refl a s.heap) R (fun _ => rfl) fun z => absurd m z)
  dsimp only
  refine wpAny_bind (wpAny_setState_of ho hd R.fit ?_)
  dsimp only
  obtain ⟨lp, T⟩ := R.tb.put hK hb
  obtain ⟨l1, l2, l3⟩ := put_led t (way t.mask (kh P w k) K)
  have e2 : (t.put (way t.mask (kh P w k) K)).2 = SetTable.below t.place (way t.mask (kh P w k) K) := rfl
  generalize ept : t.put (way t.mask (kh P w k) K) = pt at T l1 l2 l3 e2 ⊢
  obtain ⟨t1, p⟩ := pt
  dsimp only at T l1 l2 l3 e2 ⊢
  rw [← e2] at T lp
  have rest : ∀ t2 : SetTable, Tb t2 ((L.map fun p => kh P w p.2).take p ++ kh P w k :: (L.map fun p => kh P w p.2).drop p) → t2.led = t.led → t2.mask = t.mask →
      wpAny (model P w) A (storeSet a (SetTable.insertAt es p (kh P w k, Value.ref x)) t2 >>= fun _ => (if (!false && t2.tooFull) = true then (do setRelay a (SetTable.grown (es.size + 1)); pure true) else pure true)) Q E s := by
    intro t2 T2 ld2 mk2
    have rows1 : (SetTable.insertAt es p (kh P w k, Value.ref x)).toList = (L.take p ++ (x, k) :: L.drop p).map fun p => (kh P w p.2, Value.ref p.1) := by
      rw [SetTable.toList_insertAt, R.rows, List.map_append, List.map_cons, List.map_take, List.map_drop]
    have pm := ins_perm L p (x, k)
    have hs1 : (L.take p ++ (x, k) :: L.drop p).map (fun p => kh P w p.2) = (L.map fun p => kh P w p.2).take p ++ kh P w k :: (L.map fun p => kh P w p.2).drop p := by
      rw [List.map_append, List.map_cons, List.map_take, List.map_drop]
    rw [← hs1] at T2
    generalize L.take p ++ (x, k) :: L.drop p = L1 at pm T2 rows1
    generalize SetTable.insertAt es p (kh P w k, Value.ref x) = es1 at rows1 ⊢
    have len1 : L1.length = L.length + 1 := pm.length_eq
    have sz1 : es1.size = L.length + 1 := by rw [← Array.length_toList, rows1, List.length_map, len1]
    have nd1 : (L1.map (·.2)).Nodup := (pm.map (·.2)).nodup_iff.mpr (List.nodup_cons.mpr ⟨nm, R.nd⟩)
    have fill2 : t2.fill = L.length + 1 := by
      have z := T2.sz
      rw [List.length_map, len1] at z
      unfold SetTable.fill
      rw [z, T2.no]; rfl
    refine wpAny_bind (wpAny_storeSet_of ho hd ?_ (by rw [sz1, sizeLine_eq]; omega))
    have sb : Heap.SameBut a s.heap (s.heap.update a (Obj.putSet es1 t2)) := Heap.SameBut.update ..
    have ho1 := store_at (es' := es1) (t' := t2) ho hd
    generalize s.heap.update a (Obj.putSet es1 t2) = h1 at sb ho1 ⊢
    have it1 : ∀ p ∈ L1, IsTupleKey (mixKind P w) h1 p.2 p.1 := fun p m => by
      rcases List.mem_cons.mp (pm.mem_iff.mp m) with e | m
      · rw [e]; exact key_same hx ho hd sb
      · exact key_same (R.it p m) ho hd sb
    by_cases big : t2.tooFull = true
    · refine wp_if_pos (by simp [big]) (wpAny_bind ?_)
      unfold SetTable.tooFull at big
      rw [decide_eq_true_eq, fill2, mk2] at big
      have fit1 : t2.fits es1.size = true := T2.fit (by rw [sz1, List.length_map, len1]) (by rw [sz1, mk2]; rcases R.msk with e | e | e | e <;> rw [e] at room big ⊢ <;> omega)
      have go : ∀ M, SetTable.sizeAbove (SetTable.grown (L.length + 1)) - 1 = M → (M = 31 ∨ M = 127 ∨ M = 511) → SetTable.sizeAbove (SetTable.grown (L.length + 1)) ≤ 512 → (L.length + 1) * 5 < M * 3 →
          wpAny (model P w) A (setRelay a (SetTable.grown (L.length + 1))) (fun _ s' => wpAny (model P w) A (pure true) Q E s') E { s with heap := h1 } := fun M g1 g2 g3 g4 =>
        relaid_at (s := { s with heap := h1 }) ho1 ⟨ex.1, ex.2.1, ex.2.2⟩ rfl rows1 fit1 nd1 it1 (by rw [ld2]; exact R.led) g1 g2 g3 (by rw [len1]; exact g4) fun h2 L2 es2 ep2 t2 sb2 R2 pm2 =>
          wpAny_pure (q true h2 L2 es2 ep2 t2 (sb.trans sb2) R2 (fun z => absurd z nm) fun _ => pm2.trans pm)
      rw [sz]
      rcases R.msk with e | e | e | e
      · have e4 : L.length + 1 = 5 := by rw [e] at room big; omega
        exact go 31 (by rw [e4, grown_5]) (.inl rfl) (by rw [e4, grown_5]; decide) (by omega)
      · have e4 : L.length + 1 = 19 := by rw [e] at room big; omega
        exact go 127 (by rw [e4, grown_19]) (.inr (.inl rfl)) (by rw [e4, grown_19]; decide) (by omega)
      · have e4 : L.length + 1 = 77 := by rw [e] at room big; omega
        exact go 511 (by rw [e4, grown_77]) (.inr (.inr rfl)) (by rw [e4, grown_77]; decide) (by omega)
      · exfalso; rw [e] at big; omega
    · refine wp_if_neg (by simp [big]) (wpAny_pure ?_)
      unfold SetTable.tooFull at big
      rw [decide_eq_true_eq, fill2] at big
      exact q true h1 L1 es1 (ep + 1) t2 sb ⟨⟨_, ho1, ⟨ex.1, ex.2.1, ex.2.2⟩, rfl⟩, rows1, T2, nd1, it1, by rw [ld2]; exact R.led, by rw [mk2]; exact R.msk, by rw [len1]; omega⟩ (fun z => absurd z nm) fun _ => pm
  by_cases pl : t1.plain = true
  · refine wp_if_pos pl (wpAny_bind (mix_hashed hx fun b => ?_))
    cases b
    · exact rest { t1 with plain := false } (T.plain false) l1 l2
    · exact rest t1 T l1 l2
  · refine wp_if_neg pl ?_
    try refine wpAny_bind (wpAny_pure ?_)
    exact rest t1 T l1 l2
end
end Fk
namespace Fk
open PySem PySem.Spec PyProof.Rows L2
/-- a new set -/
abbrev frs (w : World) : Obj := { cls := .type "set", dict := none, data := .set #[] 0 (.fresh 0 0 (!w.params.followText "set-order")) }
/-- what the set at S is after each of the things was put in, and how one is -/
structure PutsIn (P : Program) (w : World) (u : Nat) (h0 : Heap) (S : Addr) (items : Array Value) (G : Nat → Heap → Prop) : Prop where
  frame : ∀ i h h', G i h → (∀ o, h.get? S = some o → h'.get? S = some o) → (∀ b o, h0.get? b = some o → h'.get? b = some o) → G i h'
  zero : ∀ h, h.get? S = some (frs w) → (∀ b o, h0.get? b = some o → h.get? b = some o) → G 0 h
  put : ∀ (i : Nat) (v : Value) (A : Around) (s : Shared) (Q : Bool → Shared → Prop) (E : Value → Shared → Prop), items[i]? = some v → A.units ≤ u → G i s.heap → (∀ b o, h0.get? b = some o → s.heap.get? b = some o) →
    (∀ b h' tk, Heap.SameBut S s.heap h' → s.toks ≤ tk → G (i + 1) h' → Q b { s with heap := h', toks := tk }) → wpAny (model P w) A (setAdd S v) Q E s
section
variable {P : Program} {w : World} {A : Around} {E : Value → Shared → Prop} {u : Nat} {h0 : Heap} {S : Addr} {items : Array Value} {G : Nat → Heap → Prop}
theorem puts_loop (J : PutsIn P w u h0 S items G) {I : Addr} {fp wr : List Addr} {St : Nat → Heap → Prop} {R : Result → Shared → Prop} (W : Walks P w A.in1 I fp wr items.size (fun i v => items[i]? = some v) St) (hS : S ∉ fp) (hS0 : h0.get? S = none) (hw : ∀ b ∈ wr, h0.get? b = none) (hu : A.in1.units ≤ u) :
    ∀ (k i : Nat) (s : Shared), items.size - i = k → i ≤ items.size → St i s.heap → (∀ b o, h0.get? b = some o → s.heap.get? b = some o) → G i s.heap →
      (∀ h' tk, G items.size h' → (∀ b o, h0.get? b = some o → h'.get? b = some o) → R (.ok (.ret .none)) { s with heap := h', toks := tk }) →
      codeAny (model P w) A (.builtin "set.update.loop" ⟨[.ref S, .ref I], []⟩) R s := by
  have hSw : S ∉ wr := fun m => hS (W.sub _ m)
  intro k
  induction k with
  | zero =>
    intro i s ek li st kp g r
    obtain rfl : i = items.size := by omega
    refine codeAny_builtin F.entry_set_update_loop ?_
    rw [Around.under_plainId F.plain_set_update_loop _]
    show wpAny _ A.in1 (pyNext (.ref I) >>= _) _ _ s
    refine wpAny_bind (W.toS.done s _ _ st fun s' m => ?_)
    show wpAny _ A.in1 (ret Value.none) _ _ s'
    obtain ⟨h', g2, d', tk', os'⟩ := s'
    obtain ⟨m1, m2, m3, m4, m5⟩ := m
    dsimp only at m1 m2 m3 m4 m5
    subst m2; subst m3; subst m4
    have kp' : ∀ b o, h0.get? b = some o → h'.get? b = some o := fun b o e => m1 b o (fun z => by rw [hw b z] at e; cases e) (kp b o e)
    exact wpAny_pure (r h' tk' (J.frame _ _ _ g (fun o e => m1 S o hSw e) kp') kp')
  | succ k ih =>
    intro i s ek li st kp g r
    have lt : i < items.size := by omega
    refine codeAny_builtin F.entry_set_update_loop ?_
    rw [Around.under_plainId F.plain_set_update_loop _]
    show wpAny _ A.in1 (pyNext (.ref I) >>= _) _ _ s
    refine wpAny_bind (W.toS.item i s _ _ lt st fun v s' pv st' m => ?_)
    obtain ⟨h', g2, d', tk', os'⟩ := s'
    obtain ⟨m1, m2, m3, m4, m5⟩ := m
    dsimp only at m1 m2 m3 m4 m5 st'
    subst m2; subst m3; subst m4
    have kp' : ∀ b o, h0.get? b = some o → h'.get? b = some o := fun b o e => m1 b o (fun z => by rw [hw b z] at e; cases e) (kp b o e)
    have g' : G i h' := J.frame _ _ _ g (fun o e => m1 S o hSw e) kp'
    show wpAny _ A.in1 (holding [v] (setAdd S v) >>= _) _ _ _
    refine wpAny_bind (wpAny_holding (J.put i v A.in1 _ _ _ pv hu g' kp' fun b h2 tk2 sb lk g2 => ?_))
    have kp2 : ∀ b o, h0.get? b = some o → h2.get? b = some o := fun b o e => (sb.2 b (fun z => by rw [z, hS0] at e; cases e)).trans (kp' b o e)
    refine wpAny_pure ⟨plainId_quiet F.plain_set_update_loop _, ih (i + 1) _ (by omega) lt (W.frame _ _ _ st' fun b hb o e => ?_) kp2 g2 fun h3 tk3 g3 kp3 => r h3 tk3 g3 kp3⟩
    dsimp only
    rw [sb.2 b (fun z => hS (by rw [← z]; exact hb))]
    exact e
end
/-- what set(x) walks: a list or a tuple -/
def SeqAt' (h : Heap) (l : Addr) (items : Array Value) : Prop := h.IsList l items ∨ h.IsTuple l items
set_option maxHeartbeats 8000000 in
theorem puts_call {P : Program} {w : World} {A : Around} {E : Value → Shared → Prop} {s : Shared} {l : Addr} {items : Array Value} {G : Nat → Heap → Prop} {Q : Value → Shared → Prop} (hh : A.handled = none) (hl : SeqAt' s.heap l items)
    (J : PutsIn P w (A.units + 3) s.heap s.heap.objs.size items G)
    (q : ∀ h' tk, G items.size h' → (∀ b o, s.heap.get? b = some o → h'.get? b = some o) → Q (.ref s.heap.objs.size) { s with heap := h', toks := tk }) :
    wpAny (model P w) A (call (.type "set") [.ref l]) Q E s := by
  have hls : l < s.heap.objs.size := by
    rcases hl with ⟨o, ho, _⟩ | ⟨o, ho, _⟩
    · exact Heap.lt_size ho
    · exact Heap.lt_size ho
  have none_of : ∀ b, s.heap.objs.size ≤ b → s.heap.get? b = none := fun b hb => by
    cases e : s.heap.get? b with
    | none => rfl
    | some o => exact absurd (Nat.lt_of_lt_of_le (Heap.lt_size e) hb) (Nat.lt_irrefl _)
  obtain ⟨c, tl, hmro⟩ := F.called_set.mro
  have hmade := F.called_set.made
  have hsub := F.called_set.sub
  refine wpAny_call (codeAny_of_tree ?_)
  show wpAny _ _ (callAny (.type "set") _) _ _ _
  refine wpAny_pure ⟨Code.quiet_builtin _ (by decide +kernel), codeAny_builtin F.entry_type_call ?_⟩
  rw [Around.under_plain (weight_type_call_type "set" [.ref l] []) rfl]
  have h1 := F.called_set.notType
  have h2 := F.called_set.canCreate
  have hct := F.typeCall_set_1 (.ref l)
  repeat (any_goals (first | assumption | wp_step))
  refine codeAny_mono (code_set_led1 (.ref l) (E := E) (Q₁ := fun obj s₁ => obj = .ref s.heap.objs.size ∧ s₁ = { s with heap := s.heap.push (frs w) }) ⟨rfl, rfl⟩) fun r s₁ hr => ?_
  cases r with
  | error e => exact hr
  | ok fl =>
    cases fl with
    | ret obj =>
      obtain ⟨rfl, rfl⟩ := hr
      have hS : (s.heap.push (frs w)).get? s.heap.objs.size = some (frs w) := Heap.get?_push_size _ rfl
      have hT : Shared.TypeIs { s with heap := s.heap.push (frs w) } (.ref s.heap.objs.size) "set" := ⟨_, hS, rfl⟩
      have hli := F.called_set.init.lookup
      have hbi := F.called_set.init.bind (.ref s.heap.objs.size)
      repeat (any_goals (first | assumption | wp_step))
      refine codeAny_mono (codeAny_call_builtin (R := wants (fun r s₂ => r = .none ∧ ∃ h' tk, s₂ = { s with heap := h', toks := tk } ∧ G items.size h' ∧ (∀ b o, s.heap.get? b = some o → h'.get? b = some o)) E) F.called_set.init.plain F.entry_set_init (check_set_init_1 hT ?_)) fun r₂ s₂ hr₂ => ?_
      · have hz1 : (s.heap.push (frs w)).objs.size = s.heap.objs.size + 1 := Heap.size_push ..
        have hh3 : A.in1.in1.in1.handled = none := by simp [hh]
        have lI : l ≠ (s.heap.push (frs w)).objs.size := by rw [hz1]; exact Nat.ne_of_lt (Nat.lt_succ_of_lt hls)
        have hSf : s.heap.objs.size ∉ [(s.heap.push (frs w)).objs.size, l] := by
          rw [hz1]
          simp only [List.mem_cons, List.not_mem_nil, or_false, not_or]
          exact ⟨Nat.ne_of_lt (Nat.lt_succ_self _), Nat.ne_of_gt hls⟩
        have wn : ∀ b ∈ [(s.heap.push (frs w)).objs.size], s.heap.get? b = none := fun b m => none_of b (by rw [List.mem_singleton.mp m, hz1]; exact Nat.le_succ _)
        have fin : ∀ {I : Addr} {St : Nat → Heap → Prop} {h1 : Heap}, Walks P w A.in1.in1.in1 I [I, l] [I] items.size (fun i v => items[i]? = some v) St → I = (s.heap.push (frs w)).objs.size → St 0 h1 → h1.get? s.heap.objs.size = some (frs w) → (∀ b o, s.heap.get? b = some o → h1.get? b = some o) →
            codeAny (model P w) A.in1.in1 (.builtin "set.update.loop" ⟨[.ref s.heap.objs.size, .ref I], []⟩) (fun r s₂ => r = .ok (.ret .none) ∧ ∃ h' tk, s₂ = { s with heap := h', toks := tk } ∧ G items.size h' ∧ (∀ b o, s.heap.get? b = some o → h'.get? b = some o)) { s with heap := h1 } := fun {I St h1} W eI st e k => by
          subst eI
          exact puts_loop J W hSf (none_of _ (Nat.le_refl _)) wn (by simp) items.size 0 { s with heap := h1 } (Nat.sub_zero _) (Nat.zero_le _) st k (J.zero h1 e k) fun h' tk g kp => ⟨rfl, h', tk, rfl, g, kp⟩
        rcases hl with hl | hl
        · obtain ⟨ol, hol, hcl, nl, hdl⟩ := hl
          obtain ⟨ocls, odict, odata, oslots⟩ := ol
          simp only at hcl hdl
          subst hcl; subst hdl
          have hol' : (s.heap.push (frs w)).get? l = some { cls := .type "list", dict := odict, data := .seq items nl, slots := oslots } := Heap.get?_push_of_some _ hol
          have hsls := F.sub_list_set
          have hslf := F.sub_list_frozenset
          have hne : (Value.type "list" == Value.type "dict") = false := by decide
          have hl1 : (s.heap.push (frs w)).IsList l items := ⟨_, hol', rfl, nl, rfl⟩
          unfold Builtin.«set.__init__» noKeywords Builtin.Frozenset.updateFrom
          generalize hPI : pyIter = PI
          wp_walk
          subst hPI
          refine wpAny_pyIter_list hl1 (wpAny_bind (wpAny_runValue ?_))
          refine codeAny_mono (fin (Walks.list hh3 _ l lI items) rfl ⟨⟨_, Heap.get?_push_size _ rfl, rfl, rfl⟩, hl1.push _⟩ (Heap.get?_push_of_some _ hS) fun b o e => Heap.get?_push_of_some _ (Heap.get?_push_of_some _ e)) fun r s₂ hr => ?_
          obtain ⟨rfl, h', tk, rfl, g, kp⟩ := hr
          show wpAny _ _ (pure _) _ _ _
          refine wpAny_pure ?_
          show wpAny _ _ (ret Value.none) _ _ _
          exact wpAny_pure ⟨rfl, h', tk, rfl, g, kp⟩
        · obtain ⟨ol, hol, hcl, nl, hdl⟩ := hl
          obtain ⟨ocls, odict, odata, oslots⟩ := ol
          simp only at hcl hdl
          subst hcl; subst hdl
          have hol' : (s.heap.push (frs w)).get? l = some { cls := .type "tuple", dict := odict, data := .seq items nl, slots := oslots } := Heap.get?_push_of_some _ hol
          have hsls := PySem.F.sub_tuple_set
          have hslf := PySem.F.sub_tuple_frozenset
          have hne : (Value.type "tuple" == Value.type "dict") = false := by decide
          have hl1 : (s.heap.push (frs w)).IsTuple l items := ⟨_, hol', rfl, nl, rfl⟩
          unfold Builtin.«set.__init__» noKeywords Builtin.Frozenset.updateFrom
          generalize hPI : pyIter = PI
          wp_walk
          subst hPI
          refine wpAny_pyIter_tuple hl1 (wpAny_bind (wpAny_runValue ?_))
          refine codeAny_mono (fin (Walks.tuple hh3 _ l lI items) rfl ⟨⟨_, Heap.get?_push_size _ rfl, rfl, rfl⟩, hl1.at fun o e => Heap.get?_push_of_some _ e⟩ (Heap.get?_push_of_some _ hS) fun b o e => Heap.get?_push_of_some _ (Heap.get?_push_of_some _ e)) fun r s₂ hr => ?_
          obtain ⟨rfl, h', tk, rfl, g, kp⟩ := hr
          show wpAny _ _ (pure _) _ _ _
          refine wpAny_pure ?_
          show wpAny _ _ (ret Value.none) _ _ _
          exact wpAny_pure ⟨rfl, h', tk, rfl, g, kp⟩
      · cases r₂ with
        | error e => exact hr₂
        | ok fl₂ =>
          cases fl₂ with
          | ret r =>
            obtain ⟨rfl, h', tk, rfl, g, kp⟩ := hr₂
            repeat (any_goals (first | assumption | wp_step))
            exact q h' tk g kp
          | _ => exact hr₂.elim
    | _ => exact hr.elim
end Fk
namespace Fk
open PySem PySem.Spec PySem.W PyProof.Rows L2
section
variable {P : Program} {w : World} {A : Around} {E : Value → Shared → Prop} {s : Shared}
theorem tb_fresh (b : Bool) : Tb (.fresh 0 0 b) [] where
  full := full_7
  odd := (by decide : 7 % 2 = 1)
  up := List.Pairwise.nil
  no := rfl
  sz := rfl
  bd := fun _ m => nomatch m
  on := fun i h j e => by simp at e
theorem st_fresh {h : Heap} {S : Addr} (e : h.get? S = some (frs w)) : StAt P w h S [] #[] 0 (.fresh 0 0 (!w.params.followText "set-order")) where
  ob := ⟨_, e, ⟨rfl, rfl, rfl⟩, rfl⟩
  rows := rfl
  tb := tb_fresh _
  nd := List.nodup_nil
  it := fun _ m => nomatch m
  led := by
    show _ ∨ (!w.params.followText "set-order") = true
    cases w.params.followText "set-order"
    · exact .inr rfl
    · exact .inl rfl
  msk := .inl rfl
  room := by
    show 0 * 5 < 7 * 3
    decide
/-- the set after i of the tuples ks -/
def Tups (P : Program) (w : World) (S : Addr) (ks : List (Addr × List Key)) (i : Nat) (h : Heap) : Prop :=
  ∃ L es ep t, StAt P w h S L es ep t ∧ (∀ p ∈ L, p ∈ ks) ∧ (∀ p ∈ ks.take i, p.2 ∈ L.map (·.2)) ∧ L.length ≤ i
theorem puts_tups {h0 : Heap} {S : Addr} {items : Array Value} {u : Nat} (ks : List (Addr × List Key)) (ei : items.toList = ks.map fun p => Value.ref p.1) (hk : ∀ p ∈ ks, IsTupleKey (mixKind P w) h0 p.2 p.1) (few : ks.length ≤ 300) (hu : u < cLine) :
    PutsIn P w u h0 S items (Tups P w S ks) where
  frame := fun i h h' ⟨L, es, ep, t, R, g1, g2, g3⟩ kS k0 => by
    obtain ⟨o, ho, r⟩ := R.ob
    exact ⟨L, es, ep, t, ⟨⟨o, kS o ho, r⟩, R.rows, R.tb, R.nd, fun p m => key_kept (hk p (g1 p m)) k0, R.led, R.msk, R.room⟩, g1, g2, g3⟩
  zero := fun h e _ => ⟨[], #[], 0, _, st_fresh e, (fun _ m => nomatch m), (fun p m => by simp at m), Nat.le_refl _⟩
  put := fun i v A s Q E ev lu ⟨L, es, ep, t, R, g1, g2, g3⟩ kp q => by
    obtain ⟨p, ep', rfl⟩ : ∃ p, ks[i]? = some p ∧ v = Value.ref p.1 := by
      rw [← Array.getElem?_toList, ei, List.getElem?_map] at ev
      obtain ⟨p, e1, e2⟩ := Option.map_eq_some_iff.mp ev
      exact ⟨p, e1, e2.symm⟩
    have mp := List.mem_of_getElem? ep'
    have li := (List.getElem?_eq_some_iff.mp ep').1
    have hx : IsTupleKey (mixKind P w) s.heap p.2 p.1 := key_kept (hk p mp) kp
    have hu' : A.units < cLine := Nat.lt_of_le_of_lt lu hu
    have tk : ks.take (i + 1) = ks.take i ++ [p] := by rw [List.take_succ, ep']; rfl
    unfold setAdd
    refine wpAny_holding (wpAny_bind (wpAny_pyHash_tuple hu' hx ?_))
    refine put_in (s := { s with toks := s.toks + (p.2.length + 1) }) R hx hu' (by omega) fun b h' L' es' ep2 t' sb R' c1 c2 => q b h' _ sb (Nat.le_add_right _ _) ⟨L', es', ep2, t', R', ?_⟩
    by_cases c : p.2 ∈ L.map (·.2)
    · rw [c1 c]
      refine ⟨g1, fun r m => ?_, Nat.le_succ_of_le g3⟩
      rw [tk] at m
      rcases List.mem_append.mp m with m | m
      · exact g2 r m
      · rw [List.mem_singleton.mp m]; exact c
    · have pm := c2 c
      refine ⟨fun r m => ?_, fun r m => ?_, by rw [pm.length_eq]; exact Nat.succ_le_succ g3⟩
      · rcases List.mem_cons.mp (pm.mem_iff.mp m) with e | m
        · rw [e]; exact mp
        · exact g1 r m
      · rw [(pm.map (·.2)).mem_iff, List.map_cons]
        rw [tk] at m
        rcases List.mem_append.mp m with m | m
        · exact List.mem_cons_of_mem _ (g2 r m)
        · rw [List.mem_singleton.mp m]; exact List.mem_cons_self
theorem perm_back {α β : Type} {f : α → β} {xs ys : List β} (p : xs.Perm ys) : ∀ L : List α, xs = L.map f → ∃ L' : List α, ys = L'.map f ∧ L'.Perm L := by
  induction p with
  | nil => exact fun L e => ⟨L, e, .refl _⟩
  | cons x _ ih =>
    intro L e
    cases L with
    | nil => cases e
    | cons b L =>
      rw [List.map_cons] at e
      injection e with e1 e2
      obtain ⟨L', q1, q2⟩ := ih L e2
      exact ⟨b :: L', by rw [List.map_cons, e1, q1], q2.cons b⟩
  | swap x y l =>
    intro L e
    cases L with
    | nil => cases e
    | cons b L =>
      cases L with
      | nil => simp at e
      | cons c L =>
        rw [List.map_cons, List.map_cons] at e
        injection e with e1 e2
        injection e2 with e2 e3
        exact ⟨c :: b :: L, by rw [List.map_cons, List.map_cons, e1, e2, e3], .swap ..⟩
  | trans _ _ ih1 ih2 =>
    intro L e
    obtain ⟨L1, q1, q2⟩ := ih1 L e
    obtain ⟨L2, q3, q4⟩ := ih2 L1 q1
    exact ⟨L2, q3, q4.trans q2⟩
theorem each_self {α : Type} (f : α → Value) : ∀ L : List α, EachIs (fun v b => v = f b) (L.map f) L
  | [] => .nil
  | _ :: L => .cons rfl (each_self f L)
theorem each_out {α : Type} {f : α → Value} : ∀ {vs : List Value} {L : List α}, EachIs (fun v b => v = f b) vs L → vs = L.map f
  | _, _, .nil => rfl
  | _, _, .cons e t => by rw [e, each_out t]; rfl
theorem each_mk {α : Type} {f : α → Value} {p : Value → α → Prop} : ∀ L : List α, (∀ b ∈ L, p (f b) b) → EachIs p (L.map f) L
  | [], _ => .nil
  | b :: L, h => .cons (h b List.mem_cons_self) (each_mk L fun c m => h c (List.mem_cons_of_mem _ m))
/-- sorted of a set -/
theorem sorted_of_set {β : Type} {val : β → Value} {enc : β → PyData} {L : List β} {a : Addr} {es : Array (Int × Value)} {ep : Nat} {t : SetTable} {Q : Value → Shared → Prop} (hh : A.handled = none) (ob : SetAt s.heap a es ep t) (fit : t.fits es.size = true) (few : es.size < scanBound)
    (up : Ris t.place.toList) (led : w.params.followText "set-order" = true ∨ t.led = true) (vals : es.toList.map (·.2) = L.map val) (rd : ∀ h', (∀ b o, s.heap.get? b = some o → h'.get? b = some o) → ∀ b ∈ L, Reads h' (val b) (enc b) [])
    (hal : AllAlike (L.map enc)) (hk : Sortable (L.map enc)) (hu : ∀ b ∈ L, A.units + 3 + (enc b).depth < cLine)
    (q : ∀ s' p (out : Array Value) (c : Nat) (L' : List β), (∀ b o, s.heap.get? b = some o → s'.heap.get? b = some o) → s'.gens = s.gens → s'.os = s.os → s.heap.objs.size ≤ p → s'.heap.get? p = some (seqObj "list" out c) → out.toList = L'.map val → L'.Perm L →
      L'.Pairwise (fun x y => dataLe false enc x y = true) → Q (.ref p) s') :
    wpAny (model P w) A (call (.builtin "sorted") [.ref a]) Q E s := by
  have lL : L.length = es.size := by
    have e := congrArg List.length vals
    simpa using e.symm
  refine Calls.call_function_entry kind_sorted plain_sorted entry_sorted (args_sorted1 _) ?_
  unfold Builtin.«sorted»
  refine wpAny_bind (m := checkCount "sorted" 1 1 _) (wpAny_pure ?_)
  refine wpAny_bind (collect_set (A := A.in1) hh ob fit few up led fun s1 vs k1 hz g1 o1 pm => ?_)
  rw [vals] at pm
  obtain ⟨L1, rfl, pm1⟩ := perm_back pm.symm L rfl
  have len1 : L1.length = es.size := pm1.length_eq.trans lL
  have line : es.size ≤ sizeLine := by
    unfold scanBound at few
    rw [sizeLine_eq]
    omega
  refine wpAny_bind (wpAny_newList ?_ (by rw [List.length_map, len1]; exact line))
  have new : (s1.heap.push (seqObj "list" (L1.map val).toArray 0)).get? s1.heap.objs.size = some (seqObj "list" (L1.map val).toArray 0) := Heap.get?_push_size _ rfl
  have rd1 : ∀ b ∈ L1, Reads (s1.heap.push (seqObj "list" (L1.map val).toArray 0)) (val b) (enc b) [] := fun b m => rd _ (fun c o e => Heap.get?_push_of_some _ (k1 c o e)) b (pm1.mem_iff.mp m)
  have al1 : AllAlike (L1.map enc) := fun d m d' m' => hal d ((pm1.map enc).mem_iff.mp m) d' ((pm1.map enc).mem_iff.mp m')
  have sb1 : Sortable (L1.map enc) := by
    rcases hk with z | z
    · exact .inl fun d m => z d ((pm1.map enc).mem_iff.mp m)
    · exact .inr fun d m => z d ((pm1.map enc).mem_iff.mp m)
  refine wpAny_bind (wpAny_holding (list_sort_data (s := { s1 with heap := s1.heap.push (seqObj "list" (L1.map val).toArray 0) }) (R := fun v b => v = val b) new (each_self val L1) (each_mk L1 fun b m => ⟨[], rd1 b m, fun z => nomatch z⟩) al1 sb1 (by rw [len1]; exact line)
    (fun b m => ?_) fun out lo eo => ?_))
  · have := hu b (pm1.mem_iff.mp m)
    show A.in1.units + 1 + (enc b).depth < cLine
    rw [show A.in1.units = A.units + 1 from by simp]
    omega
  · obtain ⟨c, hc⟩ := sortedHeap_at (vs := L1.map val) (out := out.toArray) new
    have tot := sortLe_total (listOrd itemOrd) false fun b => keyToks (enc b)
    refine wpAny_pure ⟨_, rfl, q _ s1.heap.objs.size out.toArray c (L1.mergeSort (dataLe false enc)) (fun b u e => ?_) g1 o1 hz hc (by simpa using each_out eo) ((List.mergeSort_perm _ _).trans pm1) (sort_pairwise tot L1)⟩
    have lt := Heap.lt_size (k1 b u e)
    show (sortedHeap (s1.heap.push (seqObj "list" (L1.map val).toArray 0)) s1.heap.objs.size (L1.map val) out.toArray).get? b = some u
    rw [sortedHeap_old (Nat.ne_of_lt lt) (by rw [size_push']; exact Nat.lt_succ_of_lt lt)]
    exact Heap.get?_push_of_some _ (k1 b u e)
end
end Fk
namespace Fk
open PySem PySem.Spec PySem.W PyProof.Rows L2
structure Lk where
  c : Int
  m : Int
  a : Str
  b : Str
  deriving DecidableEq
def Lk.vs (x : Lk) : List V := [.int x.c, .int x.m, .str x.a, .str x.b]
def Lk.key (x : Lk) : List Key := [.inl x.c, .inl x.m, .inr x.a, .inr x.b]
def Lk.data (x : Lk) : PyData := .tuple [.int x.c, .int x.m, .str x.a, .str x.b]
/-- tuples rise -/
def Lk.lt (x y : Lk) : Prop := x.c < y.c ∨ (x.c = y.c ∧ (x.m < y.m ∨ (x.m = y.m ∧ (cL x.a < cL y.a ∨ (x.a = y.a ∧ cL x.b < cL y.b)))))
instance ltDec (x y : Lk) : Decidable (Lk.lt x y) := by unfold Lk.lt; infer_instance
theorem key_inj {x y : Lk} (h : x.key = y.key) : x = y := by
  obtain ⟨c, m, a, b⟩ := x
  obtain ⟨c', m', a', b'⟩ := y
  simp only [Lk.key, List.cons.injEq, Sum.inl.injEq, Sum.inr.injEq, and_true] at h
  obtain ⟨rfl, rfl, rfl, rfl⟩ := h
  rfl
theorem lt_cL {x y : Str} : cL x < cL y → x ≠ y := fun h e => by rw [e] at h; exact absurd h (List.lt_irrefl _)
theorem data_lt (x y : Lk) : dataLt x.data y.data = decide (Lk.lt x y) := by
  show PyProof.Rows.lexLt itemOrd (keyToksAll _) (keyToksAll _) = _
  rw [dataLt_cons (by simp [alike]), dataLt_cons (by simp [alike]), dataLt_cons (by simp [alike]), dataLt_cons (by simp [alike]), dataLt_int, dataLt_int, dataLt_str, dataLt_str]
  have e0 : PyProof.Rows.lexLt itemOrd (keyToksAll []) (keyToksAll []) = false := lex_irrefl _
  rw [e0]
  simp only [PyData.eqv, beq_iff_eq]
  unfold Lk.lt cL
  by_cases h1 : x.c = y.c
  · rw [if_pos h1]
    by_cases h2 : x.m = y.m
    · rw [if_pos h2]
      by_cases h3 : x.a = y.a
      · rw [if_pos h3]
        by_cases h4 : x.b = y.b
        · rw [if_pos h4]
          simp [h1, h2, h3, h4, List.lt_irrefl]
        · rw [if_neg h4]
          simp [h1, h2, h3, List.lt_irrefl]
      · rw [if_neg h3]
        simp [h1, h2, h3]
    · rw [if_neg h2]
      simp [h1, h2]
  · rw [if_neg h1]
    simp [h1]
theorem lk_total {x y : Lk} (h : ¬ Lk.lt y x) (n : x ≠ y) : Lk.lt x y := by
  obtain ⟨c, m, a, b⟩ := x
  obtain ⟨c', m', a', b'⟩ := y
  unfold Lk.lt at h ⊢
  dsimp only at h ⊢
  simp only [not_or, not_and] at h
  obtain ⟨h1, h2⟩ := h
  by_cases e1 : c = c'
  · subst e1
    obtain ⟨h3, h4⟩ := h2 rfl
    refine .inr ⟨rfl, ?_⟩
    by_cases e2 : m = m'
    · subst e2
      obtain ⟨h5, h6⟩ := h4 rfl
      refine .inr ⟨rfl, ?_⟩
      have le := List.not_lt.mp h5
      by_cases e3 : a = a'
      · subst e3
        refine .inr ⟨rfl, ?_⟩
        have le2 := List.not_lt.mp (h6 rfl)
        exact Decidable.byContradiction fun k => n (by rw [cL_ext (List.le_antisymm le2 (List.not_lt.mp k))])
      · exact .inl (Decidable.byContradiction fun k => e3 (cL_ext (List.le_antisymm le (List.not_lt.mp k))))
    · exact .inl (by omega)
  · exact .inl (by omega)
theorem lk_irrefl (x : Lk) : ¬ Lk.lt x x := by
  unfold Lk.lt
  simp [List.lt_irrefl]
theorem lk_trans {x y z : Lk} (h : Lk.lt x y) (h' : Lk.lt y z) : Lk.lt x z := by
  unfold Lk.lt at *
  rcases h with h | ⟨e1, h⟩
  · rcases h' with h' | ⟨e1', _⟩ <;> exact .inl (by omega)
  rcases h' with h' | ⟨e1', h'⟩
  · exact .inl (by omega)
  refine .inr ⟨by omega, ?_⟩
  rcases h with h | ⟨e2, h⟩
  · rcases h' with h' | ⟨e2', _⟩ <;> exact .inl (by omega)
  rcases h' with h' | ⟨e2', h'⟩
  · exact .inl (by omega)
  refine .inr ⟨by omega, ?_⟩
  rcases h with h | ⟨e3, h⟩
  · rcases h' with h' | ⟨e3', _⟩
    · exact .inl (List.lt_trans h h')
    · exact .inl (by rw [← e3']; exact h)
  rcases h' with h' | ⟨e3', h'⟩
  · exact .inl (by rw [e3]; exact h')
  exact .inr ⟨e3.trans e3', List.lt_trans h h'⟩
theorem lk_asymm {x y : Lk} (h : Lk.lt x y) : ¬ Lk.lt y x := fun k => lk_irrefl x (lk_trans h k)
/-- the tuples of links, as keys -/
theorem items_lk {P : Program} {w : World} (x : Lk) {us : List Value} (h : Vals x.vs us) : ItemsAre (mixKind P w) x.key us := by
  unfold Lk.vs at h
  unfold Lk.key
  cases h with
  | cons h1 h =>
    cases h with
    | cons h2 h =>
      cases h with
      | cons h3 h =>
        cases h with
        | cons h4 h =>
          cases h
          obtain ⟨t1, rfl⟩ := h1
          obtain ⟨t2, rfl⟩ := h2
          obtain ⟨t3, rfl⟩ := h3
          obtain ⟨t4, rfl⟩ := h4
          exact .cons (mixKind_int _ _ _ _) (.cons (mixKind_int _ _ _ _) (.cons (mixKind_str _ _ _ _) (.cons (mixKind_str _ _ _ _) .nil)))
theorem reads_lk {h : Heap} (x : Lk) {us : List Value} (r : Vals x.vs us) : ReadsAll h us [.int x.c, .int x.m, .str x.a, .str x.b] [] := by
  unfold Lk.vs at r
  cases r with
  | cons h1 r =>
    cases r with
    | cons h2 r =>
      cases r with
      | cons h3 r =>
        cases r with
        | cons h4 r =>
          cases r
          obtain ⟨t1, rfl⟩ := h1
          obtain ⟨t2, rfl⟩ := h2
          obtain ⟨t3, rfl⟩ := h3
          obtain ⟨t4, rfl⟩ := h4
          exact .cons (.int _ _) (.cons (.int _ _) (.cons (.str _ _) (.cons (.str _ _) .nil)))
theorem refs_are {α : Type} (f : α → Addr) : ∀ {ls : List α} {us : List Value}, Vals (ls.map fun q => V.ref (f q)) us → us = ls.map fun q => Value.ref (f q)
  | [], _, .nil => rfl
  | _ :: _, _, .cons r t => by
    cases r
    rw [refs_are f t]; rfl
theorem refs_vs {α : Type} (f : α → Addr) : ∀ ls : List α, Vals (ls.map fun q => V.ref (f q)) (ls.map fun q => Value.ref (f q))
  | [] => .nil
  | _ :: ls => .cons rfl (refs_vs f ls)
/-- sorted(set(e)), e a list or a tuple of links: a new list -/
def tSortSet (K : PySem.W.Frag) (te : TE) : TE := fun σ H Q => te σ H fun x H1 => ∃ (p : Addr) (ls : List (Addr × Lk)), x = .ref p ∧ (SqL K H1 p (ls.map fun q => V.ref q.1) ∨ SqT K H1 p (ls.map fun q => V.ref q.1)) ∧ (∀ q ∈ ls, SqT K H1 q.1 q.2.vs) ∧ ls.length ≤ 300 ∧
  ∀ (l : Addr) (L : List (Addr × Lk)), H1 l = none → (∀ q ∈ L, q ∈ ls) → (∀ q ∈ ls, q.2 ∈ L.map (·.2)) → (L.map (·.2)).Pairwise Lk.lt → Q (.ref l) (upd H1 l (.lst (L.map fun q => V.ref q.1)))
theorem w_ss {K : PySem.W.Frag} {te : TE} {σ : L2.St} {H : Hp} {Q : VK} (h : te σ H fun x H1 => ∃ (p : Addr) (ls : List (Addr × Lk)), x = .ref p ∧ (SqL K H1 p (ls.map fun q => V.ref q.1) ∨ SqT K H1 p (ls.map fun q => V.ref q.1)) ∧ (∀ q ∈ ls, SqT K H1 q.1 q.2.vs) ∧ ls.length ≤ 300 ∧
  ∀ (l : Addr) (L : List (Addr × Lk)), H1 l = none → (∀ q ∈ L, q ∈ ls) → (∀ q ∈ ls, q.2 ∈ L.map (·.2)) → (L.map (·.2)).Pairwise Lk.lt → Q (.ref l) (upd H1 l (.lst (L.map fun q => V.ref q.1)))) : tSortSet K te σ H Q := h
theorem pe_sortSet {X : Cx} (K : PySem.W.Frag) {e : Expr} {te : TE} {p p2 pos pos2 : Pos} (hc : X.calm = true) (hu : X.A.units + 64 < cLine) (hg : Gl X "sorted") (hm : X.mg "sorted" = none) (hg2 : Gl X "set") (hm2 : X.mg "set" = none) (he : PE X e te)
    (hs : starEach [e] X.env = (false, eval e X.env) :: starEach [] X.env := by rfl) (hs1 : starEach [.Call (.Name "set" p2) [e] [] pos2] X.env = (false, eval (.Call (.Name "set" p2) [e] [] pos2) X.env) :: starEach [] X.env := by rfl) (h : X.K = K := by rfl) :
    PE X (.Call (.Name "sorted" p) [.Call (.Name "set" p2) [e] [] pos2] [] pos) (tSortSet K te) := by
  subst h
  refine ⟨fun pins s σ H Q I hq => ?_⟩
  refine Call_ (ld_blt I hg hm (show bootBuiltins "sorted" = some (.builtin "sorted") by rfl) (PyProof.Rows.callWith_builtin1 ?_ hs1 rfl))
  rw [hs1]
  show wpAny _ _ (spliced ((false, eval (.Call (.Name "set" p2) [e] [] pos2) X.env) :: backTo pos (starEach [] X.env))) _ _ s
  refine Calls.spliced_cons (Call_ (ld_blt I hg2 hm2 (show bootBuiltins "set" = some (.type "set") by rfl) (PyProof.Rows.callWith_type1 ?_ hs rfl)))
  rw [hs]
  show wpAny _ _ (spliced ((false, eval e X.env) :: backTo pos2 (starEach [] X.env))) _ _ s
  refine Calls.spliced_cons (thn (he.run pins s σ H _ I hq) fun u s1 ⟨x, H1, I1, rx, a, ls, ex, sq, it, few, q⟩ => Calls.spliced_nil ?_)
  subst ex
  obtain rfl : u = Value.ref a := rx
  obtain ⟨its, ei, seq⟩ : ∃ its : Array Value, its.toList = (ls.map fun q => Value.ref q.1) ∧ SeqAt' s1.heap a its := by
    rcases sq with sq | sq
    · obtain ⟨us, r, pl, _⟩ := I1.list sq
      exact ⟨us.toArray, by simpa using refs_are _ r, .inl pl.isList⟩
    · obtain ⟨us, r, ⟨o, ho, hcl, n, hd⟩, _⟩ := I1.tuple sq
      exact ⟨us.toArray, by simpa using refs_are _ r, .inr ⟨o, ho, hcl, n, hd⟩⟩
  have key : ∀ q ∈ ls, IsTupleKey (mixKind X.prog X.w) s1.heap q.2.key q.1 := fun q m => by
    obtain ⟨us, r, ⟨o, ho, hcl, n, hd⟩, _⟩ := I1.tuple (it q m)
    exact ⟨o, us.toArray, n, ho, hcl, hd, by simpa using items_lk q.2 r⟩
  have J := puts_tups (P := X.prog) (w := X.w) (h0 := s1.heap) (S := s1.heap.objs.size) (u := X.A.units + 3) (items := its) (ls.map fun q => (q.1, q.2.key)) (by rw [ei, List.map_map]; rfl)
    (fun q m => by obtain ⟨r, mr, rfl⟩ := List.mem_map.mp m; exact key r mr) (by rw [List.length_map]; exact few) (by omega)
  have hisz : its.size = ls.length := by rw [← Array.length_toList, ei, List.length_map]
  refine puts_call (I1.ok.hd hc) seq J fun h' tk g k => Calls.spliced_nil ?_
  rw [hisz] at g
  obtain ⟨L0, es, ep, t, R, g1, g2, g3⟩ := g
  -- the rows as links
  obtain ⟨L, rfl, gL⟩ : ∃ L : List (Addr × Lk), L0 = L.map (fun q => (q.1, q.2.key)) ∧ ∀ q ∈ L, q ∈ ls := by
    clear R g2 g3
    induction L0 with
    | nil => exact ⟨[], rfl, fun _ m => nomatch m⟩
    | cons r L0 ih =>
      obtain ⟨L, e1, e2⟩ := ih fun q m => g1 q (List.mem_cons_of_mem _ m)
      obtain ⟨q, mq, eq⟩ := List.mem_map.mp (g1 r List.mem_cons_self)
      exact ⟨q :: L, by rw [List.map_cons, e1, eq], fun z m => by
        rcases List.mem_cons.mp m with z' | z'
        · rw [z']; exact mq
        · exact e2 z z'⟩
  have sz : es.size = L.length := by rw [R.size, List.length_map]
  obtain ⟨o, ho, ex, hd⟩ := R.ob
  have inL : ∀ q ∈ ls, q.2 ∈ L.map (·.2) := fun q m => by
    have z := g2 (q.1, q.2.key) (by rw [List.take_of_length_le (by rw [List.length_map]; exact Nat.le_refl _)]; exact List.mem_map.mpr ⟨q, m, rfl⟩)
    rw [List.map_map] at z
    obtain ⟨r, mr, er⟩ := List.mem_map.mp z
    exact List.mem_map.mpr ⟨r, mr, key_inj er⟩
  have nd : (L.map (·.2)).Nodup := by
    have z := R.nd
    rw [List.map_map] at z
    rw [List.nodup_iff_pairwise_ne, List.pairwise_map] at z ⊢
    exact z.imp fun {x y} n e => n (congrArg Lk.key e)
  refine sorted_of_set (s := { s1 with heap := h', toks := tk }) (val := fun q : Addr × Lk => Value.ref q.1) (enc := fun q : Addr × Lk => q.2.data) (L := L) (I1.ok.hd hc) ⟨o, ho, ex.1, hd⟩ R.fit (by unfold scanBound; rw [List.length_map] at g3; omega) R.tb.up R.led ?_ ?_ ?_ ?_ ?_ ?_
  · rw [R.rows, List.map_map, List.map_map]; rfl
  · intro h2 k2 q m
    obtain ⟨us, r, ⟨ot, hot, hcl, n, hdt⟩, _⟩ := I1.tuple (it q (gL q m))
    exact .tuple (k2 _ _ (k _ _ hot)) hcl hdt (by simpa using reads_lk q.2 r)
  · exact AllAlike.of fun x y => by simp [Lk.data, alike, alikeAll]
  · exact Sortable.tuples fun x => ⟨_, _, rfl⟩
  · intro q m
    show X.A.units + 3 + PyData.depth q.2.data < cLine
    have e1 : PyData.depth q.2.data = 1 := rfl
    rw [e1]
    omega
  · intro s2 pl out c L' k2 gg oo hp hl hout pm up
    have k3 : ∀ b u, s1.heap.get? b = some u → s2.heap.get? b = some u := fun b u e => k2 b u (k b u e)
    have hp' : s1.heap.objs.size ≤ pl := by
      have l1 := (Heap.lt_size ho)
      exact Nat.le_of_lt (Nat.lt_of_lt_of_le l1 hp)
    have hn : H1 pl = none := I1.hok.fresh hp'
    have len : (L'.map fun q => V.ref q.1).length ≤ sizeLine := by
      rw [List.length_map, pm.length_eq, sizeLine_eq]
      rw [List.length_map] at g3
      omega
    have hv : Vals (L'.map fun q => V.ref q.1) out.toList := by rw [hout]; exact refs_vs _ L'
    have ndL : (L'.map (·.2)).Nodup := (pm.map (·.2)).nodup_iff.mpr nd
    have rise : (L'.map (·.2)).Pairwise Lk.lt := by
      rw [List.nodup_iff_pairwise_ne, List.pairwise_map] at ndL
      rw [List.pairwise_map]
      refine (up.and ndL).imp fun {x y} z => ?_
      obtain ⟨z1, z2⟩ := z
      rw [dataLe_eq] at z1
      simp only [cond_false, Bool.not_eq_true'] at z1
      rw [data_lt] at z1
      exact lk_total (of_decide_eq_false z1) z2
    have J2 : Inv X pins σ (upd H1 pl (.lst (L'.map fun q => V.ref q.1))) s2 := I1.call' (ch := []) oo (Un.laid k3 hp' hn) (I1.hok.laid k3 hp' ⟨len, out.toList, c, hv, hl⟩) (by rw [gg]; exact I1.bare) (fun _ z => nomatch z)
    exact ⟨.ref pl, _, J2, rfl, q pl L' hn (fun r m => gL r (pm.mem_iff.mp m)) (fun r m => (pm.map (·.2)).mem_iff.mpr (inL r m)) rise⟩
end Fk
namespace Fk
open PySem
abbrev Nm := Str → Str
def relab (f : Nm) (old new : Str) : Nm := fun x => if f x = old then new else f x
/-- the names once these links have been gone through -/
def names : Nm → List Lk → Nm
  | f, [] => f
  | f, x :: r => if f x.a = f x.b then names f r else names (relab f (f x.a) (f x.b)) r
/-- those that join two names -/
def taken : Nm → List Lk → List Lk
  | _, [] => []
  | f, x :: r => if f x.a = f x.b then taken f r else x :: taken (relab f (f x.a) (f x.b)) r
theorem names_app (L M : List Lk) : ∀ f, names f (L ++ M) = names (names f L) M := by
  induction L with
  | nil => intro f; rfl
  | cons x r ih =>
    intro f
    rw [List.cons_append, names, names]
    split
    · exact ih f
    · exact ih _
theorem taken_app (L M : List Lk) : ∀ f, taken f (L ++ M) = taken f L ++ taken (names f L) M := by
  induction L with
  | nil => intro f; rfl
  | cons x r ih =>
    intro f
    rw [List.cons_append, taken, taken, names]
    split
    · exact ih f
    · rw [List.cons_append, ih]
theorem taken_sub : ∀ (L : List Lk) (f : Nm) (x : Lk), x ∈ taken f L → x ∈ L
  | [], _, _, h => nomatch h
  | y :: r, f, x, h => by
    rw [taken] at h
    split at h
    · exact List.mem_cons_of_mem _ (taken_sub r f x h)
    · rcases List.mem_cons.mp h with e | h
      · rw [e]; exact List.mem_cons_self
      · exact List.mem_cons_of_mem _ (taken_sub r _ x h)
/-- once gone through, a link's places bear one name, and those that bore one do so still -/
theorem names_keep : ∀ (L : List Lk) (f : Nm) (x y : Str), f x = f y → names f L x = names f L y
  | [], _, _, _, h => h
  | l :: r, f, x, y, h => by
    rw [names]
    split
    · exact names_keep r f x y h
    · refine names_keep r _ x y ?_
      unfold relab
      rw [h]
theorem names_join : ∀ (L : List Lk) (f : Nm) (l : Lk), l ∈ L → names f L l.a = names f L l.b
  | [], _, _, h => nomatch h
  | k :: r, f, l, h => by
    rw [names]
    rcases List.mem_cons.mp h with rfl | h
    · split
      · rename_i e
        exact names_keep r f _ _ e
      · refine names_keep r _ _ _ ?_
        unfold relab
        rw [if_pos rfl]
        split
        · rfl
        · rfl
    · split
      · exact names_join r f l h
      · exact names_join r _ l h
/-- a set that no link leaves holds all of a name, or none -/
theorem names_closed {F : Str → Prop} : ∀ (L : List Lk) (f : Nm), (∀ x y, f x = f y → (F x ↔ F y)) → (∀ l ∈ L, F l.a ↔ F l.b) → ∀ x y, names f L x = names f L y → (F x ↔ F y)
  | [], f, h, _, x, y, e => h x y e
  | l :: r, f, h, c, x, y, e => by
    rw [names] at e
    have cr : ∀ l ∈ r, F l.a ↔ F l.b := fun l m => c l (List.mem_cons_of_mem _ m)
    split at e
    · exact names_closed r f h cr x y e
    · refine names_closed r _ (fun x y e => ?_) cr x y e
      have hl := c l List.mem_cons_self
      unfold relab at e
      split at e
      · rename_i e1
        split at e
        · rename_i e2
          exact h x y (e1.trans e2.symm)
        · exact ((h x l.a e1).trans hl).trans (h l.b y e)
      · split at e
        · rename_i e2
          exact (h x l.b e).trans (hl.symm.trans (h l.a y e2.symm))
        · exact h x y e
abbrev Gp := Str → List Str
def GpOk (f : Nm) (g : Gp) : Prop := ∀ x y, y ∈ g x ↔ f x = f y
def merge (g : Gp) (a b : Str) : Gp := fun x => if x ∈ g a ++ g b then g a ++ g b else g x
theorem GpOk.merge {f : Nm} {g : Gp} (h : GpOk f g) {a b : Str} (n : f a ≠ f b) : GpOk (relab f (f a) (f b)) (merge g a b) := by
  intro x y
  have ma : ∀ z, z ∈ g a ++ g b ↔ f z = f a ∨ f z = f b := fun z => by
    rw [List.mem_append, h a z, h b z, eq_comm, @eq_comm _ (f b)]
  unfold Fk.merge relab
  by_cases c : x ∈ g a ++ g b
  · rw [if_pos c, ma y]
    have cx := (ma x).1 c
    constructor
    · intro hy
      rcases cx with e | e <;> rcases hy with e' | e' <;> simp [e, e', n, n.symm]
    · intro e
      by_cases e1 : f y = f a
      · exact .inl e1
      · rw [if_neg e1] at e
        right
        rcases cx with e2 | e2
        · rw [if_pos e2] at e; exact e.symm
        · rw [if_neg (by rw [e2]; exact n.symm)] at e
          exact e.symm.trans e2
  · rw [if_neg c, h x y]
    have cx : f x ≠ f a ∧ f x ≠ f b := by
      rw [ma x] at c
      exact ⟨fun e => c (.inl e), fun e => c (.inr e)⟩
    rw [if_neg cx.1]
    constructor
    · intro e
      rw [if_neg (by rw [← e]; exact cx.1)]
      exact e
    · intro e
      by_cases e1 : f y = f a
      · rw [if_pos e1] at e
        exact absurd e cx.2
      · rw [if_neg e1] at e
        exact e
/-- taken, one by one -/
theorem names_snoc (f : Nm) (L : List Lk) (x : Lk) : names f (L ++ [x]) = if names f L x.a = names f L x.b then names f L else relab (names f L) (names f L x.a) (names f L x.b) := by
  rw [names_app, names]
  split <;> rfl
theorem taken_snoc (f : Nm) (L : List Lk) (x : Lk) : taken f (L ++ [x]) = if names f L x.a = names f L x.b then taken f L else taken f L ++ [x] := by
  rw [taken_app, taken]
  split
  · rw [taken, List.append_nil]
  · rw [taken]
/-- one round -/
def turnNear : List Lk → List Str → List Str
  | [], F => F
  | x :: r, F => turnNear r (if (decide (x.a ∈ F) != decide (x.b ∈ F)) = true then F ++ [if x.a ∈ F then x.b else x.a] else F)
def rounds (L : List Lk) : Nat → List Str → List Str
  | 0, F => F
  | n + 1, F => rounds L n (turnNear L F)
def inside (L : List Lk) (F : List Str) : Nat := L.countP fun x => decide (x.a ∈ F) && decide (x.b ∈ F)
theorem turn_up : ∀ (L : List Lk) (F : List Str), ∀ z ∈ F, z ∈ turnNear L F
  | [], _, _, h => h
  | x :: r, F, z, h => by
    rw [turnNear]
    refine turn_up r _ z ?_
    split
    · exact List.mem_append_left _ h
    · exact h
theorem inside_mono (L : List Lk) {F G : List Str} (h : ∀ z ∈ F, z ∈ G) : inside L F ≤ inside L G := by
  unfold inside
  refine List.countP_mono_left fun x _ e => ?_
  simp only [Bool.and_eq_true, decide_eq_true_eq] at e ⊢
  exact ⟨h _ e.1, h _ e.2⟩
theorem inside_lt {M : List Lk} {F G : List Str} {x : Lk} (up : ∀ z ∈ F, z ∈ G) (mx : x ∈ M) (out : ¬ (x.a ∈ F ∧ x.b ∈ F)) (inn : x.a ∈ G ∧ x.b ∈ G) : inside M F < inside M G := by
  induction M with
  | nil => cases mx
  | cons y M ih =>
    have le : inside M F ≤ inside M G := inside_mono M up
    unfold inside at *
    rw [List.countP_cons, List.countP_cons]
    rcases List.mem_cons.mp mx with rfl | mx
    · have e1 : ¬ (decide (x.a ∈ F) && decide (x.b ∈ F)) = true := by simpa using out
      have e2 : (decide (x.a ∈ G) && decide (x.b ∈ G)) = true := by simpa using inn
      rw [if_neg e1, if_pos e2]
      omega
    · have q := ih mx
      by_cases e : (decide (y.a ∈ F) && decide (y.b ∈ F)) = true
      · have e2 : (decide (y.a ∈ G) && decide (y.b ∈ G)) = true := by
          simp only [Bool.and_eq_true, decide_eq_true_eq] at e ⊢
          exact ⟨up _ e.1, up _ e.2⟩
        rw [if_pos e, if_pos e2]
        omega
      · rw [if_neg e]
        omega
/-- a round after which no more are inside was none -/
theorem turn_more (M : List Lk) : ∀ (L : List Lk) (F : List Str), (∀ x ∈ L, x ∈ M) → (turnNear L F = F ∧ ∀ x ∈ L, (x.a ∈ F ↔ x.b ∈ F)) ∨ inside M F < inside M (turnNear L F)
  | [], F, _ => .inl ⟨rfl, fun _ m => nomatch m⟩
  | x :: r, F, h => by
    rw [turnNear]
    have hr : ∀ x ∈ r, x ∈ M := fun y m => h y (List.mem_cons_of_mem _ m)
    by_cases c : (decide (x.a ∈ F) != decide (x.b ∈ F)) = true
    · rw [if_pos c]
      right
      have up : ∀ z ∈ F, z ∈ F ++ [if x.a ∈ F then x.b else x.a] := fun z m => List.mem_append_left _ m
      have mx : x ∈ M := h x List.mem_cons_self
      have one : inside M F < inside M (F ++ [if x.a ∈ F then x.b else x.a]) := by
        have out : ¬ (x.a ∈ F ∧ x.b ∈ F) := fun z => by simp [z.1, z.2] at c
        have inn : x.a ∈ F ++ [if x.a ∈ F then x.b else x.a] ∧ x.b ∈ F ++ [if x.a ∈ F then x.b else x.a] := by
          by_cases ca : x.a ∈ F
          · rw [if_pos ca]
            exact ⟨List.mem_append_left _ ca, by simp⟩
          · have cb : x.b ∈ F := by
              by_cases cb : x.b ∈ F
              · exact cb
              · simp [ca, cb] at c
            rw [if_neg ca]
            exact ⟨by simp, List.mem_append_left _ cb⟩
        exact inside_lt up mx out inn
      refine Nat.lt_of_lt_of_le one (inside_mono M (turn_up r _))
    · rw [if_neg c]
      rcases turn_more M r F hr with ⟨e, q⟩ | q
      · refine .inl ⟨e, fun y m => ?_⟩
        rcases List.mem_cons.mp m with rfl | m
        · by_cases ca : y.a ∈ F <;> by_cases cb : y.b ∈ F <;> simp [ca, cb] at c ⊢
        · exact q y m
      · exact .inr q
theorem rounds_closed (L : List Lk) : ∀ (n : Nat) (F : List Str), (∀ x ∈ L, (x.a ∈ rounds L n F ↔ x.b ∈ rounds L n F)) ∨ inside L F + n ≤ inside L (rounds L n F)
  | 0, F => .inr (Nat.le_refl _)
  | n + 1, F => by
    rw [rounds]
    rcases turn_more L L F fun _ m => m with ⟨e, q⟩ | q
    · left
      rw [e]
      have fix : ∀ n, rounds L n F = F := fun n => by
        induction n with
        | zero => rfl
        | succ n ih => rw [rounds, e, ih]
      rw [fix]
      exact q
    · rcases rounds_closed L n (turnNear L F) with z | z
      · exact .inl z
      · exact .inr (by omega)
theorem rounds_all (L : List Lk) (F : List Str) : ∀ x ∈ L, (x.a ∈ rounds L L.length F ↔ x.b ∈ rounds L L.length F) := by
  rcases rounds_closed L L.length F with z | z
  · exact z
  · have most : inside L (rounds L L.length F) ≤ L.length := List.countP_le_length
    have all : inside L (rounds L L.length F) = L.length := by omega
    unfold inside at all
    rw [List.countP_eq_length] at all
    intro x m
    have q := all x m
    simp only [Bool.and_eq_true, decide_eq_true_eq] at q
    exact ⟨fun _ => q.2, fun _ => q.1⟩
theorem rounds_up (L : List Lk) : ∀ (n : Nat) (F : List Str), ∀ z ∈ F, z ∈ rounds L n F
  | 0, _, _, h => h
  | n + 1, F, z, h => rounds_up L n _ z (turn_up L F z h)
/-- only what bears the same name is near -/
theorem turn_only {P : Str → Prop} : ∀ (L : List Lk) (F : List Str), (∀ x ∈ L, (P x.a ↔ P x.b)) → (∀ z ∈ F, P z) → ∀ z ∈ turnNear L F, P z
  | [], _, _, h => h
  | x :: r, F, c, h => by
    rw [turnNear]
    refine turn_only r _ (fun y m => c y (List.mem_cons_of_mem _ m)) fun z m => ?_
    split at m
    · rename_i e
      rcases List.mem_append.mp m with m | m
      · exact h z m
      · rw [List.mem_singleton.mp m]
        have hx := c x List.mem_cons_self
        by_cases ca : x.a ∈ F
        · rw [if_pos ca]; exact hx.1 (h _ ca)
        · have cb : x.b ∈ F := by
            by_cases cb : x.b ∈ F
            · exact cb
            · simp [ca, cb] at e
          rw [if_neg ca]; exact hx.2 (h _ cb)
    · exact h z m
theorem rounds_only {P : Str → Prop} (L : List Lk) (c : ∀ x ∈ L, (P x.a ↔ P x.b)) : ∀ (n : Nat) (F : List Str), (∀ z ∈ F, P z) → ∀ z ∈ rounds L n F, P z
  | 0, _, h => h
  | n + 1, F, h => rounds_only L c n _ (turn_only L F c h)
theorem near_iff (L : List Lk) (a b : Str) : b ∈ rounds L L.length [a] ↔ names id L a = names id L b := by
  constructor
  · refine fun m => rounds_only (P := fun z => names id L a = names id L z) L (fun x mx => ?_) L.length [a] (fun z mz => ?_) b m
    · rw [names_join L id x mx]
    · rw [List.mem_singleton.mp mz]
  · intro e
    have h := names_closed (F := fun z => z ∈ rounds L L.length [a]) L id (fun x y e => by rw [show x = y from e]) (rounds_all L [a]) a b e
    exact h.1 (rounds_up L _ [a] a (by simp))
/-- two rising lists of the same links are one -/
theorem row_ext : ∀ {L M : List Lk}, L.Pairwise Lk.lt → M.Pairwise Lk.lt → (∀ x, x ∈ L ↔ x ∈ M) → L = M
  | [], [], _, _, _ => rfl
  | [], y :: M, _, _, h => absurd ((h y).2 List.mem_cons_self) (fun z => nomatch z)
  | x :: L, [], _, _, h => absurd ((h x).1 List.mem_cons_self) (fun z => nomatch z)
  | x :: L, y :: M, hL, hM, h => by
    have pL := List.pairwise_cons.mp hL
    have pM := List.pairwise_cons.mp hM
    have e : x = y := by
      rcases List.mem_cons.mp ((h x).1 List.mem_cons_self) with e | m
      · exact e
      · rcases List.mem_cons.mp ((h y).2 List.mem_cons_self) with e | m'
        · exact e.symm
        · exact absurd (pL.1 y m') (lk_asymm (pM.1 x m))
    subst e
    rw [row_ext pL.2 pM.2 fun z => ?_]
    constructor
    · intro m
      rcases List.mem_cons.mp ((h z).1 (List.mem_cons_of_mem _ m)) with e | m'
      · rw [e] at m; exact absurd (pL.1 x m) (lk_irrefl x)
      · exact m'
    · intro m
      rcases List.mem_cons.mp ((h z).2 (List.mem_cons_of_mem _ m)) with e | m'
      · rw [e] at m; exact absurd (pM.1 x m) (lk_irrefl x)
      · exact m'
end Fk
namespace Fk
open PySem PySem.Spec PyProof.Rows L2
/-- a def whose last parameter stands behind a star; T: where its default, (), stands -/
structure CalS (P : Program) (w : World) (K : PySem.W.Frag) (mg : Str → Option Value) (base : Heap) (k : Nat) (x : Str) (n : Nat) (ps : List Str) (y : Str) (sp : Sp) (T : Addr) : Prop where
  ex : ∃ (f : Addr) (fd : FuncData), FnOk P w K mg base CX0 k f fd ps sp ∧ mg x = some (.ref f) ∧ PySem.W.keepIn K (.ref f) = true ∧ Binds K fd ps [.ref T] ∧ KBn K fd ps n [y] (fun us ws => us ++ ws) (fun vs zs => vs ++ zs)
  nil : ∃ o m, K.lookup T = some o ∧ o.cls = .type "tuple" ∧ o.data = .seq #[] m
section
variable {P : Program} {w : World} {K : PySem.W.Frag} {mg : Str → Option Value} {base : Heap} {k n : Nat} {x y : Str} {ps : List Str} {sp : Sp} {T : Addr}
theorem CalS.seq (C : CalS P w K mg base k x n ps y sp T) (H : Hp) : SqT K H T [] := by
  obtain ⟨o, m, e1, e2, e3⟩ := C.nil
  exact .inr ⟨o, #[], m, e1, e2, e3, Nat.zero_le _, .nil⟩
theorem CalS.mono {j : Nat} (C : CalS P w K mg base k x n ps y sp T) (h : k ≤ j) : CalS P w K mg base j x n ps y sp T := by
  obtain ⟨f, fd, F, r⟩ := C.ex
  exact ⟨⟨f, fd, F.mono h, r⟩, C.nil⟩
theorem FunD.kw {params : Arguments} {body : List Stmt} {scope : Scope} {f : Addr} {fd : FuncData} {q : Str} (F : FunD K q q params body scope [] [(y, .ref T)] f fd) (hn : n + 1 = ps.length)
    (h1 : ∀ (D : Addr) (doc pm : Value) (an : Option Addr) (cdv ct : Value) (us ks : List Value), us.length = n → ks.length = 1 → KwChain D ([y].zip ks) (bindArgs (PySem.W.fnOf q q params body scope .none (.ref D) doc pm an cdv ct) ⟨us, []⟩) (ps.zip (us ++ ks)))
    (h2 : ∀ (D : Addr) (doc pm : Value) (an : Option Addr) (cdv ct : Value) (us ws : List Value), us.length = n → ws.length = 1 → bindArgs (PySem.W.fnOf q q params body scope .none (.ref D) doc pm an cdv ct) ⟨us, [y].zip ws⟩ = pure (ps.zip (us ++ ws))) :
    Binds K fd ps [.ref T] ∧ KBn K fd ps n [y] (fun us ws => us ++ ws) (fun vs zs => vs ++ zs) := by
  constructor
  · obtain ⟨ds, e, b⟩ := FunD.binds0 F n (ps := ps) (fun z => nomatch z) hn fun D doc pm an cdv ct us ks l1 l2 => h1 D doc pm an cdv ct us ks l1 l2
    cases e with
    | cons e t =>
      cases t
      obtain rfl := (show _ = Value.ref T from e)
      exact b
  · obtain ⟨mv, b⟩ := FunD.kbinds0 F n [y] [] (ps := ps) (fun us _ ws => us ++ ws) (fun z => nomatch z) (fun _ m => nomatch m) (fun r1 _ r2 => Vals.append r1 r2) fun D doc pm an cdv ct us mv ws l1 l2 l3 => h2 D doc pm an cdv ct us ws l1 l3
    exact b
end
section
variable {X : Cx} {k n : Nat} {x y : Str} {ps : List Str} {sp : Sp} {T : Addr} {p pos : Pos} {e e2 : Expr} {es : List Expr} {t : TA} {te : TE} {kpos : Pos}
/-- left out -/
theorem pcD (C : CalS X.prog X.w X.K X.mg X.base k x n ps y sp T) (hr : Room k X.A) (hg : Gl X x) (ha : PA X (e :: es) t) (hdb : (x == ("__debug__" : Str)) = false := by decide)
    (he : starEach (e :: es) X.env = (false, eval e X.env) :: starEach es X.env := by rfl) (hpl : (backTo pos (starEach es X.env)).any (·.1) = false := by rfl) :
    PE X (.Call (.Name x p) (e :: es) [] pos) (tCall sp [.ref T] E0 t) := by
  obtain ⟨f, fd, F, hm, hk, hb, _⟩ := C.ex
  exact pe_call F hr hg hm hk hb (.cons rfl .nil) pass0 ha hdb he hpl
/-- told -/
theorem pcK (C : CalS X.prog X.w X.K X.mg X.base k x n ps y sp T) (hr : Room k X.A) (hg : Gl X x) (ha : PA X (e :: es) t) (hv : PE X e2 te) (hdb : (x == ("__debug__" : Str)) = false := by decide)
    (hall : (backToKw pos (keywordEach [⟨some y, e2, kpos⟩] X.env)).all (·.1.isSome) = true := by rfl) (hks : (backToKw pos (keywordEach [⟨some y, e2, kpos⟩] X.env)).filterMap (·.1) = [y] := by rfl)
    (he : starEach (e :: es) X.env = (false, eval e X.env) :: starEach es X.env := by rfl) (hpl : ((backTo pos (starEach (e :: es) X.env)).any (·.1) || (backToKw pos (keywordEach [⟨some y, e2, kpos⟩] X.env)).any (·.1.isNone)) = false := by rfl) :
    PE X (.Call (.Name x p) (e :: es) [⟨some y, e2, kpos⟩] pos) (tCallN n 1 sp (fun vs zs => vs ++ zs) E0 t (tCons te tNil)) := by
  obtain ⟨f, fd, F, hm, hk, _, hb⟩ := C.ex
  exact pe_callN F hr hg hm hk hb pass0 ha (pk_cons hv pk_nil) hall hks hdb he hpl
end
end Fk
namespace Fk
open PySem PySem.Spec PyProof.Rows L2
/-- one turn of the first clause, of the second (em: what is put in) -/
structure Turns2 (node t0 i0 t1 i1 : Expr) (em : Value → Env → Sem Unit) : Prop where
  cl : clausesOf node = [⟨t0, i0, [], 0⟩, ⟨t1, i1, [], 0⟩]
  out : ∀ (it acc : Value) (env : Env), compTurn node 0 it acc env = (do
      standAt i0.pos
      match ← pyNext it with
      | none => pure (.done .next)
      | some v =>
        letOwnedTupleGo t0 it v
        assign t0 env v
        let x ← eval i1 env
        standAt i1.pos
        let x ← foldedSetIterable i1 env x
        let _ ← runOwn (.compStart node 1 (← holding [x] (pyIter x)) acc env) env
        again (.compLoop node 0 it acc env))
  dS : ∀ (prog : Program) (w : World) (d : Nat) (it acc : Value) (env : Env), ∃ p, (model prog w).den (.compStart node d it acc env) = ((compStart node d it acc env).onRaise fun x => do noteFrame x env; standAt p)
  dL : ∀ (prog : Program) (w : World) (d : Nat) (it acc : Value) (env : Env), (model prog w).den (.compLoop node d it acc env) = ((compTurn node d it acc env).onRaise fun x => do noteFrame x env; theTreesLotGoes x)
  uS : ∀ (A : Around) (d : Nat) (it acc : Value) (env : Env), A.under (.compStart node d it acc env) = A
  uL : ∀ (A : Around) (d : Nat) (it acc : Value) (env : Env), A.under (.compLoop node d it acc env) = A
  inn : ∀ (it acc : Value) (env : Env), compTurn node 1 it acc env = (do
      standAt i1.pos
      match ← pyNext it with
      | none => pure (.done .next)
      | some v =>
        letOwnedTupleGo t1 it v
        assign t1 env v
        em acc env
        again (.compLoop node 1 it acc env))
section
variable {prog : Program} {w : World} {A : Around} {R : Result → Shared → Prop} {s : Shared} {node t0 i0 t1 i1 : Expr} {em : Value → Env → Sem Unit} {it acc : Value} {env : Env}
theorem comp2_start (T : Turns2 node t0 i0 t1 i1 em) (d : Nat) (hd : d < 2) (h0 : codeAny (model prog w) A (.compLoop node d it acc env) R s)
    (h : wpAny (model prog w) A (pyIter it) (fun it' s' => codeAny (model prog w) A (.compLoop node d it' acc env) R s') (notedBy (model prog w) A env fun x s' => R (.error x) s') s) :
    codeAny (model prog w) A (.compStart node d it acc env) R s := by
  refine codeAny_of_tree ?_
  obtain ⟨p, ed⟩ := T.dS prog w d it acc env
  rw [ed, T.uS]
  refine wpAny_notedAt ?_
  unfold compStart
  rw [T.cl]
  have two : ∃ g, ([⟨t0, i0, [], 0⟩, ⟨t1, i1, [], 0⟩] : List Comprehension)[d]? = some g ∧ g.is_async = 0 := by
    rcases Nat.lt_or_ge d 1 with l | l
    · exact ⟨_, by rw [show d = 0 by omega]; rfl, rfl⟩
    · exact ⟨_, by rw [show d = 1 by omega]; rfl, rfl⟩
  obtain ⟨g, e, e0⟩ := two
  rw [e]
  simp only [Option.elim, e0, bne_self_eq_false, Bool.false_eq_true, if_false]
  refine wpAny_bind (wpAny_askSetting (wpAny_ite ?_))
  split
  · first
      | exact wpAny_bind (wpAny_pure (wpAny_pure (And.intro rfl h0)))
      | exact wpAny_pure (And.intro rfl h0)
  · refine wpAny_bind (wpAny_rule (wpAny_bind (wpAny_standAt (wpAny_bind (wpAny_mono h (fun it' s' h' => wpAny_pure (And.intro rfl h')) fun _ _ x => x)))))
theorem comp2_out (T : Turns2 node t0 i0 t1 i1 em) (hs : ∀ x, foldedSetIterable i1 env x = pure x) (I : Nat → Shared → Prop)
    (turn : ∀ n s, I n s → wpAny (model prog w) A (pyNext it) (fun r s₁ => match r with
      | none => R (.ok .next) s₁
      | some v => wpAny (model prog w) A (letOwnedTupleGo t0 it v) (fun _ s₂ => wpAny (model prog w) A (assign t0 env v) (fun _ s₃ => wpAny (model prog w) A (eval i1 env) (fun x s₄ => wpAny (model prog w) A (pyIter x) (fun it1 s₅ =>
          codeAny (model prog w) A (.compStart node 1 it1 acc env) (fun r s' => match r with
            | .ok _ => ∃ m, m < n ∧ I m s'
            | .error _ => False) s₅) (notedBy (model prog w) A env fun e s' => R (.error e) s') s₄) (notedBy (model prog w) A env fun e s' => R (.error e) s') s₃) (notedBy (model prog w) A env fun e s' => R (.error e) s') s₂) (notedBy (model prog w) A env fun e s' => R (.error e) s') s₁) (notedBy (model prog w) A env fun e s' => R (.error e) s') s)
    (n : Nat) (h : I n s) : codeAny (model prog w) A (.compLoop node 0 it acc env) R s := by
  refine codeAny_loop rfl I (fun n s hI => ?_) n h
  rw [T.dL, T.uL]
  refine wpAny_noted ?_
  rw [T.out]
  refine wpAny_bind (wpAny_standAt (wpAny_bind (wpAny_mono (turn n s hI) (fun r s₁ q => ?_) fun _ _ z => z)))
  cases r with
  | none => exact wpAny_pure q
  | some v =>
    refine wpAny_bind (wpAny_mono q (fun _ s₂ q => wpAny_bind (wpAny_mono q (fun _ s₃ q => wpAny_bind (wpAny_mono q (fun x s₄ q => ?_) fun _ _ z => z)) fun _ _ z => z)) fun _ _ z => z)
    refine wpAny_bind (wpAny_standAt (wpAny_bind (wpAny_of_eq (hs x) (wpAny_bind (wpAny_holding (wpAny_mono q (fun it1 s₅ q => ?_) fun _ _ z => z))))))
    refine wpAny_bind (wpAny_runOwn ?_)
    rw [Around.mark_none]
    refine codeAny_mono q fun r s' q => ?_
    cases r with
    | ok f =>
      first
        | exact wpAny_pure ⟨rfl, q⟩
        | exact wpAny_bind (wpAny_pure (wpAny_pure ⟨rfl, q⟩))
    | error e => exact q.elim
theorem comp2_inn (T : Turns2 node t0 i0 t1 i1 em) (I : Nat → Shared → Prop)
    (turn : ∀ n s, I n s → wpAny (model prog w) A (pyNext it) (fun r s₁ => match r with
      | none => R (.ok .next) s₁
      | some v => wpAny (model prog w) A (letOwnedTupleGo t1 it v) (fun _ s₂ => wpAny (model prog w) A (assign t1 env v) (fun _ s₃ =>
          wpAny (model prog w) A (em acc env) (fun _ s₄ => ∃ m, m < n ∧ I m s₄) (notedBy (model prog w) A env fun e s' => R (.error e) s') s₃) (notedBy (model prog w) A env fun e s' => R (.error e) s') s₂) (notedBy (model prog w) A env fun e s' => R (.error e) s') s₁) (notedBy (model prog w) A env fun e s' => R (.error e) s') s)
    (n : Nat) (h : I n s) : codeAny (model prog w) A (.compLoop node 1 it acc env) R s := by
  refine codeAny_loop rfl I (fun n s hI => ?_) n h
  rw [T.dL, T.uL]
  refine wpAny_noted ?_
  rw [T.inn]
  refine wpAny_bind (wpAny_standAt (wpAny_bind (wpAny_mono (turn n s hI) (fun r s₁ q => ?_) fun _ _ z => z)))
  cases r with
  | none => exact wpAny_pure q
  | some v => exact wpAny_bind (wpAny_mono q (fun _ s₂ q => wpAny_bind (wpAny_mono q (fun _ s₃ q => wpAny_bind (wpAny_mono q (fun _ s₄ q => wpAny_pure ⟨rfl, q⟩) fun _ _ z => z)) fun _ _ z => z)) fun _ _ z => z)
end
theorem turns_dict (kx vx t0 i0 t1 i1 : Expr) (scope : Scope) (pos : Pos) : Turns2 (.DictComp kx vx [⟨t0, i0, [], 0⟩, ⟨t1, i1, [], 0⟩] scope pos) t0 i0 t1 i1 (fun acc env => do
    let kv ← eval kx env
    let vv ← holding [kv] (eval vx env)
    match acc with
    | .ref d => do
      standAt { kx.pos with endLine := vx.pos.endLine, endCol := vx.pos.endCol }
      holding [kv, vv] (dictSet d kv vv)
    | _ => unsupported "internal:dictcomp") where
  cl := rfl
  out := fun _ _ _ => rfl
  inn := fun _ _ _ => rfl
  dS := fun _ _ _ _ _ _ => ⟨_, rfl⟩
  dL := fun _ _ _ _ _ _ => rfl
  uS := fun _ _ _ _ _ => rfl
  uL := fun _ _ _ _ _ => rfl
theorem turns_set (elt t0 i0 t1 i1 : Expr) (scope : Scope) (pos : Pos) : Turns2 (.SetComp elt [⟨t0, i0, [], 0⟩, ⟨t1, i1, [], 0⟩] scope pos) t0 i0 t1 i1 (fun acc env => do
    let v ← eval elt env
    standAt elt.pos
    let _ ← call (.builtin "set.add") [acc, v]) where
  cl := rfl
  out := fun _ _ _ => rfl
  inn := fun _ _ _ => rfl
  dS := fun _ _ _ _ _ _ => ⟨_, rfl⟩
  dL := fun _ _ _ _ _ _ => rfl
  uS := fun _ _ _ _ _ => rfl
  uL := fun _ _ _ _ _ => rfl
end Fk
namespace Fk
open PySem PySem.Spec PyProof.Rows L2
/-- the reading of a comprehension of two clauses: u0 what is made, te what a turn puts in -/
def tC2D (u0 : Addr → HO) (wi : TI) (g : TG) (wi1 : TI) (g1 : TG) (te : Addr → L2.St → Hp → (Hp → Prop) → Prop) (vs vs1 : List Nat) : TE := fun σ H Q => wi σ H fun J H1 => ∀ D, H1 D = none → ∃ W : Nat → Nat → Hp → Prop, (∃ m, W 0 m (upd H1 D (u0 D))) ∧ ∀ i m H, W i m H →
  (J.stop i H ∧ Q (.ref D) H) ∨ (J.go i H ∧ ∃ Nx : Hp → Prop, (∀ H', Nx H' → ∃ m', m' < m ∧ W (i + 1) m' H') ∧ ∀ x H', J.yld i H x H' → g x (wipe σ vs) H' fun σ2 H2 => wipe σ2 vs = wipe σ vs ∧ wi1 σ2 H2 fun J1 H4 =>
    ∃ W1 : Nat → Nat → Hp → Prop, (∃ m, W1 0 m H4) ∧ ∀ j k H, W1 j k H → (J1.stop j H ∧ Nx H) ∨ (J1.go j H ∧ ∃ Nx1 : Hp → Prop, (∀ H', Nx1 H' → ∃ k', k' < k ∧ W1 (j + 1) k' H') ∧
      ∀ x H', J1.yld j H x H' → g1 x (wipe σ2 vs1) H' fun σ3 H5 => wipe σ3 vs1 = wipe σ2 vs1 ∧ te D σ3 H5 Nx1))
/-- the reading of a comprehension of two clauses: u0 what is made, te what a turn puts in -/
def tC2 (u0 : HO) (wi : TI) (g : TG) (wi1 : TI) (g1 : TG) (te : Addr → L2.St → Hp → (Hp → Prop) → Prop) (vs vs1 : List Nat) : TE := fun σ H Q => wi σ H fun J H1 => ∀ D, H1 D = none → ∃ W : Nat → Nat → Hp → Prop, (∃ m, W 0 m (upd H1 D u0)) ∧ ∀ i m H, W i m H →
  (J.stop i H ∧ Q (.ref D) H) ∨ (J.go i H ∧ ∃ Nx : Hp → Prop, (∀ H', Nx H' → ∃ m', m' < m ∧ W (i + 1) m' H') ∧ ∀ x H', J.yld i H x H' → g x (wipe σ vs) H' fun σ2 H2 => wipe σ2 vs = wipe σ vs ∧ wi1 σ2 H2 fun J1 H4 =>
    ∃ W1 : Nat → Nat → Hp → Prop, (∃ m, W1 0 m H4) ∧ ∀ j k H, W1 j k H → (J1.stop j H ∧ Nx H) ∨ (J1.go j H ∧ ∃ Nx1 : Hp → Prop, (∀ H', Nx1 H' → ∃ k', k' < k ∧ W1 (j + 1) k' H') ∧
      ∀ x H', J1.yld j H x H' → g1 x (wipe σ2 vs1) H' fun σ3 H5 => wipe σ3 vs1 = wipe σ2 vs1 ∧ te D σ3 H5 Nx1))
section
variable {X : Cx}
theorem comp2_coreD {pins : List (Addr × Obj)} {s : Shared} {σ : L2.St} {H : Hp} {Q : VK} {node tg iter tg1 iter1 : Expr} {scope : Scope} {own : List (Str × Nat)} {vs1 : List Nat} {pos' : Pos} {wi wi1 : TI} {g g1 : TG} {te : Addr → L2.St → Hp → (Hp → Prop) → Prop} {em : Value → Env → Sem Unit} {newA : Sem Value} {ob : Obj} {u0 : Addr → HO}
    {use : Option (Value → Sem Unit)} {Qf : Value → Shared → Prop} (T2 : Turns2 node tg iter tg1 iter1 em)
    (hnew : ∀ (A : Around) (s : Shared) (Q : Value → Shared → Prop) (E : Value → Shared → Prop), Q (.ref s.heap.objs.size) { s with heap := s.heap.push ob } → wpAny (model X.prog X.w) A newA Q E s)
    (hlaid : ∀ (s : Shared) (H : Hp), Inv X pins σ H s → ObjOk X.prog X.w (upd H s.heap.objs.size (u0 s.heap.objs.size)) (s.heap.push ob) s.heap.objs.size (u0 s.heap.objs.size))
    (hc : X.calm = true) (hN : X.N.Nodup) (I : Inv X pins σ H s) (hi : PI X tg iter wi) (ok : BlkOk X.N X.env.scope scope own) (hv : ∀ i ∈ vs1, i ∈ own.map (·.2))
    (hg : ∀ (s : Shared) (H : Hp) (C : Addr) (cl : List (Str × Addr)) (fp : List Addr), PG (X.blk s H scope (compEnvC scope cl C X.env) fp) tg g) (hs : ∀ x, foldedSetIterable iter X.env x = pure x)
    (hi1 : ∀ (s : Shared) (H : Hp) (C : Addr) (cl : List (Str × Addr)) (fp : List Addr), PI (X.blk s H scope (compEnvC scope cl C X.env) fp) tg1 iter1 wi1)
    (hg1 : ∀ (s : Shared) (H : Hp) (C : Addr) (cl : List (Str × Addr)) (fp : List Addr), PG (X.blk s H scope (compEnvC scope cl C X.env) fp) tg1 g1)
    (hem : ∀ (s : Shared) (H : Hp) (C : Addr) (cl : List (Str × Addr)) (fp : List Addr) (pins : List (Addr × Obj)) (s' : Shared) (σ' : L2.St) (H' : Hp) (D : Addr) (P : Hp → Prop), Inv (X.blk s H scope (compEnvC scope cl C X.env) fp) pins σ' H' s' → te D σ' H' P →
      wpAny (model X.prog X.w) X.A (em (.ref D) (compEnvC scope cl C X.env)) (fun _ s2 => ∃ H2, Inv (X.blk s H scope (compEnvC scope cl C X.env) fp) pins σ' H2 s2 ∧ P H2) (fun _ _ => False) s')
    (hs1 : ∀ env x, foldedSetIterable iter1 env x = pure x)
    (h : tC2D u0 wi g wi1 g1 te (own.map (·.2)) vs1 σ H Q)
    (hRR : ∀ D C s' m H', Inv X pins σ H' s' → Q (.ref D) H' → s'.heap.Ns C m → FpOk X pins H' C → compPost (model X.prog X.w) X.A X.xe use Qf (.ref D) C (.ok .next) s') :
    wpAny (model X.prog X.w) X.A (comprehension node scope X.env pos' newA false (eval iter X.env) use) Qf X.xe s := by
  have free : ∀ y ∈ scope.names, y.2 = .free → ∃ c, X.env.cells.lookup y.1 = some c := fun y my e => (ok.free y my e).elim (fun k => I.ok.has _ (.inl k)) fun k => I.ok.has _ (.inr k)
  refine wpAny_comprehension_free (use := use) T2.cl hs (closure_ok free) ok.kind (fun y my e => (ok.uniq y my).trans (congrArg some e)) (thn (hi.run pins s σ H _ I h) fun xv s1 hx => thn hx fun itv s2 h2 => ?_)
  obtain ⟨it, fp, tn, J, H2, e, I2, T, st2, f2, q⟩ := h2
  subst e
  refine hnew _ _ _ _ (newEnv_comp ?_)
  have I3 : Inv X pins σ (upd H2 s2.heap.objs.size (u0 s2.heap.objs.size)) { s2 with heap := s2.heap.push ob } := I2.laid (t' := s2.toks) (fun b o e => Heap.get?_push_of_some _ e) (Nat.le_refl _) (hlaid s2 H2 I2)
  have hz3 : (s2.heap.push ob).objs.size = s2.heap.objs.size + 1 := Heap.size_push ..
  have st3 : tn 0 (s2.heap.push ob) := T.keep _ _ _ st2 fun b _ o e => Heap.get?_push_of_some _ e
  have sz : ∀ b ∈ fp, b < s2.heap.objs.size := fun b mb => let ⟨_, e, _⟩ := T.obj _ _ st2 b mb; Heap.lt_size e
  have f3 : ∀ b ∈ fp, FpOk X pins (upd H2 s2.heap.objs.size (u0 s2.heap.objs.size)) b ∧ b < (s2.heap.push ob).objs.size := fun b mb =>
    ⟨⟨(upd_ne (Nat.ne_of_lt (sz b mb))).trans (f2 b mb).1, (f2 b mb).2⟩, by rw [hz3]; exact Nat.lt_succ_of_lt (sz b mb)⟩
  obtain ⟨W, ⟨m0, w0⟩, turn⟩ := q s2.heap.objs.size (I2.hok.fresh (Nat.le_refl _))
  generalize s2.heap.objs.size = D at I3 hz3 sz f3 w0 turn ⊢
  generalize eh3 : upd H2 D (u0 D) = H3 at I3 f3 w0
  generalize es3 : ({ s2 with heap := s2.heap.push ob } : Shared) = s3 at I3
  have ep3 : s2.heap.push ob = s3.heap := by rw [← es3]
  rw [ep3] at hz3 st3 f3
  have I4 := block_start I3 ok hN f3
  have pg := hg s3 H3 s3.heap.objs.size (cellsFrom (s3.heap.objs.size + 1) scope.names (cloFrom X.env.cells scope.names [])) fp
  have pi1 := hi1 s3 H3 s3.heap.objs.size (cellsFrom (s3.heap.objs.size + 1) scope.names (cloFrom X.env.cells scope.names [])) fp
  have pg1 := hg1 s3 H3 s3.heap.objs.size (cellsFrom (s3.heap.objs.size + 1) scope.names (cloFrom X.env.cells scope.names [])) fp
  have pem := hem s3 H3 s3.heap.objs.size (cellsFrom (s3.heap.objs.size + 1) scope.names (cloFrom X.env.cells scope.names [])) fp
  have st4 : tn 0 (pushCells (s3.heap.push { cls := .type "dict", data := .dict #[] }) scope.names) := T.keep _ _ _ st3 fun b _ o e => pushCells_keeps _ _ _ _ (Heap.get?_push_of_some _ e)
  have nfp : ∀ b ∈ fp, H3 b = none := fun b mb => (f3 b mb).1.1
  show codeAny _ _ (.compStart node 0 (.ref it) (.ref D) (compEnvC scope (cellsFrom (s3.heap.objs.size + 1) scope.names (cloFrom X.env.cells scope.names [])) s3.heap.objs.size X.env)) (compPost (model X.prog X.w) X.A X.xe use Qf (.ref D) s3.heap.objs.size) { s3 with heap := pushCells (s3.heap.push { cls := .type "dict", data := .dict #[] }) scope.names }
  generalize ece : compEnvC scope (cellsFrom (s3.heap.objs.size + 1) scope.names (cloFrom X.env.cells scope.names [])) s3.heap.objs.size X.env = ce at I4 pg pi1 pg1 pem ⊢
  have cl : ce.locals = s3.heap.objs.size := by rw [← ece]; rfl
  have st4' : tn 0 ({ s3 with heap := pushCells (s3.heap.push { cls := .type "dict", data := .dict #[] }) scope.names } : Shared).heap := st4
  generalize ({ s3 with heap := pushCells (s3.heap.push { cls := .type "dict", data := .dict #[] }) scope.names } : Shared) = s4 at I4 st4' ⊢
  have foot : ∀ {σ' : L2.St} {H' : Hp} {s' : Shared}, Inv (X.blk s3 H3 scope ce fp) [] σ' H' s' → (∀ b ∈ fp, H' b = none) → ∀ b ∈ fp, FpOk (X.blk s3 H3 scope ce fp) [] H' b := fun {σ' H' s'} I' hn b mb =>
    ⟨hn b mb, (I'.ok.exf b mb).1, I'.ok.exfs b mb, .inl mb, fun x c e => (I'.ok.exf b mb).2 x c e, fun p mp => absurd (show p ∈ ([] : List (Addr × Obj)) ++ [] from mp) (by simp)⟩
  have outer : codeAny (model X.prog X.w) X.A (.compLoop node 0 (.ref it) (.ref D) ce) (compPost (model X.prog X.w) X.A X.xe use Qf (.ref D) s3.heap.objs.size) s4 := by
    refine comp2_out T2 (hs1 ce) (fun n s' => ∃ i H', Inv (X.blk s3 H3 scope ce fp) [] (wipe σ (own.map (·.2))) H' s' ∧ tn i s'.heap ∧ (∀ b ∈ fp, H' b = none) ∧ W i n H') ?_ m0 ⟨0, H3, I4, st4', nfp, w0⟩
    rintro n s5 ⟨i, H5, I5, st5, n5, w5⟩
    rcases turn i n H5 w5 with ⟨stop, done⟩ | ⟨go, Nx, less, step⟩
    · refine thnF (T.done (X.blk s3 H3 scope ce fp) rfl rfl rfl hc i [] s5 _ H5 (fun _ _ => False) I5 (foot I5 n5) st5 stop) fun r s6 ⟨er, I6⟩ => ?_
      subst er
      have I7 : Inv X pins σ H5 s6 := I3.call' (ch := fp) I6.os I6.base I6.hok I6.bare fun b mb => ⟨(f3 b mb).1.2.2.2.1, (f3 b mb).1.2.1, (f3 b mb).1.2.2.2.2.1, (f3 b mb).1.2.2.2.2.2⟩
      have nC : H5 s3.heap.objs.size = none := cl ▸ I6.free
      obtain ⟨m, ns, _⟩ := I6.loc
      have ns' : s6.heap.Ns ce.locals m := ns
      rw [cl] at ns'
      exact hRR D s3.heap.objs.size s6 m H5 I7 done ns' (I3.fpOk (Nat.le_refl _) nC)
    · refine thnF (T.item (X.blk s3 H3 scope ce fp) rfl rfl rfl hc i [] s5 _ H5 (fun _ _ => False) I5 (foot I5 n5) st5 go) fun r s6 ⟨u, er, h6⟩ => ?_
      subst er
      refine thnF h6 fun _ s7 ⟨x, H7, I7, r7, y7, st7, n7⟩ => ?_
      refine thnF (pg.run _ s7 _ H7 x u _ (I7.pinned (foot I7 n7) (T.obj _ _ st7)) r7 (step x H7 y7)) fun _ s8 ⟨σ8, H8, I8, hw8, q8⟩ => ?_
      have back : ∀ {σ9 : L2.St} {s' : Shared} {H' : Hp}, Inv (X.blk s3 H3 scope ce fp) ([] ++ pinsAt fp s7.heap) σ9 H' s' → (wipe σ (own.map (·.2))).length = σ9.length → (∀ (j : Nat) v, (wipe σ (own.map (·.2)))[j]? = some (some v) → σ9[j]? = some (some v)) → Nx H' →
          ∃ m, m < n ∧ ∃ i H', Inv (X.blk s3 H3 scope ce fp) [] (wipe σ (own.map (·.2))) H' s' ∧ tn i s'.heap ∧ (∀ b ∈ fp, H' b = none) ∧ W i m H' := fun {σ9 s' H'} I' l1 l2 nx => by
        obtain ⟨m', hm, w'⟩ := less H' nx
        have held : ∀ b ∈ fp, ∀ o, s7.heap.get? b = some o → s'.heap.get? b = some o ∧ H' b = none := fun b mb o e =>
          let z := I'.pin (b, o) (List.mem_append_right _ (List.mem_append_right _ (mem_pinsAt mb e)))
          ⟨z.1, z.2.1⟩
        exact ⟨m', hm, i + 1, H', (I'.unpinned (pins := [])).weak l1 l2, T.keep _ _ _ st7 fun b mb o e => (held b mb o e).1, fun b mb => let ⟨o, e, _⟩ := T.obj _ _ st7 b mb; (held b mb o e).2, w'⟩
      have l8 : (wipe σ (own.map (·.2))).length = σ8.length := by rw [← hw8, wipe_length]
      have k9 : ∀ (j : Nat) v, (wipe σ (own.map (·.2)))[j]? = some (some v) → (wipe σ8 vs1)[j]? = some (some v) := fun j v e => by
        rw [← hw8] at e
        obtain ⟨e1, e2⟩ := wipe_some e
        exact (wipe_out fun z => e2 (hv j z)).trans e1
      refine thnF (pi1.run _ s8 σ8 H8 _ I8 q8) fun xv s10 hx => thnF hx fun itv s11 h11 => ?_
      obtain ⟨it1, fp1, tn1, J1, H11, e1, I11, T1, st11, f11, W1, ⟨m1, w1⟩, turn1⟩ := h11
      subst e1
      have foot1 : ∀ {H' : Hp}, (∀ b ∈ fp1, H' b = none) → ∀ b ∈ fp1, FpOk (X.blk s3 H3 scope ce fp) ([] ++ pinsAt fp s7.heap) H' b := fun hn b mb => ⟨hn b mb, (f11 b mb).2⟩
      have inner : codeAny (model X.prog X.w) X.A (.compLoop node 1 (.ref it1) (.ref D) ce) (fun r s' => match r with
          | .ok _ => ∃ m, m < n ∧ ∃ i H', Inv (X.blk s3 H3 scope ce fp) [] (wipe σ (own.map (·.2))) H' s' ∧ tn i s'.heap ∧ (∀ b ∈ fp, H' b = none) ∧ W i m H'
          | .error _ => False) s11 := by
        refine comp2_inn T2 (fun k s' => ∃ j H', Inv (X.blk s3 H3 scope ce fp) ([] ++ pinsAt fp s7.heap) (wipe σ8 vs1) H' s' ∧ tn1 j s'.heap ∧ (∀ b ∈ fp1, H' b = none) ∧ W1 j k H') ?_ m1 ⟨0, H11, I11.weak (wipe_length _ _) (fun j v e => (wipe_some e).1), st11, fun b mb => (f11 b mb).1, w1⟩
        rintro k s12 ⟨j, H12, I12, st12, n12, w12⟩
        rcases turn1 j k H12 w12 with ⟨stop1, nx1⟩ | ⟨go1, Nx1, less1, step1⟩
        · refine thnF (T1.done (X.blk s3 H3 scope ce fp) rfl rfl rfl hc j _ s12 (wipe σ8 vs1) H12 (fun _ _ => False) I12 (foot1 n12) st12 stop1) fun r s13 ⟨er, I13⟩ => ?_
          subst er
          exact back I13 (l8.trans (wipe_length σ8 vs1).symm) k9 nx1
        · refine thnF (T1.item (X.blk s3 H3 scope ce fp) rfl rfl rfl hc j _ s12 (wipe σ8 vs1) H12 (fun _ _ => False) I12 (foot1 n12) st12 go1) fun r s13 ⟨u1, er, h13⟩ => ?_
          subst er
          refine thnF h13 fun _ s14 ⟨x1, H14, I14, r14, y14, st14, n14⟩ => ?_
          refine thnF (pg1.run _ s14 (wipe σ8 vs1) H14 x1 u1 _ (I14.pinned (foot1 n14) (T1.obj _ _ st14)) r14 (step1 x1 H14 y14)) fun _ s15 ⟨σ15, H15, I15, hw15, q15⟩ => ?_
          refine thnF (pem _ s15 σ15 H15 D Nx1 I15 q15) fun _ s16 ⟨H16, I16, nx⟩ => ?_
          obtain ⟨m', hm, w'⟩ := less1 H16 nx
          have held : ∀ b ∈ fp1, ∀ o, s14.heap.get? b = some o → s16.heap.get? b = some o ∧ H16 b = none := fun b mb o e =>
            let z := I16.pin (b, o) (List.mem_append_right _ (List.mem_append_right _ (mem_pinsAt mb e)))
            ⟨z.1, z.2.1⟩
          exact ⟨m', hm, j + 1, H16, I16.unpinned.weak (by rw [← hw15, wipe_length]) (fun j v e => by rw [← hw15] at e; exact (wipe_some e).1), T1.keep _ _ _ st14 fun b mb o e => (held b mb o e).1, fun b mb => let ⟨o, e, _⟩ := T1.obj _ _ st14 b mb; (held b mb o e).2, w'⟩
      exact comp2_start T2 1 (by decide) inner (T1.self X.A 0 _ _ _ st11 inner)
  exact comp2_start T2 0 (by decide) outer (T.self X.A 0 _ _ _ st4' outer)
theorem comp2_core {pins : List (Addr × Obj)} {s : Shared} {σ : L2.St} {H : Hp} {Q : VK} {node tg iter tg1 iter1 : Expr} {scope : Scope} {own : List (Str × Nat)} {vs1 : List Nat} {pos' : Pos} {wi wi1 : TI} {g g1 : TG} {te : Addr → L2.St → Hp → (Hp → Prop) → Prop} {em : Value → Env → Sem Unit} {newA : Sem Value} {ob : Obj} {u0 : HO}
    {use : Option (Value → Sem Unit)} {Qf : Value → Shared → Prop} (T2 : Turns2 node tg iter tg1 iter1 em)
    (hnew : ∀ (A : Around) (s : Shared) (Q : Value → Shared → Prop) (E : Value → Shared → Prop), Q (.ref s.heap.objs.size) { s with heap := s.heap.push ob } → wpAny (model X.prog X.w) A newA Q E s)
    (hlaid : ∀ (s : Shared) (H : Hp), Inv X pins σ H s → ObjOk X.prog X.w (upd H s.heap.objs.size u0) (s.heap.push ob) s.heap.objs.size u0)
    (hc : X.calm = true) (hN : X.N.Nodup) (I : Inv X pins σ H s) (hi : PI X tg iter wi) (ok : BlkOk X.N X.env.scope scope own) (hv : ∀ i ∈ vs1, i ∈ own.map (·.2))
    (hg : ∀ (s : Shared) (H : Hp) (C : Addr) (cl : List (Str × Addr)) (fp : List Addr), PG (X.blk s H scope (compEnvC scope cl C X.env) fp) tg g) (hs : ∀ x, foldedSetIterable iter X.env x = pure x)
    (hi1 : ∀ (s : Shared) (H : Hp) (C : Addr) (cl : List (Str × Addr)) (fp : List Addr), PI (X.blk s H scope (compEnvC scope cl C X.env) fp) tg1 iter1 wi1)
    (hg1 : ∀ (s : Shared) (H : Hp) (C : Addr) (cl : List (Str × Addr)) (fp : List Addr), PG (X.blk s H scope (compEnvC scope cl C X.env) fp) tg1 g1)
    (hem : ∀ (s : Shared) (H : Hp) (C : Addr) (cl : List (Str × Addr)) (fp : List Addr) (pins : List (Addr × Obj)) (s' : Shared) (σ' : L2.St) (H' : Hp) (D : Addr) (P : Hp → Prop), Inv (X.blk s H scope (compEnvC scope cl C X.env) fp) pins σ' H' s' → te D σ' H' P →
      wpAny (model X.prog X.w) X.A (em (.ref D) (compEnvC scope cl C X.env)) (fun _ s2 => ∃ H2, Inv (X.blk s H scope (compEnvC scope cl C X.env) fp) pins σ' H2 s2 ∧ P H2) (fun _ _ => False) s')
    (hs1 : ∀ env x, foldedSetIterable iter1 env x = pure x)
    (h : tC2 u0 wi g wi1 g1 te (own.map (·.2)) vs1 σ H Q)
    (hRR : ∀ D C s' m H', Inv X pins σ H' s' → Q (.ref D) H' → s'.heap.Ns C m → FpOk X pins H' C → compPost (model X.prog X.w) X.A X.xe use Qf (.ref D) C (.ok .next) s') :
    wpAny (model X.prog X.w) X.A (comprehension node scope X.env pos' newA false (eval iter X.env) use) Qf X.xe s :=
  comp2_coreD (u0 := fun _ => u0) T2 hnew hlaid hc hN I hi ok hv hg hs hi1 hg1 hem hs1 h hRR
/-- {k: v for .. in .. for .. in ..}, the keys numbers or texts -/
def teD (tk tv : TE) : Addr → L2.St → Hp → (Hp → Prop) → Prop := fun D σ H P => tk σ H fun y H4 => tv σ H4 fun z H5 => ∃ kvs k, y = kV k ∧ H5 D = some (.dK kvs) ∧ kvs.length < sizeLine ∧ P (upd H5 D (.dK (putK kvs k z)))
theorem pe_dc2 {kx vx tg iter tg1 iter1 : Expr} {scope : Scope} {own : List (Str × Nat)} {vs1 : List Nat} {pos : Pos} {wi wi1 : TI} {g g1 : TG} {tk tv : TE} (hc : X.calm = true) (hN : X.N.Nodup) (hi : PI X tg iter wi) (ok : BlkOk X.N X.env.scope scope own) (hv : ∀ i ∈ vs1, i ∈ own.map (·.2))
    (hg : ∀ (s : Shared) (H : Hp) (C : Addr) (cl : List (Str × Addr)) (fp : List Addr), PG (X.blk s H scope (compEnvC scope cl C X.env) fp) tg g)
    (hi1 : ∀ (s : Shared) (H : Hp) (C : Addr) (cl : List (Str × Addr)) (fp : List Addr), PI (X.blk s H scope (compEnvC scope cl C X.env) fp) tg1 iter1 wi1)
    (hg1 : ∀ (s : Shared) (H : Hp) (C : Addr) (cl : List (Str × Addr)) (fp : List Addr), PG (X.blk s H scope (compEnvC scope cl C X.env) fp) tg1 g1)
    (hk : ∀ (s : Shared) (H : Hp) (C : Addr) (cl : List (Str × Addr)) (fp : List Addr), PE (X.blk s H scope (compEnvC scope cl C X.env) fp) kx tk)
    (he : ∀ (s : Shared) (H : Hp) (C : Addr) (cl : List (Str × Addr)) (fp : List Addr), PE (X.blk s H scope (compEnvC scope cl C X.env) fp) vx tv)
    (hs : ∀ x, foldedSetIterable iter X.env x = pure x := by intro _; rfl) (hs1 : ∀ env x, foldedSetIterable iter1 env x = pure x := by intro _ _; rfl) :
    PE X (.DictComp kx vx [⟨tg, iter, [], 0⟩, ⟨tg1, iter1, [], 0⟩] scope pos) (tC2 (.dK []) wi g wi1 g1 (teD tk tv) (own.map (·.2)) vs1) := by
  refine ⟨fun pins s σ H Q I h => ?_⟩
  rw [arm_eval_DictComp]
  refine comp2_core (ob := { cls := .type "dict", data := .dict #[] }) (turns_dict kx vx tg iter tg1 iter1 scope pos) (fun A s Q E q => wpAny_newObj_type q) (fun s H I => dk_empty s.heap I.big) hc hN I hi ok hv hg hs hi1 hg1 (fun s H C cl fp pins s' σ' H' D P I' q => ?_) hs1 h fun D C s' m H' I' q hn f => ⟨m, hn, fun h'' sb => ?_⟩
  · refine wpAny_bind (thn ((hk s H C cl fp).run pins s' σ' H' _ I' q) fun z s10 ⟨yk, H10, I10, r10, q10⟩ => wpAny_bind (wpAny_holding (thn ((he s H C cl fp).run pins s10 σ' H10 _ I10 q10) fun z2 s11 ⟨yv, H11, I11, r11, kvs, k, ek, hD, hz, nx⟩ => ?_)))
    subst ek
    exact wpAny_bind (wpAny_standAt (wpAny_holding (d_dictSet (X := X.blk s H scope (compEnvC scope cl C X.env) fp) I11 hD hz r10 r11 fun s12 I12 => ⟨_, I12, nx⟩)))
  · obtain ⟨f0, f1, f2, f3, f4, f5⟩ := f
    exact ⟨.ref D, H', I'.turned (t' := s'.toks) (fun b o hb e => (sb.2 b hb).trans e) f0 f1 f3 f4 f5, rfl, q⟩
end
end Fk
namespace Fk
open PySem PySem.Spec PyProof.Rows L2
/-- it is a link -/
structure Lk.ok (x : Lk) : Prop where
  c0 : 0 ≤ x.c
  c1 : x.c ≤ 1000000
  m0 : 0 ≤ x.m
  m1 : x.m ≤ 1000000
  pa : Place x.a
  pb : Place x.b
  lt : Lts x.a x.b
theorem Lk.ok.four {x : Lk} (h : x.ok) : fourV x.vs = true := by
  have e : (decide (0 ≤ x.c) && decide (x.c ≤ 1000000) && (decide (0 ≤ x.m) && decide (x.m ≤ 1000000)) && (decide (Place x.a) && decide (Place x.b) && decide (Lts x.a x.b))) = true := by
    simp [h.c0, h.c1, h.m0, h.m1, h.pa, h.pb, h.lt]
  exact e
/-- these links stand there -/
def Lks (H : Hp) (L : List (Addr × Lk)) : Prop := ∀ q ∈ L, H q.1 = some (.tup q.2.vs) ∧ q.2.ok
abbrev rfs (L : List (Addr × Lk)) : List V := L.map fun q => V.ref q.1
abbrev lks (L : List (Addr × Lk)) : List Lk := L.map (·.2)
theorem Lks.ex {H H' : Hp} {L : List (Addr × Lk)} (h : Lks H L) (e : Evl.Ex H H') : Lks H' L := fun q m => ⟨e _ _ (h q m).1, (h q m).2⟩
theorem Lks.go {H H' : Hp} {L : List (Addr × Lk)} {d : Addr} {n : Nat} (h : Lks H L) (g : Go d H H') (hd : Drw H d n) : Lks H' L := fun q m => ⟨g _ _ (fun e => by
  obtain ⟨a, b, c, hd, _⟩ := hd
  have z := (h q m).1
  rw [e, hd] at z
  cases z) (h q m).1, (h q m).2⟩
theorem Lks.sub {H : Hp} {L M : List (Addr × Lk)} (h : Lks H L) (s : ∀ q ∈ M, q ∈ L) : Lks H M := fun q m => h q (s q m)
theorem Lks.nil (H : Hp) : Lks H [] := fun _ m => nomatch m
theorem Lks.app {H : Hp} {L M : List (Addr × Lk)} (h : Lks H L) (k : Lks H M) : Lks H (L ++ M) := fun q m => (List.mem_append.mp m).elim (h q) (k q)
theorem str_lay {s : Str} (h : Place s) : PyData.canLay0 (.str s) = true := by
  have q := h.2.2
  simp only [PyData.canLay0, PyData.strOk, Array.all_eq_true]
  exact fun i hi => by
    have := (q (s.cps[i]) (by simp)).2
    simp only [decide_eq_true_eq]
    omega
theorem lk_lay {x : Lk} (h : x.ok) : PyData.canLay0 x.data = true := by
  simp [Lk.data, PyData.canLay0, PyData.canLayAll0]
  have a := str_lay h.pa
  have b := str_lay h.pb
  simp only [PyData.canLay0] at a b
  exact ⟨a, b⟩
theorem lks_lay : ∀ {L : List Lk}, (∀ x ∈ L, x.ok) → PyData.canLayAll0 (L.map Lk.data) = true
  | [], _ => rfl
  | x :: r, h => by
    show (PyData.canLay0 x.data && PyData.canLayAll0 (r.map Lk.data)) = true
    rw [lk_lay (h x List.mem_cons_self), lks_lay fun y m => h y (List.mem_cons_of_mem _ m)]
    rfl
theorem lks_depth : ∀ L : List Lk, PyData.depthAll (L.map Lk.data) ≤ 1
  | [] => Nat.zero_le _
  | x :: r => by
    have e := lks_depth r
    show max (PyData.depth x.data) (PyData.depthAll (r.map Lk.data)) ≤ 1
    have e1 : PyData.depth x.data = 1 := rfl
    omega
theorem lk_shaped {x : Lk} (h : x.ok) : SeqAt.shaped x.data = true := by
  show (PyData.canLay0 x.data && decide (PyData.depth x.data ≤ 64)) = true
  rw [lk_lay h]
  have e1 : PyData.depth x.data = 1 := rfl
  rw [e1]; rfl
theorem lks_shaped {L : List Lk} (h : ∀ x ∈ L, x.ok) : SeqAt.shaped (.list (L.map Lk.data)) = true := by
  show (PyData.canLayAll0 (L.map Lk.data) && decide (PyData.depthAll (L.map Lk.data) + 1 ≤ 64)) = true
  rw [lks_lay h]
  have e := lks_depth L
  have : PyData.depthAll (L.map Lk.data) + 1 ≤ 64 := by omega
  simp [this]
theorem lk_eqv (x y : Lk) : PyData.eqv x.data y.data = decide (x = y) := by
  obtain ⟨c, m, a, b⟩ := x
  obtain ⟨c', m', a', b'⟩ := y
  simp only [Lk.data, PyData.eqv, PyData.eqvAll, Lk.mk.injEq, Bool.and_true]
  rw [Bool.eq_iff_iff]
  simp [and_assoc]
theorem lks_eqv : ∀ L M : List Lk, PyData.eqvAll (L.map Lk.data) (M.map Lk.data) = decide (L = M)
  | [], [] => rfl
  | [], _ :: _ => rfl
  | _ :: _, [] => rfl
  | x :: L, y :: M => by
    show (PyData.eqv x.data y.data && PyData.eqvAll (L.map Lk.data) (M.map Lk.data)) = _
    rw [lk_eqv, lks_eqv L M, Bool.eq_iff_iff]
    simp
section
variable {K : PySem.W.Frag} {H : Hp} {Q : VK} {p p2 t : Addr} {x : Lk} {L M : List (Addr × Lk)}
theorem dp_lk (h : H t = some (.tup x.vs)) : Dp K H (.ref t) x.data := .tup (SqT.of h) (.cons (.int _) (.cons (.int _) (.cons (.str _) (.cons (.str _) .nil))))
theorem dp_lks : ∀ {L : List (Addr × Lk)}, Lks H L → DpAll K H (rfs L) ((lks L).map Lk.data)
  | [], _ => .nil
  | q :: L, h => .cons (dp_lk (h q List.mem_cons_self).1) (dp_lks fun r m => h r (List.mem_cons_of_mem _ m))
theorem Lks.all (h : Lks H L) : ∀ x ∈ lks L, x.ok := fun x m => by
  obtain ⟨q, mq, rfl⟩ := List.mem_map.mp m
  exact (h q mq).2
theorem any_lk (x : Lk) : ∀ L : List Lk, ((L.map Lk.data).any fun z => PyData.eqv z x.data) = decide (x ∈ L)
  | [] => rfl
  | y :: L => by
    rw [List.map_cons, List.any_cons, lk_eqv, any_lk x L, Bool.eq_iff_iff]
    simp only [Bool.or_eq_true, decide_eq_true_eq, List.mem_cons]
    exact ⟨fun z => z.imp Eq.symm id, fun z => z.imp Eq.symm id⟩
/-- whether a link is in a list of links -/
theorem w_inLk (h : H t = some (.tup x.vs)) (ok : x.ok) (hp : SqL K H p (rfs L)) (hL : Lks H L) (q : Q (.bl (decide (x ∈ lks L))) H) : rInD K (.ref t) (.ref p) H Q :=
  ⟨x.data, _, dp_lk h, .lst hp (dp_lks hL), lk_shaped ok, lks_shaped hL.all, by rw [any_lk]; exact q⟩
theorem w_ninLk (h : H t = some (.tup x.vs)) (ok : x.ok) (hp : SqL K H p (rfs L)) (hL : Lks H L) (q : Q (.bl (!decide (x ∈ lks L))) H) : rNotInD K (.ref t) (.ref p) H Q :=
  ⟨x.data, _, dp_lk h, .lst hp (dp_lks hL), lk_shaped ok, lks_shaped hL.all, by rw [any_lk]; exact q⟩
/-- two lists of links -/
theorem w_eqLk (hp : SqL K H p (rfs L)) (hL : Lks H L) (hp2 : SqL K H p2 (rfs M)) (hM : Lks H M) (q : Q (.bl (decide (lks L = lks M))) H) : rEqD K (.ref p) (.ref p2) H Q :=
  w_eqD (.lst hp (dp_lks hL)) (.lst hp2 (dp_lks hM)) (lks_shaped hL.all) (lks_shaped hM.all) (by show Q (.bl (PyData.eqvAll ((lks L).map Lk.data) ((lks M).map Lk.data))) H; rw [lks_eqv]; exact q)
theorem w_neLk (hp : SqL K H p (rfs L)) (hL : Lks H L) (hp2 : SqL K H p2 (rfs M)) (hM : Lks H M) (q : Q (.bl (!decide (lks L = lks M))) H) : rNeD K (.ref p) (.ref p2) H Q :=
  w_neD (.lst hp (dp_lks hL)) (.lst hp2 (dp_lks hM)) (lks_shaped hL.all) (lks_shaped hM.all) (by show Q (.bl (!PyData.eqvAll ((lks L).map Lk.data) ((lks M).map Lk.data))) H; rw [lks_eqv]; exact q)
/-- whether a place stands in a link -/
theorem w_inPl {s : Str} (h : H t = some (.tup x.vs)) (q : Q (.bl (decide (s = x.a ∨ s = x.b))) H) : rIn K false (.str s) (.ref t) H Q :=
  ⟨t, x.vs, rfl, .inr (SqT.of h), rfl, rfl, by
    have e : inV (.str s) x.vs = decide (s = x.a ∨ s = x.b) := by
      show (false || (false || ((x.a == s) || ((x.b == s) || false)))) = _
      rw [Bool.eq_iff_iff]
      simp only [Bool.false_or, Bool.or_false, Bool.or_eq_true, beq_iff_eq, decide_eq_true_eq]
      exact ⟨fun z => z.imp Eq.symm Eq.symm, fun z => z.imp Eq.symm Eq.symm⟩
    show Q (.bl (inV (.str s) x.vs)) H
    rw [e]
    exact q⟩
end
theorem r65 {k : Nat} {A : Around} (r : Room k A) : A.units + 65 < cLine := by have := r.un; omega
section
variable {X : Cx} (K : PySem.W.Frag)
theorem kInD (hu : X.A.units + 65 < cLine) (h : X.K = K := by rfl) : OpR X (compareOp .In) (rInD K) := by subst h; exact op_inD hu
theorem kNotInD (hu : X.A.units + 65 < cLine) (h : X.K = K := by rfl) : OpR X (compareOp .NotIn) (rNotInD K) := by subst h; exact op_notInD hu
end
end Fk
namespace Fk
open PySem PySem.Spec PyProof.Rows L2
section
variable {σ : L2.St} {H : Hp} {Q : VK} {K : PySem.W.Frag} {g : TG} {tt : TT} {te tk tv td ty tx : TE} {vs : List Nat} {D : Ends}
def DcTurn (g : TG) (tt : TT) (tk tv : TE) (vs : List Nat) (σ : L2.St) (C : Addr) (x : V) (H' : Hp) (Nx : Hp → Prop) : Prop := g x (wipe σ vs) H' fun σ2 H2 => wipe σ2 vs = wipe σ vs ∧ tt σ2 H2 fun b H3 =>
  if b = true then tk σ2 H3 fun y H4 => tv σ2 H4 fun z H5 => ∃ kvs k, y = kV k ∧ H5 C = some (.dK kvs) ∧ kvs.length < sizeLine ∧ Nx (upd H5 C (.dK (putK kvs k z))) else Nx H3
def DcGo (g : TG) (tt : TT) (tk tv : TE) (vs : List Nat) (σ : L2.St) (Q : VK) (J : It) (H1 : Hp) : Prop := ∀ C, H1 C = none → ∃ W : Nat → Nat → Hp → Prop, (∃ m, W 0 m (upd H1 C (.dK []))) ∧ ∀ i m H, W i m H →
  (J.stop i H ∧ Q (.ref C) H) ∨ (J.go i H ∧ ∃ Nx : Hp → Prop, (∀ H', Nx H' → ∃ m', m' < m ∧ W (i + 1) m' H') ∧ ∀ x H', J.yld i H x H' → DcTurn g tt tk tv vs σ C x H' Nx)
theorem w_dc {wi : TI} (h : wi σ H fun J H1 => DcGo g tt tk tv vs σ Q J H1) : tDc wi g tt tk tv vs σ H Q := h
/-- over the pairs of a dict that is locked -/
theorem dcI {d : Addr} {o : Obj} {kvs : List (Key × V)} (Pv : Addr → Nat → Hp → Prop) (h0 : ∀ C, H C = none → Pv C 0 (upd H C (.dK []))) (hl : ∀ C i H', H C = none → i ≤ kvs.length → Pv C i H' → H' d = some (.frz o (.dK kvs)))
    (hs : ∀ C i k v T H', H C = none → kvs[i]? = some (k, v) → Pv C i H' → H' T = none → DcTurn g tt tk tv vs σ C (.ref T) (upd H' T (.tup [kV k, v])) (Pv C (i + 1))) (hd : ∀ C H', H C = none → Pv C kvs.length H' → Q (.ref C) H') : DcGo g tt tk tv vs σ Q (Iti d o kvs) H := fun C hC => by
  refine ⟨fun i m H => m = kvs.length - i ∧ i ≤ kvs.length ∧ Pv C i H, ⟨kvs.length, by simp, Nat.zero_le _, h0 C hC⟩, ?_⟩
  rintro i m H' ⟨rfl, hi, p⟩
  rcases Nat.lt_or_eq_of_le hi with lt | e
  · refine .inr ⟨⟨hl C i H' hC hi p, lt⟩, Pv C (i + 1), fun H2 p2 => ⟨_, by omega, rfl, lt, p2⟩, fun x H2 y => ?_⟩
    obtain ⟨T, k, v, e, rfl, hT, rfl⟩ := y
    exact hs C i k v T H' hC e p hT
  · subst e
    exact .inl ⟨⟨hl C _ H' hC hi p, Nat.le_refl _⟩, hd C H' hC p⟩
theorem w_iI {R : It → Hp → Prop} (h : td σ H fun x H1 => ∃ d o kvs, x = .ref d ∧ H1 d = some (.frz o (.dK kvs)) ∧ R (Iti d o kvs) H1) : iItems td σ H R := h
theorem w_i1 {R : It → Hp → Prop} {d : Addr} {o : Obj} {kvs : List (Key × V)} (h : H d = some (.frz o (.dK kvs))) (q : R (Iti d o kvs) H) : ∃ e o kvs, (V.ref d) = .ref e ∧ H e = some (.frz o (.dK kvs)) ∧ R (Iti e o kvs) H := ⟨d, o, kvs, rfl, h, q⟩
/-- a dict is locked while it is walked -/
theorem w_lockE {t : TE} {d : Addr} {kvs : List (Key × V)} (h : H d = some (.dK kvs)) (q : ∀ od, t σ (upd H d (.frz od (.dK kvs))) fun v H' => H' d = some (.frz od (.dK kvs)) ∧ Q v (upd H' d (.dK kvs))) : tLockE t σ H Q := ⟨d, _, h, trivial, q⟩
def C2Turn (g : TG) (wi1 : TI) (g1 : TG) (te : Addr → L2.St → Hp → (Hp → Prop) → Prop) (vs vs1 : List Nat) (σ : L2.St) (C : Addr) (x : V) (H' : Hp) (Nx : Hp → Prop) : Prop := g x (wipe σ vs) H' fun σ2 H2 => wipe σ2 vs = wipe σ vs ∧ wi1 σ2 H2 fun J1 H4 =>
    ∃ W1 : Nat → Nat → Hp → Prop, (∃ m, W1 0 m H4) ∧ ∀ j k H, W1 j k H → (J1.stop j H ∧ Nx H) ∨ (J1.go j H ∧ ∃ Nx1 : Hp → Prop, (∀ H', Nx1 H' → ∃ k', k' < k ∧ W1 (j + 1) k' H') ∧
      ∀ x H', J1.yld j H x H' → g1 x (wipe σ2 vs1) H' fun σ3 H5 => wipe σ3 vs1 = wipe σ2 vs1 ∧ te C σ3 H5 Nx1)
def C2Go (u0 : HO) (g : TG) (wi1 : TI) (g1 : TG) (te : Addr → L2.St → Hp → (Hp → Prop) → Prop) (vs vs1 : List Nat) (σ : L2.St) (Q : VK) (J : It) (H1 : Hp) : Prop := ∀ C, H1 C = none → ∃ W : Nat → Nat → Hp → Prop, (∃ m, W 0 m (upd H1 C u0)) ∧ ∀ i m H, W i m H →
  (J.stop i H ∧ Q (.ref C) H) ∨ (J.go i H ∧ ∃ Nx : Hp → Prop, (∀ H', Nx H' → ∃ m', m' < m ∧ W (i + 1) m' H') ∧ ∀ x H', J.yld i H x H' → C2Turn g wi1 g1 te vs vs1 σ C x H' Nx)
variable {u0 : HO} {wi1 : TI} {g1 : TG} {t2 : Addr → L2.St → Hp → (Hp → Prop) → Prop} {vs1 : List Nat}
theorem w_c2 {wi : TI} (h : wi σ H fun J H1 => C2Go u0 g wi1 g1 t2 vs vs1 σ Q J H1) : tC2 u0 wi g wi1 g1 t2 vs vs1 σ H Q := h
theorem c2L {a : Addr} {xs : List V} (Pv : Addr → Nat → Hp → Prop) (h0 : ∀ C, H C = none → Pv C 0 (upd H C u0)) (hl : ∀ C i H', H C = none → i ≤ xs.length → Pv C i H' → SqL K H' a xs)
    (hs : ∀ C i x H', H C = none → xs[i]? = some x → Pv C i H' → C2Turn g wi1 g1 t2 vs vs1 σ C x H' (Pv C (i + 1))) (hd : ∀ C H', H C = none → Pv C xs.length H' → Q (.ref C) H') : C2Go u0 g wi1 g1 t2 vs vs1 σ Q (Itl K a) H := fun C hC => by
  refine ⟨fun i m H => m = xs.length - i ∧ i ≤ xs.length ∧ Pv C i H, ⟨xs.length, by simp, Nat.zero_le _, h0 C hC⟩, ?_⟩
  rintro i m H' ⟨rfl, hi, p⟩
  have q := hl C i H' hC hi p
  rcases Nat.lt_or_eq_of_le hi with lt | e
  · refine .inr ⟨⟨xs, xs[i], q, by simp [lt]⟩, Pv C (i + 1), fun H2 p2 => ⟨_, by omega, rfl, lt, p2⟩, fun x H2 y => ?_⟩
    obtain ⟨e, y⟩ := y
    subst e
    exact hs C i x _ hC (y xs q) p
  · subst e
    exact .inl ⟨⟨xs, q, Nat.le_refl _⟩, hd C H' hC p⟩
/-- the second clause over a tuple -/
theorem c2T {b : Addr} {ys : List V} {σ2 : L2.St} {C : Addr} {Nx : Hp → Prop} {H4 : Hp} (P1 : Nat → Hp → Prop) (h0 : P1 0 H4) (hl : ∀ j H', j ≤ ys.length → P1 j H' → SqT K H' b ys)
    (hs : ∀ j y H', ys[j]? = some y → P1 j H' → g1 y (wipe σ2 vs1) H' fun σ3 H5 => wipe σ3 vs1 = wipe σ2 vs1 ∧ t2 C σ3 H5 (P1 (j + 1))) (hd : ∀ H', P1 ys.length H' → Nx H') :
    ∃ W1 : Nat → Nat → Hp → Prop, (∃ m, W1 0 m H4) ∧ ∀ j k H, W1 j k H → ((Itt K b).stop j H ∧ Nx H) ∨ ((Itt K b).go j H ∧ ∃ Nx1 : Hp → Prop, (∀ H', Nx1 H' → ∃ k', k' < k ∧ W1 (j + 1) k' H') ∧
      ∀ x H', (Itt K b).yld j H x H' → g1 x (wipe σ2 vs1) H' fun σ3 H5 => wipe σ3 vs1 = wipe σ2 vs1 ∧ t2 C σ3 H5 Nx1) := by
  refine ⟨fun i m H => m = ys.length - i ∧ i ≤ ys.length ∧ P1 i H, ⟨ys.length, by simp, Nat.zero_le _, h0⟩, ?_⟩
  rintro i m H' ⟨rfl, hi, p⟩
  have q := hl i H' hi p
  rcases Nat.lt_or_eq_of_le hi with lt | e
  · refine .inr ⟨⟨ys, ys[i], q, by simp [lt]⟩, P1 (i + 1), fun H2 p2 => ⟨_, by omega, rfl, lt, p2⟩, fun x H2 y => ?_⟩
    obtain ⟨e, y⟩ := y
    subst e
    exact hs i x _ (y ys q) p
  · subst e
    exact .inl ⟨⟨ys, q, Nat.le_refl _⟩, hd H' p⟩
/-- [.. for i, x in enumerate(a list) ..] -/
theorem lcE {a : Addr} {xs : List V} (Pv : Addr → Nat → Hp → Prop) (h0 : ∀ C, H C = none → Pv C 0 (upd H C (.lst []))) (hl : ∀ C i H', H C = none → i ≤ xs.length → Pv C i H' → SqL K H' a xs)
    (hs : ∀ C i x T H', H C = none → xs[i]? = some x → Pv C i H' → H' T = none → LcTurn g tt te vs σ C (.ref T) (upd H' T (.tup [.int (i : Nat), x])) (Pv C (i + 1))) (hd : ∀ C H', H C = none → Pv C xs.length H' → Q (.ref C) H') : LcGo g tt te vs σ Q (Ite K a) H := fun C hC =>
  lc_it (walk_enum (xs := xs)) (Pv C) (h0 C hC) (fun i H' hi p => hl C i H' hC hi p) (fun i x H1 H2 hi p y => by
    obtain ⟨T, x1, x2, rfl, hT, rfl, e1, e2⟩ := y
    cases e1
    exact hs C i x2 T H1 hC e2 p hT) (fun H' p => hd C H' hC p)
theorem w_dget (h : td σ H fun x H1 => ty σ H1 fun y H2 => ∃ a v, x = .ref a ∧ DGet H2 a y (some v) ∧ Q v H2) : tDGet td ty σ H Q := h
theorem w_dg {a : Addr} {kvs : List (Key × V)} {z : Str} {v : V} (h : H a = some (.dK kvs)) (e : valV kvs (Sum.inr z) = some v) (q : Q v H) : ∃ b w, (V.ref a) = .ref b ∧ DGet H b (.str z) (some w) ∧ Q w H := ⟨a, v, rfl, e ▸ DGet.k (k := Sum.inr z) h, q⟩
theorem w_dget2 (h : td σ H fun x H1 => ∃ a, x = .ref a ∧ IsD H1 a ∧ ty σ H1 fun y H2 => tx σ H2 fun z H3 => ∃ o, DGet H3 a y o ∧ Q (o.getD z) H3) : tDGet2 td ty tx σ H Q := h
theorem w_dput (h : tv σ H fun v H1 => td σ H1 fun x H2 => ty σ H2 fun y H3 => ∃ a H4, x = .ref a ∧ DPut H3 a y v H4 ∧ D.nx σ H4) : sDPut td ty tv D σ H := h
theorem w_dp {a : Addr} {kvs : List (Key × V)} {z : Str} {v : V} (h : H a = some (.dK kvs)) (hl : kvs.length < sizeLine) (q : D.nx σ (upd H a (.dK (putK kvs (Sum.inr z) v)))) : ∃ b H4, (V.ref a) = .ref b ∧ DPut H b (.str z) v H4 ∧ D.nx σ H4 := ⟨a, _, rfl, DPut.k (k := Sum.inr z) h hl, q⟩
theorem w_callN {sp : Sp} {gV : List V → List V → List V} {E : XK} {t t' : TA} {n m : Nat} (h : t σ H fun ws H1 => t' σ H1 fun zs H2 => ws.length = n ∧ zs.length = m ∧ sp (gV ws zs) H2 Q E) : tCallN n m sp gV E t t' σ H Q := h
end
section
variable {X : Cx}
theorem ps_no {st : Stmt} : PS X st (fun _ _ _ => False) := ⟨fun _ _ _ _ _ _ h => h.elim⟩
end
theorem val_map {ks : List Str} {f : Str → V} {z : Str} (h : z ∈ ks) : valV (ks.map fun k => ((Sum.inr k : Key), f k)) (Sum.inr z) = some (f z) := by
  induction ks with
  | nil => cases h
  | cons k ks ih =>
    rw [List.map_cons]
    by_cases e : k = z
    · subst e
      exact valV_pos rfl
    · rw [valV_neg (fun q => e (Sum.inr.inj q))]
      exact ih ((List.mem_cons.mp h).resolve_left fun q => e q.symm)
theorem val_put {kvs : List (Key × V)} {k z : Key} {v : V} : valV (putK kvs k v) z = if z = k then some v else valV kvs z := by
  unfold putK
  by_cases c : (kvs.any fun kv => decide (kv.1 = k)) = true
  · rw [if_pos c]
    induction kvs with
    | nil => simp at c
    | cons p r ih =>
      rw [List.map_cons]
      by_cases e : p.1 = k
      · rw [if_pos e]
        by_cases ez : z = k
        · rw [if_pos ez]
          exact valV_pos (e.trans ez.symm)
        · rw [if_neg ez]
          have n1 : ¬ p.1 = z := fun q => ez (q.symm.trans e)
          rw [valV_neg (show ¬ ((p.1, v) : Key × V).1 = z from n1), valV_neg n1]
          have same : ∀ r : List (Key × V), valV (r.map fun kv => if kv.1 = k then (kv.1, v) else kv) z = valV r z := by
            intro r
            induction r with
            | nil => rfl
            | cons q r ih2 =>
              rw [List.map_cons]
              by_cases eq : q.1 = k
              · rw [if_pos eq]
                have nq : ¬ q.1 = z := fun x => ez (x.symm.trans eq)
                rw [valV_neg (show ¬ ((q.1, v) : Key × V).1 = z from nq), valV_neg nq, ih2]
              · rw [if_neg eq]
                by_cases qz : q.1 = z
                · rw [valV_pos qz, valV_pos qz]
                · rw [valV_neg qz, valV_neg qz, ih2]
          exact same r
      · rw [if_neg e]
        have c' : (r.any fun kv => decide (kv.1 = k)) = true := by simpa [e] using c
        by_cases pz : p.1 = z
        · rw [valV_pos pz, valV_pos pz, if_neg (fun q => e (pz.trans q))]
        · rw [valV_neg pz, valV_neg pz]
          exact ih c'
  · rw [if_neg c]
    have none' : valV kvs k = none := by
      unfold valV
      have : kvs.find? (fun kv => decide (kv.1 = k)) = none := by
        rw [List.find?_eq_none]
        intro p m q
        exact c (List.any_eq_true.mpr ⟨p, m, q⟩)
      rw [this]; rfl
    have app : ∀ r : List (Key × V), valV (r ++ [(k, v)]) z = if z = k then (valV r z).or (some v) else valV r z := by
      intro r
      induction r with
      | nil =>
        by_cases ez : z = k
        · rw [if_pos ez]; exact valV_pos ez.symm
        · rw [if_neg ez, List.nil_append, valV_neg (fun q => ez q.symm)]
      | cons p r ih =>
        rw [List.cons_append]
        by_cases pz : p.1 = z
        · rw [valV_pos pz, valV_pos pz]
          split <;> rfl
        · rw [valV_neg pz, valV_neg pz]
          exact ih
    rw [app]
    by_cases ez : z = k
    · rw [if_pos ez, if_pos ez, ez, none']; rfl
    · rw [if_neg ez, if_neg ez]
end Fk
namespace Fk
open PySem PySem.Spec PyProof.Rows L2
section
variable {X : Cx}
theorem sw_dict {kx vx : Expr} {gs : List Comprehension} {scope : Scope} {pos py : Pos} {y : Str} {l : Nat} {env : Env} (hk : env.scope.kind = .function) (hy : env.scope.names.lookup y = some .local) (hl : (py.line == pos.line) = true)
    (ha : (scope.names.any fun (n, k) => n == y && (k == .local || k == .cell)) = false) : swapsWith (.DictComp kx vx gs scope pos) (some (.Name y py)) l env = pure true := by
  have ky : env.kindOf y = some .local := hy
  have kb : env.blockKind = .function := by unfold Env.blockKind; rw [hk]; rfl
  unfold swapsWith
  simp only [kb, ky, ha, Expr.pos, hl]
  rfl
theorem kept_store {i : Nat} {y : Str} {py : Pos} {pins : List (Addr × Obj)} {σ : L2.St} {D : Ends} {L C : Addr} {s' : Shared} {m : Str → Option Value} {H' : Hp} (hN : X.N.Nodup) (hy : X.N[i]? = some y) (hyl : X.env.scope.names.lookup y = some .local)
    (I' : Inv X pins σ H' s') (q : gName i (.ref L) σ H' D.nx) (hn : s'.heap.Ns C m) (f : FpOk X pins H' C) :
    compPost (model X.prog X.w) X.A X.xe (some (assign (.Name y py) X.env)) (fun _ s' => SP X pins D .next s') (.ref L) C (.ok .next) s' := by
  show wpAny _ _ (assign (.Name y py) X.env (.ref L)) _ _ _
  refine wpAny_assign_Name (store_ok2 (v := V.ref L) I' hN hy (.inl hyl) rfl (fun s2 I2 ⟨a, sb, ha⟩ => ?_) (.inr hyl))
  obtain ⟨f0, f1, f2, f3, f4, f5⟩ := f
  have apart : C ≠ a := ha.elim (fun z => by rw [z]; exact f1) fun z => fun e => f4 y a z e.symm
  exact ⟨m, hn.sameBut sb apart, fun h3 sb3 => ⟨_, H', I2.turned (t' := s2.toks) (fun b o hb e => (sb3.2 b hb).trans e) f0 f1 f3 f4 f5, q⟩⟩
theorem ps_setDc {i : Nat} {y : Str} {py : Pos} {kx vx tg iter : Expr} {ifs : List Expr} {scope : Scope} {own : List (Str × Nat)} {pos spos : Pos} {wi : TI} {g : TG} {tt : TT} {tk tv : TE} (hc : X.calm = true) (hN : X.N.Nodup) (hy : X.N[i]? = some y) (hyl : X.env.scope.names.lookup y = some .local)
    (hsw : swapsWith (.DictComp kx vx [⟨tg, iter, ifs, 0⟩] scope pos) (some (.Name y py)) spos.line X.env = pure true) (hi : PI X tg iter wi) (ok : BlkOk X.N X.env.scope scope own)
    (hg : ∀ (s : Shared) (H : Hp) (C : Addr) (cl : List (Str × Addr)) (fp : List Addr), PG (X.blk s H scope (compEnvC scope cl C X.env) fp) tg g) (ht : ∀ (s : Shared) (H : Hp) (C : Addr) (cl : List (Str × Addr)) (fp : List Addr), PTs (X.blk s H scope (compEnvC scope cl C X.env) fp) ifs tt)
    (hk : ∀ (s : Shared) (H : Hp) (C : Addr) (cl : List (Str × Addr)) (fp : List Addr), PE (X.blk s H scope (compEnvC scope cl C X.env) fp) kx tk)
    (he : ∀ (s : Shared) (H : Hp) (C : Addr) (cl : List (Str × Addr)) (fp : List Addr), PE (X.blk s H scope (compEnvC scope cl C X.env) fp) vx tv) (hs : ∀ x, foldedSetIterable iter X.env x = pure x := by intro _; rfl) :
    PS X (.Assign [.Name y py] (.DictComp kx vx [⟨tg, iter, ifs, 0⟩] scope pos) spos) (tAsg (tDc wi g tt tk tv (own.map (·.2))) (gName i)) := by
  refine ⟨fun pins s σ H D I h => ?_⟩
  rw [exec_Assign_Name_used _ _ _ _ hsw]
  refine wpAny_bind (wpAny_standAt (wpAny_bind ?_))
  show wpAny _ X.A (do let _ ← comprehension (.DictComp kx vx [⟨tg, iter, ifs, 0⟩] scope pos) scope X.env (firstIterPos [⟨tg, iter, ifs, 0⟩] pos) newDict false (eval iter X.env) (some (assign (.Name y py) X.env))) _ _ s
  have h : tDc wi g tt tk tv (own.map (·.2)) σ H (fun x H1 => gName i x σ H1 D.nx) := h
  exact wpAny_bind (thn (dc_core (Qf := fun _ s' => SP X pins D .next s') hc hN I hi ok hg ht hk he hs h fun L C s' m H' I' q hn f => kept_store hN hy hyl I' q hn f) fun _ s' hq => wpAny_pure (wpAny_pure hq))
theorem ps_setDc2 {i : Nat} {y : Str} {py : Pos} {kx vx tg iter tg1 iter1 : Expr} {scope : Scope} {own : List (Str × Nat)} {vs1 : List Nat} {pos spos : Pos} {wi wi1 : TI} {g g1 : TG} {tk tv : TE} (hc : X.calm = true) (hN : X.N.Nodup) (hy : X.N[i]? = some y) (hyl : X.env.scope.names.lookup y = some .local)
    (hsw : swapsWith (.DictComp kx vx [⟨tg, iter, [], 0⟩, ⟨tg1, iter1, [], 0⟩] scope pos) (some (.Name y py)) spos.line X.env = pure true) (hi : PI X tg iter wi) (ok : BlkOk X.N X.env.scope scope own) (hv : ∀ i ∈ vs1, i ∈ own.map (·.2))
    (hg : ∀ (s : Shared) (H : Hp) (C : Addr) (cl : List (Str × Addr)) (fp : List Addr), PG (X.blk s H scope (compEnvC scope cl C X.env) fp) tg g)
    (hi1 : ∀ (s : Shared) (H : Hp) (C : Addr) (cl : List (Str × Addr)) (fp : List Addr), PI (X.blk s H scope (compEnvC scope cl C X.env) fp) tg1 iter1 wi1)
    (hg1 : ∀ (s : Shared) (H : Hp) (C : Addr) (cl : List (Str × Addr)) (fp : List Addr), PG (X.blk s H scope (compEnvC scope cl C X.env) fp) tg1 g1)
    (hk : ∀ (s : Shared) (H : Hp) (C : Addr) (cl : List (Str × Addr)) (fp : List Addr), PE (X.blk s H scope (compEnvC scope cl C X.env) fp) kx tk)
    (he : ∀ (s : Shared) (H : Hp) (C : Addr) (cl : List (Str × Addr)) (fp : List Addr), PE (X.blk s H scope (compEnvC scope cl C X.env) fp) vx tv)
    (hs : ∀ x, foldedSetIterable iter X.env x = pure x := by intro _; rfl) (hs1 : ∀ env x, foldedSetIterable iter1 env x = pure x := by intro _ _; rfl) :
    PS X (.Assign [.Name y py] (.DictComp kx vx [⟨tg, iter, [], 0⟩, ⟨tg1, iter1, [], 0⟩] scope pos) spos) (tAsg (tC2 (.dK []) wi g wi1 g1 (teD tk tv) (own.map (·.2)) vs1) (gName i)) := by
  refine ⟨fun pins s σ H D I h => ?_⟩
  rw [exec_Assign_Name_used _ _ _ _ hsw]
  refine wpAny_bind (wpAny_standAt (wpAny_bind ?_))
  show wpAny _ X.A (do let _ ← comprehension (.DictComp kx vx [⟨tg, iter, [], 0⟩, ⟨tg1, iter1, [], 0⟩] scope pos) scope X.env (firstIterPos [⟨tg, iter, [], 0⟩, ⟨tg1, iter1, [], 0⟩] pos) newDict false (eval iter X.env) (some (assign (.Name y py) X.env))) _ _ s
  have h : tC2 (.dK []) wi g wi1 g1 (teD tk tv) (own.map (·.2)) vs1 σ H (fun x H1 => gName i x σ H1 D.nx) := h
  refine wpAny_bind (thn (comp2_core (Qf := fun _ s' => SP X pins D .next s') (ob := { cls := .type "dict", data := .dict #[] }) (turns_dict kx vx tg iter tg1 iter1 scope pos) (fun A s Q E q => wpAny_newObj_type q) (fun s H I => dk_empty s.heap I.big) hc hN I hi ok hv hg hs hi1 hg1 (fun s H C cl fp pins s' σ' H' D P I' q => ?_) hs1 h fun L C s' m H' I' q hn f => kept_store hN hy hyl I' q hn f) fun _ s' hq => wpAny_pure (wpAny_pure hq))
  refine wpAny_bind (thn ((hk s H C cl fp).run pins s' σ' H' _ I' q) fun z s10 ⟨yk, H10, I10, r10, q10⟩ => wpAny_bind (wpAny_holding (thn ((he s H C cl fp).run pins s10 σ' H10 _ I10 q10) fun z2 s11 ⟨yv, H11, I11, r11, kvs, k, ek, hD, hz, nx⟩ => ?_)))
  subst ek
  exact wpAny_bind (wpAny_standAt (wpAny_holding (d_dictSet (X := X.blk s H scope (compEnvC scope cl C X.env) fp) I11 hD hz r10 r11 fun s12 I12 => ⟨_, I12, nx⟩)))
/-- a statement that walks a dict's pairs: the dict stays locked while it runs -/
theorem w_lockS {t : TS} {D : Ends} {σ : L2.St} {H : Hp} {d : Addr} {kvs : List (Key × V)} (h : H d = some (.dK kvs)) (q : ∀ od, t ⟨fun σ' H' => H' d = some (.frz od (.dK kvs)) ∧ D.nx σ' (upd H' d (.dK kvs)), fun v H' => H' d = some (.frz od (.dK kvs)) ∧ D.rt v (upd H' d (.dK kvs)),
    fun σ' H' => H' d = some (.frz od (.dK kvs)) ∧ D.bk σ' (upd H' d (.dK kvs)), fun σ' H' => H' d = some (.frz od (.dK kvs)) ∧ D.ct σ' (upd H' d (.dK kvs))⟩ σ (upd H d (.frz od (.dK kvs)))) : tLock t D σ H := ⟨d, _, h, trivial, q⟩
end
end Fk
namespace PySem
open Sem (wp)
open AutoSeq1 (wpAny_loadPart')
theorem fk_enum_new (c : Addr) (its : Array Value) (n : Nat) (od : Option Addr) (osl : Array (Option Value)) :
    Meets (Builtin.«enumerate.__new__» ⟨[.type "enumerate", .ref c], []⟩) (fun _ R s => s.heap.get? c = some { cls := .type "tuple", dict := od, data := .seq its n, slots := osl } ∧
      R (.ok (.ret (.ref (s.heap.push { cls := .type "tuple_iterator", data := .fields #[.ref c, .int 0 0] }).objs.size))) { s with heap := (s.heap.push { cls := .type "tuple_iterator", data := .fields #[.ref c, .int 0 0] }).push { cls := .type "enumerate", data := .fields #[.none, .bool false, .ref s.heap.objs.size, rawInt 0, .none, .none] } }) :=
  .of_wp fun prog w A R s ⟨e, q⟩ => by
    have sub := sub_enumerate
    obtain ⟨hp, g, d, tk, os⟩ := s
    have tup : Heap.IsTuple (Shared.heap ⟨hp, g, d, tk, os⟩) c its := ⟨_, e, rfl, n, rfl⟩
    wp_walk using wpAny_loadPart' e
    refine wpAny_stack_any (fun st => wpAny_pure ?_)
    split
    · rename_i k _ _ _ _ _
      cases (k == Value.type "enumerate") <;> (wp_walk using wpAny_loadPart' e, wpAny_pyIter_tuple tup; exact ⟨_, rfl, q⟩)
    · wp_walk using wpAny_loadPart' e, wpAny_pyIter_tuple tup
      exact ⟨_, rfl, q⟩
end PySem
namespace Fk
open PySem PySem.Spec PyProof.Rows L2
section
variable {prog : Program} {w : World} {A : Around} {E : Value → Shared → Prop} {s : Shared}
theorem enumT_call {c : Addr} {its : Array Value} {Q : Value → Shared → Prop} (hc : s.heap.IsTuple c its)
    (q : ∀ h', IsEnum h' (s.heap.objs.size + 1) s.heap.objs.size 0 .none → h'.IsTupleIter s.heap.objs.size c 0 → h'.objs.size = s.heap.objs.size + 2 → (∀ b o, s.heap.get? b = some o → h'.get? b = some o) → Q (.ref (s.heap.objs.size + 1)) { s with heap := h' }) :
    wpAny (model prog w) A (call (.type "enumerate") [.ref c]) Q E s := by
  obtain ⟨⟨cl, od, dt, osl⟩, e, e1, n, e2⟩ := hc
  replace e1 : cl = .type "tuple" := e1
  replace e2 : dt = .seq its n := e2
  subst e1 e2
  refine callType_new PySem.F.called_enumerate (by decide) (PySem.F.typeCall_enumerate_1 _) (PySem.F.newCall_enumerate_1 _) (fun obj => PySem.F.args_object_init_2 obj _) PySem.F.entry_enumerate_new (fk_enum_new c its n od osl) ⟨e, ?_⟩
  have z1 : (s.heap.push { cls := .type "tuple_iterator", data := .fields #[.ref c, .int 0 0] }).objs.size = s.heap.objs.size + 1 := Heap.size_push ..
  have at1 := Heap.get?_push_size (s.heap.push { cls := .type "tuple_iterator", data := .fields #[.ref c, .int 0 0] }) (o := { cls := .type "enumerate", data := .fields #[.none, .bool false, .ref s.heap.objs.size, rawInt 0, .none, .none] }) rfl
  show _ ∧ _
  rw [z1] at at1 ⊢
  exact ⟨⟨_, at1, rfl⟩, q _ at1 ⟨_, Heap.get?_push_of_some _ (Heap.get?_push_size _ rfl), rfl, rfl⟩ (by rw [Heap.size_push, z1]) fun b o x => Heap.get?_push_of_some _ (Heap.get?_push_of_some _ x)⟩
theorem enumT_step {e it c : Addr} {i : Nat} {its : Array Value} {x old : Value} {Q : Value → Shared → Prop} (he : IsEnum s.heap e it i old) (hit : s.heap.IsTupleIter it c i) (hc : s.heap.IsTuple c its) (hx : its[i]? = some x) (ne : e ≠ it)
    (q : ∀ h', IsEnumOut h' e it ((i : Int) + 1) x s.heap.objs.size → h'.IsTupleIter it c (i + 1) → h'.get? s.heap.objs.size = some { cls := .type "tuple", data := .seq #[.int i s.toks, x] } → h'.objs.size = s.heap.objs.size + 1 →
      (∀ b o, b ≠ e → b ≠ it → s.heap.get? b = some o → h'.get? b = some o) → Q (.ref s.heap.objs.size) { s with heap := h', toks := s.toks + 1 }) :
    wpAny (model prog w) A (Builtin.«enumerate.__next__» ⟨[.ref e], []⟩) (fun fin s' => ∃ v, fin = .done (.ret v) ∧ Q v s') E s := by
  obtain ⟨hp, g, d, tk, os⟩ := s
  have el : e < hp.objs.size := Heap.lt_size he
  show wpAny _ _ (field (.ref e) 2 >>= _) _ _ _
  refine wpAny_bind (wpAny_field he rfl (x := .ref it) rfl (wpAny_bind (RZ.nextOf_tuple_item hit hc hx fun g1 hit1 sb1 => ?_)))
  replace sb1 : Heap.SameBut it hp g1 := sb1
  have he1 : IsEnum g1 e it i old := (sb1.2 e ne).trans he
  show wpAny _ _ (field (.ref e) 3 >>= _) _ _ ⟨g1, g, d, tk, os⟩
  refine wpAny_bind (wpAny_field he1 rfl (x := rawInt i) rfl ?_)
  show wpAny _ _ (field (.ref e) 4 >>= _) _ _ ⟨g1, g, d, tk, os⟩
  refine wpAny_bind (wpAny_field he1 rfl (x := .none) rfl ?_)
  show wpAny _ _ (mkInt i >>= _) _ _ ⟨g1, g, d, tk, os⟩
  refine wpAny_bind (wpAny_mkInt ?_)
  show wpAny _ _ (setField (.ref e) 3 (rawInt ((i : Int) + 1)) >>= _) _ _ ⟨g1, g, d, tk + 1, os⟩
  refine wpAny_bind (wpAny_setField_rec he1 (by simp) fun g2 he2 sb2 => ?_)
  replace sb2 : Heap.SameBut e g1 g2 := sb2
  replace he2 : IsEnum g2 e it ((i : Int) + 1) old := he2
  show wpAny _ _ (setField (.ref e) 4 .none >>= _) _ _ ⟨g2, g, d, tk + 1, os⟩
  refine wpAny_bind (wpAny_setField_rec he2 (by simp) fun g3 he3 sb3 => ?_)
  replace sb3 : Heap.SameBut e g2 g3 := sb3
  replace he3 : IsEnum g3 e it ((i : Int) + 1) old := he3
  show wpAny _ _ (newTuple [.int i tk, x] >>= _) _ _ ⟨g3, g, d, tk + 1, os⟩
  refine wpAny_bind (wpAny_newTuple ?_)
  have z3 : g3.objs.size = hp.objs.size := by rw [sb3.1, sb2.1, sb1.1]
  have he4 : IsEnum (g3.push { cls := .type "tuple", data := .seq #[.int i tk, x] }) e it ((i : Int) + 1) old := Heap.get?_push_of_some _ he3
  have k3 : ∀ b o, b ≠ e → b ≠ it → hp.get? b = some o → (g3.push { cls := .type "tuple", data := .seq #[.int i tk, x] }).get? b = some o := fun b o n1 n2 y => Heap.get?_push_of_some _ (sb3.extBut b o n1 (sb2.extBut b o n1 (sb1.extBut b o n2 y)))
  have hit4 : (g3.push { cls := .type "tuple", data := .seq #[.int i tk, x] }).IsTupleIter it c (i + 1) := by
    obtain ⟨o, ho, r⟩ := (hit1.extBut sb2.extBut (Ne.symm ne)).extBut sb3.extBut (Ne.symm ne)
    exact ⟨o, Heap.get?_push_of_some _ ho, r⟩
  have new4 : (g3.push { cls := .type "tuple", data := .seq #[.int i tk, x] }).get? hp.objs.size = some { cls := .type "tuple", data := .seq #[.int i tk, x] } := by rw [← z3]; exact Heap.get?_push_size _ rfl
  have z4 : (g3.push { cls := .type "tuple", data := .seq #[.int i tk, x] }).objs.size = hp.objs.size + 1 := by rw [Heap.size_push, z3]
  rw [z3]
  generalize g3.push { cls := .type "tuple", data := .seq #[.int i tk, x] } = g4 at he4 k3 hit4 new4 z4
  show wpAny _ _ (Builtin.SmallTypes.ownedTupleIsFree (.ref e) >>= _) _ _ ⟨g4, g, d, tk + 1, os⟩
  refine wpAny_bind ?_
  unfold Builtin.SmallTypes.ownedTupleIsFree
  refine wpAny_bind (wpAny_field he4 rfl (x := .none) rfl (wpAny_pure ?_))
  simp only [if_true]
  refine wpAny_bind (wpAny_rule (wpAny_bind (wpAny_field he4 rfl (x := old) rfl (wpAny_bind (wpAny_setField_rec he4 (by simp) fun g5 he5 sb5 => ?_)))))
  replace sb5 : Heap.SameBut e g4 g5 := sb5
  replace he5 : IsEnum g5 e it ((i : Int) + 1) x := he5
  show wpAny _ _ (Builtin.SmallTypes.ownedTupleHandOut (.ref e) (.ref hp.objs.size) >>= _) _ _ ⟨g5, g, d, tk + 1, os⟩
  refine wpAny_bind ?_
  unfold Builtin.SmallTypes.ownedTupleHandOut
  refine wpAny_bind (wpAny_setField_rec he5 (by simp) fun g6 he6 sb6 => ?_)
  replace sb6 : Heap.SameBut e g5 g6 := sb6
  replace he6 : IsEnumOut g6 e it ((i : Int) + 1) x hp.objs.size := he6
  refine wpAny_setField_rec he6 (by simp) fun g7 he7 sb7 => ?_
  replace sb7 : Heap.SameBut e g6 g7 := sb7
  replace he7 : IsEnumOut g7 e it ((i : Int) + 1) x hp.objs.size := he7
  refine wpAny_bind (wpAny_letGo (wpAny_pure ⟨_, rfl, q g7 he7 (((hit4.extBut sb5.extBut (Ne.symm ne)).extBut sb6.extBut (Ne.symm ne)).extBut sb7.extBut (Ne.symm ne)) ?_ (by rw [sb7.1, sb6.1, sb5.1, z4]) fun b o n1 n2 y => sb7.extBut b o n1 (sb6.extBut b o n1 (sb5.extBut b o n1 (k3 b o n1 n2 y)))⟩))
  exact sb7.extBut _ _ (Nat.ne_of_gt el) (sb6.extBut _ _ (Nat.ne_of_gt el) (sb5.extBut _ _ (Nat.ne_of_gt el) new4))
theorem enumT_item {e it c : Addr} {i : Nat} {its : Array Value} {x old : Value} {Q : Option Value → Shared → Prop} (he : IsEnum s.heap e it i old) (hit : s.heap.IsTupleIter it c i) (hc : s.heap.IsTuple c its) (hx : its[i]? = some x) (ne : e ≠ it)
    (q : ∀ h', IsEnumOut h' e it ((i : Int) + 1) x s.heap.objs.size → h'.IsTupleIter it c (i + 1) → h'.get? s.heap.objs.size = some { cls := .type "tuple", data := .seq #[.int i s.toks, x] } → h'.objs.size = s.heap.objs.size + 1 →
      (∀ b o, b ≠ e → b ≠ it → s.heap.get? b = some o → h'.get? b = some o) → Q (some (.ref s.heap.objs.size)) { s with heap := h', toks := s.toks + 1 }) : wpAny (model prog w) A (pyNext (.ref e)) Q E s := by
  have ty : s.TypeIs (.ref e) "enumerate" := ⟨_, he, rfl⟩
  unfold pyNext
  exact wpAny_bind (wpAny_attempt (wpAny_callSpecial?_slot (name := Str.ofString "__next__") ty PySem.F.slot_enumerate_next (wpAny_call_entry PySem.F.slot_enumerate_next ty PySem.F.entry_enumerate_next (enumT_step he hit hc hx ne fun h' a1 a2 a3 a4 a5 => wpAny_pure (q h' a1 a2 a3 a4 a5)) (PySem.F.args_enumerate_next_1 _))))
theorem enumT_end {e it c : Addr} {i : Nat} {its : Array Value} {old : Value} {Q : Option Value → Shared → Prop} (hh : A.handled = none) (he : IsEnum s.heap e it i old) (hit : s.heap.IsTupleIter it c i) (hc : s.heap.IsTuple c its) (hx : its[i]? = none)
    (q : ∀ h', Heap.ExtBut it s.heap h' → Q none { s with heap := h' }) : wpAny (model prog w) A (pyNext (.ref e)) Q E s := by
  have ty : s.TypeIs (.ref e) "enumerate" := ⟨_, he, rfl⟩
  unfold pyNext
  refine wpAny_bind (wpAny_attempt (wpAny_callSpecial?_slot (name := Str.ofString "__next__") ty PySem.F.slot_enumerate_next (wpAny_call_entry PySem.F.slot_enumerate_next ty PySem.F.entry_enumerate_next ?_ (PySem.F.args_enumerate_next_1 _))))
  show wpAny _ _ (field (.ref e) 2 >>= _) _ _ _
  refine wpAny_bind (wpAny_field he rfl (x := .ref it) rfl (wpAny_bind (RZ.nextOf_tuple_end hh hit hc hx fun h' x e1 e2 => ?_)))
  obtain ⟨o, ho, hcl⟩ := e2
  exact wpAny_bind (wpAny_isInstance (T := "StopIteration") (b := true) ⟨o, ho, hcl⟩ isSubtype_stop (wpAny_pure (q _ e1)))
end
/-- the pairs of a tuple's things and their numbers -/
def IteT (K : PySem.W.Frag) (a : Addr) : It :=
  ⟨fun i H => ∃ (xs : List V) (x : V), SqT K H a xs ∧ xs[i]? = some x, fun i H v H' => ∃ T x, v = .ref T ∧ H T = none ∧ H' = upd H T (.tup [.int (i : Nat), x]) ∧ ∀ xs, SqT K H a xs → xs[i]? = some x, fun i H => ∃ xs : List V, SqT K H a xs ∧ xs.length ≤ i⟩
theorem turn_enumT {P : Program} {w : World} {K : PySem.W.Frag} {elts : List Expr} {kk : Nat} {tpos : Pos} (a e it : Addr) :
    Turn P w K (.Tuple elts kk tpos) (IteT K a) [e, it] e (fun i h => (∃ old, IsEnum h e it ((i : Nat) : Int) old) ∧ h.IsTupleIter it a i ∧ e ≠ it) where
  mem := List.mem_cons_self
  obj := fun i h st b mb => by
    obtain ⟨⟨old, he⟩, ⟨o, ho, _, hd⟩, _⟩ := st
    rcases List.mem_cons.mp mb with z | z
    · subst z; exact ⟨_, he, fun v y => nomatch y⟩
    · exact ⟨o, by rw [List.mem_singleton.mp z]; exact ho, fun v y => by rw [hd] at y; cases y⟩
  keep := fun i h h' ⟨⟨old, he⟩, ⟨o, ho, r⟩, n⟩ k => ⟨⟨old, k e (by simp) _ he⟩, ⟨o, k it (by simp) o ho, r⟩, n⟩
  item := by
    intro X eP ew eK hc i pins s σ H E I hf ⟨⟨old, he⟩, hit, ne⟩ ⟨xs, x, hq, hx⟩
    subst eP ew eK
    obtain ⟨its, rv, p, _⟩ := I.tuple hq
    obtain ⟨u, hu, ru⟩ := rv.get hx
    have el : e < s.heap.objs.size := Heap.lt_size he
    have il : it < s.heap.objs.size := let ⟨_, y, _⟩ := hit; Heap.lt_size y
    obtain ⟨oT, e1, e2, n, e3⟩ := p
    refine enumT_item he hit ⟨oT, e1, e2, n, e3⟩ (x := u) (by simpa using hu) ne fun h' ho hit' hT hsz hk => ⟨_, rfl, wpAny_letOwnedTupleGo_enum (s := { s with heap := h', toks := s.toks + 1 }) ho fun h2 he2 sb => ?_⟩
    have hT2 : h2.get? s.heap.objs.size = some { cls := .type "tuple", data := .seq #[.int i s.toks, u] } := (sb.2 _ (Nat.ne_of_gt el)).trans hT
    have I1 : Inv X pins σ (upd H s.heap.objs.size (.tup [.int (i : Nat), x])) { s with heap := h2, toks := s.toks + 1 } := I.turnedNew (ch := [e, it]) (fun b ob hb y => (sb.2 b (fun z => hb (by simp [z]))).trans (hk b ob (fun z => hb (by simp [z])) (fun z => hb (by simp [z])) y)) hf (Nat.le_refl _)
      ⟨by show 2 ≤ sizeLine; decide, [.int i s.toks, u], .cons ⟨_, rfl⟩ (.cons ru .nil), ⟨_, hT2, rfl, _, rfl⟩⟩
    have same : ∀ ys, SqT X.K H a ys → ys[i]? = some x := fun ys hy => by rw [I.tuple_inj hy hq]; exact hx
    refine ⟨.ref s.heap.objs.size, _, I1, rfl, ⟨_, x, rfl, I.hok.fresh (Nat.le_refl _), rfl, same⟩, ⟨⟨u, by rw [show ((i + 1 : Nat) : Int) = (i : Int) + 1 by omega]; exact he2⟩, ?_, ne⟩, fun b mb => ?_⟩
    · obtain ⟨o, ho2, r⟩ := hit'
      exact ⟨o, (sb.2 it (Ne.symm ne)).trans ho2, r⟩
    · have bl : b < s.heap.objs.size := by
        rcases List.mem_cons.mp mb with z | z
        · rw [z]; exact el
        · rw [List.mem_singleton.mp z]; exact il
      rw [upd_ne (Nat.ne_of_lt bl)]
      exact (hf b mb).1
  done := by
    intro X eP ew eK hc i pins s σ H E I hf ⟨⟨old, he⟩, hit, ne⟩ ⟨xs, hq, hx⟩
    subst eP ew eK
    obtain ⟨its, rv, ⟨oT, e1, e2, n, e3⟩, _⟩ := I.tuple hq
    obtain ⟨f0, f1, f2, f3, f4, f5⟩ := hf it (by simp)
    have hl := rv.length
    exact enumT_end (I.ok.hd hc) he hit ⟨oT, e1, e2, n, e3⟩ (by simp; omega) fun h' eb => ⟨rfl, I.turned (t' := s.toks) (fun b o hb y => eb b o hb y) f0 f1 f3 f4 f5⟩
  self := fun A i s Q E ⟨⟨_, he⟩, _⟩ q => wpAny_pyIter_enum he q
/-- enumerate of a list or of a tuple -/
def iEnumS (K : PySem.W.Frag) (ta : TA) : TI := fun σ H R => ta σ H fun vs H1 => ∃ a xs, vs = [.ref a] ∧ ((SqL K H1 a xs ∧ R (Ite K a) H1) ∨ (SqT K H1 a xs ∧ R (IteT K a) H1))
theorem kenumS {X : Cx} (K : PySem.W.Frag) {e : Expr} {ta : TA} {p pos tpos : Pos} {elts : List Expr} {kk : Nat} (hg : Gl X "enumerate") (hm : X.mg "enumerate" = none) (ha : PA X [e] ta) (hs : starEach [e] X.env = [(false, eval e X.env)] := by rfl) (h : X.K = K := by rfl) :
    PI X (.Tuple elts kk tpos) (.Call (.Name "enumerate" p) [e] [] pos) (iEnumS K ta) := by
  subst h
  refine ⟨fun pins s σ H R I q => Call_ (ld_blt I hg hm boot_enumerate (PyProof.Rows.callWith_type1 (thn (ha.run pos pins s σ H _ I q) fun us s1 ⟨vs, H1, I1, r1, q1⟩ => ?_) hs rfl))⟩
  obtain ⟨a, xs, ex, q⟩ := q1
  subst ex
  obtain ⟨u, r, eu⟩ : ∃ u, RelV (.ref a) u ∧ us = [u] := by
    cases r1 with | cons r rr => cases rr; exact ⟨_, r, rfl⟩
  subst eu
  obtain rfl : u = Value.ref a := r
  have both : ∀ b ∈ [s1.heap.objs.size + 1, s1.heap.objs.size], s1.heap.objs.size ≤ b := fun b mb => by
    rcases List.mem_cons.mp mb with z | z
    · rw [z]; exact Nat.le_succ _
    · rw [List.mem_singleton.mp z]; exact Nat.le_refl _
  rcases q with ⟨hq, q⟩ | ⟨hq, q⟩
  · obtain ⟨its, rv, p', _⟩ := I1.list hq
    refine call_enumerate_list p'.isList fun h' he hit hsz hk => wpAny_pyIter_enum he ?_
    exact ⟨s1.heap.objs.size + 1, [s1.heap.objs.size + 1, s1.heap.objs.size], _, _, H1, rfl, I1.kept (t' := s1.toks) hk, turn_enum a (s1.heap.objs.size + 1) s1.heap.objs.size, ⟨⟨.none, he⟩, hit, Nat.succ_ne_self _⟩, fun b mb => I1.fpOk (both b mb) (I1.hok.fresh (both b mb)), q⟩
  · obtain ⟨its, rv, ⟨oT, e1, e2, n, e3⟩, _⟩ := I1.tuple hq
    refine enumT_call ⟨oT, e1, e2, n, e3⟩ fun h' he hit hsz hk => wpAny_pyIter_enum he ?_
    exact ⟨s1.heap.objs.size + 1, [s1.heap.objs.size + 1, s1.heap.objs.size], _, _, H1, rfl, I1.kept (t' := s1.toks) hk, turn_enumT a (s1.heap.objs.size + 1) s1.heap.objs.size, ⟨⟨.none, he⟩, hit, Nat.succ_ne_self _⟩, fun b mb => I1.fpOk (both b mb) (I1.hok.fresh (both b mb)), q⟩
section
variable {K : PySem.W.Frag} {g : TG} {tu : TS} {D : Ends} {σ : L2.St} {H : Hp} {ta : TA} {R : It → Hp → Prop}
theorem w_iES (h : ta σ H fun vs H1 => ∃ a xs, vs = [.ref a] ∧ ((SqL K H1 a xs ∧ R (Ite K a) H1) ∨ (SqT K H1 a xs ∧ R (IteT K a) H1))) : iEnumS K ta σ H R := h
theorem walk_enumT {a : Addr} {xs : List V} : Walk (IteT K a) xs.length (fun H => SqT K H a xs) (YPair (fun i => some (.int (i : Nat))) (fun i => xs[i]?)) := by
  refine ⟨fun i _ hi q => ⟨xs, xs[i], q, by simp [hi]⟩, fun _ q => ⟨xs, q, Nat.le_refl _⟩, fun i H v H' _ q y => ?_⟩
  obtain ⟨T, x, y1, y2, y3, y4⟩ := y
  exact ⟨T, .int (i : Nat), x, y1, y2, y3, rfl, y4 xs q⟩
theorem forET {a : Addr} {xs : List V} (Pv : Nat → L2.St → Hp → Prop) (h0 : Pv 0 σ H) (hl : ∀ i σ' H', i ≤ xs.length → Pv i σ' H' → SqT K H' a xs)
    (hs : ∀ i x T σ' H', xs[i]? = some x → Pv i σ' H' → H' T = none → g (.ref T) σ' (upd H' T (.tup [.int (i : Nat), x])) fun σ2 H2 => tu { D with nx := Pv (i + 1), ct := Pv (i + 1), bk := D.nx } σ2 H2) (hd : ∀ σ' H', Pv xs.length σ' H' → D.nx σ' H') : ForGo g tu D σ (IteT K a) H :=
  for_it (walk_enumT (xs := xs)) Pv h0 hl (fun i x σ' H1 H2 hi p y => by
    obtain ⟨T, x1, x2, rfl, hT, rfl, e1, e2⟩ := y
    cases e1
    exact hs i x2 T σ' H1 e2 p hT) hd
end
end Fk
namespace Fk
open PySem PySem.Spec PyProof.Rows L2
inductive Src (K : PySem.W.Frag) (H : Hp) (p : Addr) (ls : List (Addr × Lk)) : Prop where
  | lst (h : H p = some (.lst (rfs ls)))
  | tup (h : H p = some (.tup (rfs ls)))
  | nil {o : Obj} {m : Nat} (h : K.lookup p = some o) (c : o.cls = .type "tuple") (d : o.data = .seq #[] m) (e : ls = [])
section
variable {K : PySem.W.Frag} {H H' : Hp} {p tp : Addr} {ls : List (Addr × Lk)} {Q : VK}
theorem Src.ex (h : Src K H p ls) (e : Evl.Ex H H') : Src K H' p ls := by
  cases h with
  | lst h => exact .lst (e _ _ h)
  | tup h => exact .tup (e _ _ h)
  | nil h c d el => exact .nil h c d el
theorem Src.seq (h : Src K H p ls) : SqL K H p (rfs ls) ∨ SqT K H p (rfs ls) := by
  cases h with
  | lst h => exact .inl (SqL.of h)
  | tup h => exact .inr (SqT.of h)
  | nil h c d el => subst el; exact .inr (.inr ⟨_, #[], _, h, c, d, Nat.zero_le _, .nil⟩)
theorem Src.ty (h : Src K H p ls) : ∃ B, (B = "list" ∨ B = "tuple") ∧ TyX K H (.ref p) (.type B) := by
  cases h with
  | lst h => exact ⟨_, .inl rfl, .base (.lst h)⟩
  | tup h => exact ⟨_, .inr rfl, .base (.tup h)⟩
  | nil h c d el => exact ⟨_, .inr rfl, .kTuple h c⟩
theorem kit_lt {B : String} (h : B = "list" ∨ B = "tuple") : PySem.W.kitAny K (.type B) [.type "list", .type "tuple"] = some true := by
  rcases h with rfl | rfl
  · unfold PySem.W.kitAny
    rw [kit_ty (kit_all "list" (by decide) "list" (by decide))]
    rfl
  · unfold PySem.W.kitAny
    rw [kit_ty (kit_all "tuple" (by decide) "list" (by decide))]
    unfold PySem.W.kitAny
    rw [kit_ty (kit_all "tuple" (by decide) "tuple" (by decide))]
    rfl
/-- isinstance(links, (list, tuple)) -/
theorem w_isLT (h : Src K H p ls) (ht : H tp = some (.tup [.ty "list", .ty "tuple"])) (q : Q (.bl true) H) : rIsiT K [.ref p, .ref tp] H Q := by
  obtain ⟨B, eB, ty⟩ := h.ty
  exact ⟨_, tp, _, _, _, _, rfl, ht, .cons (.ty _) (.cons (.ty _) .nil), ty, kit_lt eB, q⟩
theorem seqL_ex (h : SqL K H p l) (e : Evl.Ex H H') : SqL K H' p l := by
  rcases h with (h | ⟨o, h⟩) | h
  · exact .inl (.inl (e _ _ h))
  · exact .inl (.inr ⟨o, e _ _ h⟩)
  · exact .inr h
theorem seqT_ex (h : SqT K H p l) (e : Evl.Ex H H') : SqT K H' p l := by
  rcases h with (h | ⟨o, h⟩) | h
  · exact .inl (.inl (e _ _ h))
  · exact .inl (.inr ⟨o, e _ _ h⟩)
  · exact .inr h
theorem lk_kd {q : Addr × Lk} (h : H q.1 = some (.tup q.2.vs)) (ok : q.2.ok) : Kd H (.ref q.1) := .tup h (by show 4 ≤ 1000; omega) fun w hw => by
  have pa := ok.pa
  have pb := ok.pb
  have asc : ∀ {z : Str}, Place z → z.length ≤ 100000 ∧ ∀ c ∈ cL z, c < 128 := fun {z} pz => ⟨by have := pz.2.1; omega, fun c m => by have := (pz.2.2 c m).2; omega⟩
  simp only [Lk.vs, List.mem_cons, List.not_mem_nil, or_false] at hw
  rcases hw with rfl | rfl | rfl | rfl
  · exact .int _
  · exact .int _
  · exact .str _ (asc pa).1 (asc pa).2
  · exact .str _ (asc pb).1 (asc pb).2
theorem lk_link {q : Addr × Lk} (h : H q.1 = some (.tup q.2.vs)) (ok : q.2.ok) : linkV H (.ref q.1) = true := by
  rw [linkV_tup h, ok.four]
theorem ref_at {L : List (Addr × Lk)} {i : Nat} {x : V} (h : (rfs L)[i]? = some x) : ∃ q, L[i]? = some q ∧ x = .ref q.1 := by
  rw [List.getElem?_map] at h
  obtain ⟨q, e1, e2⟩ := Option.map_eq_some_iff.mp h
  exact ⟨q, e1, e2.symm⟩
end
end Fk
namespace Fk
open PySem PySem.Spec PyProof.Rows L2
/-- a dict from texts -/
abbrev dof (ks : List Str) (f : Str → V) : List (Key × V) := ks.map fun k => ((Sum.inr k : Key), f k)
theorem put_dof {ks : List Str} {f : Str → V} {z : Str} : putK (dof ks f) (Sum.inr z) (f z) = dof (if z ∈ ks then ks else ks ++ [z]) f := by
  unfold putK
  by_cases m : z ∈ ks
  · have c : ((dof ks f).any fun kv => decide (kv.1 = (Sum.inr z : Key))) = true := List.any_eq_true.mpr ⟨(Sum.inr z, f z), List.mem_map.mpr ⟨z, m, rfl⟩, by simp⟩
    rw [if_pos c, if_pos m]
    unfold dof
    rw [List.map_map]
    refine List.map_congr_left fun k _ => ?_
    show (if (Sum.inr k : Key) = Sum.inr z then ((Sum.inr k : Key), f z) else (Sum.inr k, f k)) = _
    by_cases e : k = z
    · subst e; rw [if_pos rfl]
    · rw [if_neg fun q => e (Sum.inr.inj q)]
  · have c : ¬ ((dof ks f).any fun kv => decide (kv.1 = (Sum.inr z : Key))) = true := fun q => by
      obtain ⟨kv, mk, ek⟩ := List.any_eq_true.mp q
      obtain ⟨k, mk', rfl⟩ := List.mem_map.mp mk
      have e : k = z := Sum.inr.inj (of_decide_eq_true ek)
      exact m (e ▸ mk')
    rw [if_neg c, if_neg m]
    unfold dof
    rw [List.map_append]
    rfl
theorem put_new {ks : List Str} {f : Str → V} {z : Str} {v : V} (h : z ∉ ks) : putK (dof ks f) (Sum.inr z) v = dof ks f ++ [(Sum.inr z, v)] := by
  unfold putK
  have c : ¬ ((dof ks f).any fun kv => decide (kv.1 = (Sum.inr z : Key))) = true := fun q => by
    obtain ⟨kv, mk, ek⟩ := List.any_eq_true.mp q
    obtain ⟨k, mk', rfl⟩ := List.mem_map.mp mk
    have e : k = z := Sum.inr.inj (of_decide_eq_true ek)
    exact h (e ▸ mk')
  rw [if_neg c]
theorem dof_get {ks : List Str} {f : Str → V} {i : Nat} {k : Key} {v : V} (h : (dof ks f)[i]? = some (k, v)) : ∃ z, ks[i]? = some z ∧ k = Sum.inr z ∧ v = f z := by
  rw [List.getElem?_map] at h
  obtain ⟨z, e1, e2⟩ := Option.map_eq_some_iff.mp h
  cases e2
  exact ⟨z, e1, rfl, rfl⟩
theorem take_snoc {α : Type} {l : List α} {i : Nat} {x : α} (h : l[i]? = some x) : l.take (i + 1) = l.take i ++ [x] := by
  rw [List.take_succ, h]; rfl
theorem lks_take (L : List (Addr × Lk)) (i : Nat) : lks (L.take i) = (lks L).take i := List.map_take ..
theorem lks_at {L : List (Addr × Lk)} {i : Nat} {q : Addr × Lk} (h : L[i]? = some q) : (lks L)[i]? = some q.2 := by rw [List.getElem?_map, h]; rfl
theorem lt_nodup {L : List Lk} (h : L.Pairwise Lk.lt) : L.Nodup := by
  rw [List.nodup_iff_pairwise_ne]
  exact h.imp fun {a b} q e => by subst e; exact lk_irrefl _ q
theorem w_revL {K : PySem.W.Frag} {te : TE} {σ : L2.St} {H : Hp} {Q : VK} (h : te σ H fun x H1 => ∃ a xs, x = .ref a ∧ SqL K H1 a xs ∧ ∀ p, H1 p = none → Q (.ref p) (upd H1 p (.lst xs.reverse))) : tRevL K te σ H Q := h
theorem ok_ab : Lk.ok ⟨1, 1, "a", "b"⟩ := ⟨by decide, by decide, by decide, by decide, by decide +kernel, by decide +kernel, by decide +kernel⟩
theorem ok_zz : Lk.ok ⟨0, 0, "zz", "zzz"⟩ := ⟨by decide, by decide, by decide, by decide, by decide +kernel, by decide +kernel, by decide +kernel⟩
end Fk
namespace Fk
open PySem PySem.Spec PyProof.Rows L2
theorem turn_snoc (x : Lk) : ∀ (L : List Lk) (F : List Str), turnNear (L ++ [x]) F = (if (decide (x.a ∈ turnNear L F) != decide (x.b ∈ turnNear L F)) = true then turnNear L F ++ [if x.a ∈ turnNear L F then x.b else x.a] else turnNear L F)
  | [], F => rfl
  | y :: L, F => by
    rw [List.cons_append, turnNear, turnNear]
    exact turn_snoc x L _
theorem rounds_succ (L : List Lk) : ∀ (n : Nat) (F : List Str), rounds L (n + 1) F = turnNear L (rounds L n F)
  | 0, _ => rfl
  | n + 1, F => by
    rw [rounds, rounds_succ L n]
    rfl
theorem turn_len : ∀ (L : List Lk) (F : List Str), (turnNear L F).length ≤ F.length + L.length
  | [], _ => Nat.le_refl _
  | x :: r, F => by
    rw [turnNear]
    have q := turn_len r (if (decide (x.a ∈ F) != decide (x.b ∈ F)) = true then F ++ [if x.a ∈ F then x.b else x.a] else F)
    have z : (if (decide (x.a ∈ F) != decide (x.b ∈ F)) = true then F ++ [if x.a ∈ F then x.b else x.a] else F).length ≤ F.length + 1 := by
      split
      · simp
      · omega
    rw [List.length_cons]
    omega
theorem rounds_len (L : List Lk) : ∀ n, (rounds L n F).length ≤ F.length + n * L.length
  | 0 => by rw [rounds]; omega
  | n + 1 => by
    have e := rounds_len (F := F) L n
    rw [rounds_succ]
    have t := turn_len L (rounds L n F)
    rw [Nat.add_mul]
    omega
section
variable {K : PySem.W.Frag} {H : Hp} {Q : VK} {p : Addr} {z : Str} {l : List Str}
theorem w_ninT (h : SqT K H p (l.map V.str)) (q : Q (.bl (!decide (z ∈ l))) H) : rIn K true (.str z) (.ref p) H Q :=
  ⟨p, _, rfl, .inr h, rfl, flat_str l, by
    show Q (.bl (!inV (.str z) (l.map V.str))) H
    rw [inV_str]
    exact q⟩
end
/-- a dict of groups: each a tuple of places; what isn't told stands alone -/
def Gr (H : Hp) (kvs : List (Key × V)) (g : Gp) : Prop := ∀ x, (valV kvs (Sum.inr x) = none ∧ g x = [x]) ∨ ∃ t, valV kvs (Sum.inr x) = some (.ref t) ∧ H t = some (.tup ((g x).map V.str))
theorem Gr.keep {H H' : Hp} {kvs : List (Key × V)} {g : Gp} (h : Gr H kvs g) (k : ∀ t xs, H t = some (.tup xs) → H' t = some (.tup xs)) : Gr H' kvs g := fun x => by
  rcases h x with z | ⟨t, z1, z2⟩
  · exact .inl z
  · exact .inr ⟨t, z1, k _ _ z2⟩
theorem Gr.put {H : Hp} {kvs : List (Key × V)} {g : Gp} {z : Str} {t : Addr} {G : List Str} (h : Gr H kvs g) (ht : H t = some (.tup (G.map V.str))) : Gr H (putK kvs (Sum.inr z) (.ref t)) (fun x => if x = z then G else g x) := fun x => by
  rw [val_put]
  by_cases e : x = z
  · subst e
    rw [if_pos rfl]
    refine .inr ⟨t, rfl, ?_⟩
    dsimp only
    rw [if_pos rfl]
    exact ht
  · rw [if_neg (fun q => e (Sum.inr.inj q))]
    rcases h x with y | ⟨u, y1, y2⟩
    · exact .inl ⟨y.1, by dsimp only; rw [if_neg e]; exact y.2⟩
    · exact .inr ⟨u, y1, by dsimp only; rw [if_neg e]; exact y2⟩
def ends : List Lk → List Str
  | [] => []
  | x :: r => x.a :: x.b :: ends r
theorem ends_app (L M : List Lk) : ends (L ++ M) = ends L ++ ends M := by
  induction L with
  | nil => rfl
  | cons x r ih => rw [List.cons_append, ends, ends, ih]; rfl
theorem ends_len (L : List Lk) : (ends L).length = 2 * L.length := by
  induction L with
  | nil => rfl
  | cons x r ih => rw [ends, List.length_cons, List.length_cons, List.length_cons, ih]; omega
/-- groups stay small -/
structure GpS (P : List Lk) (g : Gp) : Prop where
  nd : ∀ x, (g x).Nodup
  sub : ∀ x y, y ∈ g x → y = x ∨ y ∈ ends P
theorem GpS.len {P : List Lk} {g : Gp} (h : GpS P g) (x : Str) : (g x).length ≤ 1 + 2 * P.length := by
  have z := nodup_len (g x) (x :: ends P) (h.nd x) fun y m => by
    rcases h.sub x y m with e | e
    · rw [e]; exact List.mem_cons_self
    · exact List.mem_cons_of_mem _ e
  rw [List.length_cons, ends_len] at z
  omega
theorem GpS.more {P : List Lk} {g : Gp} (h : GpS P g) (x : Lk) : GpS (P ++ [x]) g := ⟨h.nd, fun y z m => (h.sub y z m).imp id fun m => by rw [ends_app]; exact List.mem_append_left _ m⟩
theorem GpS.merge {P : List Lk} {f : Nm} {g : Gp} (h : GpS P g) (ok : GpOk f g) {x : Lk} (n : f x.a ≠ f x.b) : GpS (P ++ [x]) (merge g x.a x.b) := by
  have app : (g x.a ++ g x.b).Nodup := by
    rw [List.nodup_append]
    exact ⟨h.nd _, h.nd _, fun y my z mz e => n (((ok _ _).1 my).trans (by rw [e]; exact ((ok _ _).1 mz).symm))⟩
  have inn : ∀ y ∈ g x.a ++ g x.b, y ∈ ends (P ++ [x]) := fun y m => by
    rw [ends_app]
    rcases List.mem_append.mp m with m | m
    · rcases h.sub _ _ m with e | e
      · rw [e]; exact List.mem_append_right _ (by simp [ends])
      · exact List.mem_append_left _ e
    · rcases h.sub _ _ m with e | e
      · rw [e]; exact List.mem_append_right _ (by simp [ends])
      · exact List.mem_append_left _ e
  refine ⟨fun y => ?_, fun y z m => ?_⟩
  · unfold Fk.merge
    split
    · exact app
    · exact h.nd y
  · unfold Fk.merge at m
    split at m
    · exact .inr (inn z m)
    · exact (h.more x).sub y z m
def rTupOf (K : PySem.W.Frag) : List V → Hp → VK → Prop := fun xs H Q => ∃ p ys, xs = [.ref p] ∧ ((SqL K H p ys ∧ ∀ l, H l = none → Q (.ref l) (upd H l (.tup ys))) ∨ (SqT K H p ys ∧ Q (.ref p) H))
theorem ktuple {X : Cx} (K : PySem.W.Frag) (h : X.K = K := by rfl) : CallR X (.type "tuple") (rTupOf K) := by subst h; exact call_tuple_of
theorem w_callD {sp : Sp} {dvs : List V} {E : XK} {t : TA} {σ : L2.St} {H : Hp} {Q : VK} (h : t σ H fun vs H1 => sp (vs ++ dvs) H1 Q E) : tCall sp dvs E t σ H Q := h
end Fk
namespace Fk
open PySem PySem.Spec PyProof.Rows L2
def far (x : Lk) (z : Str) : Option Str := if z = x.a then some x.b else if z = x.b then some x.a else none
def ofar : Option Str → V
  | some y => .str y
  | none => .non
theorem far_back {x : Lk} {z y : Str} (ne : x.a ≠ x.b) (h : far x z = some y) : far x y = some z := by
  unfold far at h ⊢
  by_cases e1 : z = x.a
  · rw [if_pos e1] at h
    cases h
    rw [if_neg (fun q => ne q.symm), if_pos rfl, e1]
  · rw [if_neg e1] at h
    by_cases e2 : z = x.b
    · rw [if_pos e2] at h
      cases h
      rw [if_pos rfl, e2]
    · rw [if_neg e2] at h
      cases h
theorem far_ends {x : Lk} {z y : Str} (h : far x z = some y) : (z = x.a ∧ y = x.b) ∨ (z = x.b ∧ y = x.a) := by
  unfold far at h
  by_cases e1 : z = x.a
  · rw [if_pos e1] at h
    cases h
    exact .inl ⟨e1, rfl⟩
  · rw [if_neg e1] at h
    by_cases e2 : z = x.b
    · rw [if_pos e2] at h
      cases h
      exact .inr ⟨e2, rfl⟩
    · rw [if_neg e2] at h
      cases h
theorem lk_ne {x : Lk} (h : x.ok) : x.a ≠ x.b := fun e => by
  have z := h.lt
  rw [e] at z
  exact List.lt_irrefl _ z
/-- n steps lead from z to g -/
inductive Wk (L : List Lk) (g : Str) : Nat → Str → Prop
  | nil : Wk L g 0 g
  | cons {n : Nat} {z y : Str} {x : Lk} (h : x ∈ L) (f : far x z = some y) (w : Wk L g n y) : Wk L g (n + 1) z
def Off (L : List Lk) (g : Str) (n : Nat) (z : Str) : Prop := Wk L g n z ∧ ∀ m, m < n → ¬ Wk L g m z
section
variable {L : List Lk} {g : Str}
theorem off_zero {z : Str} : Off L g 0 z ↔ z = g := by
  constructor
  · rintro ⟨w, _⟩
    cases w
    rfl
  · rintro rfl
    exact ⟨.nil, fun m h => absurd h (Nat.not_lt_zero m)⟩
theorem off_uniq {n m : Nat} {z : Str} (h : Off L g n z) (k : Off L g m z) : n = m := by
  rcases Nat.lt_trichotomy n m with c | c | c
  · exact absurd h.1 (k.2 n c)
  · exact c
  · exact absurd k.1 (h.2 m c)
theorem wk_least : ∀ {n : Nat} {z : Str}, Wk L g n z → ∃ m, m ≤ n ∧ Off L g m z := by
  intro n
  induction n using Nat.strongRecOn with
  | _ n ih =>
    intro z w
    by_cases c : ∃ m, m < n ∧ Wk L g m z
    · obtain ⟨m, hm, wm⟩ := c
      obtain ⟨k, hk, o⟩ := ih m hm wm
      exact ⟨k, by omega, o⟩
    · exact ⟨n, Nat.le_refl _, w, fun m hm wm => c ⟨m, hm, wm⟩⟩
theorem off_step {n : Nat} {z : Str} (h : Off L g (n + 1) z) : ∃ x y, x ∈ L ∧ far x z = some y ∧ Off L g n y := by
  obtain ⟨w, least⟩ := h
  cases w with
  | cons mx f w => exact ⟨_, _, mx, f, w, fun m hm wm => least (m + 1) (by omega) (.cons mx f wm)⟩
theorem off_next {n : Nat} {z y : Str} {x : Lk} (h : Off L g n y) (mx : x ∈ L) (f : far x z = some y) (no : ∀ m, m ≤ n → ¬ Off L g m z) : Off L g (n + 1) z := by
  refine ⟨.cons mx f h.1, fun m hm wm => ?_⟩
  obtain ⟨k, hk, o⟩ := wk_least wm
  exact no k (by omega) o
theorem off_near {n : Nat} {z y : Str} {x : Lk} (h : Off L g n y) (mx : x ∈ L) (f : far x z = some y) : ∃ m, m ≤ n + 1 ∧ Off L g m z := wk_least (.cons mx f h.1)
theorem off_down {n : Nat} {z : Str} (h : Off L g n z) : ∀ k, k ≤ n → ∃ y, Off L g k y := by
  induction n generalizing z with
  | zero => intro k hk; have : k = 0 := by omega
            subst this; exact ⟨z, h⟩
  | succ n ih =>
    intro k hk
    by_cases e : k = n + 1
    · subst e; exact ⟨z, h⟩
    · obtain ⟨x, y, _, _, o⟩ := off_step h
      exact ih o k (by omega)
theorem ends_both : ∀ {L : List Lk} {x : Lk}, x ∈ L → x.a ∈ ends L ∧ x.b ∈ ends L
  | y :: r, x, h => by
    rw [ends]
    rcases List.mem_cons.mp h with rfl | h
    · exact ⟨List.mem_cons_self, List.mem_cons_of_mem _ List.mem_cons_self⟩
    · have z := ends_both h
      exact ⟨List.mem_cons_of_mem _ (List.mem_cons_of_mem _ z.1), List.mem_cons_of_mem _ (List.mem_cons_of_mem _ z.2)⟩
theorem off_place {n : Nat} {z : Str} (h : Off L g n z) : z = g ∨ z ∈ ends L := by
  cases n with
  | zero => exact .inl (off_zero.mp h)
  | succ n =>
    obtain ⟨x, y, mx, f, _⟩ := off_step h
    rcases far_ends f with ⟨e, _⟩ | ⟨e, _⟩
    · exact .inr (e ▸ (ends_both mx).1)
    · exact .inr (e ▸ (ends_both mx).2)
end
open Classical in
noncomputable def dist (L : List Lk) (g : Str) (z : Str) : Nat := if h : ∃ n, Off L g n z then Classical.choose h else 0
theorem dist_of {L : List Lk} {g z : Str} {n : Nat} (h : Off L g n z) : dist L g z = n := by
  unfold dist
  rw [dif_pos ⟨n, h⟩]
  exact off_uniq (Classical.choose_spec (⟨n, h⟩ : ∃ n, Off L g n z)) h
/-- the places of a dict of steps: all that n steps or fewer lead off -/
def Upto (L : List Lk) (g : Str) (n : Nat) (ks : List Str) : Prop := ks.Nodup ∧ ∀ z, z ∈ ks ↔ ∃ m, m ≤ n ∧ Off L g m z
def AllOff (L : List Lk) (g : Str) (ks : List Str) : Prop := ks.Nodup ∧ ∀ z, z ∈ ks ↔ ∃ m, Off L g m z
theorem off_few {L : List Lk} {g : Str} {ks : List Str} (nd : ks.Nodup) (h : ∀ z ∈ ks, ∃ m, Off L g m z) : ks.length ≤ 2 * L.length + 1 := by
  have z := nodup_len ks (g :: ends L) nd fun z m => by
    obtain ⟨k, o⟩ := h z m
    rcases off_place o with e | e
    · rw [e]; exact List.mem_cons_self
    · exact List.mem_cons_of_mem _ e
  rw [List.length_cons, ends_len] at z
  exact z
theorem upto_all {L : List Lk} {g : Str} {n : Nat} {ks : List Str} (h : Upto L g n ks) (no : ∀ z, ¬ Off L g (n + 1) z) : AllOff L g ks := by
  refine ⟨h.1, fun z => ?_⟩
  rw [h.2]
  refine ⟨fun ⟨m, _, o⟩ => ⟨m, o⟩, fun ⟨m, o⟩ => ⟨m, ?_, o⟩⟩
  by_cases c : m ≤ n
  · exact c
  · obtain ⟨y, oy⟩ := off_down o (n + 1) (by omega)
    exact absurd oy (no y)
/-- the first of the nearer links, again and again -/
inductive Grd (L : List Lk) (g : Str) : Nat → Str → List Lk → Prop
  | nil : Grd L g 0 g []
  | cons {n : Nat} {z y : Str} {x : Lk} {W L1 L2 : List Lk} (o : Off L g (n + 1) z) (e : L = L1 ++ x :: L2) (f : far x z = some y) (oy : Off L g n y) (first : ∀ x' ∈ L1, ∀ y', far x' z = some y' → ¬ Off L g n y') (w : Grd L g n y W) : Grd L g (n + 1) z (x :: W)
/-- d.get(y), y None or a key -/
def tDGetN (td ty : TE) : TE := fun σ H Q => td σ H fun x H1 => ∃ a kvs, x = .ref a ∧ H1 a = some (.dK kvs) ∧ ty σ H1 fun y H2 => H2 a = some (.dK kvs) ∧ ((y = .non ∧ Q .non H2) ∨ ∃ k, y = kV k ∧ Q ((valV kvs k).getD .non) H2)
theorem pe_dgetN {X : Cx} {o e : Expr} {apos cpos : Pos} {td ty : TE} (hu : X.A.units + 1 < cLine) (ho : PE X o td) (he : PE X e ty) (m : M1 X o "get" apos e cpos) : PE X (.Call (.Attribute o "get" apos) [e] [] cpos) (tDGetN td ty) := by
  refine ⟨fun pins s σ H Q I h => ?_⟩
  refine wpAny_Call_method m.base m.few m.line PySem.F.plainAttrs_dict PySem.F.slot_dict_get PySem.F.type_dict_get (thn (ho.run pins s σ H _ I h) fun u s1 ⟨x, H1, I1, rx, a, kvs, ex, d, q1⟩ => ?_)
  subst ex
  obtain rfl : u = Value.ref a := rx
  obtain ⟨t1, t2, _⟩ := isD_at I1 (.inl ⟨kvs, .of d⟩)
  refine ⟨t1, t2, ?_⟩
  rw [m.trees]
  refine Calls.callWith_builtin rfl (Calls.evalArgs_plain (Calls.spliced_cons (thn (he.run pins s1 σ H1 _ I1 q1) fun iv s2 ⟨y, H2, I2, ry, d2, q2⟩ => Calls.spliced_nil ?_)))
  rcases q2 with ⟨rfl, q2⟩ | ⟨k, rfl, q2⟩
  · obtain rfl : iv = Value.none := ry
    obtain ⟨_, hd, vs, _, dd⟩ := dk_rd I2.hok (.of d2)
    obtain ⟨f, hm, hf⟩ := none_map dd
    refine call_meetsIn PySem.F.slot_dict_get dd.typeIs PySem.F.entry_dict_get (PySem.F.args_dict_get_2 _ _) (meets_dict_get (noneKind X.prog X.w) a (k := none) (show (noneKind X.prog X.w).is none .none = true from rfl) hd) ⟨_, hm, ?_⟩
    rw [hf]
    exact ⟨.non, H2, I2.tok _, rfl, q2⟩
  · exact d_get1 hu I2 (DGet.k d2) ry fun w' s3 I3 rw' => ⟨_, H2, I3, rw', q2⟩
theorem w_dgetN {td ty : TE} {σ : L2.St} {H : Hp} {Q : VK} (h : td σ H fun x H1 => ∃ a kvs, x = .ref a ∧ H1 a = some (.dK kvs) ∧ ty σ H1 fun y H2 => H2 a = some (.dK kvs) ∧ ((y = .non ∧ Q .non H2) ∨ ∃ k, y = kV k ∧ Q ((valV kvs k).getD .non) H2)) : tDGetN td ty σ H Q := h
theorem w_tru {K : PySem.W.Frag} {te : TE} {σ : L2.St} {H : Hp} {QB : Bool → Hp → Prop} (h : te σ H fun x H1 => ∃ k, TruV K x H1 k ∧ QB k H1) : tTruth K te σ H QB := h
theorem w_dnin {td ty : TE} {σ : L2.St} {H : Hp} {Q : VK} (h : ty σ H fun y H1 => td σ H1 fun x H2 => (∃ a o, x = .ref a ∧ DGet H2 a y o ∧ Q (.bl (!o.isSome)) H2) ∨ ∃ a kvs, x = .ref a ∧ y = .non ∧ Rd H2 a (.dK kvs) ∧ Q (.bl true) H2) : tDNotInN ty td σ H Q := h
theorem val_none {ks : List Str} {f : Str → V} {z : Str} (h : z ∉ ks) : valV (ks.map fun k => ((Sum.inr k : Key), f k)) (Sum.inr z) = none := by
  induction ks with
  | nil => rfl
  | cons k ks ih =>
    have ne : k ≠ z := fun e => h (e ▸ List.mem_cons_self)
    have ih := ih fun m => h (List.mem_cons_of_mem _ m)
    unfold valV at ih ⊢
    rw [List.map_cons, List.find?_cons_of_neg (by simp [ne])]
    exact ih
theorem val_mem {ks : List Str} {f : Str → V} {z : Str} : (!(valV (dof ks f) (Sum.inr z)).isSome) = !decide (z ∈ ks) := by
  by_cases m : z ∈ ks
  · rw [val_map m, decide_eq_true m] <;> rfl
  · rw [val_none m, decide_eq_false m] <;> rfl
theorem w_dkk {H : Hp} {Q : VK} {D : Addr} {ks : List Str} {f : Str → V} {z : Str} (h : H D = some (.dK (dof ks f))) (m : z ∈ ks) (q : Q (f z) H) : ∃ a v, V.ref D = .ref a ∧ DGet H a (.str z) (some v) ∧ Q v H :=
  ⟨D, f z, rfl, (val_map (f := f) m) ▸ DGet.k (k := Sum.inr z) h, q⟩
/-- what a turn has put into the dict and into the next edge -/
structure Lvl (L : List Lk) (g : Str) (n : Nat) (ks ks' as : List Str) : Prop where
  nd : ks'.Nodup
  ndA : as.Nodup
  all : ∀ z, z ∈ ks' ↔ z ∈ ks ∨ z ∈ as
  off : ∀ z ∈ as, Off L g (n + 1) z
theorem Lvl.start {L : List Lk} {g : Str} {n : Nat} {ks : List Str} (h : ks.Nodup) : Lvl L g n ks ks [] := ⟨h, List.nodup_nil, fun z => ⟨.inl, fun h => h.elim id fun m => nomatch m⟩, fun _ m => nomatch m⟩
theorem nodup_snoc {as : List Str} {z : Str} (h : as.Nodup) (n : z ∉ as) : (as ++ [z]).Nodup := by
  rw [List.nodup_append]
  exact ⟨h, by simp, fun a ha b hb e => n (by rw [← List.mem_singleton.mp hb, ← e]; exact ha)⟩
theorem Lvl.put {L : List Lk} {g : Str} {n : Nat} {ks ks' as : List Str} {z : Str} (h : Lvl L g n ks ks' as) (m : z ∉ ks') (o : Off L g (n + 1) z) : Lvl L g n ks (ks' ++ [z]) (as ++ [z]) := by
  refine ⟨nodup_snoc h.nd m, nodup_snoc h.ndA fun q => m ((h.all z).2 (.inr q)), fun u => ?_, fun u q => ?_⟩
  · rw [List.mem_append, List.mem_append, List.mem_singleton, h.all]
    exact or_assoc
  · rcases List.mem_append.mp q with q | q
    · exact h.off u q
    · rw [List.mem_singleton.mp q]; exact o
theorem upto_end {L : List Lk} {g : Str} {n : Nat} {ks : List Str} (h : Upto L g n ks) (no : ∀ z, ¬ Off L g n z) : AllOff L g ks := by
  refine ⟨h.1, fun z => ?_⟩
  rw [h.2]
  refine ⟨fun ⟨m, _, o⟩ => ⟨m, o⟩, fun ⟨m, o⟩ => ⟨m, ?_, o⟩⟩
  by_cases c : m ≤ n
  · exact c
  · obtain ⟨y, oy⟩ := off_down o n (by omega)
    exact absurd oy (no y)
theorem Lvl.done {L : List Lk} {g : Str} {n : Nat} {ks ks' as es : List Str} (ne : ∀ x ∈ L, x.a ≠ x.b) (u : Upto L g n ks) (he : ∀ z, z ∈ es ↔ Off L g n z) (h : Lvl L g n ks ks' as) (c : ∀ y ∈ es, ∀ x ∈ L, ∀ z, far x y = some z → z ∈ ks') :
    Upto L g (n + 1) ks' ∧ ∀ z, z ∈ as ↔ Off L g (n + 1) z := by
  have key : ∀ z, Off L g (n + 1) z → z ∈ as := fun z o => by
    obtain ⟨x, y, mx, f, oy⟩ := off_step o
    have m := c y ((he y).2 oy) x mx z (far_back (ne x mx) f)
    rcases (h.all z).1 m with k | k
    · obtain ⟨m', hm, o'⟩ := (u.2 z).1 k
      have := off_uniq o o'
      omega
    · exact k
  refine ⟨⟨h.nd, fun z => ?_⟩, fun z => ⟨h.off z, key z⟩⟩
  rw [h.all]
  constructor
  · rintro (k | k)
    · obtain ⟨m, hm, o⟩ := (u.2 z).1 k
      exact ⟨m, by omega, o⟩
    · exact ⟨n + 1, Nat.le_refl _, h.off z k⟩
  · rintro ⟨m, hm, o⟩
    by_cases e : m = n + 1
    · subst e; exact .inr (key z o)
    · exact .inl ((u.2 z).2 ⟨m, by omega, o⟩)
theorem Lvl.offs {L : List Lk} {g : Str} {n : Nat} {ks ks' as : List Str} (u : Upto L g n ks) (h : Lvl L g n ks ks' as) : ∀ z ∈ ks', ∃ m, Off L g m z := fun z m => by
  rcases (h.all z).1 m with k | k
  · obtain ⟨m, _, o⟩ := (u.2 z).1 k
    exact ⟨m, o⟩
  · exact ⟨_, h.off z k⟩
theorem iteNT {A B : Prop} (h : B) : if (!true) = true then A else B := h
theorem iteNF {A B : Prop} (h : A) : if (!false) = true then A else B := h
end Fk
namespace Fk
open PySem PySem.Spec PyProof.Rows L2
/-- a way from z to b by links of R that comes to no place of ps -/
inductive Way (R : List Lk) (b : Str) : List Str → Str → List Lk → Prop
  | nil {ps : List Str} : Way R b ps b []
  | cons {ps : List Str} {z y : Str} {x : Lk} {W : List Lk} (mx : x ∈ R) (f : far x z = some y) (new : y ∉ ps) (w : Way R b (ps ++ [y]) y W) : Way R b ps z (x :: W)
theorem grd_off {L : List Lk} {g : Str} {n : Nat} {z : Str} {W : List Lk} (h : Grd L g n z W) : Off L g n z := by
  cases h with
  | nil => exact off_zero.mpr rfl
  | cons o _ _ _ _ _ => exact o
theorem way_of {L R : List Lk} {g : Str} {n : Nat} {z : Str} {W : List Lk} (h : Grd L g n z W) : (∀ x ∈ W, x ∈ R) → ∀ ps, (∀ p ∈ ps, ∀ m, Off L g m p → n ≤ m) → Way R g ps z W := by
  induction h with
  | nil => intro _ ps _; exact .nil
  | @cons n z y x W L1 L2 o e f oy first w ih =>
    intro sub ps hps
    refine .cons (sub _ List.mem_cons_self) f (fun m => ?_) (ih (fun x m => sub x (List.mem_cons_of_mem _ m)) _ fun p mp m o' => ?_)
    · have := hps y m n oy
      omega
    · rcases List.mem_append.mp mp with mp | mp
      · have := hps p mp m o'
        omega
      · rw [List.mem_singleton.mp mp] at o'
        have := off_uniq oy o'
        omega
theorem way_start {L R : List Lk} {g : Str} {n : Nat} {z : Str} {W : List Lk} (h : Grd L g n z W) (sub : ∀ x ∈ W, x ∈ R) : Way R g [z] z W :=
  way_of h sub _ fun p m k o => by rw [List.mem_singleton.mp m] at o; rw [off_uniq (grd_off h) o]; exact Nat.le_refl _
theorem grd_sub {L : List Lk} {g : Str} {n : Nat} {z : Str} {W : List Lk} (h : Grd L g n z W) : ∀ x ∈ W, x ∈ L := by
  induction h with
  | nil => intro x m; exact nomatch m
  | @cons n z y x W L1 L2 o e f oy first w ih =>
    intro x' m
    rcases List.mem_cons.mp m with rfl | m
    · rw [e]; simp
    · exact ih x' m
theorem grd_ends {L : List Lk} {g : Str} {n : Nat} {z : Str} {W : List Lk} (h : Grd L g n z W) : ∀ x ∈ W, ∀ u, u = x.a ∨ u = x.b → ∃ m, m ≤ n ∧ Off L g m u := by
  induction h with
  | nil => intro x m; exact nomatch m
  | @cons n z y x W L1 L2 o e f oy first w ih =>
    intro x' m u hu
    rcases List.mem_cons.mp m with rfl | m
    · rcases far_ends f with ⟨e1, e2⟩ | ⟨e1, e2⟩ <;> rcases hu with e3 | e3
      · exact ⟨n + 1, Nat.le_refl _, by rw [e3, ← e1]; exact o⟩
      · exact ⟨n, Nat.le_succ _, by rw [e3, ← e2]; exact oy⟩
      · exact ⟨n, Nat.le_succ _, by rw [e3, ← e2]; exact oy⟩
      · exact ⟨n + 1, Nat.le_refl _, by rw [e3, ← e1]; exact o⟩
    · obtain ⟨k, hk, ok⟩ := ih x' m u hu
      exact ⟨k, by omega, ok⟩
theorem far_is {x : Lk} {z y : Str} (f : far x z = some y) : z = x.a ∨ z = x.b := (far_ends f).imp (·.1) (·.1)
theorem grd_nodup {L : List Lk} {g : Str} {n : Nat} {z : Str} {W : List Lk} (h : Grd L g n z W) : W.Nodup := by
  induction h with
  | nil => exact List.nodup_nil
  | @cons n z y x W L1 L2 o e f oy first w ih =>
    refine List.nodup_cons.mpr ⟨fun m => ?_, ih⟩
    obtain ⟨k, hk, ok⟩ := grd_ends w x m z (far_is f)
    have := off_uniq o ok
    omega
/-- from z to b -/
def Trl : Str → List Lk → Str → Prop
  | z, [], b => z = b
  | z, x :: W, b => ∃ y, far x z = some y ∧ Trl y W b
theorem grd_trl {L : List Lk} {g : Str} {n : Nat} {z : Str} {W : List Lk} (h : Grd L g n z W) : Trl z W g := by
  induction h with
  | nil => rfl
  | cons o e f oy first w ih => exact ⟨_, f, ih⟩
theorem trl_split : ∀ {W1 : List Lk} {z b : Str} {x : Lk} {W2 : List Lk}, Trl z (W1 ++ x :: W2) b → ∃ u y, Trl z W1 u ∧ far x u = some y ∧ Trl y W2 b
  | [], z, b, x, W2, ⟨y, f, t⟩ => ⟨z, y, rfl, f, t⟩
  | x' :: W1, z, b, x, W2, ⟨y', f, t⟩ => by
    obtain ⟨u, y, t1, f1, t2⟩ := trl_split t
    exact ⟨u, y, ⟨y', f, t1⟩, f1, t2⟩
theorem trl_names {P : List Lk} : ∀ {W : List Lk} {z b : Str}, (∀ x ∈ W, x ∈ P) → Trl z W b → names id P z = names id P b
  | [], z, b, _, t => congrArg _ t
  | x :: W, z, b, h, ⟨y, f, t⟩ => by
    rw [← trl_names (fun x m => h x (List.mem_cons_of_mem _ m)) t]
    have j := names_join P id x (h x List.mem_cons_self)
    rcases far_ends f with ⟨e1, e2⟩ | ⟨e1, e2⟩
    · rw [e1, e2, j]
    · rw [e1, e2, j]
theorem snocInd {α : Type} {p : List α → Prop} (h0 : p []) (hs : ∀ l x, p l → p (l ++ [x])) (l : List α) : p l := by
  have : ∀ r : List α, p r.reverse := fun r => by
    induction r with
    | nil => exact h0
    | cons x r ih => rw [List.reverse_cons]; exact hs _ _ ih
  have z := this l.reverse
  rwa [List.reverse_reverse] at z
/-- a way by taken links between places that P joins uses links of P alone -/
theorem away {P W : List Lk} {a b : Str} (t : Trl a W b) (nd : W.Nodup) (j : names id P a = names id P b) (Q : List Lk) : (P ++ Q).Nodup → (∀ x ∈ W, x ∈ taken id (P ++ Q)) → ∀ x ∈ W, x ∈ P := by
  induction Q using snocInd with
  | h0 => intro _ h x m; rw [List.append_nil] at h; exact taken_sub _ _ _ (h x m)
  | hs Q x ih =>
    intro ndP h
    rw [← List.append_assoc] at ndP h
    have ndPQ := (List.nodup_append.mp ndP).1
    have xn : x ∉ P ++ Q := fun m => (List.nodup_append.mp ndP).2.2 x m x List.mem_cons_self rfl
    rw [taken_snoc] at h
    by_cases c : names id (P ++ Q) x.a = names id (P ++ Q) x.b
    · rw [if_pos c] at h
      exact ih ndPQ h
    · rw [if_neg c] at h
      by_cases mW : x ∈ W
      · exfalso
        obtain ⟨W1, W2, rfl⟩ := List.append_of_mem mW
        have nd2 := List.nodup_append.mp nd
        have x1 : x ∉ W1 := fun m => nd2.2.2 x m x List.mem_cons_self rfl
        have x2 : x ∉ W2 := (List.nodup_cons.mp nd2.2.1).1
        have old : ∀ y ∈ W1 ++ x :: W2, y ≠ x → y ∈ P ++ Q := fun y m ne => by
          rcases List.mem_append.mp (h y m) with k | k
          · exact taken_sub _ _ _ k
          · exact absurd (List.mem_singleton.mp k) ne
        obtain ⟨u, y, t1, f, t2⟩ := trl_split t
        have n1 := trl_names (fun y m => old y (List.mem_append_left _ m) fun e => x1 (e ▸ m)) t1
        have n2 := trl_names (fun y m => old y (List.mem_append_right _ (List.mem_cons_of_mem _ m)) fun e => x2 (e ▸ m)) t2
        have n3 : names id (P ++ Q) a = names id (P ++ Q) b := by
          rw [names_app]
          exact names_keep Q _ a b j
        have n4 : names id (P ++ Q) u = names id (P ++ Q) y := n1.symm.trans (n3.trans n2.symm)
        rcases far_ends f with ⟨e1, e2⟩ | ⟨e1, e2⟩
        · rw [e1, e2] at n4; exact c n4
        · rw [e1, e2] at n4; exact c n4.symm
      · refine ih ndPQ fun y m => ?_
        rcases List.mem_append.mp (h y m) with k | k
        · exact k
        · exact absurd (List.mem_singleton.mp k ▸ m) mW
theorem taken_subl : ∀ (f : Nm) (L : List Lk), (taken f L).Sublist L
  | _, [] => .slnil
  | f, x :: r => by
    rw [taken]
    split
    · exact (taken_subl f r).cons x
    · exact (taken_subl _ r).cons₂ x
def Con (T : List Lk) (a b : Str) : Prop := ∃ n, Wk T b n a
theorem wk_mono {T T' : List Lk} (h : ∀ x ∈ T, x ∈ T') {b : Str} {n : Nat} {a : Str} (w : Wk T b n a) : Wk T' b n a := by
  induction w with
  | nil => exact .nil
  | cons mx f w ih => exact .cons (h _ mx) f ih
theorem wk_trans {T : List Lk} {b c : Str} {n m : Nat} {a : Str} (w : Wk T b n a) (v : Wk T c m b) : Wk T c (n + m) a := by
  induction w with
  | nil => rw [Nat.zero_add]; exact v
  | @cons n z y x mx f w ih =>
    rw [show n + 1 + m = n + m + 1 by omega]
    exact .cons mx f ih
theorem wk_symm {T : List Lk} (ne : ∀ x ∈ T, x.a ≠ x.b) {b : Str} {n : Nat} {a : Str} (w : Wk T b n a) : Wk T a n b := by
  induction w with
  | nil => exact .nil
  | @cons n z y x mx f w ih => exact wk_trans ih (.cons mx (far_back (ne x mx) f) .nil)
theorem con_link {T : List Lk} {x : Lk} (m : x ∈ T) : Con T x.a x.b := ⟨1, .cons m (show far x x.a = some x.b by unfold far; rw [if_pos rfl]) .nil⟩
theorem con_names (P : List Lk) : (∀ x ∈ P, x.a ≠ x.b) → ∀ a b, names id P a = names id P b → Con (taken id P) a b := by
  induction P using snocInd with
  | h0 => intro _ a b e; rw [show a = b from e]; exact ⟨0, .nil⟩
  | hs P x ih =>
    intro ne a b e
    have neP : ∀ x ∈ P, x.a ≠ x.b := fun x m => ne x (List.mem_append_left _ m)
    have ih := ih neP
    rw [names_snoc] at e
    rw [taken_snoc]
    by_cases c : names id P x.a = names id P x.b
    · rw [if_pos c] at e ⊢
      exact ih a b e
    · rw [if_neg c] at e ⊢
      have up : ∀ {u v}, Con (taken id P) u v → Con (taken id P ++ [x]) u v := fun ⟨n, w⟩ => ⟨n, wk_mono (fun _ m => List.mem_append_left _ m) w⟩
      have tr : ∀ {u v w}, Con (taken id P ++ [x]) u v → Con (taken id P ++ [x]) v w → Con (taken id P ++ [x]) u w := fun ⟨n, p⟩ ⟨m, q⟩ => ⟨_, wk_trans p q⟩
      have neT : ∀ y ∈ taken id P ++ [x], y.a ≠ y.b := fun y m => by
        rcases List.mem_append.mp m with m | m
        · exact neP y (taken_sub _ _ _ m)
        · exact ne y (List.mem_append_right _ m)
      have sy : ∀ {u v}, Con (taken id P ++ [x]) u v → Con (taken id P ++ [x]) v u := fun ⟨n, p⟩ => ⟨n, wk_symm neT p⟩
      have lx : Con (taken id P ++ [x]) x.a x.b := con_link (by simp)
      unfold relab at e
      by_cases c1 : names id P a = names id P x.a <;> by_cases c2 : names id P b = names id P x.a
      · exact up (ih a b (c1.trans c2.symm))
      · rw [if_pos c1, if_neg c2] at e
        exact tr (up (ih _ _ c1)) (tr lx (up (ih _ _ e)))
      · rw [if_neg c1, if_pos c2] at e
        exact tr (up (ih _ _ e)) (tr (sy lx) (up (ih _ _ c2.symm)))
      · rw [if_neg c1, if_neg c2] at e
        exact up (ih a b e)
/-- a link that was not taken: its places are joined by taken ones, and the least way goes by lesser ones -/
theorem untaken {R : List Lk} {x : Lk} (up : R.Pairwise Lk.lt) (ne : ∀ x ∈ R, x.a ≠ x.b) (m : x ∈ R) (nt : x ∉ taken id R) : (∃ n, Off (taken id R) x.b n x.a) ∧
    ∀ n W, Grd (taken id R) x.b n x.a W → Way ((taken id R).filter fun y => decide (Lk.lt y x)) x.b [x.a] x.a W := by
  obtain ⟨P, Q, rfl⟩ := List.append_of_mem m
  have nd : (P ++ x :: Q).Nodup := lt_nodup up
  have j : names id P x.a = names id P x.b := by
    by_cases c : names id P x.a = names id P x.b
    · exact c
    · exfalso
      apply nt
      rw [taken_app, taken, if_neg c]
      simp
  have neP : ∀ x ∈ P, x.a ≠ x.b := fun y m => ne y (List.mem_append_left _ m)
  have sub : ∀ y ∈ taken id P, y ∈ taken id (P ++ x :: Q) := fun y m => by rw [taken_app]; exact List.mem_append_left _ m
  refine ⟨?_, fun n W h => ?_⟩
  · obtain ⟨n, w⟩ := con_names P neP _ _ j
    obtain ⟨k, _, o⟩ := wk_least (wk_mono sub w)
    exact ⟨k, o⟩
  · have inP := away (grd_trl h) (grd_nodup h) j (x :: Q) nd (grd_sub h)
    have low : ∀ y ∈ P, Lk.lt y x := fun y my => (List.pairwise_append.mp up).2.2 y my x List.mem_cons_self
    exact way_start h fun y my => List.mem_filter.mpr ⟨grd_sub h y my, decide_eq_true (low y (inP y my))⟩
end Fk
namespace Fk
open PySem PySem.Spec PyProof.Rows L2
/-- a link and the place to which it leads -/
abbrev Ar := Lk × Str
/-- what is found: each place with the links that lead there -/
abbrev Sr := List (Str × List Lk)
def keys (s : Sr) : List Str := s.map (·.1)
def pathOf (s : Sr) (z : Str) : List Lk := ((s.find? fun e => decide (e.1 = z)).map (·.2)).getD []
def sTurn (blk : Lk → Str → Bool) (p : List Lk) (st : Sr × List Str) (e : Ar) : Sr × List Str :=
  if decide (e.2 ∈ keys st.1) || blk e.1 e.2 then st else (st.1 ++ [(e.2, p ++ [e.1])], st.2 ++ [e.2])
def sHere (A : Str → List Ar) (blk : Lk → Str → Bool) (st : Sr × List Str) (here : Str) : Sr × List Str := (A here).foldl (sTurn blk (pathOf st.1 here)) st
def sLevel (A : Str → List Ar) (blk : Lk → Str → Bool) (s : Sr) (edge : List Str) : Sr × List Str := edge.foldl (sHere A blk) (s, [])
def search (A : Str → List Ar) (blk : Lk → Str → Bool) : Nat → Sr → List Str → Sr
  | 0, s, _ => s
  | n + 1, s, edge => if edge = [] then s else search A blk n (sLevel A blk s edge).1 (sLevel A blk s edge).2
/-- a search that goes well: each place was reached by an arc from another one, ahead of it -/
structure Sound (A : Str → List Ar) (blk : Lk → Str → Bool) (one : Str) (s : Sr) : Prop where
  nd : (keys s).Nodup
  hd : (one, []) ∈ s
  pr : ∀ e ∈ s, e = (one, []) ∨ ∃ z p x, (z, p) ∈ s ∧ e.2 = p ++ [x] ∧ (x, e.1) ∈ A z ∧ blk x e.1 = false
section
variable {A : Str → List Ar} {blk : Lk → Str → Bool} {one : Str} {s : Sr}
theorem mem_keys {z : Str} : z ∈ keys s ↔ ∃ p, (z, p) ∈ s := by
  unfold keys
  rw [List.mem_map]
  exact ⟨fun ⟨e, m, h⟩ => ⟨e.2, by rw [← h]; exact m⟩, fun ⟨p, m⟩ => ⟨(z, p), m, rfl⟩⟩
theorem keys_app (s t : Sr) : keys (s ++ t) = keys s ++ keys t := List.map_append
theorem path_uniq (nd : (keys s).Nodup) {z : Str} {p q : List Lk} (h : (z, p) ∈ s) (k : (z, q) ∈ s) : p = q := by
  induction s with
  | nil => cases h
  | cons e s ih =>
    have nd' := List.nodup_cons.mp nd
    rcases List.mem_cons.mp h with h1 | h1 <;> rcases List.mem_cons.mp k with k1 | k1
    · exact (Prod.mk.inj (h1.trans k1.symm)).2
    · exact absurd (mem_keys.mpr ⟨q, k1⟩) (by rw [← h1] at nd'; exact nd'.1)
    · exact absurd (mem_keys.mpr ⟨p, h1⟩) (by rw [← k1] at nd'; exact nd'.1)
    · exact ih nd'.2 h1 k1
theorem path_of (nd : (keys s).Nodup) {z : Str} {p : List Lk} (h : (z, p) ∈ s) : pathOf s z = p := by
  unfold pathOf
  cases f : s.find? fun e => decide (e.1 = z) with
  | none =>
    have := List.find?_eq_none.mp f (z, p) h
    simp at this
  | some e =>
    have m := List.mem_of_find?_eq_some f
    have e1 : e.1 = z := by
      have q := List.find?_some f
      exact of_decide_eq_true q
    obtain ⟨a, b⟩ := e
    have e1 : a = z := e1
    subst e1
    show b = p
    exact path_uniq nd m h
theorem Sound.turn (h : Sound A blk one s) {z : Str} {p : List Lk} {l : List Str} (hz : (z, p) ∈ s) {e : Ar} (he : e ∈ A z) : Sound A blk one (sTurn blk p (s, l) e).1 := by
  unfold sTurn
  by_cases c : (decide (e.2 ∈ keys s) || blk e.1 e.2) = true
  · rw [if_pos c]
    exact h
  · rw [if_neg c]
    rw [Bool.not_eq_true, Bool.or_eq_false_iff] at c
    have ny : e.2 ∉ keys s := of_decide_eq_false c.1
    refine ⟨?_, List.mem_append_left _ h.hd, fun u mu => ?_⟩
    · show (keys (s ++ [(e.2, p ++ [e.1])])).Nodup
      rw [keys_app, List.nodup_append]
      refine ⟨h.nd, by simp [keys], fun a ha b hb ee => ?_⟩
      rw [List.mem_singleton.mp (show b ∈ [e.2] from hb)] at ee
      exact ny (ee ▸ ha)
    · rcases List.mem_append.mp mu with mu | mu
      · rcases h.pr u mu with k | ⟨z', p', x', k1, k2⟩
        · exact .inl k
        · exact .inr ⟨z', p', x', List.mem_append_left _ k1, k2⟩
      · rw [List.mem_singleton.mp mu]
        exact .inr ⟨z, p, e.1, List.mem_append_left _ hz, rfl, he, c.2⟩
/-- what a row of arcs adds -/
structure Adds (s : Sr) (l : List Str) (s' : Sr) (l' : List Str) : Prop where
  sub : ∀ e ∈ s, e ∈ s'
  key : ∀ z, z ∈ keys s' ↔ z ∈ keys s ∨ z ∈ keys s' ∧ z ∈ l'
  low : ∀ z ∈ l, z ∈ l'
  len : s'.length + l.length = s.length + l'.length
  inn : ∀ z ∈ l', z ∈ l ∨ z ∈ keys s'
theorem Adds.refl (s : Sr) (l : List Str) : Adds s l s l := ⟨fun _ m => m, fun z => ⟨.inl, fun h => h.elim id (·.1)⟩, fun _ m => m, rfl, fun _ m => .inl m⟩
theorem Adds.trans {s s' s'' : Sr} {l l' l'' : List Str} (a : Adds s l s' l') (b : Adds s' l' s'' l'') : Adds s l s'' l'' := by
  have up : ∀ z, z ∈ keys s' → z ∈ keys s'' := fun z m => by
    obtain ⟨p, hp⟩ := mem_keys.mp m
    exact mem_keys.mpr ⟨p, b.sub _ hp⟩
  refine ⟨fun e m => b.sub e (a.sub e m), fun z => ⟨fun m => ?_, fun m => ?_⟩, fun z m => b.low z (a.low z m), by have := a.len; have := b.len; omega, fun z m => ?_⟩
  · rcases (b.key z).1 m with k | k
    · rcases (a.key z).1 k with k | k
      · exact .inl k
      · exact .inr ⟨m, b.low z k.2⟩
    · exact .inr k
  · rcases m with k | k
    · obtain ⟨p, hp⟩ := mem_keys.mp k
      exact mem_keys.mpr ⟨p, b.sub _ (a.sub _ hp)⟩
    · exact k.1
  · rcases b.inn z m with k | k
    · rcases a.inn z k with k | k
      · exact .inl k
      · exact .inr (up z k)
    · exact .inr k
theorem turn_adds (p : List Lk) (s : Sr) (l : List Str) (e : Ar) : Adds s l (sTurn blk p (s, l) e).1 (sTurn blk p (s, l) e).2 := by
  unfold sTurn
  by_cases c : (decide (e.2 ∈ keys s) || blk e.1 e.2) = true
  · rw [if_pos c]
    exact Adds.refl s l
  · rw [if_neg c]
    refine ⟨fun u m => List.mem_append_left _ m, fun z => ⟨fun m => ?_, fun m => ?_⟩, fun z m => List.mem_append_left _ m, ?_, fun z m => ?_⟩
    · have m' := m
      rw [keys_app, List.mem_append] at m
      rcases m with m | m
      · exact .inl m
      · exact .inr ⟨m', List.mem_append_right _ m⟩
    · rcases m with m | m
      · rw [keys_app]
        exact List.mem_append_left _ m
      · exact m.1
    · show (s ++ [(e.2, p ++ [e.1])]).length + l.length = s.length + (l ++ [e.2]).length
      rw [List.length_append, List.length_append]
      show s.length + 1 + l.length = s.length + (l.length + 1)
      omega
    · rcases List.mem_append.mp m with m | m
      · exact .inl m
      · right
        rw [keys_app]
        exact List.mem_append_right _ m
/-- after a turn its arc leads to a place that was found, or is blocked -/
theorem turn_done (p : List Lk) (s : Sr) (l : List Str) (e : Ar) : blk e.1 e.2 = false → e.2 ∈ keys (sTurn blk p (s, l) e).1 := by
  intro b
  unfold sTurn
  by_cases c : (decide (e.2 ∈ keys s) || blk e.1 e.2) = true
  · rw [if_pos c]
    rw [b, Bool.or_false] at c
    exact of_decide_eq_true c
  · rw [if_neg c, keys_app]
    exact List.mem_append_right _ (by simp [keys])
theorem arcs_all (z : Str) (p : List Lk) : ∀ (es : List Ar) (s : Sr) (l : List Str), Sound A blk one s → (z, p) ∈ s → (∀ e ∈ es, e ∈ A z) →
    Sound A blk one (es.foldl (sTurn blk p) (s, l)).1 ∧ Adds s l (es.foldl (sTurn blk p) (s, l)).1 (es.foldl (sTurn blk p) (s, l)).2 ∧ ∀ e ∈ es, blk e.1 e.2 = false → e.2 ∈ keys (es.foldl (sTurn blk p) (s, l)).1
  | [], s, l, h, _, _ => ⟨h, Adds.refl s l, fun _ m => nomatch m⟩
  | e :: es, s, l, h, hz, sub => by
    rw [List.foldl_cons]
    have a := turn_adds (blk := blk) p s l e
    have h1 := h.turn (l := l) hz (sub e List.mem_cons_self)
    have d := turn_done (blk := blk) p s l e
    obtain ⟨g1, g2, g3⟩ := arcs_all z p es (sTurn blk p (s, l) e).1 (sTurn blk p (s, l) e).2 h1 (a.sub _ hz) fun e m => sub e (List.mem_cons_of_mem _ m)
    refine ⟨g1, a.trans g2, fun u mu b => ?_⟩
    rcases List.mem_cons.mp mu with rfl | mu
    · obtain ⟨q, hq⟩ := mem_keys.mp (d b)
      exact mem_keys.mpr ⟨q, g2.sub _ hq⟩
    · exact g3 u mu b
theorem level_all : ∀ (edge : List Str) (s : Sr) (l : List Str), Sound A blk one s → (∀ z ∈ edge, z ∈ keys s) →
    Sound A blk one (edge.foldl (sHere A blk) (s, l)).1 ∧ Adds s l (edge.foldl (sHere A blk) (s, l)).1 (edge.foldl (sHere A blk) (s, l)).2 ∧ ∀ z ∈ edge, ∀ e ∈ A z, blk e.1 e.2 = false → e.2 ∈ keys (edge.foldl (sHere A blk) (s, l)).1
  | [], s, l, h, _ => ⟨h, Adds.refl s l, fun _ m => nomatch m⟩
  | z :: edge, s, l, h, he => by
    rw [List.foldl_cons]
    obtain ⟨p, hp⟩ := mem_keys.mp (he z List.mem_cons_self)
    have ep := path_of h.nd hp
    obtain ⟨a1, a2, a3⟩ := arcs_all z p (A z) s l h hp fun _ m => m
    rw [← ep] at a1 a2 a3
    obtain ⟨g1, g2, g3⟩ := level_all edge (sHere A blk (s, l) z).1 (sHere A blk (s, l) z).2 a1 fun y m => by
      obtain ⟨q, hq⟩ := mem_keys.mp (he y (List.mem_cons_of_mem _ m))
      exact mem_keys.mpr ⟨q, a2.sub _ hq⟩
    refine ⟨g1, a2.trans g2, fun y my e me b => ?_⟩
    rcases List.mem_cons.mp my with rfl | my
    · obtain ⟨q, hq⟩ := mem_keys.mp (a3 e me b)
      exact mem_keys.mpr ⟨q, g2.sub _ hq⟩
    · exact g3 y my e me b
/-- what is left to do is at the edge -/
def Rest (A : Str → List Ar) (blk : Lk → Str → Bool) (s : Sr) (edge : List Str) : Prop := ∀ z ∈ keys s, z ∉ edge → ∀ e ∈ A z, blk e.1 e.2 = false → e.2 ∈ keys s
structure Going (A : Str → List Ar) (blk : Lk → Str → Bool) (one : Str) (P : List Str) (s : Sr) (edge : List Str) : Prop where
  ok : Sound A blk one s
  ed : ∀ z ∈ edge, z ∈ keys s
  rest : Rest A blk s edge
  pl : ∀ z ∈ keys s, z ∈ P
theorem Going.level {P : List Str} {edge : List Str} (hA : ∀ z ∈ P, ∀ e ∈ A z, e.2 ∈ P) (h : Going A blk one P s edge) : Going A blk one P (sLevel A blk s edge).1 (sLevel A blk s edge).2 ∧ s.length + (sLevel A blk s edge).2.length = (sLevel A blk s edge).1.length := by
  obtain ⟨g1, g2, g3⟩ := level_all edge s [] h.ok h.ed
  have pl : ∀ z ∈ keys (sLevel A blk s edge).1, z ∈ P := fun z m => by
    obtain ⟨p, hp⟩ := mem_keys.mp m
    rcases g1.pr _ hp with e | ⟨z', p', x, k1, k2, k3, k4⟩
    · rw [(Prod.mk.inj e).1]
      exact h.pl _ (mem_keys.mpr ⟨_, h.ok.hd⟩)
    · have gen : ∀ (n : Nat) (u : Str) (q : List Lk), q.length ≤ n → (u, q) ∈ (sLevel A blk s edge).1 → u ∈ P := by
        intro n
        induction n with
        | zero =>
          intro u q hq mu
          rcases g1.pr _ mu with e | ⟨z', p', x, k1, k2, k3, k4⟩
          · rw [(Prod.mk.inj e).1]
            exact h.pl _ (mem_keys.mpr ⟨_, h.ok.hd⟩)
          · have k2 : q = p' ++ [x] := k2
            rw [k2, List.length_append] at hq
            exact absurd hq (by show ¬ _ + 1 ≤ 0; omega)
        | succ n ih =>
          intro u q hq mu
          rcases g1.pr _ mu with e | ⟨z', p', x, k1, k2, k3, k4⟩
          · rw [(Prod.mk.inj e).1]
            exact h.pl _ (mem_keys.mpr ⟨_, h.ok.hd⟩)
          · have k2 : q = p' ++ [x] := k2
            have l : p'.length ≤ n := by
              rw [k2, List.length_append] at hq
              have : ([x] : List Lk).length = 1 := rfl
              omega
            exact hA _ (ih _ _ l k1) _ k3
      exact gen _ z p (Nat.le_refl _) hp
  refine ⟨⟨g1, fun z m => ?_, fun z m n e me b => ?_, pl⟩, ?_⟩
  · rcases g2.inn z m with k | k
    · cases k
    · exact k
  · by_cases c : z ∈ edge
    · exact g3 z c e me b
    · rcases (g2.key z).1 m with k | k
      · obtain ⟨q, hq⟩ := mem_keys.mp (h.rest z k c e me b)
        exact mem_keys.mpr ⟨q, g2.sub _ hq⟩
      · exact absurd k.2 n
  · have := g2.len
    simp only [List.length_nil] at this
    show s.length + (edge.foldl (sHere A blk) (s, [])).2.length = (edge.foldl (sHere A blk) (s, [])).1.length
    omega
theorem Going.few {P : List Str} {edge : List Str} (h : Going A blk one P s edge) : s.length ≤ P.length := by
  have z := nodup_len (keys s) P h.ok.nd h.pl
  rwa [show (keys s).length = s.length from List.length_map ..] at z
/-- all that can be reached is found -/
theorem search_done {P : List Str} (hA : ∀ z ∈ P, ∀ e ∈ A z, e.2 ∈ P) : ∀ (n : Nat) (s : Sr) (edge : List Str), Going A blk one P s edge → P.length < n + s.length → Going A blk one P (search A blk n s edge) []
  | 0, s, edge, h, l => by have := h.few; omega
  | n + 1, s, edge, h, l => by
    rw [search]
    by_cases c : edge = []
    · rw [if_pos c]
      rw [c] at h
      exact h
    · rw [if_neg c]
      obtain ⟨g, gl⟩ := h.level hA
      by_cases c2 : (sLevel A blk s edge).2 = []
      · rw [c2] at g ⊢
        cases n with
        | zero => exact g
        | succ n => rw [search, if_pos rfl]; exact g
      · have := List.length_pos_iff.mpr c2
        exact search_done hA n _ _ g (by omega)
theorem going_start {P : List Str} (h : one ∈ P) : Going A blk one P [(one, [])] [one] :=
  ⟨⟨by simp [keys], by simp, fun e m => .inl (List.mem_singleton.mp m)⟩, fun z m => by simpa [keys] using m, fun z m n => absurd (by simpa [keys] using m) (by simpa using n), fun z m => by
    have e : z = one := by simpa [keys] using m
    rw [e]; exact h⟩
end
/-- the places to which a trail comes -/
def plc : Str → List Lk → List Str
  | z, [] => [z]
  | z, x :: W => z :: plc ((far x z).getD z) W
theorem trl_snoc : ∀ {W : List Lk} {a u y : Str} {x : Lk}, Trl a W u → far x u = some y → Trl a (W ++ [x]) y
  | [], a, u, y, x, t, f => by
    have t : a = u := t
    subst t
    exact ⟨y, f, rfl⟩
  | w :: W, a, u, y, x, ⟨v, g, t⟩, f => ⟨v, g, trl_snoc t f⟩
theorem plc_snoc : ∀ {W : List Lk} {a u y : Str} {x : Lk}, Trl a W u → far x u = some y → plc a (W ++ [x]) = plc a W ++ [y]
  | [], a, u, y, x, t, f => by
    have t : a = u := t
    subst t
    show [a, (far x a).getD a] = [a] ++ [y]
    rw [f]
    rfl
  | w :: W, a, u, y, x, ⟨v, g, t⟩, f => by
    show a :: plc ((far w a).getD a) (W ++ [x]) = (a :: plc ((far w a).getD a) W) ++ [y]
    rw [g]
    show a :: plc v (W ++ [x]) = (a :: plc v W) ++ [y]
    rw [plc_snoc t f, List.cons_append]
theorem way_plc {R : List Lk} {b : Str} : ∀ {W : List Lk} {a : Str} (ps : List Str), Trl a W b → (∀ x ∈ W, x ∈ R) → (∀ z ∈ (plc a W).tail, z ∉ ps) → (plc a W).Nodup → Way R b ps a W
  | [], a, ps, t, _, _, _ => by
    have t : a = b := t
    subst t
    exact .nil
  | x :: W, a, ps, ⟨v, g, t⟩, sub, out, nd => by
    have e : plc a (x :: W) = a :: plc v W := by
      show a :: plc ((far x a).getD a) W = _
      rw [g]
      rfl
    rw [e] at out nd
    have hv : v ∈ plc v W := by cases W <;> exact List.mem_cons_self
    refine .cons (sub x List.mem_cons_self) g (out v hv) (way_plc _ t (fun y m => sub y (List.mem_cons_of_mem _ m)) (fun z m => ?_) (List.nodup_cons.mp nd).2)
    have nd2 := (List.nodup_cons.mp nd).2
    intro k
    have mz : z ∈ plc v W := List.mem_of_mem_tail m
    rcases List.mem_append.mp k with k | k
    · exact out z mz k
    · rw [List.mem_singleton.mp k] at m
      cases W with
      | nil => cases m
      | cons w W => exact (List.nodup_cons.mp nd2).1 m
/-- an arc leads along its link -/
def ArcOk (A : Str → List Ar) : Prop := ∀ z e, e ∈ A z → far e.1 z = some e.2
/-- by arcs that are not blocked -/
def Steps (A : Str → List Ar) (blk : Lk → Str → Bool) : Str → List Lk → Prop
  | _, [] => True
  | z, x :: W => ∃ y, far x z = some y ∧ (x, y) ∈ A z ∧ blk x y = false ∧ Steps A blk y W
theorem steps_snoc {A : Str → List Ar} {blk : Lk → Str → Bool} : ∀ {W : List Lk} {a u y : Str} {x : Lk}, Steps A blk a W → Trl a W u → far x u = some y → (x, y) ∈ A u → blk x y = false → Steps A blk a (W ++ [x])
  | [], a, u, y, x, _, t, f, m, b => by
    have t : a = u := t
    subst t
    exact ⟨y, f, m, b, trivial⟩
  | w :: W, a, u, y, x, ⟨v, g, k1, k2, k3⟩, ⟨v', g', t⟩, f, m, b => by
    rw [g] at g'
    cases g'
    exact ⟨v, g, k1, k2, steps_snoc k3 t f m b⟩
theorem sound_path {A : Str → List Ar} {blk : Lk → Str → Bool} {one : Str} {s : Sr} (h : Sound A blk one s) (ok : ArcOk A) : ∀ (n : Nat) (z : Str) (p : List Lk), p.length ≤ n → (z, p) ∈ s →
    Trl one p z ∧ Steps A blk one p ∧ (plc one p).Nodup ∧ ∀ y ∈ plc one p, ∃ q, (y, q) ∈ s ∧ q.length ≤ p.length := by
  intro n
  induction n with
  | zero =>
    intro z p hp m
    rcases h.pr _ m with e | ⟨z', p', x, k1, k2, k3, k4⟩
    · cases e
      exact ⟨rfl, trivial, by simp [plc], fun y my => by rw [List.mem_singleton.mp my]; exact ⟨[], h.hd, Nat.le_refl _⟩⟩
    · have k2 : p = p' ++ [x] := k2
      rw [k2, List.length_append] at hp
      exact absurd hp (by show ¬ _ + 1 ≤ 0; omega)
  | succ n ih =>
    intro z p hp m
    rcases h.pr _ m with e | ⟨z', p', x, k1, k2, k3, k4⟩
    · cases e
      exact ⟨rfl, trivial, by simp [plc], fun y my => by rw [List.mem_singleton.mp my]; exact ⟨[], h.hd, Nat.le_refl _⟩⟩
    · have k2 : p = p' ++ [x] := k2
      subst k2
      have one' : ([x] : List Lk).length = 1 := rfl
      rw [List.length_append] at hp
      obtain ⟨t, st, nd, cov⟩ := ih z' p' (by omega) k1
      have f := ok _ _ k3
      have ep := plc_snoc t f
      refine ⟨trl_snoc t f, steps_snoc st t f k3 k4, ?_, fun y my => ?_⟩
      · rw [ep, List.nodup_append]
        refine ⟨nd, by simp, fun a ha b hb ee => ?_⟩
        rw [List.mem_singleton.mp hb] at ee
        subst ee
        obtain ⟨q, mq, lq⟩ := cov _ ha
        have := path_uniq h.nd mq m
        rw [this, List.length_append] at lq
        omega
      · rw [ep] at my
        rw [List.length_append]
        rcases List.mem_append.mp my with my | my
        · obtain ⟨q, mq, lq⟩ := cov y my
          exact ⟨q, mq, by omega⟩
        · rw [List.mem_singleton.mp my]
          exact ⟨_, m, by rw [List.length_append]; exact Nat.le_refl _⟩
def src (e : Ar) : Str := (far e.1 e.2).getD e.2
def i01 (b : Bool) : Int := if b then 1 else 0
/-- what leads out of places, less what leads in -/
def cut (U : List Ar) (S : Str → Bool) : Int := (U.map fun e => i01 (S (src e)) - i01 (S e.2)).sum
theorem cut_cons (e : Ar) (U : List Ar) (S : Str → Bool) : cut (e :: U) S = i01 (S (src e)) - i01 (S e.2) + cut U S := by
  unfold cut
  rw [List.map_cons, List.sum_cons]
theorem cut_app (U V : List Ar) (S : Str → Bool) : cut (U ++ V) S = cut U S + cut V S := by
  induction U with
  | nil => simp [cut]
  | cons e U ih => rw [List.cons_append, cut_cons, cut_cons, ih]; omega
theorem cut_perm {U V : List Ar} (p : U.Perm V) (S : Str → Bool) : cut U S = cut V S := by
  induction p with
  | nil => rfl
  | cons e _ ih => rw [cut_cons, cut_cons, ih]
  | swap a b l => rw [cut_cons, cut_cons, cut_cons, cut_cons]; omega
  | trans _ _ h1 h2 => rw [h1, h2]
/-- v ways' worth: at each place as much leads out as in, but for v more at one, v less at other -/
def Val (U : List Ar) (one other : Str) (v : Int) : Prop := ∀ S : Str → Bool, cut U S = v * (i01 (S one) - i01 (S other))
/-- how many links lead out of a side -/
def outs (U : List Ar) (S : Str → Bool) : Nat := U.countP fun e => S (src e) && !S e.2
theorem cut_le (S : Str → Bool) : ∀ U : List Ar, cut U S ≤ outs U S
  | [] => by simp [cut, outs]
  | e :: U => by
    have ih := cut_le S U
    rw [cut_cons]
    unfold outs at *
    rw [List.countP_cons]
    cases h1 : S (src e) <;> cases h2 : S e.2 <;> simp [i01] <;> omega
/-- the crossing links of a list -/
def crosses (S : Str → Bool) (x : Lk) : Bool := S x.a != S x.b
def ncross (L : List Lk) (S : Str → Bool) : Nat := L.countP (crosses S)
structure UsedOk (L : List Lk) (U : List Ar) : Prop where
  nd : (U.map (·.1)).Nodup
  sub : ∀ e ∈ U, e.1 ∈ L
  en : ∀ e ∈ U, far e.1 (src e) = some e.2
theorem outs_le {L : List Lk} {U : List Ar} (h : UsedOk L U) (S : Str → Bool) : outs U S ≤ ncross L S := by
  have e1 : outs U S = ((U.filter fun e => S (src e) && !S e.2).map (·.1)).length := by
    rw [List.length_map]
    exact List.countP_eq_length_filter ..
  have e2 : ncross L S = (L.filter (crosses S)).length := List.countP_eq_length_filter ..
  rw [e1, e2]
  refine nodup_len _ _ ?_ fun x m => ?_
  · exact h.nd.sublist ((List.filter_sublist).map _)
  · obtain ⟨e, me, rfl⟩ := List.mem_map.mp m
    obtain ⟨me, c⟩ := List.mem_filter.mp me
    refine List.mem_filter.mpr ⟨h.sub e me, ?_⟩
    rw [Bool.and_eq_true, Bool.not_eq_true'] at c
    unfold crosses
    rcases far_ends (h.en e me) with ⟨z1, z2⟩ | ⟨z1, z2⟩
    · rw [← z1, ← z2, c.1, c.2]; rfl
    · rw [← z1, ← z2, c.1, c.2]; rfl
/-- no side is crossed by fewer -/
theorem val_le {L : List Lk} {U : List Ar} {one other : Str} {v : Int} (h : UsedOk L U) (hv : Val U one other v) {S : Str → Bool} (h1 : S one = true) (h2 : S other = false) : v ≤ ncross L S := by
  have a := hv S
  rw [h1, h2] at a
  have b := cut_le S U
  have c := outs_le h S
  simp [i01] at a
  omega
def getA (U : List Ar) (x : Lk) : Option Str := (U.find? fun e => decide (e.1 = x)).map (·.2)
def putA (U : List Ar) (x : Lk) (y : Str) : List Ar := if x ∈ U.map (·.1) then U.map (fun e => if e.1 = x then (x, y) else e) else U ++ [(x, y)]
def delA (U : List Ar) (x : Lk) : List Ar := U.filter fun e => decide (e.1 ≠ x)
theorem getA_some {U : List Ar} (nd : (U.map (·.1)).Nodup) {x : Lk} {y : Str} : getA U x = some y ↔ (x, y) ∈ U := by
  unfold getA
  induction U with
  | nil => simp
  | cons e U ih =>
    have nd' := List.nodup_cons.mp nd
    rw [List.find?_cons]
    by_cases c : e.1 = x
    · rw [decide_eq_true c]
      show some e.2 = some y ↔ _
      rw [Option.some.injEq, List.mem_cons]
      constructor
      · intro h
        left
        rw [← c, ← h]
      · rintro (h | h)
        · rw [← h]
        · exact absurd (show e.1 ∈ U.map (·.1) from List.mem_map.mpr ⟨(x, y), h, c.symm⟩) nd'.1
    · rw [decide_eq_false c, ih nd'.2, List.mem_cons]
      exact ⟨.inr, fun h => h.elim (fun h => absurd (by rw [← h]) c) id⟩
theorem getA_none {U : List Ar} {x : Lk} : getA U x = none ↔ x ∉ U.map (·.1) := by
  unfold getA
  rw [Option.map_eq_none_iff, List.find?_eq_none, List.mem_map]
  constructor
  · rintro h ⟨e, m, c⟩
    have := h e m
    simp [c] at this
  · intro h e m
    simp only [decide_eq_true_eq]
    exact fun c => h ⟨e, m, c⟩
/-- the links of a way go in, those that led back go out -/
def addWay : List Ar → Str → List Lk → List Ar
  | U, _, [] => U
  | U, here, x :: W => if getA U x = some here then addWay (delA U x) ((far x here).getD here) W else addWay (putA U x ((far x here).getD here)) ((far x here).getD here) W
def blkOf (U : List Ar) (x : Lk) (y : Str) : Bool := decide (getA U x = some y)
/-- all links at a place, with the other end -/
def adj (L : List Lk) (z : Str) : List Ar := L.filterMap fun x => (far x z).map fun y => (x, y)
theorem mem_adj {L : List Lk} {z : Str} {e : Ar} : e ∈ adj L z ↔ e.1 ∈ L ∧ far e.1 z = some e.2 := by
  unfold adj
  rw [List.mem_filterMap]
  constructor
  · rintro ⟨x, m, h⟩
    obtain ⟨y, hy, rfl⟩ := Option.map_eq_some_iff.mp h
    exact ⟨m, hy⟩
  · rintro ⟨m, h⟩
    exact ⟨e.1, m, by rw [h]; rfl⟩
theorem adj_ok (L : List Lk) : ArcOk (adj L) := fun z e m => (mem_adj.mp m).2
theorem used_del {L : List Lk} {U : List Ar} (h : UsedOk L U) (x : Lk) : UsedOk L (delA U x) := by
  have s : (delA U x).Sublist U := List.filter_sublist
  exact ⟨h.nd.sublist (s.map _), fun e m => h.sub e (s.subset m), fun e m => h.en e (s.subset m)⟩
theorem src_of {x : Lk} {z y : Str} (ne : x.a ≠ x.b) (f : far x z = some y) : src (x, y) = z := by
  unfold src
  show (far x y).getD y = z
  rw [far_back ne f]
  rfl
theorem cut_del {L : List Lk} {U : List Ar} (h : UsedOk L U) {x : Lk} {y : Str} (m : (x, y) ∈ U) (S : Str → Bool) : cut (delA U x) S = cut U S - (i01 (S (src (x, y))) - i01 (S y)) := by
  have nd := h.nd
  clear h
  induction U with
  | nil => cases m
  | cons e U ih =>
    have nd' := List.nodup_cons.mp nd
    unfold delA at ih ⊢
    by_cases c : e.1 = x
    · rw [List.filter_cons_of_neg (by simp [c]), cut_cons]
      have e0 : e = (x, y) := by
        rcases List.mem_cons.mp m with k | k
        · exact k.symm
        · exact absurd (show e.1 ∈ U.map (·.1) from List.mem_map.mpr ⟨(x, y), k, c.symm⟩) nd'.1
      have f : U.filter (fun e => decide (e.1 ≠ x)) = U := List.filter_eq_self.mpr fun u mu => decide_eq_true fun k => nd'.1 (List.mem_map.mpr ⟨u, mu, k.trans c.symm⟩)
      rw [f, e0]
      show cut U S = i01 (S (src (x, y))) - i01 (S y) + cut U S - _
      omega
    · rw [List.filter_cons_of_pos (by simp [c]), cut_cons, cut_cons, ih (by
        rcases List.mem_cons.mp m with k | k
        · exact absurd (by rw [← k]) c
        · exact k) nd'.2]
      omega
theorem addWay_ok {L : List Lk} (ne : ∀ x ∈ L, x.a ≠ x.b) {other : Str} : ∀ (W : List Lk) (U : List Ar) (here : Str), UsedOk L U → W.Nodup → Trl here W other → (∀ x ∈ W, x ∈ L) →
    (∀ (W1 : List Lk) (x : Lk) (W2 : List Lk) (u y : Str), W = W1 ++ x :: W2 → Trl here W1 u → far x u = some y → getA U x ≠ some y) →
    UsedOk L (addWay U here W) ∧ ∀ S, cut (addWay U here W) S = cut U S + (i01 (S here) - i01 (S other))
  | [], U, here, h, _, t, _, _ => by
    have t : here = other := t
    subst t
    exact ⟨h, fun S => by rw [addWay]; omega⟩
  | x :: W, U, here, h, nd, ⟨y, f, t⟩, sub, bl => by
    have nd' := List.nodup_cons.mp nd
    have mx := sub x List.mem_cons_self
    have nex := ne x mx
    have sub' : ∀ z ∈ W, z ∈ L := fun z m => sub z (List.mem_cons_of_mem _ m)
    have b0 := bl [] x W here y rfl rfl f
    rw [addWay, f]
    simp only [Option.getD_some]
    by_cases c : getA U x = some here
    · rw [if_pos c]
      have m := (getA_some h.nd).1 c
      have h1 := used_del h x
      obtain ⟨g1, g2⟩ := addWay_ok ne W (delA U x) y h1 nd'.2 t sub' fun W1 x' W2 u y' e t1 f1 => by
        have nx : x' ≠ x := fun k => nd'.1 (by rw [← k, e]; simp)
        have q := bl (x :: W1) x' W2 u y' (by rw [e]; rfl) ⟨y, f, t1⟩ f1
        intro k
        apply q
        rw [getA_some h1.nd] at k
        exact (getA_some h.nd).2 (List.mem_filter.mp k).1
      refine ⟨g1, fun S => ?_⟩
      rw [g2, cut_del h m]
      have e1 : src (x, here) = y := src_of nex (far_back nex f)
      rw [e1]
      omega
    · rw [if_neg c]
      have nU : x ∉ U.map (·.1) := fun k => by
        obtain ⟨e, me, ex⟩ := List.mem_map.mp k
        have en := h.en e me
        rw [ex] at en
        have g : getA U x = some e.2 := (getA_some h.nd).2 (by rw [← ex]; exact me)
        rcases far_ends en with ⟨z1, z2⟩ | ⟨z1, z2⟩ <;> rcases far_ends f with ⟨w1, w2⟩ | ⟨w1, w2⟩
        · exact b0 (by rw [g, z2, w2])
        · exact c (by rw [g, z2, w1])
        · exact c (by rw [g, z2, w1])
        · exact b0 (by rw [g, z2, w2])
      have ep : putA U x y = U ++ [(x, y)] := by unfold putA; rw [if_neg nU]
      rw [ep]
      have es : src (x, y) = here := src_of nex f
      have h1 : UsedOk L (U ++ [(x, y)]) := by
        refine ⟨?_, fun e m => ?_, fun e m => ?_⟩
        · rw [List.map_append, List.nodup_append]
          refine ⟨h.nd, by simp, fun a ha b hb ee => ?_⟩
          rw [List.mem_singleton.mp (show b ∈ [x] from hb)] at ee
          exact nU (ee ▸ ha)
        · rcases List.mem_append.mp m with m | m
          · exact h.sub e m
          · rw [List.mem_singleton.mp m]; exact mx
        · rcases List.mem_append.mp m with m | m
          · exact h.en e m
          · rw [List.mem_singleton.mp m, es]; exact f
      obtain ⟨g1, g2⟩ := addWay_ok ne W (U ++ [(x, y)]) y h1 nd'.2 t sub' fun W1 x' W2 u y' e t1 f1 => by
        have nx : x' ≠ x := fun k => nd'.1 (by rw [← k, e]; simp)
        have q := bl (x :: W1) x' W2 u y' (by rw [e]; rfl) ⟨y, f, t1⟩ f1
        intro k
        apply q
        rw [getA_some h1.nd] at k
        rcases List.mem_append.mp k with k | k
        · exact (getA_some h.nd).2 k
        · exact absurd (Prod.mk.inj (List.mem_singleton.mp k)).1 nx
      refine ⟨g1, fun S => ?_⟩
      rw [g2, cut_app]
      show cut U S + cut [(x, y)] S + _ = _
      rw [cut_cons, es]
      show cut U S + (i01 (S here) - i01 (S y) + cut [] S) + _ = _
      have : cut [] S = 0 := rfl
      omega
end Fk
namespace Fk
open PySem PySem.Spec PyProof.Rows L2
theorem cut_outs (S : Str → Bool) : ∀ U : List Ar, (∀ e ∈ U, ¬ (S (src e) = false ∧ S e.2 = true)) → cut U S = outs U S
  | [], _ => by simp [cut, outs]
  | e :: U, h => by
    have ih := cut_outs S U fun u m => h u (List.mem_cons_of_mem _ m)
    have h0 := h e List.mem_cons_self
    rw [cut_cons]
    unfold outs at *
    rw [List.countP_cons]
    cases h1 : S (src e) <;> cases h2 : S e.2 <;> simp [i01, h1, h2] at h0 ⊢ <;> omega
section
variable {L : List Lk} {U : List Ar} {one other : Str} {s : Sr} {P : List Str}
/-- where the other place is not found, as many links cross as are used -/
theorem min_cut (ne : ∀ x ∈ L, x.a ≠ x.b) (ndL : L.Nodup) (h : UsedOk L U) {i : Nat} (hv : Val U one other i) (g : Going (adj L) (blkOf U) one P s []) (out : other ∉ keys s) : ncross L (fun z => decide (z ∈ keys s)) = i := by
  have one_in : one ∈ keys s := mem_keys.mpr ⟨_, g.ok.hd⟩
  have stop : ∀ z ∈ keys s, ∀ x ∈ L, ∀ y, far x z = some y → y ∉ keys s → getA U x = some y := fun z mz x mx y f ny => by
    refine Classical.byContradiction fun k => ny ?_
    have b : blkOf U x y = false := decide_eq_false k
    exact g.rest z mz List.not_mem_nil (x, y) (mem_adj.mpr ⟨mx, f⟩) b
  generalize hS : (fun z => decide (z ∈ keys s)) = S
  have inS : ∀ z, S z = true ↔ z ∈ keys s := fun z => by rw [← hS]; simp
  have outS : ∀ z, S z = false ↔ z ∉ keys s := fun z => by rw [← hS]; simp
  have noin : ∀ e ∈ U, ¬ (S (src e) = false ∧ S e.2 = true) := fun e me ⟨c1, c2⟩ => by
    have en := h.en e me
    have nex := ne _ (h.sub e me)
    have bk := far_back nex en
    have q := stop e.2 ((inS _).1 c2) e.1 (h.sub e me) (src e) bk ((outS _).1 c1)
    have q2 : getA U e.1 = some e.2 := (getA_some h.nd).2 me
    rw [q2] at q
    have := Option.some.inj q
    rw [← this, c2] at c1
    cases c1
  have c1 := cut_outs S U noin
  have c2 := outs_le h S
  have c3 : ncross L S ≤ outs U S := by
    have e1 : outs U S = ((U.filter fun e => S (src e) && !S e.2).map (·.1)).length := by
      rw [List.length_map]
      exact List.countP_eq_length_filter ..
    have e2 : ncross L S = (L.filter (crosses S)).length := List.countP_eq_length_filter ..
    rw [e1, e2]
    refine nodup_len _ _ (ndL.filter _) fun x m => ?_
    obtain ⟨mx, cx⟩ := List.mem_filter.mp m
    have nex := ne x mx
    have mk : ∀ z y, far x z = some y → S z = true → S y = false → x ∈ (U.filter fun e => S (src e) && !S e.2).map (·.1) := fun z y f k1 k2 => by
      have q := stop z ((inS _).1 k1) x mx y f ((outS _).1 k2)
      have mU := (getA_some h.nd).1 q
      refine List.mem_map.mpr ⟨(x, y), List.mem_filter.mpr ⟨mU, ?_⟩, rfl⟩
      rw [src_of nex f, k1]
      show (true && !S y) = true
      rw [k2]
      rfl
    have fa : far x x.a = some x.b := by unfold far; rw [if_pos rfl]
    have fb : far x x.b = some x.a := far_back nex fa
    unfold crosses at cx
    cases k1 : S x.a <;> cases k2 : S x.b <;> rw [k1, k2] at cx
    · cases cx
    · exact mk _ _ fb k2 k1
    · exact mk _ _ fa k1 k2
    · cases cx
  have c4 := hv S
  rw [(inS one).2 one_in, (outS other).2 out] at c4
  simp [i01] at c4
  omega
end
theorem trl_ends : ∀ {W : List Lk} {z b : Str} {x : Lk}, Trl z W b → x ∈ W → x.a ∈ plc z W ∧ x.b ∈ plc z W
  | [], _, _, _, _, m => nomatch m
  | w :: W, z, b, x, ⟨y, f, t⟩, m => by
    have e : plc z (w :: W) = z :: plc y W := by
      show z :: plc ((far w z).getD z) W = _
      rw [f]
      rfl
    have hy : y ∈ plc y W := by cases W <;> exact List.mem_cons_self
    rw [e]
    rcases List.mem_cons.mp m with rfl | m
    · rcases far_ends f with ⟨z1, z2⟩ | ⟨z1, z2⟩
      · rw [← z1, ← z2]
        exact ⟨List.mem_cons_self, List.mem_cons_of_mem _ hy⟩
      · rw [← z1, ← z2]
        exact ⟨List.mem_cons_of_mem _ hy, List.mem_cons_self⟩
    · obtain ⟨q1, q2⟩ := trl_ends t m
      exact ⟨List.mem_cons_of_mem _ q1, List.mem_cons_of_mem _ q2⟩
theorem trl_nodup : ∀ {W : List Lk} {z b : Str}, Trl z W b → (plc z W).Nodup → W.Nodup
  | [], _, _, _, _ => List.nodup_nil
  | w :: W, z, b, ⟨y, f, t⟩, nd => by
    have e : plc z (w :: W) = z :: plc y W := by
      show z :: plc ((far w z).getD z) W = _
      rw [f]
      rfl
    rw [e] at nd
    have nd' := List.nodup_cons.mp nd
    refine List.nodup_cons.mpr ⟨fun m => ?_, trl_nodup t nd'.2⟩
    obtain ⟨q1, q2⟩ := trl_ends t m
    rcases far_ends f with ⟨z1, z2⟩ | ⟨z1, z2⟩
    · rw [← z1] at q1; exact nd'.1 q1
    · rw [← z1] at q2; exact nd'.1 q2
theorem steps_split {A : Str → List Ar} {blk : Lk → Str → Bool} : ∀ {W1 : List Lk} {z u y : Str} {x : Lk} {W2 : List Lk}, Steps A blk z (W1 ++ x :: W2) → Trl z W1 u → far x u = some y → (x, y) ∈ A u ∧ blk x y = false
  | [], z, u, y, x, W2, ⟨y', f', m, b, _⟩, t, f => by
    have t : z = u := t
    subst t
    rw [f'] at f
    cases f
    exact ⟨m, b⟩
  | w :: W1, z, u, y, x, W2, ⟨v, g, _, _, st⟩, ⟨v', g', t⟩, f => by
    rw [g] at g'
    cases g'
    exact steps_split st t f
theorem steps_sub {A : Str → List Ar} {blk : Lk → Str → Bool} {Q : Lk → Prop} (h : ∀ z e, e ∈ A z → Q e.1) : ∀ {W : List Lk} {z : Str}, Steps A blk z W → ∀ x ∈ W, Q x
  | [], _, _, _, m => nomatch m
  | w :: W, z, ⟨y, f, m, b, st⟩, x, mx => by
    rcases List.mem_cons.mp mx with rfl | mx
    · exact h z _ m
    · exact steps_sub h st x mx
abbrev fuel (L : List Lk) : Nat := 2 * L.length + 2
def allP (L : List Lk) (one : Str) : List Str := one :: L.flatMap fun x => [x.a, x.b]
theorem allP_len (L : List Lk) (one : Str) : (allP L one).length = 2 * L.length + 1 := by
  have e : (L.flatMap fun x => [x.a, x.b]).length = 2 * L.length := by
    induction L with
    | nil => rfl
    | cons x L ih =>
      rw [List.flatMap_cons, List.length_append, ih]
      show 2 + 2 * L.length = 2 * (L.length + 1)
      omega
  show _ + 1 = _
  rw [e]
theorem allP_mem {L : List Lk} {one : Str} {x : Lk} (m : x ∈ L) : x.a ∈ allP L one ∧ x.b ∈ allP L one :=
  ⟨List.mem_cons_of_mem _ (List.mem_flatMap.mpr ⟨x, m, by simp⟩), List.mem_cons_of_mem _ (List.mem_flatMap.mpr ⟨x, m, by simp⟩)⟩
theorem far_allP {L : List Lk} {one : Str} {x : Lk} {z y : Str} (m : x ∈ L) (f : far x z = some y) : y ∈ allP L one := by
  rcases far_ends f with ⟨_, e⟩ | ⟨_, e⟩
  · rw [e]; exact (allP_mem m).2
  · rw [e]; exact (allP_mem m).1
def found (A : Str → List Ar) (blk : Lk → Str → Bool) (n : Nat) (one : Str) : Sr := search A blk n [(one, [])] [one]
/-- the places of a side, or what is used by so many ways -/
def partedF (L : List Lk) (one other : Str) : Nat → List Ar → List Str ⊕ List Ar
  | 0, U => .inr U
  | k + 1, U => if other ∈ keys (found (adj L) (blkOf U) (fuel L) one) then partedF L one other k (addWay U one (pathOf (found (adj L) (blkOf U) (fuel L) one) other)) else .inl (keys (found (adj L) (blkOf U) (fuel L) one))
section
variable {L : List Lk} {U : List Ar} {one other : Str}
theorem found_all (L : List Lk) (U : List Ar) (one : Str) : Going (adj L) (blkOf U) one (allP L one) (found (adj L) (blkOf U) (fuel L) one) [] := by
  refine search_done (fun z _ e m => far_allP (mem_adj.mp m).1 (mem_adj.mp m).2) _ _ _ (going_start List.mem_cons_self) ?_
  rw [allP_len]
  show 2 * L.length + 1 < 2 * L.length + 2 + 1
  omega
/-- the way that is found: its links, unlike, by arcs that aren't blocked -/
theorem found_way {A : Str → List Ar} {blk : Lk → Str → Bool} {P : List Str} {s : Sr} (g : Going A blk one P s []) (ok : ArcOk A) (m : other ∈ keys s) : Trl one (pathOf s other) other ∧ Steps A blk one (pathOf s other) ∧ (plc one (pathOf s other)).Nodup := by
  obtain ⟨p, hp⟩ := mem_keys.mp m
  rw [path_of g.ok.nd hp]
  obtain ⟨a, b, c, _⟩ := sound_path g.ok ok _ other p (Nat.le_refl _) hp
  exact ⟨a, b, c⟩
theorem one_more (ne : ∀ x ∈ L, x.a ≠ x.b) (h : UsedOk L U) {i : Nat} (hv : Val U one other i) (m : other ∈ keys (found (adj L) (blkOf U) (fuel L) one)) :
    UsedOk L (addWay U one (pathOf (found (adj L) (blkOf U) (fuel L) one) other)) ∧ Val (addWay U one (pathOf (found (adj L) (blkOf U) (fuel L) one) other)) one other ((i + 1 : Nat) : Int) := by
  obtain ⟨t, st, nd⟩ := found_way (found_all L U one) (adj_ok L) m
  have sub := steps_sub (Q := fun x => x ∈ L) (fun z e m => (mem_adj.mp m).1) st
  obtain ⟨g1, g2⟩ := addWay_ok ne _ U one h (trl_nodup t nd) t sub fun W1 x W2 u y e t1 f => by
    rw [e] at st
    exact of_decide_eq_false (steps_split st t1 f).2
  refine ⟨g1, fun S => ?_⟩
  rw [g2, hv S]
  show (i : Int) * _ + _ = ((i : Int) + 1) * _
  rw [Int.add_mul, Int.one_mul]
/-- what parted tells -/
theorem partedF_ok (ne : ∀ x ∈ L, x.a ≠ x.b) (ndL : L.Nodup) : ∀ (k i : Nat) (U : List Ar), UsedOk L U → Val U one other i →
    (∃ K, partedF L one other k U = .inl K ∧ one ∈ K ∧ other ∉ K ∧ K.Nodup ∧ (∀ z ∈ K, z ∈ allP L one) ∧ ncross L (fun z => decide (z ∈ K)) < i + k ∧ ∀ S : Str → Bool, S one = true → S other = false → ncross L (fun z => decide (z ∈ K)) ≤ ncross L S) ∨
    ∃ U', partedF L one other k U = .inr U' ∧ UsedOk L U' ∧ Val U' one other ((i + k : Nat) : Int)
  | 0, i, U, h, hv => .inr ⟨U, rfl, h, hv⟩
  | k + 1, i, U, h, hv => by
    rw [partedF]
    have g := found_all L U one
    by_cases m : other ∈ keys (found (adj L) (blkOf U) (fuel L) one)
    · rw [if_pos m]
      obtain ⟨h1, h2⟩ := one_more ne h hv m
      rcases partedF_ok ne ndL k (i + 1) _ h1 h2 with ⟨K, k1, k2, k3, k4, k5, k6, k7⟩ | ⟨U', k1, k2, k3⟩
      · exact .inl ⟨K, k1, k2, k3, k4, k5, by omega, k7⟩
      · exact .inr ⟨U', k1, k2, by rw [show i + (k + 1) = i + 1 + k by omega]; exact k3⟩
    · rw [if_neg m]
      have c := min_cut ne ndL h hv g m
      refine .inl ⟨_, rfl, mem_keys.mpr ⟨_, g.ok.hd⟩, m, g.ok.nd, g.pl, by rw [c]; omega, fun S s1 s2 => ?_⟩
      rw [c]
      have := val_le h hv s1 s2
      omega
theorem val_nil (one other : Str) : Val [] one other ((0 : Nat) : Int) := fun S => by
  show (0 : Int) = 0 * _
  rw [Int.zero_mul]
theorem used_nil (L : List Lk) : UsedOk L [] := ⟨List.nodup_nil, (fun _ m => nomatch m), (fun _ m => nomatch m)⟩
end
def adjU (U : List Ar) (z : Str) : List Ar := U.filter fun e => decide (src e = z)
def tell (U : List Ar) : List Ar → List Lk → List Ar
  | T, [] => T
  | T, x :: W => tell U (putA T x ((getA U x).getD "")) W
abbrev wayU (L : List Lk) (U T : List Ar) (one other : Str) : List Lk := pathOf (found (adjU U) (blkOf T) (fuel L) one) other
def waysFrom (L : List Lk) (U : List Ar) (one other : Str) : Nat → List Ar → List (List Lk)
  | 0, _ => []
  | k + 1, T => wayU L U T one other :: waysFrom L U one other k (tell U T (wayU L U T one other))
structure Told (U T : List Ar) : Prop where
  nd : (T.map (·.1)).Nodup
  sub : ∀ e ∈ T, e ∈ U
section
variable {L : List Lk} {U : List Ar} {one other : Str}
theorem adjU_ok (h : UsedOk L U) : ArcOk (adjU U) := fun z e m => by
  obtain ⟨m, c⟩ := List.mem_filter.mp m
  rw [← of_decide_eq_true c]
  exact h.en e m
theorem foundU_all (h : UsedOk L U) (T : List Ar) (one : Str) : Going (adjU U) (blkOf T) one (allP L one) (found (adjU U) (blkOf T) (fuel L) one) [] := by
  refine search_done (fun z _ e m => ?_) _ _ _ (going_start List.mem_cons_self) ?_
  · have f := adjU_ok h z e m
    exact far_allP (h.sub e (List.mem_filter.mp m).1) f
  · rw [allP_len]
    show 2 * L.length + 1 < 2 * L.length + 2 + 1
    omega
theorem nodup_of_keys {U : List Ar} (nd : (U.map (·.1)).Nodup) : U.Nodup := by
  rw [List.nodup_iff_pairwise_ne, List.pairwise_map] at nd
  rw [List.nodup_iff_pairwise_ne]
  exact nd.imp fun n e => n (congrArg _ e)
theorem more_left (h : UsedOk L U) {T : List Ar} (ht : Told U T) {i m : Nat} (hi : i < m) (hU : Val U one other m) (hT : Val T one other i) : other ∈ keys (found (adjU U) (blkOf T) (fuel L) one) := by
  refine Classical.byContradiction fun out => ?_
  have g := foundU_all h T one
  have one_in : one ∈ keys (found (adjU U) (blkOf T) (fuel L) one) := mem_keys.mpr ⟨_, g.ok.hd⟩
  generalize found (adjU U) (blkOf T) (fuel L) one = s at *
  have ndU := nodup_of_keys h.nd
  have ndT := nodup_of_keys ht.nd
  have pm : U.Perm (T ++ U.filter fun e => decide (e ∉ T)) := by
    rw [List.perm_ext_iff_of_nodup ndU]
    · intro e
      rw [List.mem_append, List.mem_filter, decide_eq_true_eq]
      constructor
      · intro me
        by_cases c : e ∈ T
        · exact .inl c
        · exact .inr ⟨me, c⟩
      · exact fun k => k.elim (ht.sub e) (·.1)
    · rw [List.nodup_append]
      refine ⟨ndT, ndU.filter _, fun a ha b hb e => ?_⟩
      subst e
      exact of_decide_eq_true (List.mem_filter.mp hb).2 ha
  have memR : ∀ e ∈ U.filter (fun e => decide (e ∉ T)), e ∈ U ∧ e ∉ T := fun e me => ⟨(List.mem_filter.mp me).1, of_decide_eq_true (List.mem_filter.mp me).2⟩
  generalize U.filter (fun e => decide (e ∉ T)) = Rr at *
  have e1 := cut_perm pm fun z => decide (z ∈ keys s)
  have e2 := hU fun z => decide (z ∈ keys s)
  have e3 := hT fun z => decide (z ∈ keys s)
  rw [cut_app, e3, e2] at e1
  have e4 := cut_le (fun z => decide (z ∈ keys s)) Rr
  simp only [decide_eq_true one_in, decide_eq_false out] at e1
  simp [i01] at e1
  have pos : 0 < outs Rr fun z => decide (z ∈ keys s) := by omega
  obtain ⟨e, me, ce⟩ := List.countP_pos_iff.mp pos
  obtain ⟨meU, nT⟩ := memR e me
  rw [Bool.and_eq_true, decide_eq_true_eq, Bool.not_eq_true', decide_eq_false_iff_not] at ce
  refine ce.2 (g.rest _ ce.1 List.not_mem_nil e (List.mem_filter.mpr ⟨meU, decide_eq_true rfl⟩) ?_)
  refine decide_eq_false fun k => ?_
  rw [getA_some ht.nd] at k
  exact nT k
theorem tell_ok (h : UsedOk L U) : ∀ (W : List Lk) (T : List Ar) (z b : Str), Told U T → W.Nodup → (∀ x ∈ W, x ∉ T.map (·.1)) → Trl z W b → Steps (adjU U) (fun _ _ => false) z W →
    Told U (tell U T W) ∧ (∀ S, cut (tell U T W) S = cut T S + (i01 (S z) - i01 (S b))) ∧ (tell U T W).map (·.1) = T.map (·.1) ++ W
  | [], T, z, b, ht, _, _, t, _ => by
    have t : z = b := t
    subst t
    exact ⟨ht, fun S => by rw [tell]; omega, by rw [tell, List.append_nil]⟩
  | x :: W, T, z, b, ht, nd, out, ⟨y, f, t⟩, ⟨y', f', m, _, st⟩ => by
    rw [f] at f'
    cases f'
    have nd' := List.nodup_cons.mp nd
    obtain ⟨mU, cs⟩ := List.mem_filter.mp m
    have es : src (x, y) = z := of_decide_eq_true cs
    have g : getA U x = some y := (getA_some h.nd).2 mU
    have nT := out x List.mem_cons_self
    rw [tell, g, Option.getD_some]
    have ep : putA T x y = T ++ [(x, y)] := by unfold putA; rw [if_neg nT]
    rw [ep]
    have ht' : Told U (T ++ [(x, y)]) := by
      refine ⟨?_, fun e me => ?_⟩
      · rw [List.map_append, List.nodup_append]
        refine ⟨ht.nd, by simp, fun a ha b hb ee => ?_⟩
        rw [List.mem_singleton.mp (show b ∈ [x] from hb)] at ee
        exact nT (ee ▸ ha)
      · rcases List.mem_append.mp me with me | me
        · exact ht.sub e me
        · rw [List.mem_singleton.mp me]; exact mU
    obtain ⟨g1, g2, g3⟩ := tell_ok h W (T ++ [(x, y)]) y b ht' nd'.2 (fun u mu k => by
      rw [List.map_append] at k
      rcases List.mem_append.mp k with k | k
      · exact out u (List.mem_cons_of_mem _ mu) k
      · rw [List.mem_singleton.mp (show u ∈ [x] from k)] at mu
        exact nd'.1 mu) t st
    refine ⟨g1, fun S => ?_, ?_⟩
    · rw [g2, cut_app, cut_cons, es]
      have : cut [] S = 0 := rfl
      show cut T S + (i01 (S z) - i01 (S y) + cut [] S) + _ = _
      omega
    · rw [g3, List.map_append, List.append_assoc]
      rfl
theorem steps_free {A : Str → List Ar} {blk : Lk → Str → Bool} : ∀ {W : List Lk} {z : Str}, Steps A blk z W → Steps A (fun _ _ => false) z W
  | [], _, _ => trivial
  | _ :: _, _, ⟨y, f, m, _, st⟩ => ⟨y, f, m, rfl, steps_free st⟩
/-- a way by links of L from one to other, no place twice -/
structure IsWay (L : List Lk) (one other : Str) (W : List Lk) : Prop where
  t : Trl one W other
  sub : ∀ x ∈ W, x ∈ L
  nd : (plc one W).Nodup
theorem ways_ok (h : UsedOk L U) {m : Nat} (hU : Val U one other m) : ∀ (k i : Nat) (T : List Ar), Told U T → Val T one other i → i + k = m →
    (waysFrom L U one other k T).length = k ∧ (∀ W ∈ waysFrom L U one other k T, IsWay L one other W) ∧ (waysFrom L U one other k T).flatten.Nodup ∧ (∀ x ∈ (waysFrom L U one other k T).flatten, x ∉ T.map (·.1)) ∧
    ∀ W ∈ waysFrom L U one other k T, ∀ x ∈ W, x ∈ U.map (·.1)
  | 0, i, T, ht, hT, e => ⟨rfl, (fun _ m => nomatch m), List.nodup_nil, (fun _ m => nomatch m), (fun _ m => nomatch m)⟩
  | k + 1, i, T, ht, hT, e => by
    have g := foundU_all h T one
    have mo := more_left h ht (show i < m by omega) hU hT
    obtain ⟨t, st, nd⟩ := found_way g (adjU_ok h) mo
    have W1 : IsWay L one other (wayU L U T one other) := ⟨t, steps_sub (Q := fun x => x ∈ L) (fun z e m => h.sub e (List.mem_filter.mp m).1) st, nd⟩
    have ndW := trl_nodup t nd
    have inU := steps_sub (Q := fun x => x ∈ U.map (·.1)) (fun z e m => List.mem_map.mpr ⟨e, (List.mem_filter.mp m).1, rfl⟩) st
    have out : ∀ x ∈ wayU L U T one other, x ∉ T.map (·.1) := fun x mx k => by
      obtain ⟨V1, V2, eV⟩ := List.append_of_mem mx
      have t' : Trl one (wayU L U T one other) other := t
      have st' : Steps (adjU U) (blkOf T) one (wayU L U T one other) := st
      rw [eV] at t' st'
      obtain ⟨u, y, t1, f, _⟩ := trl_split t'
      obtain ⟨ma, b⟩ := steps_split st' t1 f
      have mU := (List.mem_filter.mp ma).1
      obtain ⟨e', me', ex⟩ := List.mem_map.mp k
      have me'' := ht.sub e' me'
      have y1 : getA U x = some y := (getA_some h.nd).2 mU
      have y2 : getA U x = some e'.2 := (getA_some h.nd).2 (by rw [← ex]; exact me'')
      rw [y1] at y2
      have ey := Option.some.inj y2
      refine of_decide_eq_false b ((getA_some ht.nd).2 ?_)
      rw [ey, ← ex]
      exact me'
    obtain ⟨h1, h2, h3⟩ := tell_ok h _ T one other ht ndW out t (steps_free st)
    have hT' : Val (tell U T (wayU L U T one other)) one other ((i + 1 : Nat) : Int) := fun S => by
      rw [h2, hT S]
      show (i : Int) * _ + _ = ((i : Int) + 1) * _
      rw [Int.add_mul, Int.one_mul]
    obtain ⟨a1, a2, a3, a4, a5⟩ := ways_ok h hU k (i + 1) _ h1 hT' (by omega)
    rw [waysFrom]
    refine ⟨by rw [List.length_cons, a1], fun W mW => ?_, ?_, fun x mx => ?_, fun W mW => ?_⟩
    · rcases List.mem_cons.mp mW with rfl | mW
      · exact W1
      · exact a2 W mW
    · rw [List.flatten_cons, List.nodup_append]
      refine ⟨ndW, a3, fun x hx y hy ee => ?_⟩
      subst ee
      have := a4 x hy
      rw [h3, List.mem_append] at this
      exact this (.inr hx)
    · rw [List.flatten_cons] at mx
      rcases List.mem_append.mp mx with mx | mx
      · exact out x mx
      · have := a4 x mx
        rw [h3, List.mem_append] at this
        exact fun k => this (.inl k)
    · rcases List.mem_cons.mp mW with rfl | mW
      · exact inU
      · exact a5 W mW
end
end Fk
namespace Fk
open PySem PySem.Spec PyProof.Rows L2
abbrev txRow (P : Program) (w : World) (p : Str × Tok) : Int × Value := ((strKind P w).hash p.1, Value.str p.1 p.2)
/-- the set at a: its texts -/
structure TxAt (P : Program) (w : World) (h : Heap) (a : Addr) (L : List (Str × Tok)) (es : Array (Int × Value)) (ep : Nat) (t : SetTable) : Prop where
  ob : ∃ o, h.get? a = some o ∧ o.ExactSet ∧ o.data = .set es ep t
  rows : es.toList = L.map (txRow P w)
  nd : (L.map (·.1)).Nodup
  few : es.size < scanBound
  fit : t.fits es.size = true
  up : Ris t.place.toList
  led : w.params.followText "set-order" = true ∨ t.led = true
section
variable {P : Program} {w : World} {A : Around} {E : Value → Shared → Prop} {s : Shared} {a : Addr} {L : List (Str × Tok)} {es : Array (Int × Value)} {ep : Nat} {t : SetTable} {h h' : Heap}
theorem TxAt.keep (R : TxAt P w h a L es ep t) (k : ∀ o, h.get? a = some o → h'.get? a = some o) : TxAt P w h' a L es ep t := by
  obtain ⟨o, ho, r⟩ := R.ob
  exact ⟨⟨o, k o ho, r⟩, R.rows, R.nd, R.few, R.fit, R.up, R.led⟩
theorem TxAt.size (R : TxAt P w h a L es ep t) : es.size = L.length := by rw [← Array.length_toList, R.rows, List.length_map]
theorem TxAt.els (R : TxAt P w h a L es ep t) : ElemsOf (strKind P w) es.toList := fun e m => by
  rw [R.rows] at m
  obtain ⟨p, _, rfl⟩ := List.mem_map.mp m
  exact ⟨⟨p.1, strKind_is P w p.1 p.2, rfl⟩, rfl⟩
theorem tx_fresh (w : World) : TxAt P w (h.push (frs w)) h.objs.size [] #[] 0 (.fresh 0 0 (!w.params.followText "set-order")) where
  ob := ⟨_, Heap.get?_push_size _ rfl, ⟨rfl, rfl, rfl⟩, rfl⟩
  rows := rfl
  nd := List.nodup_nil
  few := by decide
  fit := rfl
  up := List.Pairwise.nil
  led := by
    show _ ∨ (!w.params.followText "set-order") = true
    cases w.params.followText "set-order"
    · exact .inr rfl
    · exact .inl rfl
theorem str_is {x y : Str} {tk : Tok} : (strKind P w).is x (Value.str y tk) = true ↔ y = x := by
  show Value.isStrOf x (Value.str y tk) = true ↔ _
  simp [Value.isStrOf]
theorem tx_tail {o : Obj} (ho : s.heap.get? a = some o) (ex : o.ExactSet) (hd : o.data = .set es ep t) {L1 : List (Str × Tok)} {es1 : Array (Int × Value)} {t2 : SetTable} {g : Bool → Sem Unit} {wd : Bool} {Q : Option Bool → Shared → Prop}
    (hg : ∀ (b : Bool) (s1 : Shared) (Q' : Unit → Shared → Prop), Q' () s1 → wpAny (model P w) A (g b) Q' E s1) (rows1 : es1.toList = L1.map (txRow P w)) (nd1 : (L1.map (·.1)).Nodup) (few1 : es1.size < scanBound) (fit2 : t2.fits es1.size = true) (up2 : Ris t2.place.toList)
    (led2 : w.params.followText "set-order" = true ∨ t2.led = true) (q : ∀ h' L' es' ep' t', Heap.SameBut a s.heap h' → TxAt P w h' a L' es' ep' t' → L'.Perm L1 → Q (some true) { s with heap := h' }) :
    wpAny (model P w) A (do
        storeSet a es1 t2
        if (!wd && t2.tooFull) = true then do
            g (relayAll t2 es1 (SetTable.grown es1.size)).2.2
            storeSet a (relayAll t2 es1 (SetTable.grown es1.size)).1 (relayAll t2 es1 (SetTable.grown es1.size)).2.1
            pure (some true)
          else pure (some true)) Q E s := by
  have ho1 := store_at (es' := es1) (t' := t2) ho hd
  have sb : Heap.SameBut a s.heap (s.heap.update a (Obj.putSet es1 t2)) := Heap.SameBut.update ..
  refine wpAny_bind (wpAny_storeSet_of ho hd ?_ (fits_of_scanBound few1))
  by_cases big : (!wd && t2.tooFull) = true
  · refine wp_if_pos big ?_
    obtain ⟨L2, e2, p2⟩ := perm_back (f := txRow P w) (show es1.toList.Perm (relayAll t2 es1 (SetTable.grown es1.size)).1.toList from (relayAll_perm t2 es1 (SetTable.grown es1.size)).symm) L1 rows1
    have fit3 := relayAll_fits t2 es1 (SetTable.grown es1.size)
    have up3 := relayAll_ris t2 es1 (SetTable.grown es1.size)
    have led3 := relayAll_led t2 es1 (SetTable.grown es1.size)
    generalize relayAll t2 es1 (SetTable.grown es1.size) = Z at e2 fit3 up3 led3 ⊢
    obtain ⟨es2, t3, gave⟩ := Z
    dsimp only at e2 fit3 up3 led3 ⊢
    have sz : es2.size = es1.size := by rw [← Array.length_toList, e2, List.length_map, p2.length_eq, ← List.length_map (f := txRow P w), ← rows1, Array.length_toList]
    refine wpAny_bind (hg _ _ _ (wpAny_bind (wpAny_storeSet_of ho1 rfl (wpAny_pure (q _ L2 es2 (ep + 1 + 1) t3 (sb.trans (Heap.SameBut.update ..)) ?_ p2)) (fits_of_scanBound (by rw [sz]; exact few1)))))
    exact ⟨⟨_, store_at ho1 rfl, ⟨ex.1, ex.2.1, ex.2.2⟩, rfl⟩, e2, (p2.map (·.1)).nodup_iff.mpr nd1, by rw [sz]; exact few1, fit3, up3, led2.imp id fun z => by rw [led3]; exact z⟩
  · exact wp_if_neg big (wpAny_pure (q _ L1 es1 (ep + 1) t2 sb ⟨⟨_, ho1, ⟨ex.1, ex.2.1, ex.2.2⟩, rfl⟩, rows1, nd1, few1, fit2, up2, led2⟩ (.refl _)))
theorem tx_put (R : TxAt P w s.heap a L es ep t) {x : Str} {tk : Tok} (room : L.length + 1 < scanBound) {Q : Bool → Shared → Prop}
    (q : ∀ b h' L' es' ep' t', Heap.SameBut a s.heap h' → TxAt P w h' a L' es' ep' t' → (x ∈ L.map (·.1) → L' = L) → (x ∉ L.map (·.1) → L'.Perm ((x, tk) :: L)) → Q b { s with heap := h' }) :
    wpAny (model P w) A (setAddHashed a (.str x tk) ((strKind P w).hash x)) Q E s := by
  obtain ⟨o, ho, ex, hd⟩ := R.ob
  have scan : (Value.str x tk).scannable = true := rfl
  have hit : ∀ p : Str × Tok, (strKind P w).is x (txRow P w p).2 = true ↔ p.1 = x := fun p => str_is
  unfold setAddHashed setAddHashedIn
  refine wpAny_holding (wpAny_bind (wpAny_setState_of ho hd R.fit ?_))
  dsimp only
  refine wp_if_pos (byScan_of scan R.few R.els) ?_
  unfold setAddByScan
  refine wpAny_bind (wpAny_bind (wpAny_rule (wpAny_bind (wpAny_setScan_of (strKind_is P w x tk) ho hd R.fit R.els ?_))))
  cases hfi : List.findIdx? (fun e => (strKind P w).is x e.2) es.toList with
  | some j =>
    dsimp only
    obtain ⟨hj, pj, _⟩ := List.findIdx?_eq_some_iff_getElem.mp hfi
    have mj : es.toList[j] ∈ L.map (txRow P w) := by rw [← R.rows]; exact List.getElem_mem hj
    obtain ⟨p, mp, ep'⟩ := List.mem_map.mp mj
    have inn : x ∈ L.map (·.1) := List.mem_map.mpr ⟨p, mp, (hit p).1 (by rw [ep']; exact pj)⟩
    exact wpAny_pure (wpAny_pure (q false s.heap L es ep t (Heap.SameBut.refl a s.heap) R (fun _ => rfl) fun z => absurd inn z))
  | none =>
    dsimp only
    have out : x ∉ L.map (·.1) := fun m => by
      obtain ⟨p, mp, e⟩ := List.mem_map.mp m
      have c := List.findIdx?_eq_none_iff.mp hfi (txRow P w p) (by rw [R.rows]; exact List.mem_map.mpr ⟨p, mp, rfl⟩)
      rw [(hit p).2 e] at c
      cases c
    have quiet : ∀ (b : Bool) (s1 : Shared) (Q' : Unit → Shared → Prop), Q' () s1 → wpAny (model P w) A (match b with | true => rule "set.scan.the-table-gave-way" | false => pure ()) Q' E s1 := fun b s1 Q' z => by
      cases b
      · exact wpAny_pure z
      · exact wpAny_rule z
    have pm := layNew_perm t es ((strKind P w).hash x) (.str x tk)
    have fit1 := layNew_fits t es ((strKind P w).hash x) (.str x tk)
    have up1 := layNew_ris t es ((strKind P w).hash x) (.str x tk) R.up
    have led1 := layNew_led t es ((strKind P w).hash x) (.str x tk)
    generalize layNew t es ((strKind P w).hash x) (.str x tk) = Z at pm fit1 up1 led1 ⊢
    obtain ⟨es1, t1, wd, gave⟩ := Z
    dsimp only at pm fit1 up1 led1 ⊢
    rw [Array.toList_push, R.rows] at pm
    obtain ⟨L1, rows1, p1⟩ := perm_back (f := txRow P w) pm.symm (L ++ [(x, tk)]) (by rw [List.map_append]; rfl)
    have p1' : L1.Perm ((x, tk) :: L) := p1.trans (List.perm_append_singleton _ _)
    have nd1 : (L1.map (·.1)).Nodup := (p1'.map (·.1)).nodup_iff.mpr (List.nodup_cons.mpr ⟨out, R.nd⟩)
    have sz1 : es1.size = L.length + 1 := by rw [← Array.length_toList, rows1, List.length_map, p1'.length_eq, List.length_cons]
    have few1 : es1.size < scanBound := by rw [sz1]; exact room
    have led' : w.params.followText "set-order" = true ∨ t1.led = true := R.led.imp id fun z => by rw [led1]; exact z
    have fin : ∀ h' L' es' ep' t', Heap.SameBut a s.heap h' → TxAt P w h' a L' es' ep' t' → L'.Perm L1 → Q true { s with heap := h' } := fun h' L' es' ep' t' sb R' p => q true h' L' es' ep' t' sb R' (fun z => absurd z out) fun _ => p.trans p1'
    refine wpAny_bind (quiet _ _ _ ?_)
    split
    · refine wpAny_bind ?_
      rw [hashByValue_scannable 8 scan]
      refine wpAny_pure ?_
      refine tx_tail ho ex hd quiet rows1 nd1 few1 ?_ ?_ ?_ fun h' L' es' ep' t' sb R' p => wpAny_pure (fin h' L' es' ep' t' sb R' p)
      · first | exact fit1 | (split <;> first | exact fit1 | exact SetTable.fits_plain_off fit1)
      · first | exact up1 | (split <;> exact up1)
      · first | exact led' | (split <;> exact led')
    · refine wpAny_bind (wpAny_pure ?_)
      simp only [↓reduceIte]
      exact tx_tail ho ex hd quiet rows1 nd1 few1 fit1 up1 led' fun h' L' es' ep' t' sb R' p => wpAny_pure (fin h' L' es' ep' t' sb R' p)
/-- found.add(x) -/
theorem tx_add (R : TxAt P w s.heap a L es ep t) {x : Str} {tk : Tok} (room : L.length + 1 < scanBound) {Q : Value → Shared → Prop}
    (q : ∀ h' L' es' ep' t' tk', Heap.SameBut a s.heap h' → TxAt P w h' a L' es' ep' t' → (x ∈ L.map (·.1) → L' = L) → (x ∉ L.map (·.1) → L'.Perm ((x, tk) :: L)) → Q .none { s with heap := h', toks := tk' }) :
    wpAny (model P w) A (call (.builtin "set.add") [.ref a, .str x tk]) Q E s := by
  obtain ⟨o, ho, ex, hd⟩ := R.ob
  have ty : s.TypeIs (.ref a) "set" := ⟨o, ho, ex.1⟩
  refine wpAny_call_entry F.slot_set_add ty F.entry_set_add ?_ (F.args_set_add_2 _ _)
  unfold Builtin.«set.add» Builtin.Frozenset.oneOther
  simp only [List.isEmpty_nil, bind_assoc]
  unfold Builtin.Frozenset.addrOf setAdd
  refine wpAny_bind (wpAny_pure ?_)
  try dsimp only
  refine wpAny_bind (wpAny_pure ?_)
  try dsimp only
  refine wpAny_bind (wpAny_holding (wpAny_bind ((strKind P w).pyHash (strKind_is P w x tk) ?_)))
  refine tx_put (s := { s with toks := s.toks + 1 }) R room fun b h' L' es' ep' t' sb R' c1 c2 => ?_
  show wpAny _ _ (ret Value.none) _ _ _
  exact wpAny_pure ⟨_, rfl, q h' L' es' ep' t' _ sb R' c1 c2⟩
/-- the set of the texts zs -/
def TxS (P : Program) (w : World) (a : Addr) (zs : List Str) : HO := .ext fun h => ∃ L es ep t, TxAt P w h a L es ep t ∧ (∀ x, x ∈ L.map (·.1) ↔ x ∈ zs) ∧ L.length ≤ zs.length
theorem txs_ok {H : Hp} {zs : List Str} (R : TxAt P w h a L es ep t) (m : ∀ x, x ∈ L.map (·.1) ↔ x ∈ zs) (l : L.length ≤ zs.length) : ObjOk P w H h a (TxS P w a zs) := by
  obtain ⟨o, ho, _⟩ := id R.ob
  exact ⟨⟨L, es, ep, t, R, m, l⟩, ⟨o, ho⟩, fun h1 h2 ⟨L', es', ep', t', R', r⟩ k => ⟨L', es', ep', t', R'.keep fun o e => k _ e, r⟩⟩
end
/-- {e for .. in .. for .. in ..}, e a text -/
def teT (P : Program) (w : World) (te : TE) : Addr → L2.St → Hp → (Hp → Prop) → Prop := fun D σ H R => te σ H fun y H4 => ∃ x zs, y = .str x ∧ H4 D = some (TxS P w D zs) ∧ zs.length < 4000 ∧ R (upd H4 D (TxS P w D (zs ++ [x])))
section
variable {X : Cx}
theorem txs_add {pins : List (Addr × Obj)} {σ : L2.St} {H : Hp} {s : Shared} {a : Addr} {x : Str} {tk : Tok} {zs : List Str} {E : Value → Shared → Prop} {Q : Value → Shared → Prop} (I : Inv X pins σ H s) (e : H a = some (TxS X.prog X.w a zs)) (few : zs.length < 4000)
    (q : ∀ s', Inv X pins σ (upd H a (TxS X.prog X.w a (zs ++ [x]))) s' → Q .none s') : wpAny (model X.prog X.w) X.A (call (.builtin "set.add") [.ref a, .str x tk]) Q E s := by
  obtain ⟨L, es, ep, t, R, m, l⟩ := (I.hok a _ e).1
  refine tx_add R (by unfold scanBound; omega) fun h' L' es' ep' t' tk' sb R' c1 c2 => q _ ?_
  have ok : ObjOk X.prog X.w (upd H a (TxS X.prog X.w a (zs ++ [x]))) h' a (TxS X.prog X.w a (zs ++ [x])) := by
    by_cases c : x ∈ L.map (·.1)
    · have z := c1 c
      subst z
      refine txs_ok R' (fun y => ?_) (by rw [List.length_append]; exact Nat.le_trans l (Nat.le_add_right _ _))
      rw [m, List.mem_append, List.mem_singleton]
      exact ⟨.inl, fun z => z.elim id fun z => by rw [z]; exact (m x).1 c⟩
    · have p := c2 c
      refine txs_ok R' (fun y => ?_) (by rw [p.length_eq, List.length_append]; exact Nat.succ_le_succ l)
      rw [(p.map (·.1)).mem_iff, List.map_cons, List.mem_cons, m, List.mem_append, List.mem_singleton]
      exact Or.comm
  obtain ⟨o, ho, _⟩ := R'.ob
  exact I.write (t' := tk') (x := a) (e := a) (by rw [e]; exact True.intro) (.inl rfl) (fun b u hb hu => (sb.2 b hb).trans hu) ⟨o, ho⟩ ok
theorem pe_sc2 {elt tg iter tg1 iter1 : Expr} {scope : Scope} {own : List (Str × Nat)} {vs1 : List Nat} {pos : Pos} {wi wi1 : TI} {g g1 : TG} {te : TE} (hc : X.calm = true) (hN : X.N.Nodup) (hi : PI X tg iter wi) (ok : BlkOk X.N X.env.scope scope own) (hv : ∀ i ∈ vs1, i ∈ own.map (·.2))
    (hg : ∀ (s : Shared) (H : Hp) (C : Addr) (cl : List (Str × Addr)) (fp : List Addr), PG (X.blk s H scope (compEnvC scope cl C X.env) fp) tg g)
    (hi1 : ∀ (s : Shared) (H : Hp) (C : Addr) (cl : List (Str × Addr)) (fp : List Addr), PI (X.blk s H scope (compEnvC scope cl C X.env) fp) tg1 iter1 wi1)
    (hg1 : ∀ (s : Shared) (H : Hp) (C : Addr) (cl : List (Str × Addr)) (fp : List Addr), PG (X.blk s H scope (compEnvC scope cl C X.env) fp) tg1 g1)
    (he : ∀ (s : Shared) (H : Hp) (C : Addr) (cl : List (Str × Addr)) (fp : List Addr), PE (X.blk s H scope (compEnvC scope cl C X.env) fp) elt te)
    (hs : ∀ x, foldedSetIterable iter X.env x = pure x := by intro _; rfl) (hs1 : ∀ env x, foldedSetIterable iter1 env x = pure x := by intro _ _; rfl) :
    PE X (.SetComp elt [⟨tg, iter, [], 0⟩, ⟨tg1, iter1, [], 0⟩] scope pos) (tC2D (fun D => TxS X.prog X.w D []) wi g wi1 g1 (teT X.prog X.w te) (own.map (·.2)) vs1) := by
  refine ⟨fun pins s σ H Q I h => ?_⟩
  rw [PpSet.eval_SetComp]
  refine comp2_coreD (ob := frs X.w) (turns_set elt tg iter tg1 iter1 scope pos) (fun A s Q E q => PpSet.newSet_ok q) (fun s H I => txs_ok (tx_fresh X.w) (fun x => by simp) (Nat.zero_le _)) hc hN I hi ok hv hg hs hi1 hg1 (fun s H C cl fp pins s' σ' H' D P I' q => ?_) hs1 h fun D C s' m H' I' q hn f => ⟨m, hn, fun h'' sb => ?_⟩
  · refine wpAny_bind (thn ((he s H C cl fp).run pins s' σ' H' _ I' q) fun z s10 ⟨yv, H10, I10, r10, x, zs, ex, hD, few, nx⟩ => wpAny_bind (wpAny_standAt ?_))
    subst ex
    obtain ⟨tk, rfl⟩ := r10
    exact wpAny_bind (txs_add (X := X.blk s H scope (compEnvC scope cl C X.env) fp) I10 hD few fun s12 I12 => wpAny_pure ⟨_, I12, nx⟩)
  · obtain ⟨f0, f1, f2, f3, f4, f5⟩ := f
    exact ⟨.ref D, H', I'.turned (t' := s'.toks) (fun b o hb e => (sb.2 b hb).trans e) f0 f1 f3 f4 f5, rfl, q⟩
/-- sorted(e), e a set of texts -/
def rSortTx (P : Program) (w : World) : List V → Hp → VK → Prop := fun xs H Q => ∃ (a : Addr) (zs : List Str), xs = [.ref a] ∧ H a = some (TxS P w a zs) ∧ zs.length < 4000 ∧
  ∀ (l : Addr) (ys : List Str), H l = none → (∀ x, x ∈ ys ↔ x ∈ zs) → ys.Pairwise Lts → Q (.ref l) (upd H l (.lst (ys.map V.str)))
theorem cr_sortTx (hu : X.A.units + 64 < cLine) (hc : X.calm = true) : CallR X (.builtin "sorted") (rSortTx X.prog X.w) := by
  intro pins s σ H xs us Q I r h
  obtain ⟨a, zs, rfl, ha, few, q⟩ := h
  cases r with
  | cons rx rr =>
    cases rr
    cases rx
    obtain ⟨L, es, ep, t, R, m, l⟩ := (I.hok a _ ha).1
    obtain ⟨o, ho, ex, hd⟩ := R.ob
    have sz := R.size
    refine sorted_of_set (val := fun p : Str × Tok => Value.str p.1 p.2) (enc := fun p : Str × Tok => PyData.str p.1) (L := L) (I.ok.hd hc) ⟨o, ho, ex.1, hd⟩ R.fit R.few R.up R.led ?_ ?_ ?_ ?_ ?_ ?_
    · rw [R.rows, List.map_map]; rfl
    · intro h2 k2 p mp
      exact .str _ _
    · exact PySem.W.AllAlike.of fun x y => by simp [PySem.W.alike]
    · exact PySem.W.Sortable.others fun x => ⟨by simp, by simp⟩
    · intro p mp
      have e1 : PyData.depth (.str p.1) = 0 := rfl
      rw [e1]
      omega
    · intro s2 pl out c L' k2 gg oo hp hl hout pm up
      have hn : H pl = none := I.hok.fresh hp
      have len : (L'.map fun p => V.str p.1).length ≤ sizeLine := by
        rw [List.length_map, pm.length_eq, sizeLine_eq]
        omega
      have hv : Vals (L'.map fun p => V.str p.1) out.toList := by
        rw [hout]
        clear hout pm up len
        induction L' with
        | nil => exact .nil
        | cons p L' ih => exact .cons ⟨p.2, rfl⟩ ih
      have J2 : Inv X pins σ (upd H pl (.lst (L'.map fun p => V.str p.1))) s2 := I.call' (ch := []) oo (Un.laid k2 hp hn) (I.hok.laid k2 hp ⟨len, out.toList, c, hv, hl⟩) (by rw [gg]; exact I.bare) (fun _ z => nomatch z)
      have ndL : (L'.map (·.1)).Nodup := (pm.map (·.1)).nodup_iff.mpr R.nd
      have z := q pl (L'.map (·.1)) hn (fun x => by rw [(pm.map (·.1)).mem_iff, m]) ?_
      · rw [List.map_map] at z
        exact ⟨.ref pl, _, J2, rfl, z⟩
      · rw [List.nodup_iff_pairwise_ne, List.pairwise_map] at ndL
        rw [List.pairwise_map]
        refine (up.and ndL).imp fun {x y} z => ?_
        obtain ⟨z1, z2⟩ := z
        rw [PySem.W.dataLe_eq] at z1
        simp only [cond_false, Bool.not_eq_true'] at z1
        rw [PySem.W.dataLt_str] at z1
        have nlt := of_decide_eq_false z1
        show cL x.1 < cL y.1
        have le := List.not_lt.mp nlt
        exact Decidable.byContradiction fun k => z2 (cL_ext (List.le_antisymm le (List.not_lt.mp k)))
end
end Fk
namespace Fk
open PySem PySem.Spec PyProof.Rows L2 NdefX

/-- what the written part says of such an __init__ at f: its cell tells the class at D -/
structure SupTxt (P : Program) (K : PySem.W.Frag) (mg : Str → Option Value) (D cc cda : Addr) : Prop where
  code : ∃ ccl cdd vs ccs file tf, K.lookup cda = some ⟨ccl, cdd, .fields vs, ccs⟩ ∧ vs[2]? = some (.str file tf) ∧ ((P.main.file : Str) == file) = true
  cell : ∃ cl cld csl, K.lookup cc = some ⟨cl, cld, .cell (some (.ref D)), csl⟩
  cls : ∃ cd, PySem.W.clsIn K D = some cd
  sub : PySem.W.mroIn K D (.ref D) = some true
  opq : PySem.W.nsIn K cStatics "thirdparty.any" = some none
  meth : PySem.W.ks_superIn K D D "__init__" = some (some (.builtin "ValueError.__init__"))
  val : PySem.W.subIn K (.ref D) (.type "ValueError") = some true
  sup : mg "super" = none
  top : (P.main.scope.names.lookup ("super" : Str)).isSome = false

/-- super().__init__(e): the exception at a is as it was -/
def tSup (K : PySem.W.Frag) (D : Addr) (ta : TA) (u : TS) : TS := fun E σ H => ∃ a, σ[0]? = some (some (.ref a)) ∧ H a = some (exo a D none) ∧ ta σ H fun vs H1 => vs.length ≤ 1000 ∧ H1 a = some (exo a D none) ∧ u E σ H1

section
variable {CX : CXT} {P : Program} {w : World} {K : PySem.W.Frag} {mg : Str → Option Value} {base : Heap} {N : List Str} {F : NF} {f : Addr} {A : Around} {outer : List Env} {s s1 : Shared} {H H1 : Hp} {E : XK} {D cc cda : Addr}
theorem run_super {fd : FuncData} {ar : Arg} {of : Obj} {σ : L2.St} {pins : List (Addr × Obj)} {G : Ends} {e : Expr} {body rest : List Stmt} {ta : TA} {u : TS} {p0 p1 p2 p3 p4 : Pos} {pl : Sem Bool}
    (T : SupTxt P K mg D cc cda) (O : OexC K D) (hcl : F.cl = [(("__class__" : Str), cc)]) (hcd : F.c = cda) (lk : K.lookup f = some of) (hfd : of.data = .func fd) (hp : (fd.params.posonlyargs ++ fd.params.args).head? = some ar)
    (hks : F.scope.names.lookup ("super" : Str) = some .globalImplicit) (hkc : F.scope.names.lookup ("__class__" : Str) = some .free) (hka : F.scope.names.lookup ar.arg = some .local) (hN : N[0]? = some ar.arg) (hk : F.scope.kind = .function)
    (ha : PA (ncx CX P w K mg base N F f A outer s H E) [e] ta) (hr : PSs (ncx CX P w K mg base N F f A outer s H E) rest u)
    (I : Inv (ncx CX P w K mg base N F f A outer s H E) pins σ H1 s1) (h : tSup K D ta u G σ H1)
    (hw : swapsWith (.Call (.Attribute (.Call (.Name "super" p0) [] [] p1) "__init__" p2) [e] [] p3) none p4.line (envF F f s.heap.objs.size) = pure false)
    (he : eval (.Call (.Attribute (.Call (.Name "super" p0) [] [] p1) "__init__" p2) [e] [] p3) (envF F f s.heap.objs.size) = (do
      let ov ← attributeBase (.Call (.Name "super" p0) [] [] p1) "__init__" (envF F f s.heap.objs.size) (eval (.Call (.Name "super" p0) [] [] p1) (envF F f s.heap.objs.size))
      standAt p2.atName
      let (f', first) ← holding [ov] (getMethod ov "__init__" pl)
      callWith p3 f' first (backTo p3 (starEach [e] (envF F f s.heap.objs.size))) []))
    (hse : starEach [e] (envF F f s.heap.objs.size) = (false, eval e (envF F f s.heap.objs.size)) :: starEach [] (envF F f s.heap.objs.size)) :
    _root_.PySem.wpAt (model P w) (A.deeper (envF F f s.heap.objs.size)) (.func body (envF F f s.heap.objs.size)) (execs (.Expr (.Call (.Attribute (.Call (.Name "super" p0) [] [] p1) "__init__" p2) [e] [] p3) p4 :: rest) (envF F f s.heap.objs.size))
      (SP (ncx CX P w K mg base N F f A outer s H E) pins G) (ncx CX P w K mg base N F f A outer s H E).xe s1 := by
  obtain ⟨a, h0, hH, h⟩ := h
  obtain ⟨nm0, q0, N0, bs, bm, sn, sub, ab, col, dd, k0, k1, k2, k3, k5, hC, hbm⟩ := O.cls
  obtain ⟨ccl, cdd, vs, ccs, file, tf, hcode, hvs, hfile⟩ := T.code
  obtain ⟨cl, cld, csl, hcell⟩ := T.cell
  obtain ⟨cdD, hD⟩ := T.cls
  have X : K.In s1.heap := I.kIn
  obtain ⟨m, hns, hl⟩ := id I.loc
  obtain ⟨v, rv, lv⟩ := hl 0 _ _ hN h0 (.inl hka)
  cases rv
  have hv : m ar.arg = some (.ref a) := by
    rcases lv with ⟨_, z⟩ | ⟨z, _⟩
    · exact z
    · have z : F.scope.names.lookup ar.arg = some .cell ∨ F.scope.names.lookup ar.arg = some .free := z
      rw [hka] at z
      rcases z with z | z <;> cases z
  obtain ⟨t1, ho⟩ := exo_at I.hok hH
  obtain ⟨hp1, g, d, t, os⟩ := s1
  obtain ⟨oD, hD1, hD2⟩ : ∃ oD, hp1.get? D = some oD ∧ oD.data = .cls cdD := by
    unfold PySem.W.clsIn at hD
    split at hD
    · rename_i c d' cd' sl ho'
      cases hD
      exact ⟨_, X _ _ ho', rfl⟩
    · cases hD
  obtain ⟨mb, hb1, hb2⟩ := I.mod.blt
  subst hcd
  refine _root_.PySem.ks_wpAt_execs_cons (_root_.PySem.ks_wpAt_Expr_any (_root_.PySem.ks_wpAt_MethodCall (pl := pl) ?_ he) I.quiet hw)
  refine _root_.PySem.ks_wpAt_super_base (env := envF F f s.heap.objs.size) hks hkc (by decide) rfl (X _ _ lk) hfd hp rfl (X _ _ hcode) rfl hvs hfile T.top ?_
  refine PySem.W.ks_loadName_global hk hks (Calls.loadGlobal_builtin (env := envF F f s.heap.objs.size) (I.mod.glob.keeps I.bk) T.sup (hb1.keeps I.bk) ((hb2 "super" (by decide)).trans (by first | boot_by_name | rfl | kernel_rfl | decide +kernel)) ⟨rfl, ?_⟩)
  refine wpAny_loadName_free hk hkc (show F.cl.lookup ("__class__" : Str) = some cc by rw [hcl]; rfl) ⟨_, X _ _ hcell, rfl⟩ ?_
  refine wpAny_loadName_local hk hka hns hv ?_
  refine _root_.PySem.ks_wpAny_isType_cls hD1 hD2 ⟨rfl, ?_⟩
  refine _root_.PySem.ks_wpAny_call_super hD1 hD2 ho rfl (fun c e => by cases e) (PySem.W.looks_mroIn X T.sub) (fun h2 eso k2 => ?_)
  have X2 : K.In h2 := X.keeps k2
  have IA : PySem.W.InstAt h2 a { cls := .ref D, dict := none, data := .fields #[.ref t1, .none, .none, .none, .bool false, .none] } D none := ⟨k2 _ _ ho, rfl, rfl, trivial⟩
  have hm := T.meth
  unfold PySem.W.ks_superIn at hm
  rw [hD, Option.bind_some] at hm
  refine PySem.W.kxs_getMethod PySem.W.kxs_ValueError eso (PySem.W.looks_opaque X2 T.opq) (l₀ := cdD.mro) (fun A Q E s k q => wpAny_bind ((PySem.W.looks_clsIn X2 hD) A _ E s k (wpAny_pure q))) rfl X2 hm
    (IA.type.andThen (PySem.W.looks_subIn X2 T.val)) (PySem.W.ks_ne X2 IA hD) (by decide) ?_
  have hk3 : ∀ b o, hp1.get? b = some o → (h2.push (PySem.W.kxs_mw "ValueError.__init__" a)).get? b = some o := fun b o z => Heap.get?_push_of_some _ (k2 b o z)
  have hu3 : (h2.push (PySem.W.kxs_mw "ValueError.__init__" a)).get? h2.objs.size = some (PySem.W.kxs_mw "ValueError.__init__" a) := Heap.get?_push_size _ rfl
  have hsz : hp1.objs.size ≤ h2.objs.size := Nat.le_of_lt (Heap.lt_size eso)
  have I3 : Inv (ncx CX P w K mg base N F f A outer s H E) ((h2.objs.size, PySem.W.kxs_mw "ValueError.__init__" a) :: pins) σ H1 ⟨h2.push (PySem.W.kxs_mw "ValueError.__init__" a), g, d, t + 1, os⟩ := by
    have J : Inv (ncx CX P w K mg base N F f A outer s H E) pins σ H1 ⟨h2.push (PySem.W.kxs_mw "ValueError.__init__" a), g, d, t + 1, os⟩ := I.kept (t' := t + 1) hk3
    refine J.pins_of fun p hp => ?_
    rcases List.mem_cons.mp hp with rfl | hp
    · exact ⟨hu3, I.hok.fresh hsz, Nat.ne_of_gt (Nat.lt_of_lt_of_le I.lt hsz), I.nofs hsz, fun v z => by cases z⟩
    · exact J.pin p (List.mem_append_right _ hp)
  show wpAny _ _ (callWith p3 (.ref h2.objs.size) [] (backTo p3 (starEach [e] (envF F f s.heap.objs.size))) []) _ _ _
  have hpl : (backTo p3 (starEach [] (envF F f s.heap.objs.size))).any (·.1) = false := by rfl
  have hsp := ha.run p3 _ _ σ H1 _ I3 h
  have hse' : starEach [e] (ncx CX P w K mg base N F f A outer s H E).env = (false, eval e (envF F f s.heap.objs.size)) :: starEach [] (envF F f s.heap.objs.size) := hse
  rw [hse'] at hsp
  rw [hse]
  refine PySem.W.kxs_callWith (i := "ValueError.__init__") (x := a) (by show (false || (backTo p3 (starEach [] (envF F f s.heap.objs.size))).any (·.1)) = false; rw [hpl]; rfl) ?_
  refine Calls.evalArgs_plain (thn hsp fun us s4 ⟨ws, H4, I4, r4, hlen, hH4, q⟩ => ?_)
  have hu4 := (I4.pin _ (List.mem_append_right _ List.mem_cons_self)).1
  refine ⟨hu4, ?_⟩
  obtain ⟨t4, ho4⟩ := exo_at I4.hok hH4
  obtain ⟨hh, g4, d4, tk4, os4⟩ := s4
  have hz : us.length ≤ sizeLine := by
    rw [← Paired.length r4, sizeLine_eq]
    omega
  refine wpAny_call (codeAny_of_tree ?_)
  show wpAny _ _ (callAny (.ref h2.objs.size) ⟨[] ++ us, []⟩) _ _ _
  simp only [callAny]
  refine wpAny_bind (wpAny_load hu4 ?_)
  simp only [PySem.W.kxs_mw, show (Value.type "method-wrapper" == Value.type "method" || Value.type "method-wrapper" == Value.type "builtin_function_or_method" || Value.type "method-wrapper" == Value.type "method-wrapper") = true by decide, if_true]
  refine PySem.W.KFB.if_so (by decide) ?_
  refine wpAny_bind (PySem.W.check_bound_init PySem.F.excBase_ValueError.toExcCallFacts (I4.kIn _ _ hC) ho4 rfl ?_)
  refine wpAny_bind (wpAny_pure (wpAny_pure ?_))
  refine ⟨_root_.PySem.plainId_quiet PySem.F.excBase_ValueError.init.plain _, codeAny_builtin PySem.F.excBase_ValueError.initEntry ?_⟩
  refine PySem.W.exc_init_tree (cls := .ref D) (t0 := t4) (dv := none) (c2 := .none) (c3 := .none) (b4 := .bool false) ho4 hz fun h5 k5 e5 _ => ?_
  have J := I4.write (t' := tk4) (x := a) (e := a) (o := exo a D none) (by rw [hH4]; exact True.intro) (.inl rfl) k5 ⟨_, e5⟩ (exo_ok e5)
  have eu : upd H4 a (exo a D none) = H4 := by
    funext b
    by_cases hb : b = a
    · rw [hb, upd_same, hH4]
    · rw [upd_ne hb]
  rw [eu] at J
  show _root_.PySem.wpAt _ _ _ _ _ _ _
  exact wpAt_of_wpAny (hr.run pins _ σ H4 G (J.pins_of fun p hp => J.pin p (List.mem_append_right _ (List.mem_cons_of_mem _ hp))) q)
theorem fn_super {k : Nat} {name qual : Str} {params : Arguments} {rest : List Stmt} {scope : Scope} {dV kV doc pm ct oc : Value} {an od : Option Addr} {osl : Array (Option Value)} {ps : List Str} {sp : Sp} {ar : Arg} {e : Expr} {p0 p1 p2 p3 p4 : Pos} {pl : Sem Bool}
    (T : SupTxt P K mg D cc cda) (O : OexC K D)
    (lk : K.lookup f = some ⟨oc, od, .func (PySem.W.ksFn name qual params (.Expr (.Call (.Attribute (.Call (.Name "super" p0) [] [] p1) "__init__" p2) [e] [] p3) p4 :: rest) scope dV kV doc pm an (.ref cda) ct cc), osl⟩) (hcd : PySem.W.codeIn K (.ref cda) qual = true)
    (S : NScope N ps ["__class__"] scope) (hp : (params.posonlyargs ++ params.args).head? = some ar) (hks : scope.names.lookup ("super" : Str) = some .globalImplicit) (h0 : ps[0]? = some ar.arg)
    (len : ∀ vs H Q E, sp vs H Q E → vs.length = ps.length)
    (hw : ∀ L, swapsWith (.Call (.Attribute (.Call (.Name "super" p0) [] [] p1) "__init__" p2) [e] [] p3) none p4.line (PySem.W.ksEnv qual scope L f (.ref cda) cc) = pure false)
    (he : ∀ L, eval (.Call (.Attribute (.Call (.Name "super" p0) [] [] p1) "__init__" p2) [e] [] p3) (PySem.W.ksEnv qual scope L f (.ref cda) cc) = (do
      let ov ← attributeBase (.Call (.Name "super" p0) [] [] p1) "__init__" (PySem.W.ksEnv qual scope L f (.ref cda) cc) (eval (.Call (.Name "super" p0) [] [] p1) (PySem.W.ksEnv qual scope L f (.ref cda) cc))
      standAt p2.atName
      let (f', first) ← holding [ov] (getMethod ov "__init__" pl)
      callWith p3 f' first (backTo p3 (starEach [e] (PySem.W.ksEnv qual scope L f (.ref cda) cc))) []))
    (hse : ∀ L, starEach [e] (PySem.W.ksEnv qual scope L f (.ref cda) cc) = (false, eval e (PySem.W.ksEnv qual scope L f (.ref cda) cc)) :: starEach [] (PySem.W.ksEnv qual scope L f (.ref cda) cc))
    (hbody : ∀ (A : Around) (outer : List Env) (s : Shared) (H : Hp) (vs : List V) (Q : VK) (E : XK), Room k (A.deeper (PySem.W.ksEnv qual scope s.heap.objs.size f (.ref cda) cc)) → sp vs H Q E →
      ∃ ta t, PA (ncx CX P w K mg base N ⟨name, qual, params, [], scope, [("__class__", cc)], cda⟩ f A outer s H E) [e] ta ∧ PSs (ncx CX P w K mg base N ⟨name, qual, params, [], scope, [("__class__", cc)], cda⟩ f A outer s H E) rest t ∧
        tSup K D ta t { nx := fun _ H' => Q .non H', rt := Q } (startF N vs [some (.ref D)]) H) :
    FnOk P w K mg base CX (k + 1) f (PySem.W.ksFn name qual params (.Expr (.Call (.Attribute (.Call (.Name "super" p0) [] [] p1) "__init__" p2) [e] [] p3) p4 :: rest) scope dV kV doc pm an (.ref cda) ct cc) ps sp := by
  refine ⟨len, fun A outer s H args us vs Q E hr e0 hb r hsp => ?_⟩
  have hl := len _ _ _ _ hsp
  have KX : K.In s.heap := e0.mod.kin.keeps fun b o e => (e0.bs b o e).1
  have lim : s.heap.NoLimit := e0.mod.nolimit.keeps fun b o e => (e0.bs b o e).1
  obtain ⟨ta, t, hpa, hps, hq⟩ := hbody A outer s H vs Q E (hr.deeper _) hsp
  obtain ⟨cl, cld, csl, hcell⟩ := T.cell
  have hcb := e0.mod.kin _ _ hcell
  refine _root_.PySem.ks_codeAny_call_defAt (fd := PySem.W.ksFn name qual params _ scope dV kV doc pm an (.ref cda) ct cc) (binds := ps.zip us) hr.depth (KX _ _ lk) rfl lim (PySem.W.codeRec_of KX hcd) rfl hb S.nocell
    (fun y hy => S.par y.1 (List.of_mem_zip (a := y.1) (b := y.2) hy).1) (fun h1 hns hk1 => ?_) S.co S.gen S.kind
  have C : CellsAt [("__class__", cc)] ["__class__"] [some (.ref D)] s.heap H := by
    have one : ∀ y c, ([("__class__", cc)] : List (Str × Addr)).lookup y = some c → y = "__class__" ∧ c = cc := fun y c z => by
      have m := PySem.mem_of_lookup z
      rw [List.mem_singleton] at m
      cases m
      exact ⟨rfl, rfl⟩
    refine ⟨rfl, fun y c z => ?_, fun x y c z1 z2 => (one x c z1).1.trans (one y c z2).1.symm, fun i y hi => ?_⟩
    · obtain ⟨rfl, rfl⟩ := one y c z
      exact ⟨(e0.bs _ _ hcb).2, _, _, KX _ _ hcell, rfl⟩
    · match i, hi with
      | 0, hi =>
        cases hi
        refine ⟨cc, rfl, fun v hv => ?_⟩
        cases hv
        exact ⟨.ref D, rfl, _, KX _ _ hcell, rfl⟩
      | i + 1, hi => simp at hi
  have I : Inv (ncx CX P w K mg base N ⟨name, qual, params, [], scope, [("__class__", cc)], cda⟩ f A outer s H E) [] (startF N vs [some (.ref D)]) H { s with heap := h1, toks := s.toks + (ps.zip us).length } := inv_startN S hr.hd e0 hl r C hns hk1
  have hN0 : N[0]? = some ar.arg := by
    have q := S.pre
    have q2 : (ps ++ [("__class__" : Str)])[0]? = some ar.arg := by
      rw [List.getElem?_append_left (by
        rcases ps with _ | _
        · simp at h0
        · simp)]
      exact h0
    rw [← q, List.getElem?_take_of_lt (by simp)] at q2
    exact q2
  have hpar : scope.names.lookup ar.arg = some .local := S.par _ (List.mem_of_getElem? h0)
  refine _root_.PySem.ks_wpAt_mono (run_super (F := ⟨name, qual, params, [], scope, [("__class__", cc)], cda⟩) (pins := []) (pl := pl) T O rfl rfl lk rfl hp hks (S.frk _ (List.mem_singleton.mpr rfl)) hpar hN0 S.kind hpa hps I hq (hw _) (he _) (hse _)) (fun fl s' hs => ?_) fun e s' hs => hs
  have fin : ∀ {σ' : L2.St} {H' : Hp} {v : V} {u : Value}, Inv (ncx CX P w K mg base N ⟨name, qual, params, [], scope, [("__class__", cc)], cda⟩ f A outer s H E) [] σ' H' s' → RelV v u → Q v H' → CE outer P w H s Q u s' :=
    fun {σ' H' v u} J rv q => ⟨v, H', J.os, J.bare, J.base, J.hok, rv, q⟩
  cases fl with
  | ret u =>
    obtain ⟨v, σ', H', J, rv, q⟩ := hs
    exact fin J rv q
  | next =>
    obtain ⟨σ', H', J, q⟩ := hs
    exact fin (v := V.non) (u := Value.none) J rfl q
  | brk =>
    obtain ⟨_, _, q⟩ := hs
    exact False.elim q.2
  | cont =>
    obtain ⟨_, _, q⟩ := hs
    exact False.elim q.2
end
end Fk
namespace Fk
open PySem PySem.Spec PyProof.Rows L2
/-- the caught error at a, of the class cls, its dict at d -/
def rIsX (K : PySem.W.Frag) (a : Addr) (cls : Value) (d : Option Addr) : List V → Hp → VK → Prop := fun xs H Q =>
  ∃ (D dd : Addr) (fs : List (Str × V)) (c : V) (cv : Value) (b : Bool), cls = .ref D ∧ d = some dd ∧ ExcC K D ∧ H dd = some (.xd fs) ∧ xs = [.ref a, c] ∧ (∀ u, RelV c u → u = cv) ∧ PySem.W.kitOne K (.ref D) cv = some b ∧ Q (.bl b) H
theorem call_isX {X : Cx} {a : Addr} {cls : Value} {d : Option Addr} {oe : Obj} {pn : List (Addr × Obj)} (hz : Zc cls d oe) (hf : ∃ vs, oe.data = .fields vs) : CallR (X.suite a ((a, oe) :: pn)) (.builtin "isinstance") (rIsX X.K a cls d) := by
  intro pins s σ H xs us Q I r h
  obtain ⟨D, dd, fs, c, cv, b, rfl, rfl, C, hdd, rfl, hcv, e, q⟩ := h
  cases r with
  | cons rx rr =>
    cases rr with
    | cons rt rr =>
      cases rr
      cases rx
      cases hcv _ rt
      obtain ⟨hget, _⟩ := I.pin (a, oe) (List.mem_append_left _ List.mem_cons_self)
      obtain ⟨vs, hv⟩ := hf
      obtain ⟨mA, ⟨od, _, _, ho, _⟩, _⟩ := (show ObjOk X.prog X.w H s.heap dd (.xd fs) from I.hok dd _ hdd)
      have J : PySem.W.InstAt s.heap a oe D (some od) := ⟨hget, hz.1, by unfold PySem.W.notCls; rw [hv] <;> rfl, by rw [hz.2]; exact ho⟩
      obtain ⟨cd, hcd, _⟩ := PySem.W.any_some C.hd
      exact PySem.W.kia_one (PySem.W.kitx_exc (by rw [hcd]; rfl) C.hg C.hk C.hs C.ha C.hn C.ht C.hm) I.kIn J e (fun z => nomatch z) fun tk => ⟨.bl b, H, I.kept (t' := tk) fun _ _ z => z, rfl, q⟩
end Fk
namespace Fk
open PySem PySem.Spec PyProof.Rows L2
/-- x < y, of two texts, of two links -/
def rLtA (K : PySem.W.Frag) : R2 := fun x y H Q => (∃ i j, x = .str i ∧ y = .str j ∧ Q (.bl (decide (cL i < cL j))) H) ∨
  ∃ a b p q, x = .ref a ∧ y = .ref b ∧ SqT K H a (Lk.vs p) ∧ SqT K H b (Lk.vs q) ∧ Q (.bl (decide (Lk.lt p q))) H
section
variable {X : Cx} (K : PySem.W.Frag)
theorem kLtA (hu : X.A.units + 65 < cLine) (h : X.K = K := by rfl) : OpR X (compareOp .Lt) (rLtA K) := by
  subst h
  intro pins s σ H x y v u Q I rx ry h
  rcases h with ⟨i, j, rfl, rfl, q⟩ | ⟨a, b, p, z, rfl, rfl, ha, hb, q⟩
  · obtain ⟨t1, rfl⟩ := rx
    obtain ⟨t2, rfl⟩ := ry
    exact PyProof.Rows.lt_str ⟨.bl _, H, I, rfl, q⟩
  · cases rx
    cases ry
    obtain ⟨us, r, ⟨o, ho, hcl, n, hd⟩, _⟩ := I.tuple ha
    obtain ⟨us2, r2, ⟨o2, ho2, hcl2, n2, hd2⟩, _⟩ := I.tuple hb
    have e1 : PyData.depth p.data = 1 := rfl
    refine PySem.W.lt_data (da := p.data) (db := z.data) (.tuple ho hcl hd (by simpa using reads_lk p r)) (.tuple ho2 hcl2 hd2 (by simpa using reads_lk z r2)) (by simp [Lk.data, PySem.W.alike, PySem.W.alikeAll]) (fun e => by cases e) (by rw [e1]; omega) ?_
    rw [data_lt]
    exact ⟨.bl _, H, I, rfl, q⟩
/-- a thing that is itself wherever it stands -/
def itself : V → Bool
  | .non | .bl _ | .int _ | .str _ | .ref _ => true
  | _ => false
/-- x == y, of two lists of the same things -/
def rEqSame (K : PySem.W.Frag) : R2 := fun x y H Q => ∃ a b xs, x = .ref a ∧ y = .ref b ∧ SqL K H a xs ∧ SqL K H b xs ∧ xs.all itself = true ∧ Q (.bl true) H
theorem kEqSame (hu : X.A.units + 65 < cLine) (h : X.K = K := by rfl) : OpR X (compareOp .Eq) (rEqSame K) := by
  subst h
  intro pins s σ H x y v u Q I rx ry h
  obtain ⟨a, b, xs, rfl, rfl, ha, hb, al, q⟩ := h
  cases rx
  cases ry
  obtain ⟨us, r, pl, _⟩ := I.list ha
  obtain ⟨us2, r2, pl2, _⟩ := I.list hb
  have l1 := Paired.length r
  have l2 := Paired.length r2
  refine SeqAt.eq_listAt (e := fun _ => true) pl.isList pl2.isList (by simp [← l1, ← l2]) (by omega) (fun j h1 h2 => ?_) ?_
  · simp only [List.size_toArray] at h1 h2
    have lj : j < xs.length := by omega
    obtain ⟨u1, e1, q1⟩ := r.get (List.getElem?_eq_getElem lj)
    obtain ⟨u2, e2, q2⟩ := r2.get (List.getElem?_eq_getElem lj)
    have f1 : us.toArray[j] = u1 := by
      have z := List.getElem?_eq_some_iff.mp e1
      simpa using z.2
    have f2 : us2.toArray[j] = u2 := by
      have z := List.getElem?_eq_some_iff.mp e2
      simpa using z.2
    rw [f1, f2]
    have k := List.all_eq_true.mp al _ (List.getElem_mem lj)
    cases hx : xs[j] with
    | non => rw [hx] at q1 q2; cases q1; cases q2; exact .same _
    | bl c => rw [hx] at q1 q2; cases q1; cases q2; exact .same _
    | ref c => rw [hx] at q1 q2; cases q1; cases q2; exact .same _
    | int c =>
      rw [hx] at q1 q2
      obtain ⟨t1, rfl⟩ := q1
      obtain ⟨t2, rfl⟩ := q2
      have z := SeqAt.EqAt.int_int (A := X.A.in1) (s := s) c t1 c t2
      rwa [beq_self_eq_true] at z
    | str c =>
      rw [hx] at q1 q2
      obtain ⟨t1, rfl⟩ := q1
      obtain ⟨t2, rfl⟩ := q2
      have z := SeqAt.EqAt.str_str (A := X.A.in1) (s := s) c t1 c t2
      rwa [beq_self_eq_true] at z
    | _ => rw [hx] at k; exact absurd k Bool.false_ne_true
  · rw [show ((List.range us.toArray.size).all fun _ => true) = true from by simp]
    exact ⟨.bl true, H, I, rfl, q⟩
/-- {k: v}, k a tuple -/
def tDisp1 (tk tv : TE) : TE := fun σ H Q => ∀ p, H p = none → tk σ (upd H p (.dT [])) fun x H1 => tv σ H1 fun y H2 => ∃ (b : Addr) (ks : List Key), x = .ref b ∧ H2 b = some (.tup (ks.map kV)) ∧ H2 p = some (.dT []) ∧ Q (.ref p) (upd H2 p (.dT [(ks, y)]))
def oneP (R : V → V → Hp → Prop) : List (V × V) → Hp → Prop
  | [(x, y)], H => R x y H
  | _, _ => False
theorem oneP_of {R : V → V → Hp → Prop} {ps : List (V × V)} {H : Hp} (h : oneP R ps H) : ∃ x y, ps = [(x, y)] ∧ R x y H := by
  match ps, h with
  | [(x, y)], h => exact ⟨x, y, rfl, h⟩
theorem pe_disp1 {k v : Expr} {pos : Pos} {tk tv : TE} (hu : X.A.units + 65 < cLine) (hk : PE X k tk) (hv : PE X v tv) : PE X (.Dict [some k] [v] pos) (tDisp1 tk tv) := by
  refine ⟨fun pins s σ H Q I q => ?_⟩
  have hn := I.hok.fresh (Nat.le_refl s.heap.objs.size)
  have I1 := I.laid (a := s.heap.objs.size) (o := .dT []) (h' := s.heap.push { cls := .type "dict", data := .dict #[] }) (t' := s.toks) (fun _ _ q => Heap.get?_push_of_some _ q) (Nat.le_refl _) (dt_empty s.heap I.big)
  refine wpAny_Dict_any rfl rfl (by simp) (by show 1 ≤ 15; decide) (thn ((pps_cons hk hv pps_nil).run pins _ σ _ (oneP fun x y H2 => ∃ (b : Addr) (ks : List Key), x = .ref b ∧ H2 b = some (.tup (ks.map kV)) ∧ H2 s.heap.objs.size = some (.dT []) ∧ Q (.ref s.heap.objs.size) (upd H2 s.heap.objs.size (.dT [(ks, y)]))) I1 (q _ hn)) fun ws s2 ⟨ps, H2, I2, rel, h⟩ => ?_)
  obtain ⟨x, y, rfl, b, ks, rfl, hb, hp, q2⟩ := oneP_of h
  cases rel with
  | @cons p1 w1 _ ws1 r rr =>
    cases rr
    obtain ⟨ra, rb⟩ := r
    obtain ⟨k1, u1⟩ := w1
    obtain rfl : k1 = Value.ref b := ra
    obtain ⟨z, hd, xs0, r0, dd⟩ := dt_of I2.hok hp
    cases r0
    unfold storeAll
    rw [List.forIn_cons]
    refine wpAny_bind (wpAny_bind (wpAny_dictSet_heap (hsz := Nat.zero_le _) (show (tupleKind (mixKind X.prog X.w)).room X.A from (by omega : X.A.units < cLine)) (key_of I2.hok hb) dd fun h' dd' hs => wpAny_pure ?_))
    dsimp only
    rw [List.forIn_nil]
    obtain ⟨q, es, ep, hq, h2, h3, h4, _, h5⟩ := dd'
    refine wpAny_pure ⟨.ref s.heap.objs.size, _, d_write (ob := .dT [(ks, y)]) I2 (by rw [hp]; exact True.intro) hs ⟨q, hq⟩ ⟨by show 1 ≤ sizeLine; decide, hd, _, (KT.put (kvs := []) (xs := []) Paired.nil ks hb rb).keeps fun c ys ec => ?_, q, es, ep, hq, h2, h3, h4, h5⟩, rfl, q2⟩
    rw [upd_ne (ne_of ec hp (fun z => nomatch z))]
    exact ec
end
section
variable {σ : L2.St} {H : Hp} {Q : VK} {K : PySem.W.Frag} {g : TG} {vs vs1 : List Nat} {u0 : Addr → HO} {wi1 : TI} {g1 : TG} {t2 : Addr → L2.St → Hp → (Hp → Prop) → Prop}
def C2GoD (u0 : Addr → HO) (g : TG) (wi1 : TI) (g1 : TG) (te : Addr → L2.St → Hp → (Hp → Prop) → Prop) (vs vs1 : List Nat) (σ : L2.St) (Q : VK) (J : It) (H1 : Hp) : Prop := ∀ C, H1 C = none → ∃ W : Nat → Nat → Hp → Prop, (∃ m, W 0 m (upd H1 C (u0 C))) ∧ ∀ i m H, W i m H →
  (J.stop i H ∧ Q (.ref C) H) ∨ (J.go i H ∧ ∃ Nx : Hp → Prop, (∀ H', Nx H' → ∃ m', m' < m ∧ W (i + 1) m' H') ∧ ∀ x H', J.yld i H x H' → C2Turn g wi1 g1 te vs vs1 σ C x H' Nx)
theorem w_c2D {wi : TI} (h : wi σ H fun J H1 => C2GoD u0 g wi1 g1 t2 vs vs1 σ Q J H1) : tC2D u0 wi g wi1 g1 t2 vs vs1 σ H Q := h
theorem c2LD {a : Addr} {xs : List V} (Pv : Addr → Nat → Hp → Prop) (h0 : ∀ C, H C = none → Pv C 0 (upd H C (u0 C))) (hl : ∀ C i H', H C = none → i ≤ xs.length → Pv C i H' → SqL K H' a xs)
    (hs : ∀ C i x H', H C = none → xs[i]? = some x → Pv C i H' → C2Turn g wi1 g1 t2 vs vs1 σ C x H' (Pv C (i + 1))) (hd : ∀ C H', H C = none → Pv C xs.length H' → Q (.ref C) H') : C2GoD u0 g wi1 g1 t2 vs vs1 σ Q (Itl K a) H := fun C hC => by
  refine ⟨fun i m H => m = xs.length - i ∧ i ≤ xs.length ∧ Pv C i H, ⟨xs.length, by simp, Nat.zero_le _, h0 C hC⟩, ?_⟩
  rintro i m H' ⟨rfl, hi, p⟩
  have q := hl C i H' hC hi p
  rcases Nat.lt_or_eq_of_le hi with lt | e
  · refine .inr ⟨⟨xs, xs[i], q, by simp [lt]⟩, Pv C (i + 1), fun H2 p2 => ⟨_, by omega, rfl, lt, p2⟩, fun x H2 y => ?_⟩
    obtain ⟨e, y⟩ := y
    subst e
    exact hs C i x _ hC (y xs q) p
  · subst e
    exact .inl ⟨⟨xs, q, Nat.le_refl _⟩, hd C H' hC p⟩
end
/-- a def of the text that may raise, as its callers see it -/
structure CalX (P : Program) (w : World) (K : PySem.W.Frag) (mg : Str → Option Value) (base : Heap) (k : Nat) (x : Str) (ps : List Str) (sp : Sp) : Prop where
  ex : ∃ (f : Addr) (fd : FuncData), FnOk P w K mg base (L2.CX P w) k f fd ps sp ∧ mg x = some (.ref f) ∧ PySem.W.keepIn K (.ref f) = true ∧ Binds K fd ps []
section
variable {X : Cx} {k : Nat} {x : Str} {ps : List Str} {sp : Sp} {p pos : Pos} {e : Expr} {es : List Expr} {t : TA}
/-- where nothing is raised -/
theorem pcX (C : CalX X.prog X.w X.K X.mg X.base k x ps sp) (hr : Room k X.A) (hg : Gl X x) (ha : PA X (e :: es) t) (hdb : (x == ("__debug__" : Str)) = false := by decide)
    (he : starEach (e :: es) X.env = (false, eval e X.env) :: starEach es X.env := by rfl) (hpl : (backTo pos (starEach es X.env)).any (·.1) = false := by rfl) :
    PE X (.Call (.Name x p) (e :: es) [] pos) (tCall sp [] E0 t) := by
  obtain ⟨f, fd, F, hm, hk, hb⟩ := C.ex
  exact pe_call F hr hg hm hk hb .nil passL ha hdb he hpl
/-- what it raises goes on -/
theorem pcS {W : WX} (C : CalX X.prog X.w X.K X.mg X.base k x ps sp) (tk : Takes X W) (hr : Room k X.A) (hg : Gl X x) (ha : PA X (e :: es) t) (hdb : (x == ("__debug__" : Str)) = false := by decide)
    (he : starEach (e :: es) X.env = (false, eval e X.env) :: starEach es X.env := by rfl) (hpl : (backTo pos (starEach es X.env)).any (·.1) = false := by rfl) :
    PE X (.Call (.Name x p) (e :: es) [] pos) (tCallS sp (WE W) t) := by
  obtain ⟨f, fd, F, hm, hk, hb⟩ := C.ex
  exact pe_callS F hr hg hm hk hb (fun σ => passAt tk σ) ha hdb he hpl
theorem CalX.mono {P : Program} {w : World} {K : PySem.W.Frag} {mg : Str → Option Value} {base : Heap} {k j : Nat} (C : CalX P w K mg base k x ps sp) (h : k ≤ j) : CalX P w K mg base j x ps sp := by
  obtain ⟨f, fd, F, r⟩ := C.ex
  exact ⟨f, fd, F.mono h, r⟩
theorem CalX.imp {P : Program} {w : World} {K : PySem.W.Frag} {mg : Str → Option Value} {base : Heap} {k : Nat} {sp' : Sp} (C : CalX P w K mg base k x ps sp) (h : ∀ vs H Q E, sp' vs H Q E → sp vs H Q E) : CalX P w K mg base k x ps sp' := by
  obtain ⟨f, fd, F, r⟩ := C.ex
  exact ⟨f, fd, F.imp h, r⟩
theorem CalX.of {P : Program} {w : World} {K : PySem.W.Frag} {mg : Str → Option Value} {base : Heap} {k : Nat} {f : Addr} {fd : FuncData} {st : Stmt} {qual : Str} (F : Fun K x qual st f fd) (ok : FnOk P w K mg base (L2.CX P w) k f fd ps sp)
    (hm : mg x = some (.ref f)) (hb : Binds K fd ps []) : CalX P w K mg base k x ps sp := ⟨f, fd, ok, hm, F.kp, hb⟩
theorem w_callS {E : L2.St → XK} {σ : L2.St} {H : Hp} {Q : VK} (h : t σ H fun vs H1 => sp vs H1 Q (E σ)) : tCallS sp E t σ H Q := h
end
def iSeq (K : PySem.W.Frag) (te : TE) : TI := fun σ H R => te σ H fun x H1 => ∃ a xs, x = .ref a ∧ ((SqL K H1 a xs ∧ R (Itl K a) H1) ∨ (SqT K H1 a xs ∧ R (Itt K a) H1))
theorem kseqI {X : Cx} (K : PySem.W.Frag) {tg e : Expr} {te : TE} (he : PE X e te) (h : X.K = K := by rfl) : PI X tg e (iSeq K te) := by
  subst h
  refine ⟨fun pins s σ H R I q => thn (he.run pins s σ H _ I q) fun v s1 ⟨x, H1, I1, r1, a, xs, ex, q1⟩ => ?_⟩
  subst ex
  obtain rfl : v = Value.ref a := r1
  have k : ∀ {o : Obj} (b : Addr) (u : Obj), s1.heap.get? b = some u → (s1.heap.push o).get? b = some u := fun b u e => Heap.get?_push_of_some _ e
  have ft : ∀ b ∈ [s1.heap.objs.size], FpOk X pins H1 b := fun b mb => by
    obtain rfl := List.mem_singleton.mp mb
    exact I1.fpOk (Nat.le_refl _) (I1.hok.fresh (Nat.le_refl _))
  rcases q1 with ⟨hq, q⟩ | ⟨hq, q⟩
  · obtain ⟨its, rv, p, hz⟩ := I1.list hq
    exact wpAny_pyIter_list p.isList ⟨_, _, _, _, H1, rfl, I1.kept (t' := s1.toks) (k (o := _)), turn_list a _, ⟨_, Heap.get?_push_size _ rfl, rfl, rfl⟩, ft, q⟩
  · obtain ⟨its, rv, p, hz⟩ := I1.tuple hq
    exact wpAny_pyIter_tuple (show s1.heap.IsTuple a its.toArray from p) ⟨_, _, _, _, H1, rfl, I1.kept (t' := s1.toks) (k (o := _)), turn_tuple a _, ⟨_, Heap.get?_push_size _ rfl, rfl, rfl⟩, ft, q⟩
section
variable {K : PySem.W.Frag} {g : TG} {tu : TS} {D : Ends} {σ : L2.St} {H : Hp} {te : TE} {R : It → Hp → Prop}
theorem w_iQ (h : te σ H fun x H1 => ∃ a xs, x = .ref a ∧ ((SqL K H1 a xs ∧ R (Itl K a) H1) ∨ (SqT K H1 a xs ∧ R (Itt K a) H1))) : iSeq K te σ H R := h
theorem forQ {a : Addr} {xs : List V} (h : SqL K H a xs ∨ SqT K H a xs) (Pv : Nat → L2.St → Hp → Prop) (h0 : Pv 0 σ H) (hl : ∀ i σ' H', i ≤ xs.length → Pv i σ' H' → Evl.Ex H H')
    (hs : ∀ i x σ' H', xs[i]? = some x → Pv i σ' H' → g x σ' H' fun σ2 H2 => tu { D with nx := Pv (i + 1), ct := Pv (i + 1), bk := D.nx } σ2 H2) (hd : ∀ σ' H', Pv xs.length σ' H' → D.nx σ' H') :
    ∃ b ys, V.ref a = .ref b ∧ ((SqL K H b ys ∧ ForGo g tu D σ (Itl K b) H) ∨ (SqT K H b ys ∧ ForGo g tu D σ (Itt K b) H)) := by
  refine ⟨a, xs, rfl, h.imp (fun z => ⟨z, forL (xs := xs) Pv h0 (fun i σ' H' hi p => seqL_ex z (hl i σ' H' hi p)) hs hd⟩) fun z => ⟨z, forT (xs := xs) Pv h0 (fun i σ' H' hi p => seqT_ex z (hl i σ' H' hi p)) hs hd⟩⟩
end
section
variable {K : PySem.W.Frag} {g : TG} {tu : TS} {D : Ends} {σ : L2.St} {H : Hp}
theorem forEQ {a : Addr} {xs : List V} (h : SqL K H a xs ∨ SqT K H a xs) (Pv : Nat → L2.St → Hp → Prop) (h0 : Pv 0 σ H) (hl : ∀ i σ' H', i ≤ xs.length → Pv i σ' H' → Evl.Ex H H')
    (hs : ∀ i x T σ' H', xs[i]? = some x → Pv i σ' H' → H' T = none → g (.ref T) σ' (upd H' T (.tup [.int (i : Nat), x])) fun σ2 H2 => tu { D with nx := Pv (i + 1), ct := Pv (i + 1), bk := D.nx } σ2 H2) (hd : ∀ σ' H', Pv xs.length σ' H' → D.nx σ' H') :
    ∃ b ys, ([.ref a] : List V) = [.ref b] ∧ ((SqL K H b ys ∧ ForGo g tu D σ (Ite K b) H) ∨ (SqT K H b ys ∧ ForGo g tu D σ (IteT K b) H)) := by
  refine ⟨a, xs, rfl, h.imp (fun z => ⟨z, forE (xs := xs) Pv h0 (fun i σ' H' hi p => seqL_ex z (hl i σ' H' hi p)) hs hd⟩) fun z => ⟨z, forET (xs := xs) Pv h0 (fun i σ' H' hi p => seqT_ex z (hl i σ' H' hi p)) hs hd⟩⟩
end
def spErr (D : Addr) (fld : Str) : Sp := fun vs H Q _ => ∃ (a : Addr) (i : Int), vs = [.ref a, .int i] ∧ i.natAbs ≤ 1000000 ∧ H a = some (exo a D none) ∧
  ∀ (dx : Addr) (H' : Hp), H dx = none → dx ≠ a → H' = upd (upd H dx (exd dx [(fld, .int i)])) a (exo a D (some dx)) → Q .non H'
theorem w_mk {C : Addr} {sp : Sp} {dvs : List V} {ta : TA} {σ : L2.St} {H : Hp} {Q : XK} (h : ta σ H fun vs H1 => vs.length ≤ 1000 ∧ ∀ a, H1 a = none → sp (.ref a :: (vs ++ dvs)) (upd H1 a (exo a C none))
  (fun v H2 => v = .non ∧ ∃ (d : Addr) (fs : List (Str × V)), H2 a = some (exo a C (some d)) ∧ H2 d = some (exd d fs) ∧ H1 d = none ∧ Q (.ref C) (some d) (upd (del H2 a) d (.xd fs))) (fun _ _ _ => False)) : tMkO C sp dvs ta σ H Q := h
theorem mk_err {C : Addr} {fld : Str} {i : Int} {H1 : Hp} {Q : XK} (hi : i.natAbs ≤ 1000000) (q : ∀ (d : Addr) (H' : Hp), H1 d = none → Evl.Ex H1 H' → H' d = some (.xd [(fld, .int i)]) → Q (.ref C) (some d) H') :
    ([V.int i] : List V).length ≤ 1000 ∧ ∀ a, H1 a = none → spErr C fld (.ref a :: ([.int i] ++ [])) (upd H1 a (exo a C none))
      (fun v H2 => v = .non ∧ ∃ (d : Addr) (fs : List (Str × V)), H2 a = some (exo a C (some d)) ∧ H2 d = some (exd d fs) ∧ H1 d = none ∧ Q (.ref C) (some d) (upd (del H2 a) d (.xd fs))) (fun _ _ _ => False) := by
  refine ⟨by show 1 ≤ 1000; decide, fun a ha => ⟨a, i, rfl, hi, upd_same, fun dx H' n ne e => ?_⟩⟩
  have n1 : H1 dx = none := by rw [upd_ne ne] at n; exact n
  subst e
  refine ⟨rfl, dx, _, upd_same, by rw [upd_ne ne, upd_same], n1, q dx _ n1 (fun b o hb => ?_) upd_same⟩
  have b1 : b ≠ a := ne_of_none hb ha
  have b2 : b ≠ dx := ne_of_none hb n1
  rw [upd_ne b2, del_ne b1, upd_ne b1, upd_ne b2, upd_ne b1]
  exact hb
end Fk
namespace Fk
open PySem PySem.Spec PyProof.Rows L2
/-- one clause with tests: u0 what is made, te what a turn puts in -/
def tC1 (u0 : HO) (wi : TI) (g : TG) (tt : TT) (te : Addr → L2.St → Hp → (Hp → Prop) → Prop) (vs : List Nat) : TE := fun σ H Q => wi σ H fun J H1 => ∀ D, H1 D = none → ∃ W : Nat → Nat → Hp → Prop, (∃ m, W 0 m (upd H1 D u0)) ∧ ∀ i m H, W i m H →
  (J.stop i H ∧ Q (.ref D) H) ∨ (J.go i H ∧ ∃ Nx : Hp → Prop, (∀ H', Nx H' → ∃ m', m' < m ∧ W (i + 1) m' H') ∧ ∀ x H', J.yld i H x H' → g x (wipe σ vs) H' fun σ2 H2 => wipe σ2 vs = wipe σ vs ∧ tt σ2 H2 fun b H3 => if b = true then te D σ2 H3 Nx else Nx H3)
/-- a tuple as key -/
def teTk (tk tv : TE) : Addr → L2.St → Hp → (Hp → Prop) → Prop := fun D σ H P => tk σ H fun y H4 => tv σ H4 fun z H5 => ∃ (kvs : List (List Key × V)) (k : List Key) (b : Addr), y = .ref b ∧ H5 b = some (.tup (k.map kV)) ∧ H5 D = some (.dT kvs) ∧ kvs.length < sizeLine ∧ P (upd H5 D (.dT (putK kvs k z)))
theorem d_putT {X : Cx} {pins : List (Addr × Obj)} {σ : L2.St} {H : Hp} {s : Shared} {E : Value → Shared → Prop} {D b : Addr} {kvs : List (List Key × V)} {k : List Key} {v : V} {u r : Value} {Q : Unit → Shared → Prop} (hu : X.A.units + 65 < cLine) (I : Inv X pins σ H s) (hD : H D = some (.dT kvs)) (hz : kvs.length < sizeLine)
    (hb : H b = some (.tup (k.map kV))) (ry : RelV (.ref b) u) (rv : RelV v r) (h : ∀ s', Inv X pins σ (upd H D (.dT (putK kvs k v))) s' → Q () s') : wpAny (model X.prog X.w) X.A (dictSet D u r) Q E s := by
  obtain rfl : u = Value.ref b := ry
  obtain ⟨z, hd, xs, rel, dd⟩ := dt_of I.hok hD
  have few : xs.length ≤ sizeLine := Paired.length rel ▸ z
  have lp := length_putK kvs k v
  refine wpAny_dictSet_heap (hsz := few) (show (tupleKind (mixKind X.prog X.w)).room X.A from (by omega : X.A.units < cLine)) (key_of I.hok hb) dd fun h' dd' hs => h _ ?_
  obtain ⟨q, es, ep, hq, h2, h3, h4, _, h5⟩ := dd'
  exact d_write (ob := .dT (putK kvs k v)) I (by rw [hD]; exact True.intro) hs ⟨q, hq⟩ ⟨by omega, hd, _, (KT.put rel k hb rv).keeps fun c ys ec => (upd_ne (ne_of ec hD fun z => nomatch z)).trans ec, q, es, ep, hq, h2, h3, h4, h5⟩
section
variable {X : Cx}
theorem comp1_core {pins : List (Addr × Obj)} {s : Shared} {σ : L2.St} {H : Hp} {Q : VK} {kx vx tg iter : Expr} {ifs : List Expr} {scope : Scope} {own : List (Str × Nat)} {pos pos' : Pos} {wi : TI} {g : TG} {tt : TT} {tk tv : TE}
    {use : Option (Value → Sem Unit)} {Qf : Value → Shared → Prop} (hu : X.A.units + 65 < cLine)
    (hc : X.calm = true) (hN : X.N.Nodup) (I : Inv X pins σ H s) (hi : PI X tg iter wi) (ok : BlkOk X.N X.env.scope scope own)
    (hg : ∀ (s : Shared) (H : Hp) (C : Addr) (cl : List (Str × Addr)) (fp : List Addr), PG (X.blk s H scope (compEnvC scope cl C X.env) fp) tg g) (ht : ∀ (s : Shared) (H : Hp) (C : Addr) (cl : List (Str × Addr)) (fp : List Addr), PTs (X.blk s H scope (compEnvC scope cl C X.env) fp) ifs tt)
    (hk : ∀ (s : Shared) (H : Hp) (C : Addr) (cl : List (Str × Addr)) (fp : List Addr), PE (X.blk s H scope (compEnvC scope cl C X.env) fp) kx tk)
    (he : ∀ (s : Shared) (H : Hp) (C : Addr) (cl : List (Str × Addr)) (fp : List Addr), PE (X.blk s H scope (compEnvC scope cl C X.env) fp) vx tv) (hs : ∀ x, foldedSetIterable iter X.env x = pure x)
    (h : tC1 (.dT []) wi g tt (teTk tk tv) (own.map (·.2)) σ H Q)
    (hRR : ∀ D C s' m H', Inv X pins σ H' s' → Q (.ref D) H' → s'.heap.Ns C m → FpOk X pins H' C → compPost (model X.prog X.w) X.A X.xe use Qf (.ref D) C (.ok .next) s') :
    wpAny (model X.prog X.w) X.A (comprehension (.DictComp kx vx [⟨tg, iter, ifs, 0⟩] scope pos) scope X.env pos' newDict false (eval iter X.env) use) Qf X.xe s := by
  have free : ∀ y ∈ scope.names, y.2 = .free → ∃ c, X.env.cells.lookup y.1 = some c := fun y my e => (ok.free y my e).elim (fun k => I.ok.has _ (.inl k)) fun k => I.ok.has _ (.inr k)
  refine wpAny_comprehension_free (use := use) rfl hs (closure_ok free) ok.kind (fun y my e => (ok.uniq y my).trans (congrArg some e)) (thn (hi.run pins s σ H _ I h) fun xv s1 hx => thn hx fun itv s2 h2 => ?_)
  obtain ⟨it, fp, tn, J, H2, e, I2, T, st2, f2, q⟩ := h2
  subst e
  refine wpAny_newObj_type (newEnv_comp ?_)
  have I3 : Inv X pins σ (upd H2 s2.heap.objs.size (.dT [])) { s2 with heap := s2.heap.push { cls := .type "dict", data := .dict #[] } } := I2.laid (t' := s2.toks) (fun b o e => Heap.get?_push_of_some _ e) (Nat.le_refl _) (dt_empty s2.heap I2.big)
  have hz3 : (s2.heap.push { cls := .type "dict", data := .dict #[] }).objs.size = s2.heap.objs.size + 1 := Heap.size_push ..
  have st3 : tn 0 (s2.heap.push { cls := .type "dict", data := .dict #[] }) := T.keep _ _ _ st2 fun b _ o e => Heap.get?_push_of_some _ e
  have sz : ∀ b ∈ fp, b < s2.heap.objs.size := fun b mb => let ⟨_, e, _⟩ := T.obj _ _ st2 b mb; Heap.lt_size e
  have f3 : ∀ b ∈ fp, FpOk X pins (upd H2 s2.heap.objs.size (.dT [])) b ∧ b < (s2.heap.push { cls := .type "dict", data := .dict #[] }).objs.size := fun b mb =>
    ⟨⟨(upd_ne (Nat.ne_of_lt (sz b mb))).trans (f2 b mb).1, (f2 b mb).2⟩, by rw [hz3]; exact Nat.lt_succ_of_lt (sz b mb)⟩
  obtain ⟨W, ⟨m0, w0⟩, turn⟩ := q s2.heap.objs.size (I2.hok.fresh (Nat.le_refl _))
  generalize s2.heap.objs.size = D at I3 hz3 sz f3 w0 turn ⊢
  generalize eh3 : upd H2 D (.dT []) = H3 at I3 f3 w0
  generalize es3 : ({ s2 with heap := s2.heap.push { cls := .type "dict", data := .dict #[] } } : Shared) = s3 at I3
  have ep3 : s2.heap.push { cls := .type "dict", data := .dict #[] } = s3.heap := by rw [← es3]
  rw [ep3] at hz3 st3 f3
  have I4 := block_start I3 ok hN f3
  have pg := hg s3 H3 s3.heap.objs.size (cellsFrom (s3.heap.objs.size + 1) scope.names (cloFrom X.env.cells scope.names [])) fp
  have pt := ht s3 H3 s3.heap.objs.size (cellsFrom (s3.heap.objs.size + 1) scope.names (cloFrom X.env.cells scope.names [])) fp
  have pk := hk s3 H3 s3.heap.objs.size (cellsFrom (s3.heap.objs.size + 1) scope.names (cloFrom X.env.cells scope.names [])) fp
  have pv := he s3 H3 s3.heap.objs.size (cellsFrom (s3.heap.objs.size + 1) scope.names (cloFrom X.env.cells scope.names [])) fp
  have st4 : tn 0 (pushCells (s3.heap.push { cls := .type "dict", data := .dict #[] }) scope.names) := T.keep _ _ _ st3 fun b _ o e => pushCells_keeps _ _ _ _ (Heap.get?_push_of_some _ e)
  have nfp : ∀ b ∈ fp, H3 b = none := fun b mb => (f3 b mb).1.1
  show codeAny _ _ (.compStart (.DictComp kx vx [⟨tg, iter, ifs, 0⟩] scope pos) 0 (.ref it) (.ref D) (compEnvC scope (cellsFrom (s3.heap.objs.size + 1) scope.names (cloFrom X.env.cells scope.names [])) s3.heap.objs.size X.env)) (compPost (model X.prog X.w) X.A X.xe use Qf (.ref D) s3.heap.objs.size) { s3 with heap := pushCells (s3.heap.push { cls := .type "dict", data := .dict #[] }) scope.names }
  generalize ece : compEnvC scope (cellsFrom (s3.heap.objs.size + 1) scope.names (cloFrom X.env.cells scope.names [])) s3.heap.objs.size X.env = ce at I4 pg pt pk pv ⊢
  have cl : ce.locals = s3.heap.objs.size := by rw [← ece]; rfl
  have st4' : tn 0 ({ s3 with heap := pushCells (s3.heap.push { cls := .type "dict", data := .dict #[] }) scope.names } : Shared).heap := st4
  generalize ({ s3 with heap := pushCells (s3.heap.push { cls := .type "dict", data := .dict #[] }) scope.names } : Shared) = s4 at I4 st4' ⊢
  have foot : ∀ {σ' : L2.St} {H' : Hp} {s' : Shared}, Inv (X.blk s3 H3 scope ce fp) [] σ' H' s' → (∀ b ∈ fp, H' b = none) → ∀ b ∈ fp, FpOk (X.blk s3 H3 scope ce fp) [] H' b := fun {σ' H' s'} I' hn b mb =>
    ⟨hn b mb, (I'.ok.exf b mb).1, I'.ok.exfs b mb, .inl mb, fun x c e => (I'.ok.exf b mb).2 x c e, fun p mp => absurd (show p ∈ ([] : List (Addr × Obj)) ++ [] from mp) (by simp)⟩
  have loop : codeAny (model X.prog X.w) X.A (.compLoop (.DictComp kx vx [⟨tg, iter, ifs, 0⟩] scope pos) 0 (.ref it) (.ref D) ce) (compPost (model X.prog X.w) X.A X.xe use Qf (.ref D) s3.heap.objs.size) s4 := by
    refine compLoop_anyD (fun n s' => ∃ i H', Inv (X.blk s3 H3 scope ce fp) [] (wipe σ (own.map (·.2))) H' s' ∧ tn i s'.heap ∧ (∀ b ∈ fp, H' b = none) ∧ W i n H') ?_ m0 ⟨0, H3, I4, st4', nfp, w0⟩
    rintro n s5 ⟨i, H5, I5, st5, n5, w5⟩
    rcases turn i n H5 w5 with ⟨stop, done⟩ | ⟨go, Nx, less, step⟩
    · refine thnF (T.done (X.blk s3 H3 scope ce fp) rfl rfl rfl hc i [] s5 _ H5 (fun _ _ => False) I5 (foot I5 n5) st5 stop) fun r s6 ⟨er, I6⟩ => ?_
      subst er
      have I7 : Inv X pins σ H5 s6 := I3.call' (ch := fp) I6.os I6.base I6.hok I6.bare fun b mb => ⟨(f3 b mb).1.2.2.2.1, (f3 b mb).1.2.1, (f3 b mb).1.2.2.2.2.1, (f3 b mb).1.2.2.2.2.2⟩
      have nC : H5 s3.heap.objs.size = none := cl ▸ I6.free
      obtain ⟨m, ns, _⟩ := I6.loc
      have ns' : s6.heap.Ns ce.locals m := ns
      rw [cl] at ns'
      exact hRR D s3.heap.objs.size s6 m H5 I7 done ns' (I3.fpOk (Nat.le_refl _) nC)
    · refine thnF (T.item (X.blk s3 H3 scope ce fp) rfl rfl rfl hc i [] s5 _ H5 (fun _ _ => False) I5 (foot I5 n5) st5 go) fun r s6 ⟨u, er, h6⟩ => ?_
      subst er
      refine thnF h6 fun _ s7 ⟨x, H7, I7, r7, y7, st7, n7⟩ => ?_
      refine thnF (pg.run _ s7 _ H7 x u _ (I7.pinned (foot I7 n7) (T.obj _ _ st7)) r7 (step x H7 y7)) fun _ s8 ⟨σ8, H8, I8, hw8, q8⟩ => ?_
      refine thnF (pt.run _ s8 σ8 H8 _ I8 q8) fun b s9 ⟨H9, I9, q9⟩ => ?_
      have back : ∀ {s' : Shared} {H' : Hp}, Inv (X.blk s3 H3 scope ce fp) ([] ++ pinsAt fp s7.heap) σ8 H' s' → Nx H' → ∃ m, m < n ∧ ∃ i H', Inv (X.blk s3 H3 scope ce fp) [] (wipe σ (own.map (·.2))) H' s' ∧ tn i s'.heap ∧ (∀ b ∈ fp, H' b = none) ∧ W i m H' := fun {s' H'} I' nx => by
        obtain ⟨m', hm, w'⟩ := less H' nx
        have held : ∀ b ∈ fp, ∀ o, s7.heap.get? b = some o → s'.heap.get? b = some o ∧ H' b = none := fun b mb o e =>
          let z := I'.pin (b, o) (List.mem_append_right _ (List.mem_append_right _ (mem_pinsAt mb e)))
          ⟨z.1, z.2.1⟩
        exact ⟨m', hm, i + 1, H', (I'.unpinned (pins := [])).weak (by rw [← hw8, wipe_length]) (fun j v e => by rw [← hw8] at e; exact (wipe_some e).1), T.keep _ _ _ st7 fun b mb o e => (held b mb o e).1, fun b mb => let ⟨o, e, _⟩ := T.obj _ _ st7 b mb; (held b mb o e).2, w'⟩
      cases b with
      | false => exact back I9 q9
      | true =>
        refine thnF (pk.run _ s9 σ8 H9 _ I9 q9) fun z s10 ⟨yk, H10, I10, r10, q10⟩ => thnF (pv.run _ s10 σ8 H10 _ I10 q10) fun z2 s11 ⟨yv, H11, I11, r11, kvs, k, b, ek, hb, hD11, hz11, nx⟩ => ?_
        subst ek
        exact d_putT (X := X.blk s3 H3 scope ce fp) hu I11 hD11 hz11 hb r10 r11 fun s12 I12 => back I12 nx
  exact codeAny_compStart_dict loop (T.self X.A 0 _ _ _ st4' loop)
theorem pe_dcT {kx vx tg iter : Expr} {ifs : List Expr} {scope : Scope} {own : List (Str × Nat)} {pos : Pos} {wi : TI} {g : TG} {tt : TT} {tk tv : TE} (hu : X.A.units + 65 < cLine) (hc : X.calm = true) (hN : X.N.Nodup) (hi : PI X tg iter wi) (ok : BlkOk X.N X.env.scope scope own)
    (hg : ∀ (s : Shared) (H : Hp) (C : Addr) (cl : List (Str × Addr)) (fp : List Addr), PG (X.blk s H scope (compEnvC scope cl C X.env) fp) tg g) (ht : ∀ (s : Shared) (H : Hp) (C : Addr) (cl : List (Str × Addr)) (fp : List Addr), PTs (X.blk s H scope (compEnvC scope cl C X.env) fp) ifs tt)
    (hk : ∀ (s : Shared) (H : Hp) (C : Addr) (cl : List (Str × Addr)) (fp : List Addr), PE (X.blk s H scope (compEnvC scope cl C X.env) fp) kx tk)
    (he : ∀ (s : Shared) (H : Hp) (C : Addr) (cl : List (Str × Addr)) (fp : List Addr), PE (X.blk s H scope (compEnvC scope cl C X.env) fp) vx tv) (hs : ∀ x, foldedSetIterable iter X.env x = pure x := by intro _; rfl) :
    PE X (.DictComp kx vx [⟨tg, iter, ifs, 0⟩] scope pos) (tC1 (.dT []) wi g tt (teTk tk tv) (own.map (·.2))) := by
  refine ⟨fun pins s σ H Q I h => ?_⟩
  rw [arm_eval_DictComp]
  refine comp1_core hu hc hN I hi ok hg ht hk he hs h fun D C s' m H' I' q hn f => ⟨m, hn, fun h'' sb => ?_⟩
  obtain ⟨f0, f1, f2, f3, f4, f5⟩ := f
  exact ⟨.ref D, H', I'.turned (t' := s'.toks) (fun b o hb e => (sb.2 b hb).trans e) f0 f1 f3 f4 f5, rfl, q⟩
end
section
variable {σ : L2.St} {H : Hp} {Q : VK} {K : PySem.W.Frag} {g : TG} {tt : TT} {te : Addr → L2.St → Hp → (Hp → Prop) → Prop} {vs : List Nat} {u0 : HO}
def C1Turn (g : TG) (tt : TT) (te : Addr → L2.St → Hp → (Hp → Prop) → Prop) (vs : List Nat) (σ : L2.St) (C : Addr) (x : V) (H' : Hp) (Nx : Hp → Prop) : Prop := g x (wipe σ vs) H' fun σ2 H2 => wipe σ2 vs = wipe σ vs ∧ tt σ2 H2 fun b H3 => if b = true then te C σ2 H3 Nx else Nx H3
def C1Go (u0 : HO) (g : TG) (tt : TT) (te : Addr → L2.St → Hp → (Hp → Prop) → Prop) (vs : List Nat) (σ : L2.St) (Q : VK) (J : It) (H1 : Hp) : Prop := ∀ C, H1 C = none → ∃ W : Nat → Nat → Hp → Prop, (∃ m, W 0 m (upd H1 C u0)) ∧ ∀ i m H, W i m H →
  (J.stop i H ∧ Q (.ref C) H) ∨ (J.go i H ∧ ∃ Nx : Hp → Prop, (∀ H', Nx H' → ∃ m', m' < m ∧ W (i + 1) m' H') ∧ ∀ x H', J.yld i H x H' → C1Turn g tt te vs σ C x H' Nx)
theorem w_c1 {wi : TI} (h : wi σ H fun J H1 => C1Go u0 g tt te vs σ Q J H1) : tC1 u0 wi g tt te vs σ H Q := h
theorem c1L {a : Addr} {xs : List V} (Pv : Addr → Nat → Hp → Prop) (h0 : ∀ C, H C = none → Pv C 0 (upd H C u0)) (hl : ∀ C i H', H C = none → i ≤ xs.length → Pv C i H' → SqL K H' a xs)
    (hs : ∀ C i x H', H C = none → xs[i]? = some x → Pv C i H' → C1Turn g tt te vs σ C x H' (Pv C (i + 1))) (hd : ∀ C H', H C = none → Pv C xs.length H' → Q (.ref C) H') : C1Go u0 g tt te vs σ Q (Itl K a) H := fun C hC => by
  refine ⟨fun i m H => m = xs.length - i ∧ i ≤ xs.length ∧ Pv C i H, ⟨xs.length, by simp, Nat.zero_le _, h0 C hC⟩, ?_⟩
  rintro i m H' ⟨rfl, hi, p⟩
  have q := hl C i H' hC hi p
  rcases Nat.lt_or_eq_of_le hi with lt | e
  · refine .inr ⟨⟨xs, xs[i], q, by simp [lt]⟩, Pv C (i + 1), fun H2 p2 => ⟨_, by omega, rfl, lt, p2⟩, fun x H2 y => ?_⟩
    obtain ⟨e, y⟩ := y
    subst e
    exact hs C i x _ hC (y xs q) p
  · subst e
    exact .inl ⟨⟨xs, q, Nat.le_refl _⟩, hd C H' hC p⟩
end
end Fk
namespace Fk
open PySem PySem.Spec PySem.W PyProof.Rows L2
def rInQ (K : PySem.W.Frag) : R2 := fun x y H Q => ∃ d ds, Dp K H x d ∧ (Dp K H y (.list ds) ∨ Dp K H y (.tuple ds)) ∧ SeqAt.shaped d = true ∧ SeqAt.shaped (.list ds) = true ∧ Q (.bl (ds.any fun z => PyData.eqv z d)) H
theorem kInQ {X : Cx} (K : PySem.W.Frag) (hu : X.A.units + 65 < cLine) (h : X.K = K := by rfl) : OpR X (compareOp .In) (rInQ K) := by
  subst h
  intro pins s σ H x y v u Q I rx ry h
  obtain ⟨d, ds, hd, he, sd, se, q⟩ := h
  obtain ⟨as, r1⟩ := Dp.reads I d x v hd rx
  rcases he with he | he
  · obtain ⟨bs, r2⟩ := Dp.reads I (.list ds) y u he ry
    exact SeqAt.in_list_reads r2 r1 (SeqAt.canLay_of_shaped se) (SeqAt.canLay_of_shaped sd) (room_in_shaped sd hu) ⟨.bl _, H, I, rfl, q⟩
  · obtain ⟨bs, r2⟩ := Dp.reads I (.tuple ds) y u he ry
    exact SeqAt.in_tuple_reads r2 r1 (SeqAt.canLay_of_shaped se) (SeqAt.canLay_of_shaped sd) (room_in_shaped sd hu) ⟨.bl _, H, I, rfl, q⟩
theorem w_inLkQ {K : PySem.W.Frag} {H : Hp} {Q : VK} {t p : Addr} {x : Lk} {L : List (Addr × Lk)} (h : H t = some (.tup x.vs)) (ok : x.ok) (hp : SqL K H p (rfs L) ∨ SqT K H p (rfs L)) (hL : Lks H L) (q : Q (.bl (decide (x ∈ lks L))) H) : rInQ K (.ref t) (.ref p) H Q :=
  ⟨x.data, _, dp_lk h, hp.imp (fun z => .lst z (dp_lks hL)) (fun z => .tup z (dp_lks hL)), lk_shaped ok, lks_shaped hL.all, by rw [any_lk]; exact q⟩
theorem w_lockT {t : TE} {σ : L2.St} {H : Hp} {Q : VK} {d : Addr} {kvs : List (List Key × V)} (h : H d = some (.dT kvs)) (q : ∀ od, t σ (upd H d (.frz od (.dT kvs))) fun v H' => H' d = some (.frz od (.dT kvs)) ∧ Q v (upd H' d (.dT kvs))) : tLockE t σ H Q := ⟨d, _, h, trivial, q⟩
theorem w_iK {td : TE} {σ : L2.St} {H : Hp} {R : It → Hp → Prop} (h : td σ H fun x H1 => ∃ d o, x = .ref d ∧ ((∃ kvs, H1 d = some (.frz o (.dK kvs)) ∧ R (Itk d o kvs) H1) ∨ ∃ kvs, H1 d = some (.frz o (.dT kvs)) ∧ R (Itkt d o kvs) H1)) : iKeys td σ H R := h
theorem lcKT {σ : L2.St} {H : Hp} {Q : VK} {g : TG} {tt : TT} {te : TE} {vs : List Nat} {d : Addr} {o : Obj} {kvs : List (List Key × V)} (Pv : Addr → Nat → Hp → Prop) (h0 : ∀ C, H C = none → Pv C 0 (upd H C (.lst []))) (hl : ∀ C i H', H C = none → i ≤ kvs.length → Pv C i H' → H' d = some (.frz o (.dT kvs)))
    (hs : ∀ C i k v q H', H C = none → kvs[i]? = some (k, v) → H' q = some (.tup (k.map kV)) → Pv C i H' → LcTurn g tt te vs σ C (.ref q) H' (Pv C (i + 1))) (hd : ∀ C H', H C = none → Pv C kvs.length H' → Q (.ref C) H') : LcGo g tt te vs σ Q (Itkt d o kvs) H := fun C hC =>
  lc_it (walk_keysT (kvs := kvs)) (Pv C) (h0 C hC) (fun i H' hi p => hl C i H' hC hi p) (fun i x H1 H2 hi p y => by
    obtain ⟨rfl, k, v, q, e, rfl, hq⟩ := y
    exact hs C i k v q H2 hC e hq p) (fun H' p => hd C H' hC p)
section
variable {P : Program} {w : World} {A : Around} {E : Value → Shared → Prop} {s : Shared}
/-- sorted of what is gathered so -/
theorem sorted_of_src {β : Type} {val : β → Value} {enc : β → PyData} {L : List β} {a : Addr} {Q : Value → Shared → Prop} (line : L.length ≤ sizeLine)
    (hcol : ∀ (R : List Value → Shared → Prop) (E : Value → Shared → Prop), (∀ (h1 : Heap) (tk : Nat), (∀ b o, s.heap.get? b = some o → h1.get? b = some o) → R (L.map val) { s with heap := h1, toks := tk }) → wpAny (model P w) A.in1 (collect (.ref a)) R E s)
    (rd : ∀ h', (∀ b o, s.heap.get? b = some o → h'.get? b = some o) → ∀ b ∈ L, Reads h' (val b) (enc b) [])
    (hal : AllAlike (L.map enc)) (hk : Sortable (L.map enc)) (hu : ∀ b ∈ L, A.units + 3 + (enc b).depth < cLine)
    (q : ∀ (h1 : Heap) s' p (out : Array Value) (c : Nat) (L' : List β), (∀ b o, s.heap.get? b = some o → h1.get? b = some o) → (∀ b o, h1.get? b = some o → s'.heap.get? b = some o) → s'.gens = s.gens → s'.os = s.os → h1.objs.size ≤ p → s'.heap.get? p = some (seqObj "list" out c) → out.toList = L'.map val → L'.Perm L →
      L'.Pairwise (fun x y => dataLe false enc x y = true) → Q (.ref p) s') :
    wpAny (model P w) A (call (.builtin "sorted") [.ref a]) Q E s := by
  refine Calls.call_function_entry kind_sorted plain_sorted entry_sorted (args_sorted1 _) ?_
  unfold Builtin.«sorted»
  refine wpAny_bind (m := checkCount "sorted" 1 1 _) (wpAny_pure ?_)
  refine wpAny_bind (hcol _ _ fun h1 tk k1 => ?_)
  refine wpAny_bind (wpAny_newList ?_ (by rw [List.length_map]; exact line))
  have new : (h1.push (seqObj "list" (L.map val).toArray 0)).get? h1.objs.size = some (seqObj "list" (L.map val).toArray 0) := Heap.get?_push_size _ rfl
  have rd1 : ∀ b ∈ L, Reads (h1.push (seqObj "list" (L.map val).toArray 0)) (val b) (enc b) [] := fun b m => rd _ (fun c o e => Heap.get?_push_of_some _ (k1 c o e)) b m
  refine wpAny_bind (wpAny_holding (list_sort_data (s := { s with heap := h1.push (seqObj "list" (L.map val).toArray 0), toks := tk }) (R := fun v b => v = val b) new (each_self val L) (each_mk L fun b m => ⟨[], rd1 b m, fun z => nomatch z⟩) hal hk line
    (fun b m => ?_) fun out lo eo => ?_))
  · have := hu b m
    show A.in1.units + 1 + (enc b).depth < cLine
    rw [show A.in1.units = A.units + 1 from by simp]
    omega
  · obtain ⟨c, hc⟩ := sortedHeap_at (vs := L.map val) (out := out.toArray) new
    have tot := sortLe_total (listOrd itemOrd) false fun b => keyToks (enc b)
    refine wpAny_pure ⟨_, rfl, q h1 _ h1.objs.size out.toArray c (L.mergeSort (dataLe false enc)) k1 (fun b u e => ?_) rfl rfl (Nat.le_refl _) hc (by simpa using each_out eo) (List.mergeSort_perm _ _) (sort_pairwise tot L)⟩
    have lt := Heap.lt_size e
    show (sortedHeap (h1.push (seqObj "list" (L.map val).toArray 0)) h1.objs.size (L.map val) out.toArray).get? b = some u
    rw [sortedHeap_old (Nat.ne_of_lt lt) (by rw [size_push']; exact Nat.lt_succ_of_lt lt)]
    exact Heap.get?_push_of_some _ e
end
/-- the links that are a dict's keys, each at its place -/
theorem keys_links {H : Hp} : ∀ {kvs : List (List Key × V)} {xs : List (List Key × Addr × Value)} {O : List Lk}, KT H kvs xs → kvs.map (·.1) = O.map Lk.key → ∃ L : List (Addr × Lk), lks L = O ∧ (xs.map fun x => x.2.1) = L.map (·.1) ∧ ∀ q ∈ L, H q.1 = some (.tup q.2.vs)
  | _, _, [], .nil, _ => ⟨[], rfl, rfl, fun _ m => nomatch m⟩
  | _, _, _ :: _, .nil, e => nomatch e
  | _, _, [], .cons _ _, e => nomatch e
  | p :: kvs, y :: xs, x :: O, .cons h t, e => by
    rw [List.map_cons, List.map_cons] at e
    injection e with e1 e2
    obtain ⟨L, l1, l2, l3⟩ := keys_links t e2
    refine ⟨(y.2.1, x) :: L, by rw [← l1]; rfl, by rw [List.map_cons, l2]; rfl, fun q m => ?_⟩
    rcases List.mem_cons.mp m with rfl | m
    · have z := h.2.1
      rw [e1] at z
      exact z
    · exact l3 q m
theorem acc_keys {es : Array DictEntry} {ks : List (List Key × Addr × Value)} {kd : List Key × Addr × Value → DictEntry} (he : es.toList = ks.map kd) (hk : ∀ x, (kd x).key = Value.ref x.2.1) {acc : Array Value} (l : acc.size = es.size) (it : ∀ (j : Nat) (v : Value), acc[j]? = some v → ∃ en : DictEntry, es[j]? = some en ∧ v = en.key) :
    acc.toList = ks.map fun x => Value.ref x.2.1 := by
  refine List.ext_getElem? fun j => ?_
  have ez : es.size = ks.length := by rw [← Array.length_toList, he, List.length_map]
  rcases Nat.lt_or_ge j ks.length with lt | ge
  · have lj : j < acc.size := by omega
    obtain ⟨en, e1, e2⟩ := it j acc[j] (Array.getElem?_eq_getElem lj)
    rw [← Array.getElem?_toList, he, List.getElem?_map, List.getElem?_eq_getElem lt] at e1
    have e3 : kd ks[j] = en := Option.some.inj e1
    rw [Array.getElem?_toList, Array.getElem?_eq_getElem lj, List.getElem?_map, List.getElem?_eq_getElem lt, e2, ← e3, hk]
    rfl
  · rw [List.getElem?_eq_none (by rw [Array.length_toList]; omega), List.getElem?_eq_none (by rw [List.length_map]; exact ge)]
/-- sorted(d), d a dict of links -/
def rSortDT : List V → Hp → VK → Prop := fun xs H Q => ∃ (a : Addr) (kvs : List (List Key × V)) (O : List Lk), xs = [.ref a] ∧ H a = some (.dT kvs) ∧ kvs.map (·.1) = O.map Lk.key ∧ O.Nodup ∧ O.length ≤ 1000 ∧
  ∀ (l : Addr) (L : List (Addr × Lk)), H l = none → (∀ q ∈ L, H q.1 = some (.tup q.2.vs)) → (∀ x, x ∈ lks L ↔ x ∈ O) → (lks L).Pairwise Lk.lt → Q (.ref l) (upd H l (.lst (rfs L)))
theorem cr_sortDT {X : Cx} (hu : X.A.units + 64 < cLine) (hc : X.calm = true) : CallR X (.builtin "sorted") rSortDT := by
  intro pins s σ H xs us Q I r h
  obtain ⟨a, kvs, O, rfl, ha, ek, ndO, few, q⟩ := h
  cases r with
  | cons rx rr =>
    cases rr
    cases rx
    obtain ⟨z, hs, ks, pr, o, es, ep, ho, hx, hdt, he, hn⟩ := (show ObjOk X.prog X.w H s.heap a (.dT kvs) from I.hok a _ ha)
    obtain ⟨L, l1, l2, l3⟩ := keys_links pr ek
    have lL : L.length = O.length := by rw [← l1, List.length_map]
    have lk : ks.length = L.length := by
      have e := congrArg List.length l2
      rwa [List.length_map, List.length_map] at e
    have ez : es.size = ks.length := by rw [← Array.length_toList, he, List.length_map]
    have line : es.size ≤ sizeLine := by rw [sizeLine_eq]; omega
    refine sorted_of_src (val := fun q : Addr × Lk => Value.ref q.1) (enc := fun q : Addr × Lk => q.2.data) (L := L) (by rw [sizeLine_eq]; omega) (fun R E hR => ?_) ?_ ?_ ?_ ?_ ?_
    · refine PySem.W.kdu_collect (kdl_raw hs hx hdt) (I.ok.hd hc) ho line fun h' tk acc kp it => ?_
      have ea := acc_keys he (fun _ => rfl) it.1 it.2
      rw [show (ks.map fun x => Value.ref x.2.1) = L.map (fun q => Value.ref q.1) from by
        have e := congrArg (List.map Value.ref) l2
        rw [List.map_map, List.map_map] at e
        exact e] at ea
      rw [ea]
      exact hR h' tk kp
    · intro h2 k2 q m
      obtain ⟨us, r, ⟨ot, hot, hcl, n, hd⟩, _⟩ := I.tuple (SqT.of (l3 q m))
      exact .tuple (k2 _ _ hot) hcl hd (by simpa using reads_lk q.2 r)
    · exact AllAlike.of fun x y => by simp [Lk.data, alike, alikeAll]
    · exact Sortable.tuples fun x => ⟨_, _, rfl⟩
    · intro q m
      have e1 : PyData.depth q.2.data = 1 := rfl
      rw [e1]
      omega
    · intro h1 s2 pl out c L' k1 k2 gg oo hp hl hout pm up
      have I1 : Inv X pins σ H { s with heap := h1, toks := s.toks } := I.kept k1
      have hn0 : H pl = none := I1.hok.fresh hp
      have len : (rfs L').length ≤ sizeLine := by
        rw [List.length_map, pm.length_eq, sizeLine_eq]
        omega
      have hv : Vals (rfs L') out.toList := by rw [hout]; exact refs_vs _ L'
      have ndL : (L'.map (·.2)).Nodup := (pm.map (·.2)).nodup_iff.mpr (by show (lks L).Nodup; rw [l1]; exact ndO)
      have rise : (L'.map (·.2)).Pairwise Lk.lt := by
        rw [List.nodup_iff_pairwise_ne, List.pairwise_map] at ndL
        rw [List.pairwise_map]
        refine (up.and ndL).imp fun {x y} z => ?_
        obtain ⟨z1, z2⟩ := z
        rw [dataLe_eq] at z1
        simp only [cond_false, Bool.not_eq_true'] at z1
        rw [data_lt] at z1
        exact lk_total (of_decide_eq_false z1) z2
      have J2 : Inv X pins σ (upd H pl (.lst (rfs L'))) s2 := I1.call' (ch := []) oo (Un.laid k2 hp hn0) (I1.hok.laid k2 hp ⟨len, out.toList, c, hv, hl⟩) (by rw [gg]; exact I1.bare) (fun _ z => nomatch z)
      exact ⟨.ref pl, _, J2, rfl, q pl L' hn0 (fun r m => l3 r (pm.mem_iff.mp m)) (fun x => by rw [← l1]; exact (pm.map (·.2)).mem_iff) rise⟩
end Fk
namespace Fk
open PySem PySem.Spec PySem.W PyProof.Rows L2 L2.DX
section
variable {κ : Type} [DecidableEq κ] {prog : Program} {w : World} {knd : HeapKind prog w κ}
theorem meetsDel {d b : Addr} {k : κ} :
    MeetsIn prog w (Builtin.«dict.__delitem__» ⟨[.ref d, .ref b], []⟩) (fun A R s => ∃ xs, knd.room A.in1 ∧ knd.is s.heap k b ∧ s.heap.DictOfH knd d xs ∧ xs.length ≤ sizeLine ∧ (atKey xs k).isSome = true ∧
      ∀ h' tk, h'.DictOfH knd d (DT.dropH xs k) → Heap.SameBut d s.heap h' → R (.ok (.ret .none)) { s with heap := h', toks := tk }) :=
  .of_wp fun A R s ⟨xs, hu, hkey, hm, hsz, there, h⟩ => by
    unfold Builtin.«dict.__delitem__»
    refine wpAny_bind ?_
    unfold Builtin.Dict.dictSlotArgs
    refine wpAny_bind (wpAny_notOrdered_dict hm.typeIs ?_)
    show wpAny _ _ (pure (Value.ref d, Value.ref b)) _ _ s
    refine wpAny_pure ?_
    show wpAny _ _ (Builtin.Dict.takeOut d (.ref b) >>= _) _ _ s
    refine wpAny_bind (DT.takeH hu hkey hm hsz (fun hno => by rw [hno] at there; cases there) fun p e hp hev h' hm' hs' => ?_)
    exact wpAny_bind (wpAny_letGo (wpAny_pure ⟨.none, rfl, h h' _ hm' hs'⟩))
end
/-- del d[k], k a tuple -/
def sDDelT (td ty : TE) : TS := fun D σ H => td σ H fun x H1 => ty σ H1 fun y H2 => ∃ (a : Addr) (kvs : List (List Key × V)) (k : List Key) (b : Addr), x = .ref a ∧ H2 a = some (.dT kvs) ∧ y = .ref b ∧ H2 b = some (.tup (k.map kV)) ∧ (valV kvs k).isSome = true ∧ D.nx σ (upd H2 a (.dT (dropK kvs k)))
section
variable {X : Cx} {o i : Expr} {pos tpos : Pos} {td ty : TE}
theorem ps_ddelT (hu : X.A.units + 65 < cLine) (ho : PE X o td) (hi : PE X i ty) : PS X (.Delete [.Subscript o i tpos] pos) (sDDelT td ty) := by
  refine ⟨fun pins s σ H D I h => ?_⟩
  refine wpAny_Delete (wpAny_deleteEach_cons (wpAny_delete_Subscript (thn (ho.run pins s σ H _ I h) fun u s1 ⟨x, H1, I1, rx, q1⟩ => thn (hi.run pins s1 σ H1 _ I1 q1) fun iv s2 ⟨y, H2, I2, ry, a, kvs, k, b, ex, e, ey, eb, l, q2⟩ => ?_)))
  subst ex ey
  obtain rfl : u = Value.ref a := rx
  obtain rfl : iv = Value.ref b := ry
  obtain ⟨z, hd, xs, rel, dd⟩ := dt_of I2.hok e
  have hz : xs.length ≤ sizeLine := by rw [← Paired.length rel]; exact z
  have there : (atKey xs k).isSome = true := by
    have r := rel.val k
    cases ev : valV kvs k with
    | none => rw [ev] at l; cases l
    | some v0 =>
      rw [ev] at r
      cases ea : atKey xs k with
      | none => rw [ea] at r; exact (show False from r).elim
      | some p => rfl
  refine wpAny_delItem_slot dd.typeIs (by decide) PySem.F.slot_dict_delitem
    (call_meetsIn PySem.F.slot_dict_delitem dd.typeIs PySem.F.entry_dict_delitem (PySem.F.args_dict_delitem_2 _ _) (meetsDel (knd := tupleKind (mixKind X.prog X.w)) (k := k))
      ⟨xs, tupleKind_room_in1 (show X.A.units + 1 < cLine by omega), key_of I2.hok eb, dd, hz, there, fun h' tk dd' hs => ?_⟩)
  obtain ⟨ob, es, ep, hq, h2, h3, h4, _, h5⟩ := dd'
  have I3 : Inv X pins σ (upd H2 a (.dT (dropK kvs k))) { s2 with heap := h', toks := tk } :=
    d_write I2 (by rw [e]; exact True.intro) hs ⟨ob, hq⟩ ⟨Nat.le_trans (dropK_le kvs k) z, hd, _, (KT_drop k rel).keeps (fun c ys ec => (by rw [upd_ne (ne_of ec e (fun z => nomatch z))]; exact ec)), ob, es, ep, hq, h2, h3, h4, h5⟩
  exact wpAny_deleteEach_nil ⟨σ, _, I3, q2⟩
end
/-- the pairs of a dict with tuples as keys, each a new tuple -/
def IttI (d : Addr) (o : Obj) (kvs : List (List Key × V)) : It :=
  ⟨fun i H => H d = some (.frz o (.dT kvs)) ∧ i < kvs.length, fun i H x H' => ∃ (T : Addr) (k : List Key) (v : V) (q : Addr), kvs[i]? = some (k, v) ∧ x = .ref T ∧ H T = none ∧ H q = some (.tup (k.map kV)) ∧ H' = upd H T (.tup [.ref q, v]), fun i H => H d = some (.frz o (.dT kvs)) ∧ kvs.length ≤ i⟩
section
variable {P : Program} {w : World} {K : PySem.W.Frag} {d : Addr} {o : Obj} {es : Array DictEntry} {ep : Nat}
theorem turn_itemsT {kvs : List (List Key × V)} {elts : List Expr} {kk : Nat} {tpos : Pos} (it : Addr) (hod : o.data = .dict es ep) :
    Turn P w K (.Tuple elts kk tpos) (IttI d o kvs) [it] it (fun i h => ∃ ok ov, IsItemIter h it d i kvs.length ep ok ov) where
  mem := by simp
  obj := fun i h st b hb => by
    have e : b = it := by simpa using hb
    subst e
    obtain ⟨ok, ov, e⟩ := st
    exact ⟨_, e, fun v z => nomatch z⟩
  keep := fun i h h' st k => let ⟨ok, ov, e⟩ := st; ⟨ok, ov, k it (by simp) _ e⟩
  item := by
    intro X hP hw hK hc i pins s σ H E I hf st hg
    subst hP hw hK
    obtain ⟨hd, hi⟩ := hg
    obtain ⟨hgd, z, hs, xs, pr, o', es', ep', ho, hx, hdt, he, _⟩ := I.hok d _ hd
    rw [hgd] at ho
    cases ho
    obtain ⟨rfl, rfl⟩ := dict_ep hod hdt
    obtain ⟨⟨k, v⟩, hkv⟩ : ∃ p, kvs[i]? = some p := ⟨kvs[i], List.getElem?_eq_getElem hi⟩
    obtain ⟨b, hb, e1, e2, e3⟩ := paired_get pr hkv
    have q := entry_at he i
    rw [hb] at q
    have l1 : es'.size = xs.length := size_of_entries he
    have l2 : kvs.length = xs.length := Paired.length pr
    have hie : i < es'.size := by omega
    have qe : es'[i] = entryOfKey (tupleKind (mixKind X.prog X.w)) b := by
      rw [Array.getElem?_eq_getElem hie] at q
      exact Option.some.inj q
    obtain ⟨ok, ov, he'⟩ := st
    have hsz : kvs.length = es'.size := by omega
    rw [hsz] at he'
    have hlt : it < s.heap.objs.size := Heap.lt_size he'
    refine DT.nextI he' ⟨o, hgd, hx, hod⟩ hie fun h' hit hT hz hk => ?_
    rw [qe] at hit hT
    refine ⟨_, rfl, wpAny_letOwnedTupleGo_items (s := { s with heap := h' }) hit fun h'' hit2 sb => ?_⟩
    have hT2 : h''.get? s.heap.objs.size = some { cls := .type "tuple", data := .seq #[.ref b.2.1, b.2.2] } := (sb.2 _ (Nat.ne_of_gt hlt)).trans hT
    have new : ObjOk X.prog X.w (upd H s.heap.objs.size (.tup [.ref b.2.1, v])) h'' s.heap.objs.size (.tup [.ref b.2.1, v]) :=
      ⟨by show 2 ≤ sizeLine; decide, [.ref b.2.1, b.2.2], .cons rfl (.cons e3 .nil), ⟨_, hT2, rfl, _, rfl⟩⟩
    have I1 : Inv X pins σ (upd H s.heap.objs.size (.tup [.ref b.2.1, v])) { s with heap := h'' } :=
      I.turnedNew (t' := s.toks) (ch := [it]) (fun c ob hb e => (sb.2 c (by simpa using hb)).trans (hk c ob (by simpa using hb) e)) hf (Nat.le_refl _) new
    refine ⟨.ref s.heap.objs.size, _, I1, rfl, ⟨_, k, v, b.2.1, hkv, rfl, I.hok.fresh (Nat.le_refl _), e2, rfl⟩, ⟨.ref b.2.1, b.2.2, ?_⟩, fun c hb => ?_⟩
    · rw [hsz]; exact hit2
    · have e : c = it := by simpa using hb
      rw [e, upd_ne (Nat.ne_of_lt hlt)]
      exact (hf it (by simp)).1
  done := by
    intro X hP hw hK hc i pins s σ H E I hf st hg
    subst hP hw hK
    obtain ⟨hd, hi⟩ := hg
    obtain ⟨f0, f1, f2, f3, f4, f5⟩ := hf it (by simp)
    obtain ⟨hgd, z, hs, xs, pr, o', es', ep', ho, hx, hdt, he, _⟩ := I.hok d _ hd
    rw [hgd] at ho
    cases ho
    obtain ⟨rfl, rfl⟩ := dict_ep hod hdt
    have l1 : es'.size = xs.length := size_of_entries he
    have l2 : kvs.length = xs.length := Paired.length pr
    have hsz : kvs.length = es'.size := by omega
    obtain ⟨ok, ov, he'⟩ := st
    rw [hsz] at he'
    exact DT.endI (I.ok.hd hc) he' ⟨o, hgd, hx, hod⟩ (by omega) fun h' eb => ⟨rfl, I.turned (t' := s.toks) (fun b ob hb e => eb b ob hb e) f0 f1 f3 f4 f5⟩
  self := fun A i s Q E st h => let ⟨_, _, e⟩ := st; PySem.W.kcp_self e h
end
def iItemsT (td : TE) : TI := fun σ H R => td σ H fun x H1 => ∃ d o kvs, x = .ref d ∧ H1 d = some (.frz o (.dT kvs)) ∧ R (IttI d o kvs) H1
section
variable {X : Cx} {e : Expr} {td : TE} {apos cpos : Pos}
theorem pi_itemsT {elts : List Expr} {kk : Nat} {tpos : Pos} (he : PE X e td) (hbase : attributeBase e "items" X.env (eval e X.env) = eval e X.env := by rfl) (hline : (apos.endLine == cpos.line) = true := by rfl) :
    PI X (.Tuple elts kk tpos) (.Call (.Attribute e "items" apos) [] [] cpos) (iItemsT td) := by
  refine ⟨fun pins s σ H R I h => ?_⟩
  refine wpAny_Call_method (T := "dict") (id := "dict.items") hbase rfl hline F.plainAttrs_dict F.slot_dict_items F.type_dict_items (thn (he.run pins s σ H _ I h) fun u s1 ⟨x, H1, I1, rx, d, o, kvs, ex, hd, q⟩ => ?_)
  subst ex
  obtain rfl : u = Value.ref d := rx
  obtain ⟨hgd, z, hs, xs, pr, o', es, ep, ho, hx, hdt, he2, hn⟩ := I1.hok d _ hd
  rw [hgd] at ho
  cases ho
  have raw : DT.Raw s1.heap d es ep := ⟨o, hgd, hx, hdt⟩
  have l1 : es.size = xs.length := size_of_entries he2
  have l2 : kvs.length = xs.length := Paired.length pr
  have hsz : kvs.length = es.size := by omega
  refine ⟨raw.typeIs, ?_, ?_⟩
  · intro b e
    cases e
    exact ⟨o, hgd, hx.2.1⟩
  have I2 : Inv X pins σ H1 { s1 with heap := s1.heap.push { cls := .type "dict_items", data := .fields #[.ref d] } } := I1.kept (t' := s1.toks) fun b ob q => Heap.get?_push_of_some _ q
  have fin : wpAny (model X.prog X.w) X.A (pyIter (.ref s1.heap.objs.size)) (PIE X pins σ (.Tuple elts kk tpos) R) X.xe { s1 with heap := s1.heap.push { cls := .type "dict_items", data := .fields #[.ref d] } } := by
    refine DT.iterI (d := d) (es := es) (ep := ep) ⟨_, Heap.get?_push_size _ rfl, rfl, rfl⟩ (raw.push _) (pi_one (tk := s1.toks) I2 _ (turn_itemsT _ hdt) ⟨.none, .none, ?_⟩ q)
    rw [hsz]
    exact Heap.get?_push_size _ rfl
  show wpAny _ _ (callWith cpos (.builtin "dict.items") [.ref d] [] []) _ X.xe s1
  exact method_meetsIn F.slot_dict_items F.entry_dict_items rfl (PySem.evalArgs_none ⟨rfl, raw.typeIs, F.args_dict_items_1 _, _, DT.meetsItems (es := es) (ep := ep) hs, raw, fin⟩)
end
section
variable {σ : L2.St} {H : Hp} {D : Ends} {g : TG} {tu : TS} {td : TE} {R : It → Hp → Prop} {d : Addr} {o : Obj} {kvs : List (List Key × V)}
theorem w_iIT (h : td σ H fun x H1 => ∃ d o kvs, x = .ref d ∧ H1 d = some (.frz o (.dT kvs)) ∧ R (IttI d o kvs) H1) : iItemsT td σ H R := h
theorem w_ddelT {ty : TE} (h : td σ H fun x H1 => ty σ H1 fun y H2 => ∃ (a : Addr) (kvs : List (List Key × V)) (k : List Key) (b : Addr), x = .ref a ∧ H2 a = some (.dT kvs) ∧ y = .ref b ∧ H2 b = some (.tup (k.map kV)) ∧ (valV kvs k).isSome = true ∧ D.nx σ (upd H2 a (.dT (dropK kvs k)))) : sDDelT td ty D σ H := h
theorem w_dsetd {ty tx : TE} {Q : VK} (h : td σ H fun x H1 => ∃ a, x = .ref a ∧ IsD H1 a ∧ ty σ H1 fun y H2 => tx σ H2 fun z H3 => ∃ (kvs : List (Key × V)) (k : Key), H3 a = some (.dK kvs) ∧ y = kV k ∧ kvs.length < sizeLine ∧
  (∀ v, valV kvs k = some v → Q v H3) ∧ (valV kvs k = none → Q z (upd H3 a (.dK (putK kvs k z))))) : tDSetd td ty tx σ H Q := h
theorem w_dget1 {ty : TE} {Q : VK} (h : td σ H fun x H1 => ∃ a, x = .ref a ∧ IsD H1 a ∧ ty σ H1 fun y H2 => ∃ o, DGet H2 a y o ∧ Q (o.getD .non) H2) : tDGet1 td ty σ H Q := h
theorem w_lockST {t : TS} (h : H d = some (.dT kvs)) (q : ∀ od, t ⟨fun σ' H' => H' d = some (.frz od (.dT kvs)) ∧ D.nx σ' (upd H' d (.dT kvs)), fun v H' => H' d = some (.frz od (.dT kvs)) ∧ D.rt v (upd H' d (.dT kvs)), fun σ' H' => H' d = some (.frz od (.dT kvs)) ∧ D.bk σ' (upd H' d (.dT kvs)), fun σ' H' => H' d = some (.frz od (.dT kvs)) ∧ D.ct σ' (upd H' d (.dT kvs))⟩ σ (upd H d (.frz od (.dT kvs)))) : tLock t D σ H := ⟨d, _, h, trivial, q⟩
theorem w_i1T (h : H d = some (.frz o (.dT kvs))) (q : R (IttI d o kvs) H) : ∃ d' o' kvs', V.ref d = .ref d' ∧ H d' = some (.frz o' (.dT kvs')) ∧ R (IttI d' o' kvs') H := ⟨d, o, kvs, rfl, h, q⟩
theorem forIT (Pv : Nat → L2.St → Hp → Prop) (h0 : Pv 0 σ H) (hl : ∀ i σ' H', i ≤ kvs.length → Pv i σ' H' → H' d = some (.frz o (.dT kvs)))
    (hs : ∀ i k v q T σ' H', kvs[i]? = some (k, v) → Pv i σ' H' → H' T = none → H' q = some (.tup (k.map kV)) → g (.ref T) σ' (upd H' T (.tup [.ref q, v])) fun σ2 H2 => tu { D with nx := Pv (i + 1), ct := Pv (i + 1), bk := D.nx } σ2 H2) (hd : ∀ σ' H', Pv kvs.length σ' H' → D.nx σ' H') : ForGo g tu D σ (IttI d o kvs) H := by
  have wk : Walk (IttI d o kvs) kvs.length (fun H => H d = some (.frz o (.dT kvs))) (fun i H x H' => ∃ (T : Addr) (k : List Key) (v : V) (q : Addr), kvs[i]? = some (k, v) ∧ x = .ref T ∧ H T = none ∧ H q = some (.tup (k.map kV)) ∧ H' = upd H T (.tup [.ref q, v])) :=
    ⟨fun _ _ hi q => ⟨q, hi⟩, fun _ q => ⟨q, Nat.le_refl _⟩, fun _ _ _ _ _ _ y => y⟩
  exact for_it wk Pv h0 hl (fun i x σ' H1 H2 hi p y => by
    obtain ⟨T, k, v, q, e, rfl, hT, hq, rfl⟩ := y
    exact hs i k v q T σ' H1 e p hT hq) hd
end
end Fk
namespace Fk
open PySem PySem.Spec PyProof.Rows L2
/-- joined by links of a set -/
inductive Cn (R : Lk → Prop) (u : Str) : Str → Prop
  | refl : Cn R u u
  | step {v w : Str} {x : Lk} (c : Cn R u v) (r : R x) (e : (v = x.a ∧ w = x.b) ∨ (v = x.b ∧ w = x.a)) : Cn R u w
section
variable {R S : Lk → Prop} {u v w : Str} {x : Lk}
theorem Cn.trans (h : Cn R u v) (k : Cn R v w) : Cn R u w := by
  induction k with
  | refl => exact h
  | step _ r e ih => exact .step ih r e
theorem Cn.link (r : R x) : Cn R x.a x.b := .step .refl r (.inl ⟨rfl, rfl⟩)
theorem Cn.knil (r : R x) : Cn R x.b x.a := .step .refl r (.inr ⟨rfl, rfl⟩)
theorem Cn.symm (h : Cn R u v) : Cn R v u := by
  induction h with
  | refl => exact .refl
  | step _ r e ih =>
    rcases e with ⟨rfl, rfl⟩ | ⟨rfl, rfl⟩
    · exact (Cn.knil r).trans ih
    · exact (Cn.link r).trans ih
/-- what joins the ends of each link joins all -/
theorem Cn.via (h : Cn R u v) (k : ∀ x, R x → Cn S x.a x.b) : Cn S u v := by
  induction h with
  | refl => exact .refl
  | step _ r e ih =>
    rcases e with ⟨rfl, rfl⟩ | ⟨rfl, rfl⟩
    · exact ih.trans (k _ r)
    · exact ih.trans (k _ r).symm
theorem Cn.mono (h : Cn R u v) (k : ∀ x, R x → S x) : Cn S u v := h.via fun x r => .link (k x r)
/-- by one link more -/
theorem Cn.split {e : Lk} (h : Cn (fun y => R y ∨ y = e) u v) : Cn R u v ∨ (Cn R u e.a ∧ Cn R e.b v) ∨ (Cn R u e.b ∧ Cn R e.a v) := by
  induction h with
  | refl => exact .inl .refl
  | @step v w x _ r q ih =>
    rcases r with r | rfl
    · have s : Cn R v w := .step .refl r q
      rcases ih with h | ⟨h1, h2⟩ | ⟨h1, h2⟩
      · exact .inl (h.trans s)
      · exact .inr (.inl ⟨h1, h2.trans s⟩)
      · exact .inr (.inr ⟨h1, h2.trans s⟩)
    · rcases q with ⟨rfl, rfl⟩ | ⟨rfl, rfl⟩
      · rcases ih with h | ⟨h1, h2⟩ | ⟨h1, h2⟩
        · exact .inr (.inl ⟨h, .refl⟩)
        · exact .inr (.inl ⟨h1, .refl⟩)
        · exact .inl h1
      · rcases ih with h | ⟨h1, h2⟩ | ⟨h1, h2⟩
        · exact .inr (.inr ⟨h, .refl⟩)
        · exact .inl h1
        · exact .inr (.inr ⟨h1, .refl⟩)
end
theorem cn_names {L : List Lk} {u v : Str} : names id L u = names id L v ↔ Cn (fun x => x ∈ L) u v := by
  constructor
  · intro e
    have h := names_closed (F := fun z => Cn (fun x => x ∈ L) u z) L id (fun x y e => by rw [show x = y from e]) (fun l m => ⟨fun h => h.trans (.link m), fun h => h.trans (.knil m)⟩) u v e
    exact h.1 .refl
  · intro h
    induction h with
    | refl => rfl
    | step _ r e ih =>
      rw [ih]
      have j := names_join L id _ r
      rcases e with ⟨rfl, rfl⟩ | ⟨rfl, rfl⟩
      · exact j
      · exact j.symm
/-- the lesser ones of a list -/
abbrev Low (L : List Lk) (x : Lk) : Lk → Prop := fun y => y ∈ L ∧ Lk.lt y x
theorem lk_tri {x y : Lk} (n : x ≠ y) (h : ¬ Lk.lt x y) : Lk.lt y x := lk_total h fun e => n e.symm
theorem mem_taken {W : List Lk} (up : W.Pairwise Lk.lt) {x : Lk} (mx : x ∈ W) : x ∈ taken id W ↔ ¬ Cn (Low W x) x.a x.b := by
  obtain ⟨P, Q, rfl⟩ := List.append_of_mem mx
  have nd := lt_nodup up
  have pw := List.pairwise_append.mp up
  have xQ := List.pairwise_cons.mp pw.2.1
  have low : ∀ y, Low (P ++ x :: Q) x y ↔ y ∈ P := fun y => by
    constructor
    · rintro ⟨m, l⟩
      rcases List.mem_append.mp m with m | m
      · exact m
      · rcases List.mem_cons.mp m with rfl | m
        · exact absurd l (lk_irrefl y)
        · exact absurd l (lk_asymm (xQ.1 y m))
    · intro m
      exact ⟨List.mem_append_left _ m, pw.2.2 y m x List.mem_cons_self⟩
  have cn : Cn (Low (P ++ x :: Q) x) x.a x.b ↔ names id P x.a = names id P x.b := by
    rw [cn_names]
    exact ⟨fun h => h.mono fun y r => (low y).1 r, fun h => h.mono fun y r => (low y).2 r⟩
  rw [cn, taken_app, taken]
  have nP : x ∉ P := fun m => lk_irrefl x (pw.2.2 x m x List.mem_cons_self)
  have nQ : x ∉ Q := fun m => lk_irrefl x (xQ.1 x m)
  by_cases c : names id P x.a = names id P x.b
  · rw [if_pos c]
    refine ⟨fun m => ?_, fun n => absurd c n⟩
    rcases List.mem_append.mp m with m | m
    · exact absurd (taken_sub _ _ _ m) nP
    · exact absurd (taken_sub _ _ _ m) nQ
  · rw [if_neg c]
    exact ⟨fun _ => c, fun _ => List.mem_append_right _ List.mem_cons_self⟩
theorem taken_up {W : List Lk} (up : W.Pairwise Lk.lt) : (taken id W).Pairwise Lk.lt := up.sublist (taken_subl id W)
/-- what the lesser ones join, the lesser taken ones join -/
theorem low_taken {W : List Lk} (up : W.Pairwise Lk.lt) : ∀ (n : Nat) (x : Lk), W.countP (fun y => decide (Lk.lt y x)) ≤ n → ∀ u v, Cn (Low W x) u v → Cn (Low (taken id W) x) u v := by
  intro n
  induction n with
  | zero =>
    intro x h u v c
    refine c.via fun y ⟨m, l⟩ => ?_
    have : 0 < W.countP fun y => decide (Lk.lt y x) := List.countP_pos_iff.mpr ⟨y, m, decide_eq_true l⟩
    omega
  | succ n ih =>
    intro x h u v c
    refine c.via fun y ⟨m, l⟩ => ?_
    by_cases t : y ∈ taken id W
    · exact .link ⟨t, l⟩
    · have j : Cn (Low W y) y.a y.b := Classical.byContradiction fun k => t ((mem_taken up m).2 k)
      have less : W.countP (fun z => decide (Lk.lt z y)) < W.countP fun z => decide (Lk.lt z x) := by
        have gen : ∀ L : List Lk, L.countP (fun z => decide (Lk.lt z y)) ≤ L.countP (fun z => decide (Lk.lt z x)) ∧ (y ∈ L → L.countP (fun z => decide (Lk.lt z y)) < L.countP fun z => decide (Lk.lt z x)) := by
          intro L
          induction L with
          | nil => exact ⟨Nat.le_refl _, fun m => nomatch m⟩
          | cons z L ihL =>
            rw [List.countP_cons, List.countP_cons]
            have imp : Lk.lt z y → Lk.lt z x := fun k => lk_trans k l
            refine ⟨?_, fun m => ?_⟩
            · by_cases k : Lk.lt z y
              · rw [if_pos (decide_eq_true k), if_pos (decide_eq_true (imp k))]
                have := ihL.1
                omega
              · rw [if_neg (by simpa using k)]
                have := ihL.1
                split <;> omega
            · rcases List.mem_cons.mp m with rfl | m
              · rw [if_neg (by simpa using lk_irrefl y), if_pos (decide_eq_true l)]
                have := ihL.1
                omega
              · have := ihL.2 m
                by_cases k : Lk.lt z y
                · rw [if_pos (decide_eq_true k), if_pos (decide_eq_true (imp k))]
                  omega
                · rw [if_neg (by simpa using k)]
                  split <;> omega
        exact (gen W).2 m
      exact (ih y (by omega) _ _ j).mono fun z ⟨mz, lz⟩ => ⟨mz, lk_trans lz l⟩
theorem low_net {W : List Lk} (up : W.Pairwise Lk.lt) {x : Lk} {u v : Str} : Cn (Low W x) u v ↔ Cn (Low (taken id W) x) u v :=
  ⟨low_taken up _ x (Nat.le_refl _) u v, fun h => h.mono fun _ r => ⟨taken_sub _ _ _ r.1, r.2⟩⟩
/-- a rising list of links that joins what it lacks by lesser ones, and nothing twice, is the net -/
theorem net_crit {W M : List Lk} (up : W.Pairwise Lk.lt) (upM : M.Pairwise Lk.lt) (sub : ∀ x ∈ M, x ∈ W) (h1 : ∀ x ∈ M, ¬ Cn (Low M x) x.a x.b) (h2 : ∀ x ∈ W, x ∉ M → Cn (Low M x) x.a x.b) : taken id W = M := by
  have low : ∀ x u v, Cn (Low W x) u v ↔ Cn (Low M x) u v := fun x u v => by
    constructor
    · refine fun h => h.via fun y ⟨m, l⟩ => ?_
      by_cases k : y ∈ M
      · exact .link ⟨k, l⟩
      · exact (h2 y m k).mono fun z ⟨mz, lz⟩ => ⟨mz, lk_trans lz l⟩
    · exact fun h => h.mono fun y r => ⟨sub y r.1, r.2⟩
  refine row_ext (taken_up up) upM fun x => ?_
  constructor
  · intro m
    have mW := taken_sub _ _ _ m
    rw [mem_taken up mW, low] at m
    exact Decidable.byContradiction fun k => m (h2 x mW k)
  · intro m
    rw [mem_taken up (sub x m), low]
    exact h1 x m
/-- lots put together -/
theorem net_lots {A B W N : List Lk} (uA : A.Pairwise Lk.lt) (uB : B.Pairwise Lk.lt) (uW : W.Pairwise Lk.lt) (uN : N.Pairwise Lk.lt) (mW : ∀ x, x ∈ W ↔ x ∈ A ∨ x ∈ B) (mN : ∀ x, x ∈ N ↔ x ∈ taken id A ∨ x ∈ taken id B) : taken id W = taken id N := by
  have subN : ∀ x ∈ N, x ∈ W := fun x m => (mW x).2 (((mN x).1 m).imp (taken_sub _ _ _) (taken_sub _ _ _))
  have low : ∀ x u v, Cn (Low W x) u v ↔ Cn (Low N x) u v := fun x u v => by
    constructor
    · refine fun h => h.via fun y ⟨m, l⟩ => ?_
      by_cases k : y ∈ N
      · exact .link ⟨k, l⟩
      · have ny := fun z => k ((mN y).2 z)
        rcases (mW y).1 m with m | m
        · have j : Cn (Low A y) y.a y.b := Classical.byContradiction fun q => ny (.inl ((mem_taken uA m).2 q))
          exact (low_net uA |>.1 j).mono fun z ⟨mz, lz⟩ => ⟨(mN z).2 (.inl mz), lk_trans lz l⟩
        · have j : Cn (Low B y) y.a y.b := Classical.byContradiction fun q => ny (.inr ((mem_taken uB m).2 q))
          exact (low_net uB |>.1 j).mono fun z ⟨mz, lz⟩ => ⟨(mN z).2 (.inr mz), lk_trans lz l⟩
    · exact fun h => h.mono fun y r => ⟨subN y r.1, r.2⟩
  refine row_ext (taken_up uW) (taken_up uN) fun x => ?_
  constructor
  · intro m
    have mx := taken_sub _ _ _ m
    rw [mem_taken uW mx] at m
    have mx' : x ∈ N := (mN x).2 <| by
      rcases (mW x).1 mx with k | k
      · exact .inl ((mem_taken uA k).2 fun c => m (c.mono fun y r => ⟨(mW y).2 (.inl r.1), r.2⟩))
      · exact .inr ((mem_taken uB k).2 fun c => m (c.mono fun y r => ⟨(mW y).2 (.inr r.1), r.2⟩))
    rw [mem_taken uN mx', ← low]
    exact m
  · intro m
    have mx := taken_sub _ _ _ m
    rw [mem_taken uN mx, ← low] at m
    rw [mem_taken uW (subN x mx)]
    exact m
/-- the others of a net do not join what one joins -/
theorem net_cut {T : List Lk} (up : T.Pairwise Lk.lt) (h1 : ∀ x ∈ T, ¬ Cn (Low T x) x.a x.b) {t : Lk} (mt : t ∈ T) : ¬ Cn (fun y => y ∈ T ∧ y ≠ t) t.a t.b := by
  have gen : ∀ L : List Lk, (∃ r, T = L ++ r) → ¬ Cn (fun y => y ∈ L ∧ y ≠ t) t.a t.b := by
    intro L
    induction L using snocInd with
    | h0 =>
      intro _ c
      exact h1 t mt (c.mono fun y r => nomatch r.1)
    | hs L m ih =>
      rintro ⟨r, e⟩ c
      rw [List.append_assoc] at e
      have pw := List.pairwise_append.mp (e ▸ up)
      have mm : m ∈ T := by rw [e]; simp
      have sub : ∀ y ∈ L, y ∈ T := fun y my => by rw [e]; exact List.mem_append_left _ my
      have lowm : ∀ y ∈ L, Lk.lt y m := fun y my => pw.2.2 y my m (by simp)
      by_cases k : Lk.lt t m
      · have c2 : Cn (fun y => (y ∈ L ∧ y ≠ t) ∨ y = m) t.a t.b := c.mono fun y ⟨my, ny⟩ => by
          rcases List.mem_append.mp my with my | my
          · exact .inl ⟨my, ny⟩
          · exact .inr (List.mem_singleton.mp my)
        have tl : Low T m t := ⟨mt, k⟩
        have lw : ∀ {u v}, Cn (fun y => y ∈ L ∧ y ≠ t) u v → Cn (Low T m) u v := fun h => h.mono fun y r => ⟨sub y r.1, lowm y r.1⟩
        rcases c2.split with h | ⟨h1', h2'⟩ | ⟨h1', h2'⟩
        · exact ih ⟨[m] ++ r, e⟩ h
        · exact h1 m mm ((lw h1').symm.trans ((Cn.link tl).trans (lw h2').symm))
        · exact h1 m mm ((lw h2').trans ((Cn.knil tl).trans (lw h1')))
      · refine h1 t mt (c.mono fun y ⟨my, ny⟩ => ?_)
        rcases List.mem_append.mp my with my | my
        · refine ⟨sub y my, Decidable.byContradiction fun q => ?_⟩
          have ty := lk_tri ny q
          exact k (lk_trans ty (lowm y my))
        · rw [List.mem_singleton.mp my] at ny ⊢
          exact ⟨mm, lk_tri (fun z => ny z.symm) k⟩
  exact gen T ⟨[], by simp⟩
section
variable {W T : List Lk} {t : Lk}
theorem net_without (up : W.Pairwise Lk.lt) (nt : t ∉ taken id W) : taken id (W.filter fun y => decide (y ≠ t)) = taken id W := by
  refine net_crit (up.filter _) (taken_up up) (fun x m => ?_) (fun x m => ?_) fun x m n => ?_
  · rw [List.mem_filter]
    exact ⟨taken_sub _ _ _ m, decide_eq_true fun e => nt (e ▸ m)⟩
  · rw [← low_net up]
    exact (mem_taken up (taken_sub _ _ _ m)).1 m
  · have mx := (List.mem_filter.mp m).1
    exact (low_net up).1 (Classical.byContradiction fun k => n ((mem_taken up mx).2 k))
/-- which links lead out of the part of the net, less t, in which t begins -/
abbrev Part (T : List Lk) (t : Lk) (z : Str) : Prop := Cn (fun y => y ∈ T ∧ y ≠ t) t.a z
/-- one of the net struck: what comes is the least link that leads out, if there is one -/
theorem net_struck (up : W.Pairwise Lk.lt) (mt : t ∈ taken id W) {N : List Lk} (upN : N.Pairwise Lk.lt) (mN : (∃ x, x ∈ W ∧ x ≠ t ∧ ¬ (Part (taken id W) t x.a ↔ Part (taken id W) t x.b) ∧ (∀ y ∈ W, y ≠ t → ¬ (Part (taken id W) t y.a ↔ Part (taken id W) t y.b) → y = x ∨ Lk.lt x y) ∧ ∀ y, y ∈ N ↔ (y ∈ taken id W ∧ y ≠ t) ∨ y = x) ∨
    ((∀ y ∈ W, y ≠ t → (Part (taken id W) t y.a ↔ Part (taken id W) t y.b)) ∧ ∀ y, y ∈ N ↔ y ∈ taken id W ∧ y ≠ t)) : taken id (W.filter fun y => decide (y ≠ t)) = N := by
  have upT := taken_up up
  have h1 : ∀ x ∈ taken id W, ¬ Cn (Low (taken id W) x) x.a x.b := fun x m => by
    rw [← low_net up]
    exact (mem_taken up (taken_sub _ _ _ m)).1 m
  have h2 : ∀ x ∈ W, x ∉ taken id W → Cn (Low (taken id W) x) x.a x.b := fun x m n => (low_net up).1 (Classical.byContradiction fun k => n ((mem_taken up m).2 k))
  have subT : ∀ x ∈ taken id W, x ∈ W := fun x m => taken_sub _ _ _ m
  generalize taken id W = T at *
  have cut := net_cut upT h1 mt
  -- the lesser ones of the net less t
  let D : Lk → Prop := fun y => y ∈ T ∧ y ≠ t
  let E : Lk → Lk → Prop := fun x y => (y ∈ T ∧ y ≠ t) ∧ Lk.lt y x
  have eD : ∀ {x u v}, Cn (E x) u v → Cn D u v := fun h => h.mono fun y r => r.1
  have toE : ∀ {x u v}, Cn (Low T x) u v → Cn (fun y => E x y ∨ y = t) u v := fun h => h.mono fun y r => by
    by_cases k : y = t
    · exact .inr k
    · exact .inl ⟨⟨r.1, k⟩, r.2⟩
  have par : ∀ {u v}, Cn D u v → (Part T t u ↔ Part T t v) := fun h => ⟨fun p => p.trans h, fun p => p.trans h.symm⟩
  -- what lies within a part is joined without t
  have within : ∀ y ∈ W, y ≠ t → y ∉ T → (Part T t y.a ↔ Part T t y.b) → Cn (E y) y.a y.b := fun y my ny nT hp => by
    rcases (toE (h2 y my nT)).split with h | ⟨g1, g2⟩ | ⟨g1, g2⟩
    · exact h
    · have pa : Part T t y.a := (eD g1).symm
      exact absurd ((hp.1 pa).trans (eD g2).symm) cut
    · have pb : Part T t y.b := eD g2
      exact absurd ((hp.2 pb).trans (eD g1)) cut
  -- what leads out leads from the one end of t to the other
  have out : ∀ y ∈ W, y ≠ t → y ∉ T → ¬ (Part T t y.a ↔ Part T t y.b) → (Cn (E y) y.a t.a ∧ Cn (E y) t.b y.b) ∨ (Cn (E y) y.a t.b ∧ Cn (E y) t.a y.b) := fun y my ny nT hp => by
    rcases (toE (h2 y my nT)).split with h | h
    · exact absurd (par (eD h)) hp
    · exact h
  have noT : ∀ y ∈ T, y ≠ t → (Part T t y.a ↔ Part T t y.b) := fun y my ny => par (Cn.link ⟨my, ny⟩)
  rcases mN with ⟨x, mx, nx, px, least, mN⟩ | ⟨none, mN⟩
  · have nxT : x ∉ T := fun m => px (noT x m nx)
    refine net_crit (up.filter _) upN (fun y m => ?_) (fun y m c => ?_) fun y m n => ?_
    · rw [List.mem_filter]
      rcases (mN y).1 m with ⟨k1, k2⟩ | rfl
      · exact ⟨subT y k1, decide_eq_true k2⟩
      · exact ⟨mx, decide_eq_true nx⟩
    · rcases (mN y).1 m with ⟨k1, k2⟩ | rfl
      · have c2 : Cn (fun z => E y z ∨ z = x) y.a y.b := c.mono fun z r => by
          rcases (mN z).1 r.1 with q | q
          · exact .inl ⟨q, r.2⟩
          · exact .inr q
        rcases c2.split with h | ⟨g1, g2⟩ | ⟨g1, g2⟩
        · exact h1 y k1 (h.mono fun z r => ⟨r.1.1, r.2⟩)
        · exact px (par ((eD g1).symm.trans ((Cn.link (R := D) ⟨k1, k2⟩).trans (eD g2).symm)))
        · exact px (par ((eD g2).trans ((Cn.knil (R := D) ⟨k1, k2⟩).trans (eD g1))))
      · refine px (par (c.mono fun z r => ?_))
        rcases (mN z).1 r.1 with q | q
        · exact q
        · rw [q] at r; exact absurd r.2 (lk_irrefl _)
    · obtain ⟨my, ny⟩ := List.mem_filter.mp m
      have ny := of_decide_eq_true ny
      have nT : y ∉ T := fun k => n ((mN y).2 (.inl ⟨k, ny⟩))
      have nyx : y ≠ x := fun k => n ((mN y).2 (.inr k))
      have up1 : ∀ {u v}, Cn (E y) u v → Cn (Low N y) u v := fun h => h.mono fun z r => ⟨(mN z).2 (.inl r.1), r.2⟩
      by_cases p : Part T t y.a ↔ Part T t y.b
      · exact up1 (within y my ny nT p)
      · have xy : Lk.lt x y := (least y my ny p).resolve_left nyx
        have lx : Cn (Low N y) x.a x.b := Cn.link ⟨(mN x).2 (.inr rfl), xy⟩
        have up2 : ∀ {u v}, Cn (E x) u v → Cn (Low N y) u v := fun h => h.mono fun z r => ⟨(mN z).2 (.inl r.1), lk_trans r.2 xy⟩
        have tt : Cn (Low N y) t.a t.b := by
          rcases out x mx nx nxT px with ⟨g1, g2⟩ | ⟨g1, g2⟩
          · exact (up2 g1).symm.trans (lx.trans (up2 g2).symm)
          · exact (up2 g2).trans (lx.symm.trans (up2 g1))
        rcases out y my ny nT p with ⟨g1, g2⟩ | ⟨g1, g2⟩
        · exact (up1 g1).trans (tt.trans (up1 g2))
        · exact (up1 g1).trans (tt.symm.trans (up1 g2))
  · refine net_crit (up.filter _) upN (fun y m => ?_) (fun y m c => ?_) fun y m n => ?_
    · rw [List.mem_filter]
      obtain ⟨k1, k2⟩ := (mN y).1 m
      exact ⟨subT y k1, decide_eq_true k2⟩
    · obtain ⟨k1, k2⟩ := (mN y).1 m
      exact h1 y k1 (c.mono fun z r => ⟨((mN z).1 r.1).1, r.2⟩)
    · obtain ⟨my, ny⟩ := List.mem_filter.mp m
      have ny := of_decide_eq_true ny
      have nT : y ∉ T := fun k => n ((mN y).2 ⟨k, ny⟩)
      exact (within y my ny nT (none y my ny)).mono fun z r => ⟨(mN z).2 r.1, r.2⟩
end
def cnt : List Str → Nat
  | [] => 0
  | x :: r => if x ∈ r then cnt r else cnt r + 1
theorem cnt_map_le {f g : Nm} : ∀ V : List Str, (∀ u ∈ V, ∀ v ∈ V, f u = f v → g u = g v) → cnt (V.map g) ≤ cnt (V.map f)
  | [], _ => Nat.le_refl _
  | x :: r, h => by
    have ih := cnt_map_le r fun u mu v mv => h u (List.mem_cons_of_mem _ mu) v (List.mem_cons_of_mem _ mv)
    rw [List.map_cons, List.map_cons, cnt, cnt]
    by_cases c : f x ∈ r.map f
    · obtain ⟨y, my, ey⟩ := List.mem_map.mp c
      have c2 : g x ∈ r.map g := List.mem_map.mpr ⟨y, my, (h x List.mem_cons_self y (List.mem_cons_of_mem _ my) ey.symm).symm⟩
      rw [if_pos c, if_pos c2]
      exact ih
    · rw [if_neg c]
      split <;> omega
theorem cnt_relab {f : Nm} {a b : Str} (n : a ≠ b) : ∀ V : List Str, cnt (V.map (relab f a b)) + (if a ∈ V.map f ∧ b ∈ V.map f then 1 else 0) = cnt (V.map f)
  | [] => by simp [cnt]
  | x :: r => by
    have ih := cnt_relab n r (f := f)
    have mem : ∀ z, z ∈ r.map (relab f a b) ↔ (z = b ∧ (a ∈ r.map f ∨ b ∈ r.map f)) ∨ (z ≠ a ∧ z ≠ b ∧ z ∈ r.map f) := fun z => by
      rw [List.mem_map]
      constructor
      · rintro ⟨y, my, rfl⟩
        unfold relab
        by_cases e : f y = a
        · rw [if_pos e]
          exact .inl ⟨rfl, .inl (List.mem_map.mpr ⟨y, my, e⟩)⟩
        · rw [if_neg e]
          by_cases e2 : f y = b
          · exact .inl ⟨e2, .inr (List.mem_map.mpr ⟨y, my, e2⟩)⟩
          · exact .inr ⟨e, e2, List.mem_map.mpr ⟨y, my, rfl⟩⟩
      · rintro (⟨rfl, h⟩ | ⟨h1, h2, h⟩)
        · rcases h with h | h
          · obtain ⟨y, my, ey⟩ := List.mem_map.mp h
            exact ⟨y, my, by unfold relab; rw [if_pos ey]⟩
          · obtain ⟨y, my, ey⟩ := List.mem_map.mp h
            exact ⟨y, my, by unfold relab; rw [if_neg (by rw [ey]; exact n.symm)]; exact ey⟩
        · obtain ⟨y, my, ey⟩ := List.mem_map.mp h
          exact ⟨y, my, by unfold relab; rw [if_neg (by rw [ey]; exact h1)]; exact ey⟩
    rw [List.map_cons, List.map_cons, cnt, cnt]
    simp only [List.mem_cons]
    by_cases e : f x = a
    · have er : relab f a b x = b := by unfold relab; rw [if_pos e]
      rw [er, e]
      have m1 := mem b
      by_cases ha : a ∈ r.map f <;> by_cases hb : b ∈ r.map f <;> simp [ha, hb, n, n.symm, m1] at ih ⊢ <;> omega
    · have er : relab f a b x = f x := by unfold relab; rw [if_neg e]
      rw [er]
      have m1 := mem (f x)
      by_cases eb : f x = b
      · rw [eb] at m1 ⊢
        by_cases ha : a ∈ r.map f <;> by_cases hb : b ∈ r.map f <;> simp [ha, hb, n, n.symm, m1] at ih ⊢ <;> omega
      · have ea' : ¬ a = f x := fun q => e q.symm
        have eb' : ¬ b = f x := fun q => eb q.symm
        by_cases ha : a ∈ r.map f <;> by_cases hb : b ∈ r.map f <;> by_cases hx : f x ∈ r.map f <;> simp [ha, hb, hx, n, n.symm, m1, e, eb, ea', eb'] at ih ⊢ <;> omega
theorem cnt_names {V : List Str} (L : List Lk) : (∀ x ∈ L, x.a ∈ V ∧ x.b ∈ V) → cnt (V.map (names id L)) + (taken id L).length = cnt (V.map id) := by
  induction L using snocInd with
  | h0 => intro _; rfl
  | hs L x ih =>
    intro h
    have ih := ih fun y m => h y (List.mem_append_left _ m)
    obtain ⟨ha, hb⟩ := h x (by simp)
    rw [names_snoc, taken_snoc]
    by_cases c : names id L x.a = names id L x.b
    · rw [if_pos c, if_pos c]
      exact ih
    · rw [if_neg c, if_neg c]
      have z := cnt_relab (f := names id L) c V
      rw [if_pos ⟨List.mem_map.mpr ⟨_, ha, rfl⟩, List.mem_map.mpr ⟨_, hb, rfl⟩⟩] at z
      rw [List.length_append]
      show _ + (_ + 1) = _
      omega
/-- what joins more has as many, or more -/
theorem rank_le {V : List Str} {L M : List Lk} (hL : ∀ x ∈ L, x.a ∈ V ∧ x.b ∈ V) (hM : ∀ x ∈ M, x.a ∈ V ∧ x.b ∈ V) (h : ∀ u ∈ V, ∀ v ∈ V, names id L u = names id L v → names id M u = names id M v) : (taken id L).length ≤ (taken id M).length := by
  have a := cnt_names L hL
  have b := cnt_names M hM
  have c := cnt_map_le V h
  omega
theorem taken_more (f : Nm) (L M : List Lk) : (taken f (L ++ M)).length ≤ (taken f L).length + M.length := by
  rw [taken_app, List.length_append]
  exact Nat.add_le_add_left (taken_subl _ M).length_le _
/-- of all sets that join as much none has fewer; and place by place none is lesser -/
theorem net_least {V : List Str} {W S : List Lk} (up : W.Pairwise Lk.lt) (sub : S.Sublist W) (hW : ∀ x ∈ W, x.a ∈ V ∧ x.b ∈ V) (h : ∀ u ∈ V, ∀ v ∈ V, names id W u = names id W v → names id S u = names id S v) :
    (taken id W).length ≤ S.length ∧ (S.length = (taken id W).length → ∀ (k : Nat) (s t : Lk), S[k]? = some s → (taken id W)[k]? = some t → ¬ Lk.lt s t) := by
  have hS : ∀ x ∈ S, x.a ∈ V ∧ x.b ∈ V := fun x m => hW x (sub.subset m)
  have r1 := rank_le hW hS h
  refine ⟨Nat.le_trans r1 (taken_subl id S).length_le, fun el k s t es et lt => ?_⟩
  have mt := taken_sub _ _ _ (List.mem_of_getElem? et)
  obtain ⟨P, Q, rfl⟩ := List.append_of_mem mt
  have pw := List.pairwise_append.mp up
  have nPt : ¬ names id P t.a = names id P t.b := fun c => by
    have m := (mem_taken up mt).1 (List.mem_of_getElem? et)
    refine m ((cn_names.1 c).mono fun y my => ⟨List.mem_append_left _ my, pw.2.2 y my t List.mem_cons_self⟩)
  have eT : taken id (P ++ t :: Q) = taken id P ++ t :: taken (relab (names id P) (names id P t.a) (names id P t.b)) Q := by
    rw [taken_app, taken, if_neg nPt]
  have ndT := lt_nodup (taken_up up)
  have ek : k = (taken id P).length := by
    rw [eT] at et ndT
    have e2 : (taken id P ++ t :: taken (relab (names id P) (names id P t.a) (names id P t.b)) Q)[(taken id P).length]? = some t := by
      rw [List.getElem?_append_right (Nat.le_refl _), Nat.sub_self]
      rfl
    obtain ⟨l1, g1⟩ := List.getElem?_eq_some_iff.mp et
    obtain ⟨l2, g2⟩ := List.getElem?_eq_some_iff.mp e2
    exact (List.getElem_inj ndT).mp (g1.trans g2.symm)
  obtain ⟨lk, gk⟩ := List.getElem?_eq_some_iff.mp es
  have spl : S = S.take (k + 1) ++ S.drop (k + 1) := (List.take_append_drop _ _).symm
  have upS : S.Pairwise Lk.lt := up.sublist sub
  have inP : ∀ y ∈ S.take (k + 1), y ∈ P := fun y my => by
    have ly : y = s ∨ Lk.lt y s := by
      obtain ⟨j, hj⟩ := List.mem_iff_getElem?.mp my
      have jk : j < k + 1 := by
        have := (List.getElem?_eq_some_iff.mp hj).1
        rw [List.length_take] at this
        omega
      rw [List.getElem?_take_of_lt jk] at hj
      obtain ⟨lj, gj⟩ := List.getElem?_eq_some_iff.mp hj
      by_cases e : j = k
      · subst e
        exact .inl (gj.symm.trans gk)
      · right
        rw [← gj, ← gk]
        exact List.pairwise_iff_getElem.mp upS j k lj lk (by omega)
    have lyt : Lk.lt y t := by
      rcases ly with rfl | l
      · exact lt
      · exact lk_trans l lt
    have mW := sub.subset (List.mem_of_mem_take my)
    rcases List.mem_append.mp mW with m | m
    · exact m
    · rcases List.mem_cons.mp m with rfl | m
      · exact absurd lyt (lk_irrefl y)
      · exact absurd lyt (lk_asymm ((List.pairwise_cons.mp pw.2.1).1 y m))
  have r2 : (taken id (S.take (k + 1))).length ≤ (taken id P).length := rank_le (V := V) (fun x m => hS x (List.mem_of_mem_take m)) (fun x m => hW x (List.mem_append_left _ m)) fun u _ v _ e => cn_names.2 ((cn_names.1 e).mono inP)
  have r3 := taken_more id (S.take (k + 1)) (S.drop (k + 1))
  rw [← spl, List.length_drop] at r3
  omega
end Fk
namespace Fk
open PySem PySem.Spec PySem.W PyProof.Rows L2
section
variable {prog : Program} {w : World} {A : Around} {E : Value → Shared → Prop} {s : Shared}
theorem str_eq_declines_dict (b : Str) (u : Tok) (l : Addr) (c : Value) (es : Array DictEntry) (n : Nat) (dd : Option Addr) (sl : Array (Option Value)) :
    Meets (Builtin.«str.__eq__» ⟨[.str b u, .ref l], []⟩) (fun _ R s => s.heap.get? l = some { cls := c, dict := dd, data := .dict es n, slots := sl } ∧ R (.ok (.ret .notImplemented)) s) :=
  .of_wp fun prog w A R s h => by obtain ⟨hp, g, d, tk, os⟩ := s; obtain ⟨hl, h⟩ := h; wp_walk using wpAny_load hl; exact ⟨_, rfl, h⟩
theorem dict_eq_declines (l : Addr) (b : Str) (t : Tok) (hT : s.TypeIs (.ref l) "dict") {Q : Value → Shared → Prop} (hq : Q .notImplemented s) : wpAny (model prog w) A (call (.builtin "dict.__eq__") [.ref l, .str b t]) Q E s := by
  refine wpAny_call_entry PySem.F.slot_dict_eq hT PySem.F.entry_dict_eq ?_ (PySem.F.args_dict_eq_2 _ _)
  show wpAny _ _ (Builtin.Dict.dictSlotArgs "__eq__" ⟨[.ref l, .str b t], []⟩ >>= _) _ _ s
  refine wpAny_bind ?_
  unfold Builtin.Dict.dictSlotArgs
  refine wpAny_bind (wpAny_notOrdered_dict hT ?_)
  show wpAny _ _ (pure (Value.ref l, Value.str b t)) _ _ s
  refine wpAny_pure ?_
  refine wpAny_bind (wpAny_isInstance (T := "str") (typeIs_str s b t) F.sub_str_dict ?_)
  simp only [Bool.not_false, if_true]
  refine wpAny_bind (wpAny_rule ?_)
  exact wpAny_pure ⟨_, rfl, hq⟩
end
section
variable {A : Around} {s : Shared}
theorem RcAt_dict_str {l : Addr} {o : Obj} {es : Array DictEntry} {n : Nat} (b : Str) (u : Tok) (ho : s.heap.get? l = some o) (hx : o.cls = .type "dict") (hd : o.data = .dict es n) (hu : A.units < cLine) : SeqAt.RcAt A s (.ref l) (.str b u) false := fun prog w E Q h => by
  obtain ⟨c, dd, data, sl⟩ := o
  simp only at hx hd
  subst hd hx
  have hT : s.TypeIs (.ref l) "dict" := ⟨_, ho, rfl⟩
  exact SeqAt.rc_eq_decline_or (k := false) hT (typeIs_str s b u) (by decide) F.sub_str_dict F.slot_dict_eq F.slot_str_eq_refl
    (fun _ hq => dict_eq_declines l b u hT hq)
    (fun _ hq => call_meets F.slot_str_eq_refl (typeIs_str s b u) F.entry_str_eq (F.args_str_eq_2 _ _) (str_eq_declines_dict b u l (.type "dict") es n dd sl) ⟨ho, hq⟩)
    (fun _ hq => wpAny_of_eq (rfl : isSame (.ref l) (.str b u) = pure false) hq) (.inr hu) h
theorem EqAt_dict_str {l : Addr} {o : Obj} {es : Array DictEntry} {n : Nat} (b : Str) (u : Tok) (ho : s.heap.get? l = some o) (hx : o.cls = .type "dict") (hd : o.data = .dict es n) (hu : A.units < cLine) : SeqAt.EqAt A s (.ref l) (.str b u) false := fun prog w E Q h => by
  unfold eqBool
  refine wpAny_holding ?_
  refine wpAny_ite_split (fun hab => absurd (eq_of_beq hab) nofun) (fun _ => ?_)
  exact wpAny_bind (RcAt_dict_str b u ho hx hd hu prog w E _ (wpAny_truthy_bool h))
end
/-- whether a value is this text -/
def isT (z : Str) : Value → Bool
  | .str x _ => x == z
  | _ => false
section
variable {X : Cx} {pins : List (Addr × Obj)} {σ : L2.St} {H : Hp} {s : Shared} {A : Around}
theorem isT_V {v : V} {u : Value} (h : Kd H v) (r : RelV v u) (z : Str) : isT z u = decide (v = .str z) := by
  cases h with
  | non => cases r; rfl
  | bl b => cases r; rfl
  | int i => obtain ⟨t, rfl⟩ := r; rfl
  | str y _ _ =>
    obtain ⟨t, rfl⟩ := r
    show (y == z) = _
    rw [Bool.eq_iff_iff, beq_iff_eq, decide_eq_true_eq]
    exact ⟨fun e => by rw [e], fun e => V.str.inj e⟩
  | lst _ => cases r; rfl
  | tup _ _ _ => cases r; rfl
  | dct _ => cases r; rfl
theorem kd_eqAt (I : Inv X pins σ H s) {v : V} {u : Value} (h : Kd H v) (r : RelV v u) (z : Str) (t : Tok) (hu : A.units < cLine) : SeqAt.EqAt A s u (.str z t) (isT z u) := by
  cases h with
  | non => cases r; exact SeqAt.EqAt.none_str z t
  | bl b => cases r; exact SeqAt.EqAt.bool_str b z t
  | int i => obtain ⟨t', rfl⟩ := r; exact SeqAt.EqAt.int_str i t' z t
  | str y _ _ => obtain ⟨t', rfl⟩ := r; exact SeqAt.EqAt.str_str y t' z t
  | lst h =>
    cases r
    obtain ⟨us, _, pl, _⟩ := I.list (SqL.of h)
    exact SeqAt.EqAt.list_str z t pl.isList hu
  | tup h _ _ =>
    cases r
    obtain ⟨us, _, pl, _⟩ := I.tuple (SqT.of h)
    exact SeqAt.EqAt.tuple_str z t pl hu
  | @dct a kvs h =>
    cases r
    obtain ⟨_, _, vs, _, p⟩ := (show ObjOk X.prog X.w H s.heap a (.dK kvs) from I.hok a _ h)
    obtain ⟨o, es, ep, ho, hx, hd, _⟩ := p
    exact EqAt_dict_str z t ho hx.1 hd hu
theorem kds_eqAt (I : Inv X pins σ H s) (z : Str) (t : Tok) (hu : A.units < cLine) : ∀ {xs : List V} {us : List Value}, Vals xs us → (∀ x ∈ xs, Kd H x) → ∀ u ∈ us, SeqAt.EqAt A s u (.str z t) (isT z u)
  | _, _, .nil, _ => fun u hu => by cases hu
  | y :: xs, u :: us, .cons r rr, f => fun u' hu' => by
    rcases List.mem_cons.mp hu' with rfl | hu'
    · exact kd_eqAt I (f y List.mem_cons_self) r z t hu
    · exact kds_eqAt I z t hu rr (fun x m => f x (List.mem_cons_of_mem _ m)) u' hu'
theorem any_isT (z : Str) : ∀ {xs : List V} {us : List Value}, Vals xs us → (∀ x ∈ xs, Kd H x) → us.any (isT z) = decide (V.str z ∈ xs)
  | _, _, .nil, _ => by simp
  | y :: xs, u :: us, .cons r rr, f => by
    rw [List.any_cons, isT_V (f y List.mem_cons_self) r z, any_isT z rr fun x m => f x (List.mem_cons_of_mem _ m), Bool.eq_iff_iff]
    simp only [Bool.or_eq_true, decide_eq_true_eq, List.mem_cons]
    exact or_congr_left ⟨fun e => e.symm, fun e => e.symm⟩
end
/-- a text in a tuple of things -/
def rInOdd (K : PySem.W.Frag) : R2 := fun x y H Q => ∃ (z : Str) (a : Addr) (xs : List V), x = .str z ∧ y = .ref a ∧ SqT K H a xs ∧ (∀ v ∈ xs, Kd H v) ∧ Q (.bl (decide (V.str z ∈ xs))) H
def rNotInOdd (K : PySem.W.Frag) : R2 := fun x y H Q => ∃ (z : Str) (a : Addr) (xs : List V), x = .str z ∧ y = .ref a ∧ SqT K H a xs ∧ (∀ v ∈ xs, Kd H v) ∧ Q (.bl (!decide (V.str z ∈ xs))) H
/-- a list of things, and one of texts -/
def rEqOdd (K : PySem.W.Frag) : R2 := fun x y H Q => ∃ (a b : Addr) (xs : List V) (zs : List Str), x = .ref a ∧ y = .ref b ∧ SqL K H a xs ∧ SqL K H b (zs.map V.str) ∧ (∀ v ∈ xs, Kd H v) ∧ Q (.bl (decide (xs = zs.map V.str))) H
/-- a list of things, and the empty one -/
def rNeL0 (K : PySem.W.Frag) : R2 := fun x y H Q => ∃ a b xs, x = .ref a ∧ y = .ref b ∧ SqL K H a xs ∧ SqL K H b [] ∧ Q (.bl (!xs.isEmpty)) H
def eqJ (xs : List V) (zs : List Str) (j : Nat) : Bool := match xs[j]?, zs[j]? with
  | some v, some z => decide (v = .str z)
  | _, _ => false
theorem eqJ_all : ∀ (xs : List V) (zs : List Str), xs.length = zs.length → (List.range xs.length).all (eqJ xs zs) = decide (xs = zs.map V.str) := by
  intro xs zs l
  rw [Bool.eq_iff_iff, List.all_eq_true, decide_eq_true_eq]
  constructor
  · intro h
    refine List.ext_getElem? fun j => ?_
    rcases Nat.lt_or_ge j xs.length with lt | ge
    · have z := h j (List.mem_range.mpr lt)
      have l2 : j < zs.length := by omega
      unfold eqJ at z
      rw [List.getElem?_eq_getElem lt, List.getElem?_eq_getElem l2] at z
      rw [List.getElem?_map, List.getElem?_eq_getElem lt, List.getElem?_eq_getElem l2, of_decide_eq_true z]
      rfl
    · rw [List.getElem?_eq_none ge, List.getElem?_eq_none (by rw [List.length_map]; omega)]
  · intro e j mj
    have lt := List.mem_range.mp mj
    have l2 : j < zs.length := by omega
    unfold eqJ
    rw [e, List.getElem?_map, List.getElem?_eq_getElem l2]
    simp
section
variable {X : Cx} (K : PySem.W.Frag)
theorem kInOdd (hu : X.A.units + 65 < cLine) (h : X.K = K := by rfl) : OpR X (compareOp .In) (rInOdd K) := by
  subst h
  intro pins s σ H x y v u Q I rx ry h
  obtain ⟨z, a, xs, rfl, rfl, ha, kd, q⟩ := h
  obtain ⟨t, rfl⟩ := rx
  cases ry
  obtain ⟨its, r, pl, _⟩ := I.tuple ha
  refine SeqAt.in_tupleAt (isT z) pl (fun w hw => kds_eqAt I z t (by show X.A.units + 1 < cLine; omega) r kd w (by simpa using hw)) ⟨.bl _, H, I, rfl, ?_⟩
  rw [show its.toArray.any (isT z) = its.any (isT z) by simp, any_isT z r kd]
  exact q
theorem kNotInOdd (hu : X.A.units + 65 < cLine) (h : X.K = K := by rfl) : OpR X (compareOp .NotIn) (rNotInOdd K) := by
  subst h
  intro pins s σ H x y v u Q I rx ry h
  obtain ⟨z, a, xs, rfl, rfl, ha, kd, q⟩ := h
  obtain ⟨t, rfl⟩ := rx
  cases ry
  obtain ⟨its, r, pl, _⟩ := I.tuple ha
  refine SeqAt.notIn_tupleAt (isT z) pl (fun w hw => kds_eqAt I z t (by show X.A.units + 1 < cLine; omega) r kd w (by simpa using hw)) ⟨.bl _, H, I, rfl, ?_⟩
  rw [show its.toArray.any (isT z) = its.any (isT z) by simp, any_isT z r kd]
  exact q
theorem kEqOdd (hu : X.A.units + 65 < cLine) (h : X.K = K := by rfl) : OpR X (compareOp .Eq) (rEqOdd K) := by
  subst h
  intro pins s σ H x y v u Q I rx ry h
  obtain ⟨a, b, xs, zs, rfl, rfl, ha, hb, kd, q⟩ := h
  cases rx
  cases ry
  obtain ⟨us, r, pl, _⟩ := I.list ha
  obtain ⟨us2, r2, pl2, _⟩ := I.list hb
  have l1 := r.length
  have l2 := r2.length
  rw [List.length_map] at l2
  by_cases e : xs.length = zs.length
  · refine SeqAt.eq_listAt (e := eqJ xs zs) pl.isList pl2.isList (by rw [List.size_toArray, List.size_toArray]; omega) (by omega) (fun j h1 h2 => ?_) ?_
    · simp only [List.size_toArray] at h1 h2
      have lj : j < xs.length := by omega
      have lz : j < zs.length := by omega
      obtain ⟨u1, e1, q1⟩ := r.get (List.getElem?_eq_getElem lj)
      obtain ⟨u2, e2, q2⟩ := r2.get (i := j) (x := V.str zs[j]) (by rw [List.getElem?_map, List.getElem?_eq_getElem lz]; rfl)
      have f1 : us.toArray[j] = u1 := by
        have z := List.getElem?_eq_some_iff.mp e1
        simpa using z.2
      have f2 : us2.toArray[j] = u2 := by
        have z := List.getElem?_eq_some_iff.mp e2
        simpa using z.2
      rw [f1, f2]
      obtain ⟨t, rfl⟩ := q2
      have k := kd _ (List.getElem_mem lj)
      have z := kd_eqAt (A := X.A.in1) I k q1 zs[j] t (by show X.A.units + 1 < cLine; omega)
      rw [isT_V k q1] at z
      have ej : eqJ xs zs j = decide (xs[j] = V.str zs[j]) := by
        unfold eqJ
        rw [List.getElem?_eq_getElem lj, List.getElem?_eq_getElem lz]
      rw [ej]
      exact z
    · rw [List.size_toArray, ← l1, eqJ_all xs zs e]
      exact ⟨.bl _, H, I, rfl, q⟩
  · refine SeqAt.eq_list_lengthsAt pl.isList pl2.isList (by rw [List.size_toArray, List.size_toArray]; simp only [bne_iff_ne, ne_eq]; omega) (by omega) ⟨.bl _, H, I, rfl, ?_⟩
    rw [decide_eq_false (fun z => e (by rw [z, List.length_map]))] at q
    exact q
theorem kNeL0 (hu : X.A.units + 64 < cLine) (h : X.K = K := by rfl) : OpR X (compareOp .NotEq) (rNeL0 K) := by
  subst h
  intro pins s σ H x y v u Q I rx ry h
  obtain ⟨a, b, xs, rfl, rfl, ha, hb, q⟩ := h
  cases rx
  cases ry
  obtain ⟨us, r, pl, _⟩ := I.list ha
  obtain ⟨us2, r2, pl2, _⟩ := I.list hb
  cases r2
  cases r with
  | nil =>
    have out : EP X pins σ Q (.bool (!(List.range ([] : List Value).toArray.size).all fun _ => true)) s := ⟨.bl false, H, I, rfl, q⟩
    exact SeqAt.RcNeAt.lists (A := X.A) (s := s) (e := fun _ => true) pl.isList pl2.isList rfl (by omega) (fun j h1 h2 => absurd h2 (by simp)) X.prog X.w X.xe _ out
  | cons _ _ =>
    have out : EP X pins σ Q (.bool true) s := ⟨.bl true, H, I, rfl, q⟩
    exact SeqAt.RcNeAt.lists_lengths (A := X.A) (s := s) pl.isList pl2.isList (by simp) (by omega) X.prog X.w X.xe _ out
end
section
variable {K : PySem.W.Frag} {H : Hp} {Q : VK} {a b : Addr} {z : Str} {xs : List V} {zs : List Str}
theorem w_inOdd (h : SqT K H a xs) (kd : ∀ v ∈ xs, Kd H v) (q : Q (.bl (decide (V.str z ∈ xs))) H) : rInOdd K (.str z) (.ref a) H Q := ⟨z, a, xs, rfl, rfl, h, kd, q⟩
theorem w_ninOdd (h : SqT K H a xs) (kd : ∀ v ∈ xs, Kd H v) (q : Q (.bl (!decide (V.str z ∈ xs))) H) : rNotInOdd K (.str z) (.ref a) H Q := ⟨z, a, xs, rfl, rfl, h, kd, q⟩
theorem w_eqOdd (h : SqL K H a xs) (h2 : SqL K H b (zs.map V.str)) (kd : ∀ v ∈ xs, Kd H v) (q : Q (.bl (decide (xs = zs.map V.str))) H) : rEqOdd K (.ref a) (.ref b) H Q := ⟨a, b, xs, zs, rfl, rfl, h, h2, kd, q⟩
theorem w_neL0 (h : SqL K H a xs) (h2 : SqL K H b []) (q : Q (.bl (!xs.isEmpty)) H) : rNeL0 K (.ref a) (.ref b) H Q := ⟨a, b, xs, rfl, rfl, h, h2, q⟩
end
section
variable {P : Program} {w : World}
theorem tx_of {h : Heap} {S : Addr} (e : h.get? S = some (frs w)) : TxAt P w h S [] #[] 0 (.fresh 0 0 (!w.params.followText "set-order")) where
  ob := ⟨_, e, ⟨rfl, rfl, rfl⟩, rfl⟩
  rows := rfl
  nd := List.nodup_nil
  few := by decide
  fit := rfl
  up := List.Pairwise.nil
  led := by
    show _ ∨ (!w.params.followText "set-order") = true
    cases w.params.followText "set-order"
    · exact .inr rfl
    · exact .inl rfl
def TxG (P : Program) (w : World) (S : Addr) (zs : List Str) (i : Nat) (h : Heap) : Prop := ∃ L es ep t, TxAt P w h S L es ep t ∧ (∀ x, x ∈ L.map (·.1) ↔ x ∈ zs.take i) ∧ L.length ≤ (zs.take i).length
theorem puts_txs {h0 : Heap} {S : Addr} {items : Array Value} {u : Nat} (zs : List Str) (ei : ∀ (i : Nat) (v : Value), items[i]? = some v → ∃ (z : Str) (tk : Tok), zs[i]? = some z ∧ v = Value.str z tk) (few : zs.length < 4000) : PutsIn P w u h0 S items (TxG P w S zs) where
  frame := fun i h h' ⟨L, es, ep, t, R, r⟩ kS k0 => ⟨L, es, ep, t, R.keep kS, r⟩
  zero := fun h e _ => ⟨[], #[], 0, _, tx_of e, fun x => by simp, Nat.zero_le _⟩
  put := fun i v A s Q E ev lu ⟨L, es, ep, t, R, g1, g2⟩ kp q => by
    obtain ⟨z, tk, ez, rfl⟩ := ei i v ev
    have li := (List.getElem?_eq_some_iff.mp ez).1
    have tk' := take_snoc ez
    have lt : (zs.take i).length ≤ zs.length := by rw [List.length_take]; omega
    unfold setAdd
    refine wpAny_holding (wpAny_bind ((strKind P w).pyHash (strKind_is P w z tk) ?_))
    refine tx_put (s := { s with toks := s.toks + 1 }) R (by unfold scanBound; omega) fun b h' L' es' ep' t' sb R' c1 c2 => q b h' _ sb (Nat.le_add_right _ _) ⟨L', es', ep', t', R', ?_⟩
    rw [tk', List.length_append]
    by_cases c : z ∈ L.map (·.1)
    · rw [c1 c]
      refine ⟨fun x => ?_, Nat.le_trans g2 (Nat.le_add_right _ _)⟩
      rw [g1, List.mem_append, List.mem_singleton]
      exact ⟨.inl, fun y => y.elim id fun y => by rw [y]; exact (g1 z).1 c⟩
    · have pm := c2 c
      refine ⟨fun x => ?_, by rw [pm.length_eq]; exact Nat.succ_le_succ g2⟩
      rw [(pm.map (·.1)).mem_iff, List.map_cons, List.mem_cons, g1, List.mem_append, List.mem_singleton]
      exact Or.comm
def rSetTx (K : PySem.W.Frag) (P : Program) (w : World) : List V → Hp → VK → Prop := fun xs H Q => ∃ (a : Addr) (zs : List Str), xs = [.ref a] ∧ (SqL K H a (zs.map V.str) ∨ SqT K H a (zs.map V.str)) ∧ zs.length < 4000 ∧ ∀ S, H S = none → Q (.ref S) (upd H S (TxS P w S zs))
theorem vals_str : ∀ {zs : List Str} {us : List Value}, Vals (zs.map V.str) us → ∀ (i : Nat) (v : Value), us[i]? = some v → ∃ (z : Str) (tk : Tok), zs[i]? = some z ∧ v = Value.str z tk
  | [], _, .nil, i, v, e => by simp at e
  | z :: zs, u :: us, .cons r rr, 0, v, e => by
    obtain ⟨t, rfl⟩ := r
    cases e
    exact ⟨z, t, rfl, rfl⟩
  | z :: zs, u :: us, .cons r rr, i + 1, v, e => vals_str rr i v e
theorem cr_setTx {X : Cx} (K : PySem.W.Frag) (hc : X.calm = true) (h : X.K = K := by rfl) : CallR X (.type "set") (rSetTx K X.prog X.w) := by
  subst h
  intro pins s σ H xs us Q I r h
  obtain ⟨a, zs, rfl, ha, few, q⟩ := h
  cases r with
  | cons rx rr =>
    cases rr
    cases rx
    obtain ⟨its, hv, seq⟩ : ∃ its : List Value, Vals (zs.map V.str) its ∧ SeqAt' s.heap a its.toArray := by
      rcases ha with ha | ha
      · obtain ⟨us, r, pl, _⟩ := I.list ha
        exact ⟨us, r, .inl pl.isList⟩
      · obtain ⟨us, r, pl, _⟩ := I.tuple ha
        exact ⟨us, r, .inr pl⟩
    have lz : its.toArray.size = zs.length := by
      have z := hv.length
      rw [List.length_map] at z
      rw [List.size_toArray]
      omega
    have J := puts_txs (P := X.prog) (w := X.w) (h0 := s.heap) (S := s.heap.objs.size) (u := X.A.units + 3) (items := its.toArray) zs (fun i v e => vals_str hv i v (by simpa using e)) few
    refine puts_call (I.ok.hd hc) seq J fun h' tk g k => ?_
    rw [lz] at g
    obtain ⟨L, es, ep, t, R, g1, g2⟩ := g
    rw [List.take_length] at g1 g2
    exact ⟨.ref s.heap.objs.size, _, I.laid (t' := tk) k (Nat.le_refl _) (txs_ok R g1 g2), rfl, q _ (I.hok.fresh (Nat.le_refl _))⟩
end
end Fk
namespace Fk
open PySem PySem.Spec PyProof.Rows L2
/-- things that a list holds, that may be told apart and stand in an order -/
structure Things (K : PySem.W.Frag) (α : Type) where
  val : α → V
  eqb : α → α → Bool
  ltb : α → α → Bool
  Ok : Hp → α → Prop
  ex : ∀ {H H' : Hp} {x : α}, Ok H x → Evl.Ex H H' → Ok H' x
  nin : ∀ {H : Hp} {p : Addr} {x : α} {M : List α} {Q : VK}, Ok H x → (∀ y ∈ M, Ok H y) → SqL K H p (M.map val) → Q (.bl (!M.any fun y => eqb y x)) H → rNotInD K (val x) (.ref p) H Q
  lt_ : ∀ {H : Hp} {x y : α} {Q : VK}, Ok H x → Ok H y → Q (.bl (ltb x y)) H → rLtA K (val x) (val y) H Q
  refl : ∀ x, eqb x x = true
  tot : ∀ {x y : α}, ltb x y = false → eqb x y = false → ltb y x = true
  tr : ∀ {x y z : α}, ltb x y = true → ltb y z = true → ltb x z = true
section
variable {K : PySem.W.Frag} {α : Type} (T : Things K α)
theorem Things.none_less {x y : α} {r : List α} (h : T.ltb y x = false) (u : (y :: r).Pairwise fun a b => T.ltb a b = true) : (y :: r).filter (fun z => T.ltb z x) = [] := by
  rw [List.filter_eq_nil_iff]
  intro z mz
  rcases List.mem_cons.mp mz with rfl | mz
  · simp [h]
  · intro k
    have := T.tr ((List.pairwise_cons.mp u).1 z mz) k
    rw [h] at this
    cases this
theorem Things.put {x : α} : ∀ {M : List α}, M.Pairwise (fun a b => T.ltb a b = true) → (M.any fun y => T.eqb y x) = false →
    (M.take (M.filter fun z => T.ltb z x).length ++ [x] ++ M.drop (M.filter fun z => T.ltb z x).length).Pairwise fun a b => T.ltb a b = true
  | [], _, _ => List.pairwise_singleton _ _
  | y :: r, u, n => by
    rw [List.any_cons, Bool.or_eq_false_iff] at n
    obtain ⟨u1, u2⟩ := List.pairwise_cons.mp u
    cases h : T.ltb y x with
    | true =>
      rw [List.filter_cons_of_pos (by exact h), List.length_cons, List.take_succ_cons, List.drop_succ_cons]
      refine List.pairwise_cons.mpr ⟨fun z mz => ?_, Things.put u2 n.2⟩
      rcases List.mem_append.mp mz with mz | mz
      · rcases List.mem_append.mp mz with mz | mz
        · exact u1 z (List.mem_of_mem_take mz)
        · rw [List.mem_singleton.mp mz]; exact h
      · exact u1 z (List.mem_of_mem_drop mz)
    | false =>
      rw [T.none_less h u]
      have xy := T.tot h n.1
      refine List.pairwise_cons.mpr ⟨fun z mz => ?_, u⟩
      rcases List.mem_cons.mp mz with rfl | mz
      · exact xy
      · exact T.tr xy (u1 z mz)
theorem Things.put_mem {x : α} {M : List α} {n : Nat} {z : α} : z ∈ M.take n ++ [x] ++ M.drop n ↔ z = x ∨ z ∈ M := by
  have e : z ∈ M ↔ z ∈ M.take n ∨ z ∈ M.drop n := by rw [← List.mem_append, List.take_append_drop]
  rw [List.mem_append, List.mem_append, List.mem_singleton, e]
  constructor
  · rintro ((h | h) | h)
    · exact .inr (.inl h)
    · exact .inl h
    · exact .inr (.inr h)
  · rintro (h | h | h)
    · exact .inl (.inr h)
    · exact .inl (.inl h)
    · exact .inr h
end
/-- links -/
def linkTh (K : PySem.W.Frag) : Things K (Addr × Lk) where
  val := fun q => .ref q.1
  eqb := fun a b => decide (a.2 = b.2)
  ltb := fun a b => decide (Lk.lt a.2 b.2)
  Ok := fun H q => H q.1 = some (.tup q.2.vs) ∧ q.2.ok
  ex := fun h e => ⟨e _ _ h.1, h.2⟩
  nin := fun {H p x M Q} h hM hp q => w_ninLk h.1 h.2 hp (fun y m => hM y m) (by
    have e : (M.any fun y => decide (y.2 = x.2)) = decide (x.2 ∈ lks M) := by
      rw [Bool.eq_iff_iff, List.any_eq_true, decide_eq_true_eq]
      constructor
      · rintro ⟨y, m, h⟩
        exact List.mem_map.mpr ⟨y, m, of_decide_eq_true h⟩
      · intro m
        obtain ⟨y, m, h⟩ := List.mem_map.mp m
        exact ⟨y, m, decide_eq_true h⟩
    rw [e] at q
    exact q)
  lt_ := fun {H x y Q} hx hy q => .inr ⟨x.1, y.1, x.2, y.2, rfl, rfl, SqT.of hx.1, SqT.of hy.1, q⟩
  refl := fun x => by simp
  tot := fun {x y} h n => decide_eq_true (lk_total (of_decide_eq_false h) fun e => of_decide_eq_false n e.symm)
  tr := fun h k => decide_eq_true (lk_trans (of_decide_eq_true h) (of_decide_eq_true k))
theorem str_shaped {s : Str} (h : Place s) : SeqAt.shaped (.str s) = true := by
  show (PyData.canLay0 (.str s) && decide (PyData.depth (.str s) ≤ 64)) = true
  rw [str_lay h]
  rfl
theorem strs_lay : ∀ {L : List Str}, (∀ x ∈ L, Place x) → PyData.canLayAll0 (L.map PyData.str) = true
  | [], _ => rfl
  | x :: r, h => by
    show (PyData.canLay0 (.str x) && PyData.canLayAll0 (r.map PyData.str)) = true
    rw [str_lay (h x List.mem_cons_self), strs_lay fun y m => h y (List.mem_cons_of_mem _ m)]
    rfl
theorem strs_depth : ∀ L : List Str, PyData.depthAll (L.map PyData.str) = 0
  | [] => rfl
  | x :: r => by
    show max (PyData.depth (.str x)) (PyData.depthAll (r.map PyData.str)) = 0
    rw [strs_depth r]
    rfl
theorem strs_shaped {L : List Str} (h : ∀ x ∈ L, Place x) : SeqAt.shaped (.list (L.map PyData.str)) = true := by
  show (PyData.canLayAll0 (L.map PyData.str) && decide (PyData.depthAll (L.map PyData.str) + 1 ≤ 64)) = true
  rw [strs_lay h, strs_depth]
  rfl
theorem dp_strsL {K : PySem.W.Frag} {H : Hp} : ∀ L : List Str, DpAll K H (L.map V.str) (L.map PyData.str)
  | [] => .nil
  | x :: r => .cons (.str x) (dp_strsL r)
theorem strs_eqv : ∀ L M : List Str, PyData.eqvAll (L.map PyData.str) (M.map PyData.str) = decide (L = M)
  | [], [] => rfl
  | [], _ :: _ => rfl
  | _ :: _, [] => rfl
  | x :: L, y :: M => by
    show (PyData.eqv (.str x) (.str y) && PyData.eqvAll (L.map PyData.str) (M.map PyData.str)) = _
    rw [strs_eqv L M, Bool.eq_iff_iff]
    simp [PyData.eqv]
/-- texts -/
def strTh (K : PySem.W.Frag) : Things K Str where
  val := V.str
  eqb := fun a b => decide (a = b)
  ltb := fun a b => decide (cL a < cL b)
  Ok := fun _ z => Place z
  ex := fun h _ => h
  nin := fun {H p x M Q} h hM hp q => ⟨.str x, M.map PyData.str, .str x, .lst hp (dp_strsL M), str_shaped h, strs_shaped hM, by
    have e : ((M.map PyData.str).any fun z => PyData.eqv z (.str x)) = M.any fun y => decide (y = x) := by
      rw [List.any_map]
      congr 1
    rw [e]
    exact q⟩
  lt_ := fun {H x y Q} _ _ q => .inl ⟨x, y, rfl, rfl, q⟩
  refl := fun x => by simp
  tot := fun {x y} h n => decide_eq_true (Decidable.byContradiction fun k => of_decide_eq_false n (cL_ext (List.le_antisymm (List.not_lt.mp k) (List.not_lt.mp (of_decide_eq_false h)))))
  tr := fun h k => decide_eq_true (List.lt_trans (of_decide_eq_true h) (of_decide_eq_true k))
/-- two lists of texts -/
theorem w_neStrs {K : PySem.W.Frag} {H : Hp} {p p2 : Addr} {L M : List Str} {Q : VK} (hp : SqL K H p (L.map V.str)) (hL : ∀ x ∈ L, Place x) (hp2 : SqL K H p2 (M.map V.str)) (hM : ∀ x ∈ M, Place x) (q : Q (.bl (!decide (L = M))) H) : rNeD K (.ref p) (.ref p2) H Q :=
  w_neD (.lst hp (dp_strsL L)) (.lst hp2 (dp_strsL M)) (strs_shaped hL) (strs_shaped hM) (by show Q (.bl (!PyData.eqvAll (L.map PyData.str) (M.map PyData.str))) H; rw [strs_eqv]; exact q)
theorem w_eqStrs {K : PySem.W.Frag} {H : Hp} {p p2 : Addr} {L M : List Str} {Q : VK} (hp : SqL K H p (L.map V.str)) (hL : ∀ x ∈ L, Place x) (hp2 : SqL K H p2 (M.map V.str)) (hM : ∀ x ∈ M, Place x) (q : Q (.bl (decide (L = M))) H) : rEqD K (.ref p) (.ref p2) H Q :=
  w_eqD (.lst hp (dp_strsL L)) (.lst hp2 (dp_strsL M)) (strs_shaped hL) (strs_shaped hM) (by show Q (.bl (PyData.eqvAll (L.map PyData.str) (M.map PyData.str))) H; rw [strs_eqv]; exact q)
def rMinK (K : PySem.W.Frag) : List V → Hp → VK → Prop := fun xs H Q => ∃ (a : Addr) (ns : List Int), xs = [.ref a] ∧ SqL K H a (ns.map V.int) ∧ 0 < ns.length ∧ ∀ M, M ∈ ns → (∀ y, y ∈ ns → M ≤ y) → Q (.int M) H
theorem kmin {X : Cx} (K : PySem.W.Frag) (hc : X.calm = true) (h : X.K = K := by rfl) : CallR X (.builtin "min") (rMinK K) := by subst h; exact cr_min hc
def rInt1 : List V → Hp → VK → Prop := fun xs H Q => (∃ i, xs = [.int i] ∧ Q (.int i) H) ∨ ∃ k, xs = [.bl k] ∧ Q (.int (if k then 1 else 0)) H
theorem kint1 {X : Cx} : CallR X (.type "int") rInt1 := call_int1
theorem w_int1 {k : Bool} {H : Hp} {Q : VK} (q : Q (.int (if k then 1 else 0)) H) : rInt1 [.bl k] H Q := .inr ⟨k, rfl, q⟩
end Fk
namespace Fk
open PySem PySem.Spec PySem.W PyProof.Rows L2
def rSortLk (K : PySem.W.Frag) : List V → Hp → VK → Prop := fun xs H Q => ∃ (a : Addr) (ls : List (Addr × Lk)), xs = [.ref a] ∧ SqL K H a (rfs ls) ∧ (∀ q ∈ ls, SqT K H q.1 q.2.vs) ∧ (lks ls).Nodup ∧ ls.length ≤ 300 ∧
  ∀ (l : Addr) (L : List (Addr × Lk)), H l = none → L.Perm ls → (lks L).Pairwise Lk.lt → Q (.ref l) (upd H l (.lst (rfs L)))
theorem cr_sortLk {X : Cx} (K : PySem.W.Frag) (hu : X.A.units + 64 < cLine) (h : X.K = K := by rfl) : CallR X (.builtin "sorted") (rSortLk K) := by
  subst h
  intro pins s σ H xs us Q I r h
  obtain ⟨a, ls, rfl, ha, it, nd, few, q⟩ := h
  cases r with
  | cons rx rr =>
    cases rr
    cases rx
    obtain ⟨vs, rv, pl, hz⟩ := I.list ha
    have ei : vs = ls.map fun q => Value.ref q.1 := refs_are _ rv
    obtain ⟨o, ho, hcl, n, hd⟩ := pl.isList
    have line : ls.length ≤ sizeLine := by rw [sizeLine_eq]; omega
    refine sorted_of_src (val := fun q : Addr × Lk => Value.ref q.1) (enc := fun q : Addr × Lk => q.2.data) (L := ls) line (fun R E hR => ?_) ?_ ?_ ?_ ?_ ?_
    · refine wpAny_collect_seq a (.inl rfl) ho hcl hd (fun h' k => ?_) (by rw [List.size_toArray, ei, List.length_map]; exact line)
      have z := hR h' s.toks k
      rw [← ei] at z
      exact z
    · intro h2 k2 q m
      obtain ⟨us, r, ⟨ot, hot, hcl, n, hd⟩, _⟩ := I.tuple (it q m)
      exact .tuple (k2 _ _ hot) hcl hd (by simpa using reads_lk q.2 r)
    · exact AllAlike.of fun x y => by simp [Lk.data, alike, alikeAll]
    · exact Sortable.tuples fun x => ⟨_, _, rfl⟩
    · intro q m
      have e1 : PyData.depth q.2.data = 1 := rfl
      rw [e1]
      omega
    · intro h1 s2 pl out c L' k1 k2 gg oo hp hl hout pm up
      have I1 : Inv X pins σ H { s with heap := h1, toks := s.toks } := I.kept k1
      have hn0 : H pl = none := I1.hok.fresh hp
      have len : (rfs L').length ≤ sizeLine := by
        rw [List.length_map, pm.length_eq, sizeLine_eq]
        omega
      have hv : Vals (rfs L') out.toList := by rw [hout]; exact refs_vs _ L'
      have ndL : (L'.map (·.2)).Nodup := (pm.map (·.2)).nodup_iff.mpr nd
      have rise : (L'.map (·.2)).Pairwise Lk.lt := by
        rw [List.nodup_iff_pairwise_ne, List.pairwise_map] at ndL
        rw [List.pairwise_map]
        refine (up.and ndL).imp fun {x y} z => ?_
        obtain ⟨z1, z2⟩ := z
        rw [dataLe_eq] at z1
        simp only [cond_false, Bool.not_eq_true'] at z1
        rw [data_lt] at z1
        exact lk_total (of_decide_eq_false z1) z2
      have J2 : Inv X pins σ (upd H pl (.lst (rfs L'))) s2 := I1.call' (ch := []) oo (Un.laid k2 hp hn0) (I1.hok.laid k2 hp ⟨len, out.toList, c, hv, hl⟩) (by rw [gg]; exact I1.bare) (fun _ z => nomatch z)
      exact ⟨.ref pl, _, J2, rfl, q pl L' hn0 pm rise⟩
/-- x > y, x <= y, of two links -/
def rGtA (K : PySem.W.Frag) : R2 := fun x y H Q => ∃ (a b : Addr) (p q : Lk), x = .ref a ∧ y = .ref b ∧ SqT K H a (Lk.vs p) ∧ SqT K H b (Lk.vs q) ∧ Q (.bl (decide (Lk.lt q p))) H
def rLeA (K : PySem.W.Frag) : R2 := fun x y H Q => ∃ (a b : Addr) (p q : Lk), x = .ref a ∧ y = .ref b ∧ SqT K H a (Lk.vs p) ∧ SqT K H b (Lk.vs q) ∧ Q (.bl (!decide (Lk.lt q p))) H
section
variable {X : Cx} (K : PySem.W.Frag)
theorem kGtA (hu : X.A.units + 65 < cLine) (h : X.K = K := by rfl) : OpR X (compareOp .Gt) (rGtA K) := by
  subst h
  intro pins s σ H x y v u Q I rx ry h
  obtain ⟨a, b, p, z, rfl, rfl, ha, hb, q⟩ := h
  cases rx
  cases ry
  obtain ⟨us, r, ⟨o, ho, hcl, n, hd⟩, _⟩ := I.tuple ha
  obtain ⟨us2, r2, ⟨o2, ho2, hcl2, n2, hd2⟩, _⟩ := I.tuple hb
  have e1 : PyData.depth p.data = 1 := rfl
  refine PySem.W.gt_data (da := p.data) (db := z.data) (.tuple ho hcl hd (by simpa using reads_lk p r)) (.tuple ho2 hcl2 hd2 (by simpa using reads_lk z r2)) (by simp [Lk.data, PySem.W.alike, PySem.W.alikeAll]) (fun e => by cases e) (by rw [e1]; omega) ?_
  rw [data_lt]
  exact ⟨.bl _, H, I, rfl, q⟩
theorem kLeA (hu : X.A.units + 65 < cLine) (h : X.K = K := by rfl) : OpR X (compareOp .LtE) (rLeA K) := by
  subst h
  intro pins s σ H x y v u Q I rx ry h
  obtain ⟨a, b, p, z, rfl, rfl, ha, hb, q⟩ := h
  cases rx
  cases ry
  obtain ⟨us, r, ⟨o, ho, hcl, n, hd⟩, _⟩ := I.tuple ha
  obtain ⟨us2, r2, ⟨o2, ho2, hcl2, n2, hd2⟩, _⟩ := I.tuple hb
  have e1 : PyData.depth p.data = 1 := rfl
  refine PySem.W.le_data (da := p.data) (db := z.data) (.tuple ho hcl hd (by simpa using reads_lk p r)) (.tuple ho2 hcl2 hd2 (by simpa using reads_lk z r2)) (by simp [Lk.data, PySem.W.alike, PySem.W.alikeAll]) (fun e => by cases e) (by rw [e1]; omega) ?_
  rw [data_lt]
  exact ⟨.bl _, H, I, rfl, q⟩
end
section
variable {K : PySem.W.Frag} {H : Hp} {Q : VK} {t u : Addr} {x y : Lk}
theorem w_gtA (h : H t = some (.tup x.vs)) (h2 : H u = some (.tup y.vs)) (q : Q (.bl (decide (Lk.lt y x))) H) : rGtA K (.ref t) (.ref u) H Q := ⟨t, u, x, y, rfl, rfl, SqT.of h, SqT.of h2, q⟩
theorem w_leA (h : H t = some (.tup x.vs)) (h2 : H u = some (.tup y.vs)) (q : Q (.bl (!decide (Lk.lt y x))) H) : rLeA K (.ref t) (.ref u) H Q := ⟨t, u, x, y, rfl, rfl, SqT.of h, SqT.of h2, q⟩
/-- two links -/
theorem w_neL1 (h : H t = some (.tup x.vs)) (h2 : H u = some (.tup y.vs)) (ok : x.ok) (ok2 : y.ok) (q : Q (.bl (!decide (x = y))) H) : rNeD K (.ref t) (.ref u) H Q :=
  w_neD (dp_lk h) (dp_lk h2) (lk_shaped ok) (lk_shaped ok2) (by rw [lk_eqv]; exact q)
/-- two ways of one link -/
theorem w_neW1 {t' u' : Addr} (h : H t = some (.tup [.ref t'])) (h2 : H u = some (.tup [.ref u'])) (g : H t' = some (.tup x.vs)) (g2 : H u' = some (.tup y.vs)) (ok : x.ok) (ok2 : y.ok) (q : Q (.bl (!decide (x = y))) H) : rNeD K (.ref t) (.ref u) H Q := by
  have sh : ∀ {x : Lk}, x.ok → SeqAt.shaped (.tuple [x.data]) = true := fun {x} ok => by
    have z := lk_shaped ok
    unfold SeqAt.shaped at z ⊢
    rw [Bool.and_eq_true] at z ⊢
    refine ⟨?_, ?_⟩
    · show (PyData.canLay0 x.data && true) = true
      rw [z.1]; rfl
    · show decide (max (PyData.depth x.data) 0 + 1 ≤ 64) = true
      have e1 : PyData.depth x.data = 1 := rfl
      rw [e1]; rfl
  refine w_neD (.tup (SqT.of h) (.cons (dp_lk g) .nil)) (.tup (SqT.of h2) (.cons (dp_lk g2) .nil)) (sh ok) (sh ok2) ?_
  show Q (.bl (!(PyData.eqv x.data y.data && true))) H
  rw [Bool.and_true, lk_eqv]
  exact q
end
abbrev Gps := List (Addr × List Str)
abbrev gfs (ps : Gps) : List V := ps.map fun p => V.ref p.1
abbrev gvs (ps : Gps) : List (List Str) := ps.map fun p => p.2
abbrev gD (G : List (List Str)) : List PyData := G.map fun g => PyData.list (g.map PyData.str)
def GpsOk (H : Hp) (ps : Gps) : Prop := ∀ p ∈ ps, H p.1 = some (.lst (p.2.map V.str)) ∧ ∀ z ∈ p.2, Place z
section
variable {K : PySem.W.Frag} {H H' : Hp} {Q : VK} {l m : Addr}
theorem GpsOk.ex {ps : Gps} (h : GpsOk H ps) (e : Evl.Ex H H') : GpsOk H' ps := fun p mp => ⟨e _ _ (h p mp).1, (h p mp).2⟩
theorem dp_gps : ∀ {ps : Gps}, GpsOk H ps → DpAll K H (gfs ps) (gD (gvs ps))
  | [], _ => .nil
  | p :: ps, h => .cons (.lst (SqL.of (h p List.mem_cons_self).1) (dp_strsL p.2)) (dp_gps fun q mq => h q (List.mem_cons_of_mem _ mq))
theorem gps_lay : ∀ {ps : Gps}, GpsOk H ps → PyData.canLayAll0 (gD (gvs ps)) = true ∧ PyData.depthAll (gD (gvs ps)) ≤ 63
  | [], _ => ⟨rfl, Nat.zero_le _⟩
  | p :: ps, h => by
    obtain ⟨a, b⟩ := gps_lay (ps := ps) fun q mq => h q (List.mem_cons_of_mem _ mq)
    have z := strs_shaped (h p List.mem_cons_self).2
    unfold SeqAt.shaped at z
    rw [Bool.and_eq_true, decide_eq_true_eq] at z
    refine ⟨?_, ?_⟩
    · show (PyData.canLay0 (.list (p.2.map PyData.str)) && PyData.canLayAll0 (gD (gvs ps))) = true
      rw [z.1, a]; rfl
    · show max (PyData.depth (.list (p.2.map PyData.str))) (PyData.depthAll (gD (gvs ps))) ≤ 63
      have d0 : ∀ L : List Str, PyData.depthAll (L.map PyData.str) = 0 := by
        intro L
        induction L with
        | nil => rfl
        | cons x L ih =>
          show max 0 (PyData.depthAll (L.map PyData.str)) = 0
          rw [ih]; rfl
      have d1 : PyData.depth (.list (p.2.map PyData.str)) = 1 := by
        show PyData.depthAll (p.2.map PyData.str) + 1 = 1
        rw [d0]
      rw [d1]
      omega
theorem gps_shaped {ps : Gps} (h : GpsOk H ps) : SeqAt.shaped (.list (gD (gvs ps))) = true := by
  obtain ⟨a, b⟩ := gps_lay h
  unfold SeqAt.shaped
  rw [Bool.and_eq_true, decide_eq_true_eq]
  exact ⟨a, by show PyData.depthAll (gD (gvs ps)) + 1 ≤ 64; omega⟩
theorem gps_eqv : ∀ G G' : List (List Str), PyData.eqvAll (gD G) (gD G') = decide (G = G')
  | [], [] => rfl
  | [], _ :: _ => rfl
  | _ :: _, [] => rfl
  | g :: G, g' :: G' => by
    show (PyData.eqvAll (g.map PyData.str) (g'.map PyData.str) && PyData.eqvAll (gD G) (gD G')) = _
    rw [strs_eqv, gps_eqv, Bool.eq_iff_iff, Bool.and_eq_true, decide_eq_true_eq, decide_eq_true_eq, decide_eq_true_eq]
    exact ⟨fun ⟨a, b⟩ => by rw [a, b], fun h => ⟨(List.cons.inj h).1, (List.cons.inj h).2⟩⟩
theorem w_neGs {ps qs : Gps} (h : H l = some (.lst (gfs ps))) (hp : GpsOk H ps) (h2 : H m = some (.lst (gfs qs))) (hq : GpsOk H qs) (q : Q (.bl (!decide (gvs ps = gvs qs))) H) : rNeD K (.ref l) (.ref m) H Q :=
  w_neD (.lst (SqL.of h) (dp_gps hp)) (.lst (SqL.of h2) (dp_gps hq)) (gps_shaped hp) (gps_shaped hq) (by show Q (.bl (!PyData.eqvAll (gD (gvs ps)) (gD (gvs qs)))) H; rw [gps_eqv]; exact q)
theorem w_eqGs {ps qs : Gps} (h : H l = some (.lst (gfs ps))) (hp : GpsOk H ps) (h2 : H m = some (.lst (gfs qs))) (hq : GpsOk H qs) (q : Q (.bl (decide (gvs ps = gvs qs))) H) : rEqD K (.ref l) (.ref m) H Q :=
  w_eqD (.lst (SqL.of h) (dp_gps hp)) (.lst (SqL.of h2) (dp_gps hq)) (gps_shaped hp) (gps_shaped hq) (by show Q (.bl (PyData.eqvAll (gD (gvs ps)) (gD (gvs qs)))) H; rw [gps_eqv]; exact q)
end
end Fk
namespace Fk
open PySem PySem.Spec PySem.W PyProof.Rows L2
/-- an arc as it lies: its pair, its link -/
structure Arc where
  t : Addr
  p : Addr
  x : Lk
  y : Str
def Arc.ar (e : Arc) : Ar := (e.x, e.y)
def Arc.At (H : Hp) (e : Arc) : Prop := H e.t = some (.tup [.ref e.p, .str e.y]) ∧ H e.p = some (.tup e.x.vs)
abbrev rts (E : List Arc) : List V := E.map fun e => .ref e.t
abbrev fvs (F : Str → Addr) : Str → V := fun z => .ref (F z)
theorem Arc.At.mono {H H' : Hp} {e : Arc} (h : e.At H) (x : Evl.Ex H H') : e.At H' := ⟨x _ _ h.1, x _ _ h.2⟩
structure EndB (H0 H : Hp) (D : Addr) (ks : List Str) (F : Str → Addr) (E : Str → List Arc) (A : Str → List Ar) (n : Nat) : Prop where
  ex : Evl.Ex H0 H
  d0 : H0 D = none
  hd : H D = some (.dK (dof ks (fvs F)))
  nd : ks.Nodup
  inj : ∀ u ∈ ks, ∀ v ∈ ks, F u = F v → u = v
  f0 : ∀ z ∈ ks, H0 (F z) = none
  fl : ∀ z ∈ ks, H (F z) = some (.lst (rts (E z)))
  ok : ∀ z ∈ ks, ∀ e ∈ E z, e.At H
  val : ∀ z ∈ ks, (E z).map Arc.ar = A z
  out : ∀ z, z ∉ ks → A z = []
  kl : ks.length ≤ n
  el : ∀ z ∈ ks, (E z).length ≤ n
section
variable {H0 H H' : Hp} {D l : Addr} {ks : List Str} {F : Str → Addr} {E : Str → List Arc} {A : Str → List Ar} {n : Nat} {z : Str}
theorem EndB.mono (b : EndB H0 H D ks F E A n) (x : Evl.Ex H H') : EndB H0 H' D ks F E A n :=
  ⟨b.ex.trans x, b.d0, x _ _ b.hd, b.nd, b.inj, b.f0, fun z m => x _ _ (b.fl z m), fun z m e me => (b.ok z m e me).mono x, b.val, b.out, b.kl, b.el⟩
theorem EndB.more {m : Nat} (b : EndB H0 H D ks F E A n) (h : n ≤ m) : EndB H0 H D ks F E A m :=
  ⟨b.ex, b.d0, b.hd, b.nd, b.inj, b.f0, b.fl, b.ok, b.val, b.out, Nat.le_trans b.kl h, fun z m => Nat.le_trans (b.el z m) h⟩
theorem EndB.start (x : Evl.Ex H0 H) (d0 : H0 D = none) (hd : H D = some (.dK [])) : EndB H0 H D [] (fun _ => 0) (fun _ => []) (fun _ => []) 0 :=
  ⟨x, d0, hd, List.nodup_nil, (fun _ m => nomatch m), (fun _ m => nomatch m), (fun _ m => nomatch m), (fun _ m => nomatch m), (fun _ m => nomatch m), fun _ _ => rfl, Nat.le_refl _, (fun _ m => nomatch m)⟩
theorem EndB.flD (b : EndB H0 H D ks F E A n) {u : Str} (m : u ∈ ks) : F u ≠ D := fun e => by
  have h := b.fl u m
  rw [e, b.hd] at h
  cases h
theorem EndB.key (b : EndB H0 H D ks F E A n) (nz : z ∉ ks) (l0 : H0 l = none) (hl : H l = some (.lst [])) (fresh : ∀ u ∈ ks, F u ≠ l) (N : Put H D (.dK (putK (dof ks (fvs F)) (Sum.inr z) (.ref l))) H') :
    EndB H0 H' D (ks ++ [z]) (fun u => if u = z then l else F u) (fun u => if u = z then [] else E u) A (n + 1) := by
  have lD : l ≠ D := fun e => by rw [e, b.hd] at hl; cases hl
  have old : ∀ u ∈ ks, u ≠ z := fun u m e => nz (e ▸ m)
  have kp : ∀ {a : Addr} {o : HO}, H a = some o → a ≠ D → H' a = some o := fun h ne => N.keep h ne
  have at_ : ∀ {e : Arc}, e.At H → e.At H' := fun {e} h => ⟨kp h.1 (fun ee => by have := h.1; rw [ee, b.hd] at this; cases this), kp h.2 (fun ee => by have := h.2; rw [ee, b.hd] at this; cases this)⟩
  refine ⟨fun a u q => kp (b.ex a u q) (ne_of_none q b.d0), b.d0, ?_, ?_, ?_, ?_, ?_, ?_, ?_, ?_, ?_, ?_⟩
  · rw [N.here]
    congr 2
    have e1 : dof ks (fvs F) = dof ks (fvs fun u => if u = z then l else F u) := List.map_congr_left fun u m => by
      show (Sum.inr u, V.ref (F u)) = (Sum.inr u, V.ref (if u = z then l else F u))
      rw [if_neg (old u m)]
    have e2 : V.ref l = fvs (fun u => if u = z then l else F u) z := by
      show V.ref l = V.ref (if z = z then l else F z)
      rw [if_pos rfl]
    rw [e1, e2, put_dof, if_neg nz]
  · rw [List.nodup_append]
    exact ⟨b.nd, by simp, fun a ha c hc e => nz (by rw [← List.mem_singleton.mp hc, ← e]; exact ha)⟩
  · intro u mu v mv e
    rcases List.mem_append.mp mu with mu | mu <;> rcases List.mem_append.mp mv with mv | mv
    · try dsimp only at e
      rw [if_neg (old u mu), if_neg (old v mv)] at e
      exact b.inj u mu v mv e
    · try dsimp only at e
      rw [if_neg (old u mu), List.mem_singleton.mp mv, if_pos rfl] at e
      exact absurd e (fresh u mu)
    · try dsimp only at e
      rw [if_neg (old v mv), List.mem_singleton.mp mu, if_pos rfl] at e
      exact absurd e.symm (fresh v mv)
    · rw [List.mem_singleton.mp mu, List.mem_singleton.mp mv]
  · intro u mu
    try dsimp only
    rcases List.mem_append.mp mu with mu | mu
    · rw [if_neg (old u mu)]
      exact b.f0 u mu
    · rw [List.mem_singleton.mp mu, if_pos rfl]
      exact l0
  · intro u mu
    try dsimp only
    rcases List.mem_append.mp mu with mu | mu
    · rw [if_neg (old u mu), if_neg (old u mu)]
      exact kp (b.fl u mu) (b.flD mu)
    · rw [List.mem_singleton.mp mu, if_pos rfl, if_pos rfl]
      exact kp hl lD
  · intro u mu e me
    try dsimp only at me
    rcases List.mem_append.mp mu with mu | mu
    · rw [if_neg (old u mu)] at me
      exact at_ (b.ok u mu e me)
    · rw [List.mem_singleton.mp mu, if_pos rfl] at me
      cases me
  · intro u mu
    try dsimp only
    rcases List.mem_append.mp mu with mu | mu
    · rw [if_neg (old u mu)]
      exact b.val u mu
    · rw [List.mem_singleton.mp mu, if_pos rfl, b.out z nz]
      rfl
  · exact fun u nu => b.out u fun m => nu (List.mem_append_left _ m)
  · rw [List.length_append]
    have := b.kl
    show _ + 1 ≤ _
    omega
  · intro u mu
    try dsimp only
    split
    · exact Nat.zero_le _
    · rcases List.mem_append.mp mu with mu | mu
      · have := b.el u mu
        omega
      · rename_i ne
        exact absurd (List.mem_singleton.mp mu) ne
theorem EndB.arc (b : EndB H0 H D ks F E A n) (mz : z ∈ ks) {e : Arc} (he : e.At H) (N : Put H (F z) (.lst (rts (E z) ++ [.ref e.t])) H') :
    EndB H0 H' D ks F (fun u => if u = z then E z ++ [e] else E u) (fun u => if u = z then A z ++ [e.ar] else A u) (n + 1) := by
  have kp : ∀ {a : Addr} {o : HO}, H a = some o → (∀ xs, o ≠ .lst xs) → H' a = some o := fun h ne => N.keep h fun e => ne _ (by rw [e, b.fl z mz] at h; exact (Option.some.inj h).symm)
  have at_ : ∀ {e : Arc}, e.At H → e.At H' := fun h => ⟨kp h.1 (fun _ e => nomatch e), kp h.2 (fun _ e => nomatch e)⟩
  refine ⟨fun a u q => N.keep (b.ex a u q) (ne_of_none q (b.f0 z mz)), b.d0, kp b.hd (fun _ e => nomatch e), b.nd, b.inj, b.f0, ?_, ?_, ?_, ?_, ?_, ?_⟩
  · intro u mu
    try dsimp only
    by_cases c : u = z
    · rw [c, if_pos rfl, N.here]
      unfold rts
      rw [List.map_append]
      rfl
    · rw [if_neg c]
      exact N.keep (b.fl u mu) fun e => c (b.inj u mu z mz e)
  · intro u mu e' me
    try dsimp only at me
    by_cases c : u = z
    · rw [if_pos c] at me
      rcases List.mem_append.mp me with me | me
      · exact at_ (b.ok z mz e' me)
      · rw [List.mem_singleton.mp me]
        exact at_ he
    · rw [if_neg c] at me
      exact at_ (b.ok u mu e' me)
  · intro u mu
    try dsimp only
    by_cases c : u = z
    · rw [if_pos c, if_pos c, List.map_append, b.val z mz]
      rfl
    · rw [if_neg c, if_neg c]
      exact b.val u mu
  · intro u nu
    try dsimp only
    rw [if_neg (show ¬ u = z from fun e => nu (e ▸ mz))]
    exact b.out u nu
  · have := b.kl
    omega
  · intro u mu
    try dsimp only
    by_cases c : u = z
    · rw [if_pos c, List.length_append]
      have := b.el z mz
      show _ + 1 ≤ _
      omega
    · rw [if_neg c]
      have := b.el u mu
      omega
end
/-- from each place to the arcs that leave it -/
def EndsAt (H : Hp) (D : Addr) (A : Str → List Ar) : Prop := ∃ (ks : List Str) (F : Str → Addr) (E : Str → List Arc), H D = some (.dK (dof ks (fvs F))) ∧ (∀ z ∈ ks, H (F z) = some (.lst (rts (E z))) ∧ ∀ e ∈ E z, e.At H) ∧ (∀ z ∈ ks, (E z).map Arc.ar = A z) ∧ ∀ z, z ∉ ks → A z = []
theorem EndB.done {H0 H : Hp} {D : Addr} {ks : List Str} {F : Str → Addr} {E : Str → List Arc} {A : Str → List Ar} {n : Nat} (b : EndB H0 H D ks F E A n) : EndsAt H D A := ⟨ks, F, E, b.hd, fun z m => ⟨b.fl z m, b.ok z m⟩, b.val, b.out⟩
theorem EndsAt.keep {H H' : Hp} {D : Addr} {A : Str → List Ar} (h : EndsAt H D A) (k : ∀ a o, H a = some o → (∃ kvs, o = .dK kvs) ∨ (∃ xs, o = .lst xs) ∨ (∃ xs, o = .tup xs) → H' a = some o) : EndsAt H' D A := by
  obtain ⟨ks, F, E, h1, h2, h3, h4⟩ := h
  exact ⟨ks, F, E, k _ _ h1 (.inl ⟨_, rfl⟩), fun z m => ⟨k _ _ (h2 z m).1 (.inr (.inl ⟨_, rfl⟩)), fun e me => ⟨k _ _ ((h2 z m).2 e me).1 (.inr (.inr ⟨_, rfl⟩)), k _ _ ((h2 z m).2 e me).2 (.inr (.inr ⟨_, rfl⟩))⟩⟩, h3, h4⟩
theorem EndsAt.mono {H H' : Hp} {D : Addr} {A : Str → List Ar} (h : EndsAt H D A) (x : Evl.Ex H H') : EndsAt H' D A := h.keep fun a o q _ => x a o q
/-- ends.setdefault(z, []).append((link, y)) -/
theorem w_addArc {K : PySem.W.Frag} {σ : L2.St} {H0 H : Hp} {D p : Addr} {ks : List Str} {F : Str → Addr} {E : Str → List Arc} {A : Str → List Ar} {n : Nat} {z y : Str} {x : Lk} {tk tt : TE} {Q : VK}
    (b : EndB H0 H D ks F E A n) (hn : n + 1 < 100000) (hp : H p = some (.tup x.vs)) (hk : ∀ Q', Q' (.str z) H → tk σ H Q')
    (ht : ∀ H' Q', Evl.Ex H0 H' → H' p = some (.tup x.vs) → (∀ t, H' t = none → Q' (.ref t) (upd H' t (.tup [.ref p, .str y]))) → tt σ H' Q')
    (q : ∀ ks' F' E' H', EndB H0 H' D ks' F' E' (fun u => if u = z then A z ++ [(x, y)] else A u) (n + 2) → H' p = some (.tup x.vs) → (∀ a o, H a = some o → (∀ kvs, o ≠ .dK kvs) → (∀ xs, o ≠ .lst xs) → H' a = some o) → Q .non H') :
    ∃ a, V.ref D = .ref a ∧ IsD H a ∧ tk σ H fun y H2 => tLst tNil σ H2 fun z H3 => ∃ (kvs : List (Key × V)) (k : Key), H3 a = some (.dK kvs) ∧ y = kV k ∧ kvs.length < sizeLine ∧
      (∀ v, valV kvs k = some v → tyV K "list" v H3 ∧ tCons tt tNil σ H3 fun xs H2 => rAppend v xs H2 Q) ∧ (valV kvs k = none → tyV K "list" z (upd H3 a (.dK (putK kvs k z))) ∧ tCons tt tNil σ (upd H3 a (.dK (putK kvs k z))) fun xs H2 => rAppend z xs H2 Q) := by
  refine ⟨D, rfl, .inl ⟨_, .inl b.hd⟩, hk _ (w_lst ⟨small (by show 0 ≤ 100000; omega), fun l hl => ?_⟩)⟩
  generalize hE : upd H l _ = H1
  have n1 := New.of hl hE
  clear hE
  have b1 := b.mono n1.ex
  have l0 : H0 l = none := by
    cases u : H0 l with
    | none => rfl
    | some v => have := b.ex _ _ u; rw [hl] at this; cases this
  have fin : ∀ {ks : List Str} {F : Str → Addr} {E : Str → List Arc} {H2 : Hp}, EndB H0 H2 D ks F E A (n + 1) → z ∈ ks → H2 p = some (.tup x.vs) → (∀ a o, H a = some o → (∀ kvs, o ≠ .dK kvs) → (∀ xs, o ≠ .lst xs) → H2 a = some o) →
      tyV K "list" (.ref (F z)) H2 ∧ tCons tt tNil σ H2 fun xs H3 => rAppend (.ref (F z)) xs H3 Q := by
    intro ks F E H2 b2 mz hp2 kp2
    refine ⟨.inl ⟨rfl, _, SqL.of (b2.fl z mz)⟩, ht H2 _ b2.ex hp2 fun t hT => ?_⟩
    generalize hE : upd H2 t _ = H3
    have n3 := New.of hT hE
    clear hE
    have b3 := b2.mono n3.ex
    show rAppend _ [V.ref t] H3 Q
    refine w_app (b3.fl z mz) (smallS ?_) ?_
    · rw [List.length_map]
      have := b3.el z mz
      omega
    · generalize hE : upd H3 (F z) _ = H4
      have n4 := Put.of hE
      clear hE
      refine q _ _ _ H4 (b3.arc mz (e := ⟨t, p, x, y⟩) ⟨n3.here, n3.keep hp2⟩ n4) (n4.keep (n3.keep hp2) fun e => ?_) fun a o ha k1 k2 => n4.keep (n3.keep (kp2 a o ha k1 k2)) fun e => ?_
      · have h := b3.fl z mz
        rw [← e, n3.keep hp2] at h
        cases h
      · have h := b3.fl z mz
        rw [← e, n3.keep (kp2 a o ha k1 k2)] at h
        exact k2 _ (Option.some.inj h)
  refine ⟨_, Sum.inr z, b1.hd, rfl, smallS (by rw [List.length_map]; have := b.kl; omega), fun v hv => ?_, fun hv => ?_⟩
  · by_cases mz : z ∈ ks
    · rw [val_map mz] at hv
      cases hv
      exact fin (b1.more (Nat.le_succ n)) mz (n1.keep hp) fun a o ha _ _ => n1.keep ha
    · rw [val_none mz] at hv
      cases hv
  · have mz : z ∉ ks := fun m => by rw [val_map m] at hv; cases hv
    generalize hE : upd H1 D _ = H2
    have n2 := Put.of hE
    clear hE
    have pD : ∀ {a : Addr} {o : HO}, H1 a = some o → (∀ kvs, o ≠ .dK kvs) → a ≠ D := fun h1 k e => by
      rw [e, b1.hd] at h1
      exact k _ (Option.some.inj h1).symm
    have b2 := b1.key mz l0 n1.here (fun u mu e => by have h := b.fl u mu; rw [e, hl] at h; cases h) n2
    have mz2 : z ∈ ks ++ [z] := List.mem_append_right _ List.mem_cons_self
    have z1 := fin b2 mz2 (n2.keep (n1.keep hp) (pD (n1.keep hp) fun _ e => nomatch e)) fun a o ha k1 k2 => n2.keep (n1.keep ha) (pD (n1.keep ha) k1)
    simp only [if_true] at z1
    exact z1
theorem adj_snoc {L : List Lk} {x : Lk} (ne : x.a ≠ x.b) : adj (L ++ [x]) = fun u => if u = x.b then (if x.b = x.a then adj L x.a ++ [(x, x.b)] else adj L x.b) ++ [(x, x.a)] else (if u = x.a then adj L x.a ++ [(x, x.b)] else adj L u) := by
  funext u
  unfold adj
  rw [List.filterMap_append]
  by_cases c1 : u = x.b
  · rw [if_pos c1, if_neg (Ne.symm ne), c1]
    simp [far, Ne.symm ne]
  · rw [if_neg c1]
    by_cases c2 : u = x.a
    · rw [if_pos c2, c2]
      simp [far]
    · rw [if_neg c2]
      simp [far, c1, c2]
theorem adjU_snoc {U : List Ar} {e : Ar} : adjU (U ++ [e]) = fun u => if u = src e then adjU U (src e) ++ [(e.1, e.2)] else adjU U u := by
  funext u
  unfold adjU
  rw [List.filter_append]
  by_cases c : u = src e
  · rw [if_pos c, c]
    simp
  · rw [if_neg c]
    have : ¬ src e = u := fun k => c k.symm
    simp [this]
def ukv (U : List Ar) : List (List Key × V) := U.map fun e => (e.1.key, V.str e.2)
def UsedAt (H : Hp) (D : Addr) (U : List Ar) : Prop := H D = some (.dT (ukv U))
theorem key_dec {x y : Lk} : decide (x.key = y.key) = decide (x = y) := by
  by_cases h : x = y
  · rw [decide_eq_true h, decide_eq_true (congrArg _ h)]
  · rw [decide_eq_false h, decide_eq_false fun e => h (key_inj e)]
theorem val_ukv (x : Lk) : ∀ U : List Ar, valV (ukv U) x.key = (getA U x).map V.str
  | [] => rfl
  | e :: U => by
    have ih := val_ukv x U
    show valV ((e.1.key, V.str e.2) :: ukv U) x.key = _
    unfold getA at ih ⊢
    rw [List.find?_cons]
    by_cases h : e.1 = x
    · rw [valV_pos (p := (e.1.key, V.str e.2)) (k := x.key) (congrArg Lk.key h), decide_eq_true h]
      rfl
    · rw [valV_neg (p := (e.1.key, V.str e.2)) (k := x.key) (fun k => h (key_inj k)), decide_eq_false h, ih]
theorem any_ukv (x : Lk) (U : List Ar) : ((ukv U).any fun kv => decide (kv.1 = x.key)) = decide (x ∈ U.map (·.1)) := by
  induction U with
  | nil => rfl
  | cons e U ih =>
    show (decide (e.1.key = x.key) || _) = _
    have ih' : ((ukv U).any fun kv => decide (kv.1 = x.key)) = decide (x ∈ U.map (·.1)) := ih
    rw [show ((List.any (List.map (fun e : Ar => (e.1.key, V.str e.2)) U) fun kv => decide (kv.1 = x.key))) = decide (x ∈ U.map (·.1)) from ih', key_dec]
    by_cases h : e.1 = x
    · simp [h]
    · have : ¬ x = e.1 := fun k => h k.symm
      simp [h, this]
theorem put_ukv (U : List Ar) (x : Lk) (y : Str) : putK (ukv U) x.key (.str y) = ukv (putA U x y) := by
  unfold putK putA
  rw [any_ukv]
  by_cases m : x ∈ U.map (·.1)
  · rw [if_pos (decide_eq_true m), if_pos m]
    unfold ukv
    rw [List.map_map, List.map_map]
    refine List.map_congr_left fun e _ => ?_
    show (if e.1.key = x.key then (e.1.key, V.str y) else (e.1.key, V.str e.2)) = (fun e : Ar => (e.1.key, V.str e.2)) (if e.1 = x then (x, y) else e)
    by_cases h : e.1 = x
    · rw [if_pos (congrArg Lk.key h), if_pos h, h]
    · rw [if_neg (fun k => h (key_inj k)), if_neg h]
  · rw [if_neg (by simpa using m), if_neg m]
    unfold ukv
    rw [List.map_append]
    rfl
theorem drop_ukv (U : List Ar) (x : Lk) : dropK (ukv U) x.key = ukv (delA U x) := by
  unfold dropK delA ukv
  rw [List.filter_map]
  congr 1
  refine List.filter_congr fun e _ => ?_
  show decide (e.1.key ≠ x.key) = decide (e.1 ≠ x)
  by_cases h : e.1 = x
  · simp [h]
  · have : ¬ e.1.key = x.key := fun k => h (key_inj k)
    simp [h, this]
theorem w_par3 {σ : L2.St} {H : Hp} {D : Ends} {m n o : Nat} {tr : TA} (h : tr σ H fun vs H1 => ∃ u v w, vs = [u, v, w] ∧ D.nx (((σ.set m (some u)).set n (some v)).set o (some w)) H1) : tPar3 m n o tr D σ H := h
theorem w_three {x y z : V} {R : V → V → V → Prop} (h : R x y z) : ∃ u v w, ([x, y, z] : List V) = [u, v, w] ∧ R u v w := ⟨x, y, z, rfl, h⟩
theorem w_dnewT {σ : L2.St} {H : Hp} {Q : VK} (h : ∀ p, H p = none → Q (.ref p) (upd H p (.dT []))) : tDNewT σ H Q := h
theorem dget_u {H : Hp} {D p : Addr} {U : List Ar} {x : Lk} (h : UsedAt H D U) (hp : H p = some (.tup x.vs)) : DGet H D (.ref p) ((getA U x).map V.str) := val_ukv x U ▸ DGet.t (k := x.key) h hp
/-- the way that is walked back -/
def goV : Option V := none
end Fk
namespace Fk
open PySem PySem.Spec PyProof.Rows L2
local macro_rules | `(tactic| walk_at "fk") => `(tactic| first
  | with_reducible refine w_seq ?_ | with_reducible refine w_set ?_ | with_reducible refine w_asg ?_ | with_reducible refine w_drop ?_ | with_reducible refine w_ret ?_ | with_reducible refine w_if ?_
  | with_reducible refine w_op ?_ | with_reducible refine w_un ?_ | with_reducible refine w_c ?_ | ((with_reducible apply w_var); rfl)
  | with_reducible refine w_test ?_ | with_reducible refine w_B ?_ | with_reducible refine w_exb ?_ | with_reducible refine w_exi ?_ | with_reducible refine w_I0 ?_ | with_reducible refine w_U ?_
  | with_reducible refine w_nil ?_ | with_reducible refine w_cons ?_ | with_reducible refine w_call ?_ | with_reducible refine w_cb ?_ | with_reducible refine w_tup ?_ | with_reducible refine w_lst ?_
  | with_reducible refine w_and ?_ | with_reducible refine w_or ?_ | with_reducible refine w_not ?_ | with_reducible refine w_andV ?_ | with_reducible refine w_orV ?_ | with_reducible refine w_notV ?_
  | with_reducible refine w_ifE ?_ | with_reducible refine w_chain ?_ | with_reducible refine w_for ?_ | with_reducible refine w_lc ?_ | with_reducible refine w_yes ?_ | with_reducible refine w_iR1 ?_ | with_reducible refine w_iL ?_ | with_reducible refine w_iT ?_ | with_reducible refine w_iE ?_ | with_reducible refine w_iZ ?_ | with_reducible refine w_iS ?_ | with_reducible refine w_s1 ?_ | with_reducible refine w_m1 ?_ | with_reducible refine w_m0 ?_ | with_reducible refine w_estr ?_ | with_reducible refine w_lz ?_ | with_reducible refine w_ss ?_ | with_reducible refine w_revL ?_ | with_reducible refine w_dc ?_ | with_reducible refine w_c2 ?_ | with_reducible refine w_c2D ?_ | with_reducible refine w_iIT ?_ | with_reducible refine w_ddelT ?_ | with_reducible refine w_dsetd ?_ | with_reducible refine w_dget1 ?_ | with_reducible refine w_iI ?_ | with_reducible refine w_iES ?_ | with_reducible refine w_dget ?_ | with_reducible refine w_dget2 ?_ | with_reducible refine w_dput ?_ | with_reducible refine w_callN ?_ | with_reducible refine w_callD ?_ | with_reducible refine w_dnew ?_ | with_reducible refine w_dnewT ?_ | with_reducible refine w_revT ?_ | with_reducible refine w_leS ?_ | with_reducible refine w_ltS ?_ | with_reducible refine w_inSg ?_ | with_reducible refine w_notInSg ?_ | with_reducible refine iteT ?_ | with_reducible refine iteF ?_ | with_reducible refine w_par ?_ | with_reducible refine w_par3 ?_ | with_reducible refine w_three ?_ | with_reducible refine w_two ?_ | with_reducible refine w_gname ?_ | with_reducible refine w_gcons ?_ | with_reducible refine w_gnil ?_ | ((with_reducible apply w_gtup); (with_reducible assumption); rfl) | with_reducible refine w_gsub ?_
  | with_reducible refine w_bm0 ?_ | with_reducible refine w_iK ?_ | with_reducible refine w_iQ ?_ | with_reducible refine w_c1 ?_ | with_reducible refine iteNT ?_ | with_reducible refine iteNF ?_ | with_reducible refine w_tru ?_ | with_reducible refine w_dnin ?_ | with_reducible refine w_dgetN ?_
  | with_reducible refine w_bm ?_ | with_reducible refine w_sl ?_ | with_reducible refine w_noP ?_ | with_reducible refine w_part ?_ | with_reducible refine w_next ?_ | with_reducible refine w_retN ?_
  | ((with_reducible refine w_I ?hk ?_); (case hk => (first | (show (0 : Int) < _; omega) | exact ⟨by omega, by omega⟩ | exact .inl ⟨by omega, by omega⟩ | exact .inr ⟨by omega, by omega⟩ | exact cpow_small (by decide) (by decide) (by decide))))
  | ((with_reducible apply w_eq); rfl) | ((with_reducible apply w_ne); rfl)
  | ((with_reducible apply w_ixL); (with_reducible assumption); rfl)
  | ((with_reducible apply w_setL); (with_reducible assumption); rfl))
local macro_rules | `(tactic| walk_at "go") => `(tactic| repeat walk_at "fk")

def top (i : Nat) : Stmt := PySem.Challenge.pw_fewkept_k53_texts_of_links.main.body.getD i (.Pass ⟨0, 0, 0, 0⟩)
abbrev s_own : Stmt := top 8
abbrev s_is_place : Stmt := top 12
abbrev s_is_number : Stmt := top 13
abbrev s_is_link : Stmt := top 14
abbrev s_link_text : Stmt := top 17
abbrev s_read_link : Stmt := top 18
abbrev s_worded_link : Stmt := top 19
abbrev s_figured : Stmt := top 20
abbrev s_law_begun : Stmt := top 22
abbrev s_law_next : Stmt := top 23
abbrev s_law_pick : Stmt := top 24
abbrev s_law_spots : Stmt := top 25
abbrev s_law_pairs : Stmt := top 26
abbrev s_law_link : Stmt := top 27
abbrev s_law_is_link : Stmt := top 28
abbrev s_law_number : Stmt := top 29
abbrev s_law_read : Stmt := top 30
abbrev s_law_bent : Stmt := top 31
abbrev s_law_refusal : Stmt := top 32
abbrev s_law : Stmt := top 33
theorem sc_own : FnScope ["thing", "part", "key"] ["thing"] (defScope s_own) := ⟨rfl, rfl, rfl, by decide +kernel, rfl, by decide +kernel, by decide +kernel⟩
theorem sc_is_place : FnScope ["thing", "sign"] ["thing"] (defScope s_is_place) := ⟨rfl, rfl, rfl, by decide +kernel, rfl, by decide +kernel, by decide +kernel⟩
theorem sc_is_number : FnScope ["thing", "most"] ["thing", "most"] (defScope s_is_number) := ⟨rfl, rfl, rfl, by decide +kernel, rfl, by decide +kernel, by decide +kernel⟩
theorem sc_is_link : FnScope ["thing", "cost", "mark", "one", "other"] ["thing"] (defScope s_is_link) := ⟨rfl, rfl, rfl, by decide +kernel, rfl, by decide +kernel, by decide +kernel⟩
theorem sc_link_text : FnScope ["link", "cost", "mark", "one", "other"] ["link"] (defScope s_link_text) := ⟨rfl, rfl, rfl, by decide +kernel, rfl, by decide +kernel, by decide +kernel⟩
theorem sc_read_link : FnScope ["text", "link"] ["text"] (defScope s_read_link) := ⟨rfl, rfl, rfl, by decide +kernel, rfl, by decide +kernel, by decide +kernel⟩
theorem sc_worded_link : FnScope ["words", "cost", "mark", "one", "other", "link"] ["words"] (defScope s_worded_link) := ⟨rfl, rfl, rfl, by decide +kernel, rfl, by decide +kernel, by decide +kernel⟩
theorem sc_figured : FnScope ["word", "most", "sign"] ["word", "most"] (defScope s_figured) := ⟨rfl, rfl, rfl, by decide +kernel, rfl, by decide +kernel, by decide +kernel⟩
theorem sc_law_begun : FnScope ["cell", "k"] ["cell", "k"] (defScope s_law_begun) := ⟨rfl, rfl, rfl, by decide +kernel, rfl, by decide +kernel, by decide +kernel⟩
theorem sc_law_next : FnScope ["draw", "size", "found"] ["draw", "size"] (defScope s_law_next) := ⟨rfl, rfl, rfl, by decide +kernel, rfl, by decide +kernel, by decide +kernel⟩
theorem sc_law_pick : FnScope ["draw", "some"] ["draw", "some"] (defScope s_law_pick) := ⟨rfl, rfl, rfl, by decide +kernel, rfl, by decide +kernel, by decide +kernel⟩
theorem sc_law_spots : FnScope ["draw", "many", "own", "found", "k", "name", "sign"] ["draw", "many"] (defScope s_law_spots) := ⟨rfl, rfl, rfl, by decide +kernel, rfl, by decide +kernel, by decide +kernel⟩
theorem sc_law_pairs : FnScope ["draw", "spots", "every", "way", "at", "one", "poles", "other", "turn", "pair"] ["draw", "spots"] (defScope s_law_pairs) := ⟨rfl, rfl, rfl, by decide +kernel, rfl, by decide +kernel, by decide +kernel⟩
theorem sc_law_link : FnScope ["draw", "pairs", "one", "other", "cost"] ["draw", "pairs"] (defScope s_law_link) := ⟨rfl, rfl, rfl, by decide +kernel, rfl, by decide +kernel, by decide +kernel⟩
theorem sc_law_is_link : FnScope ["thing", "number", "name", "sign"] ["thing"] (defScope s_law_is_link) := ⟨rfl, rfl, rfl, by decide +kernel, rfl, by decide +kernel, by decide +kernel⟩
theorem sc_law_number : FnScope ["word", "sign"] ["word"] (defScope s_law_number) := ⟨rfl, rfl, rfl, by decide +kernel, rfl, by decide +kernel, by decide +kernel⟩
theorem sc_law_read : FnScope ["text", "words", "found"] ["text"] (defScope s_law_read) := ⟨rfl, rfl, rfl, by decide +kernel, rfl, by decide +kernel, by decide +kernel⟩
theorem sc_law_bent : FnScope ["draw", "text", "at", "way", "sign", "words", "one", "other", "k", "word"] ["draw", "text"] (defScope s_law_bent) := ⟨rfl, rfl, rfl, by decide +kernel, rfl, by decide +kernel, by decide +kernel⟩
theorem sc_law_refusal : FnScope ["way", "thing", "found", "e", "others", "is_another"] ["way", "thing"] (defScope s_law_refusal) := ⟨rfl, rfl, rfl, by decide +kernel, rfl, by decide +kernel, by decide +kernel⟩
theorem sc_law : FnScope ["script", "k", "cell", "draw", "spots", "link", "text", "turn", "other", "bend", "due", "told", "odd", "cost", "mark", "one"] ["script"] (defScope s_law) := ⟨rfl, rfl, rfl, by decide +kernel, rfl, by decide +kernel, by decide +kernel⟩
structure Txt (mg : Str → Option Value) : Prop where
  len_ : mg "len" = none
  max_ : mg "max" = none
  range_ : mg "range" = none
  sorted_ : mg "sorted" = none
  enumerate_ : mg "enumerate" = none
  list_ : mg "list" = none
  zip_ : mg "zip" = none
  isinstance_ : mg "isinstance" = none
  tuple_ : mg "tuple" = none
  str_ : mg "str" = none
  int_ : mg "int" = none
  bool_ : mg "bool" = none
  all_ : mg "all" = none
  set_ : mg "set" = none
  min_ : mg "min" = none
  sum_ : mg "sum" = none
  MOST_SIGNS_ : ∃ t, mg "MOST_SIGNS" = some (.int 6 t)
  MOST_FIGURES_ : ∃ t, mg "MOST_FIGURES" = some (.int 7 t)
  MOST_COST_ : ∃ t, mg "MOST_COST" = some (.int 1000000 t)
section
variable {P : Program} {w : World} {K : PySem.W.Frag} {mg : Str → Option Value} {base : Heap}
theorem ok_next {f : Addr} {fd : FuncData} (F : Fun K "_law_next" "_law_next" s_law_next f fd) (T : Txt mg) : FnOk P w K mg base CX0 1 f fd ["draw", "size"] spNext := by
  refine F.ok sc_law_next (fun vs H Q E h => ?_) (fun cdv A outer s H vs Q E hr h => ?_)
  · obtain ⟨d, n, m, rfl, _⟩ := h
    rfl
  · obtain ⟨d, n, m, rfl, ⟨a, b, c, hd, a0, c0, cn⟩, hn, m0, m1, q⟩ := h
    have hq : SqL K H d [.int a, .int b, .int c] := SqL.of hd
    refine ⟨_, (pss_cons (ps_if (pt_cmpR op_gt (pe_ix (kixL K) (pv 0) pe_int (fun _ _ => rfl)) pe_int (nomark _)) (pss_cons (ps_set (i := 2) sc_law_next.nd rfl (.inl rfl) (pe_op op_mod (pe_ix (kixL K) (pv 0) pe_int (fun _ _ => rfl)) (pv 1)))
      (pss_cons (ps_asg (pe_op op_fdiv (pe_ix (kixL K) (pv 0) pe_int (fun _ _ => rfl)) (pv 1)) (pg_sub (pv 0) pe_int set_list))
      (pss_one (ps_ret (pv 2))))) pss_nil)
      (pss_cons (ps_asg (pe_op op_add (pe_ix (kixL K) (pv 0) pe_int (fun _ _ => rfl)) pe_int) (pg_sub (pv 0) pe_int set_list))
      (pss_cons (ps_set (i := 2) sc_law_next.nd rfl (.inl rfl) (pe_op op_add (pe_op op_mod (pe_ix (kixL K) (pv 0) pe_int (fun _ _ => rfl)) pe_int) (pe_op op_mul pe_int (pe_ix (kixL K) (pv 0) pe_int (fun _ _ => rfl)))))
      (pss_cons (ps_set (i := 2) sc_law_next.nd rfl (.inl rfl) (pe_op op_mul (pv 2) (pe_op op_add (pe_op op_add (pe_op op_mod (pe_ix (kixL K) (pv 0) pe_int (fun _ _ => rfl)) pe_int) (pe_op op_mul (pe_op op_mul pe_int (pe_ix (kixL K) (pv 0) pe_int (fun _ _ => rfl))) (pe_ix (kixL K) (pv 0) pe_int (fun _ _ => rfl)))) pe_int)))
      (pss_one (ps_ret (pe_op op_mod (pe_op op_fdiv (pe_op op_mod (pe_op op_powN (pv 2) pe_int) pe_int) pe_int) (pv 1)))))))), ?_⟩
    refine w_from [some (.ref d), some (.int m), none] ?_
    try dsimp only [cxOf]
    walk_at "go"
    with_reducible refine w_dec ?_ ?_ <;> intro h
    · walk_at "go"
      refine q _ _ (Int.emod_nonneg _ (by omega)) (Int.emod_lt_of_pos _ m0) (Bt.refl d H).upd ⟨a / m, b, c, upd_same, Int.ediv_nonneg a0 (by omega), c0, by omega⟩
    · walk_at "go"
      have hq1 : SqL K (upd H d (HO.lst ([V.int a, V.int b, V.int c].set (Int.toNat 2) (V.int (c + 1))))) d [.int a, .int b, .int (c + 1)] := SqL.of upd_same
      walk_at "go"
      refine w_I (pow_bd c0 cn hn) ?_
      walk_at "go"
      exact q _ _ (mod3_nn m0).1 (mod3_nn m0).2 (Bt.refl d H).upd ⟨a, b, c + 1, upd_same, a0, by omega, by omega⟩

theorem ok_pick {f : Addr} {fd : FuncData} (F : Fun K "_law_pick" "_law_pick" s_law_pick f fd) (T : Txt mg) (C_law_next : Cal P w K mg base 1 "_law_next" ["draw", "size"] spNext) : FnOk P w K mg base CX0 2 f fd ["draw", "some"] (spPick K) := by
  refine F.ok sc_law_pick (fun vs H Q E h => ?_) (fun cdv A outer s H vs Q E hr h => ?_)
  · obtain ⟨d, n, x, m, rfl, _⟩ := h
    rfl
  · obtain ⟨d, n, x, m, rfl, hd, hn, R, hp, nx, m0, m1, q⟩ := h
    refine ⟨_, (pss_one (ps_ret (pe_ix (kix K) (pv 1) (pc C_law_next hr (by rfl) (pa_cons (pv 0) (pa_cons (pe_callB (klen K) (by rfl) T.len_ PySem.boot_len (pa_cons (pv 1) pa_nil)) pa_nil))) (fun _ _ => rfl)))), ?_⟩
    refine w_from [some (.ref d), some x] ?_
    try dsimp only [cxOf]
    walk_at "go"
    refine ⟨x, m, rfl, hp.len, ?_⟩
    walk_at "go"
    refine ⟨d, n, m, rfl, hd, hn, by omega, by omega, fun r H1 r0 r1 bt hd1 => ?_⟩
    obtain ⟨i, rfl, im⟩ := nat_of r0 r1
    cases hp with
    | @lst a xs hq =>
      obtain ⟨v, hv⟩ := get_of im
      exact .inl ⟨a, xs, i, v, rfl, rfl, bt.seqL (fun e => nx (by rw [e])) hq, atI_of hv, q i v H1 im hv bt hd1⟩
    | @tup a xs hq =>
      obtain ⟨v, hv⟩ := get_of im
      exact .inr (.inl ⟨a, xs, i, v, rfl, rfl, bt.seqT (fun e => nx (by rw [e])) hq, atI_of hv, q i v H1 im hv bt hd1⟩)
    | @str z hz =>
      obtain ⟨c, hv⟩ := get_of (xs := z.cps.toList) (i := i) im
      exact .inr (.inr ⟨z, i, c, rfl, rfl, hz, atI_of hv, q i _ H1 im ⟨c, hv, rfl⟩ bt hd1⟩)
theorem ok_begun {f : Addr} {fd : FuncData} (F : Fun K "_law_begun" "_law_begun" s_law_begun f fd) (T : Txt mg) : FnOk P w K mg base CX0 1 f fd ["cell", "k"] spBegun := by
  refine F.ok sc_law_begun (fun vs H Q E h => ?_) (fun cdv A outer s H vs Q E hr h => ?_)
  · obtain ⟨x, m, rfl, _⟩ := h
    rfl
  · obtain ⟨x, m, rfl, q⟩ := h
    refine ⟨_, (pss_one (ps_ret (pe_lst (pa_cons (pe_callB (kmax2 rfl) (by rfl) T.max_ (by decide +kernel) (pa_cons pe_int (pa_cons (pe_op op_sub (pv 0) (pe_op op_powN pe_int pe_int)) pa_nil))) (pa_cons (pe_op op_add (pv 0) (pe_op op_mul pe_int (pv 1))) (pa_cons pe_int pa_nil)))))), ?_⟩
    refine w_from [some (.int x), some (.int m)] ?_
    try dsimp only [cxOf]
    walk_at "go"
    refine ⟨0, _, rfl, ?_⟩
    walk_at "go"
    refine ⟨by show 3 ≤ sizeLine; decide, fun p hp => ?_⟩
    refine q p _ hp (Bt.refl p H).upd ⟨_, _, _, upd_same, ?_, by omega, by omega⟩
    split <;> omega
end
end Fk
namespace Fk
open PySem PySem.Spec PyProof.Rows L2
local macro_rules | `(tactic| walk_at "fk") => `(tactic| first
  | with_reducible refine w_seq ?_ | with_reducible refine w_set ?_ | with_reducible refine w_asg ?_ | with_reducible refine w_drop ?_ | with_reducible refine w_ret ?_ | with_reducible refine w_if ?_
  | with_reducible refine w_op ?_ | with_reducible refine w_un ?_ | with_reducible refine w_c ?_ | ((with_reducible apply w_var); rfl)
  | with_reducible refine w_test ?_ | with_reducible refine w_B ?_ | with_reducible refine w_exb ?_ | with_reducible refine w_exi ?_ | with_reducible refine w_I0 ?_ | with_reducible refine w_U ?_
  | with_reducible refine w_nil ?_ | with_reducible refine w_cons ?_ | with_reducible refine w_call ?_ | with_reducible refine w_cb ?_ | with_reducible refine w_tup ?_ | with_reducible refine w_lst ?_
  | with_reducible refine w_and ?_ | with_reducible refine w_or ?_ | with_reducible refine w_not ?_ | with_reducible refine w_andV ?_ | with_reducible refine w_orV ?_ | with_reducible refine w_notV ?_
  | with_reducible refine w_ifE ?_ | with_reducible refine w_chain ?_ | with_reducible refine w_for ?_ | with_reducible refine w_lc ?_ | with_reducible refine w_yes ?_ | with_reducible refine w_iR1 ?_ | with_reducible refine w_iL ?_ | with_reducible refine w_iT ?_ | with_reducible refine w_iE ?_ | with_reducible refine w_iZ ?_ | with_reducible refine w_iS ?_ | with_reducible refine w_s1 ?_ | with_reducible refine w_m1 ?_ | with_reducible refine w_m0 ?_ | with_reducible refine w_estr ?_ | with_reducible refine w_lz ?_ | with_reducible refine w_ss ?_ | with_reducible refine w_revL ?_ | with_reducible refine w_dc ?_ | with_reducible refine w_c2 ?_ | with_reducible refine w_c2D ?_ | with_reducible refine w_iIT ?_ | with_reducible refine w_ddelT ?_ | with_reducible refine w_dsetd ?_ | with_reducible refine w_dget1 ?_ | with_reducible refine w_iI ?_ | with_reducible refine w_iES ?_ | with_reducible refine w_dget ?_ | with_reducible refine w_dget2 ?_ | with_reducible refine w_dput ?_ | with_reducible refine w_callN ?_ | with_reducible refine w_callD ?_ | with_reducible refine w_dnew ?_ | with_reducible refine w_dnewT ?_ | with_reducible refine w_revT ?_ | with_reducible refine w_leS ?_ | with_reducible refine w_ltS ?_ | with_reducible refine w_inSg ?_ | with_reducible refine w_notInSg ?_ | with_reducible refine iteT ?_ | with_reducible refine iteF ?_ | with_reducible refine w_par ?_ | with_reducible refine w_par3 ?_ | with_reducible refine w_three ?_ | with_reducible refine w_two ?_ | with_reducible refine w_gname ?_ | with_reducible refine w_gcons ?_ | with_reducible refine w_gnil ?_ | ((with_reducible apply w_gtup); (with_reducible assumption); rfl) | with_reducible refine w_gsub ?_
  | with_reducible refine w_bm0 ?_ | with_reducible refine w_iK ?_ | with_reducible refine w_iQ ?_ | with_reducible refine w_c1 ?_ | with_reducible refine iteNT ?_ | with_reducible refine iteNF ?_ | with_reducible refine w_tru ?_ | with_reducible refine w_dnin ?_ | with_reducible refine w_dgetN ?_
  | with_reducible refine w_bm ?_ | with_reducible refine w_sl ?_ | with_reducible refine w_noP ?_ | with_reducible refine w_part ?_ | with_reducible refine w_next ?_ | with_reducible refine w_retN ?_
  | ((with_reducible refine w_I ?hk ?_); (case hk => (first | (show (0 : Int) < _; omega) | exact ⟨by omega, by omega⟩ | exact .inl ⟨by omega, by omega⟩ | exact .inr ⟨by omega, by omega⟩ | exact cpow_small (by decide) (by decide) (by decide))))
  | ((with_reducible apply w_eq); rfl) | ((with_reducible apply w_ne); rfl)
  | ((with_reducible apply w_ixL); (with_reducible assumption); rfl)
  | ((with_reducible apply w_setL); (with_reducible assumption); rfl))
local macro_rules | `(tactic| walk_at "go") => `(tactic| repeat walk_at "fk")

section
variable {P : Program} {w : World} {K : PySem.W.Frag} {mg : Str → Option Value} {base : Heap}
def owns : List Str := ["link", "strike", "net", "sure", "why", "wide", "keeps", "struck", "left", "known", "new", "in"]
theorem owns_pl : ∀ s ∈ owns, Place s := by decide +kernel
theorem letters_ok : ∀ c ∈ cL "etaoinshrdlcumwfgypbvkjxqz", SignOk c := by decide +kernel
def spSpots : Sp := fun vs H Q _ => ∃ (d : Addr) (n : Nat) (m : Nat), vs = [.ref d, .int (m : Int)] ∧ Drw H d n ∧ n + 9 * m ≤ 100000 ∧ m ≤ 12 ∧
  ∀ (p : Addr) (l : List Str) (H' : Hp), H p = none → Names l → l.length = m → Go d H H' → Drw H' d (n + 9 * m) → H' p = some (.lst (l.map V.str)) → Q (.ref p) H'
theorem ok_spots {f : Addr} {fd : FuncData} (F : Fun K "_law_spots" "_law_spots" s_law_spots f fd) (T : Txt mg) (C_law_next : Cal P w K mg base 1 "_law_next" ["draw", "size"] spNext)
    (C_law_pick : Cal P w K mg base 2 "_law_pick" ["draw", "some"] (spPick K)) : FnOk P w K mg base CX0 3 f fd ["draw", "many"] spSpots := by
  refine F.ok sc_law_spots (fun vs H Q E h => ?_) (fun cdv A outer s H vs Q E hr h => ?_)
  · obtain ⟨d, n, m, rfl, _⟩ := h
    rfl
  · obtain ⟨d, n, m, rfl, hd, hn, m12, q⟩ := h
    refine ⟨_, (pss_cons (ps_asg (pe_tup (pa_cons (pe_lst (pa_cons pe_str (pa_cons pe_str (pa_cons pe_str (pa_cons pe_str (pa_cons pe_str (pa_cons pe_str (pa_cons pe_str (pa_cons pe_str (pa_cons pe_str (pa_cons pe_str (pa_cons pe_str (pa_cons pe_str pa_nil))))))))))))) (pa_cons (pe_lst pa_nil) pa_nil))) (ktup K (n := 2) rfl (pgs_cons (pg_name (i := 2) sc_law_spots.nd rfl (.inl rfl)) (pgs_cons (pg_name (i := 3) sc_law_spots.nd rfl (.inr rfl)) pgs_nil))))
      (pss_cons (ps_for PassesOwn.never rfl (pi_range1 (by rfl) T.range_ (pa_cons (pv 1) pa_nil)) (pg_name (i := 4) sc_law_spots.nd rfl (.inl rfl)) (pss_cons (ps_set (i := 5) sc_law_spots.nd rfl (.inr rfl) (pc C_law_pick (hr.mono (by decide)) (by rfl) (pa_cons (pv 0) (pa_cons (pv 2) pa_nil))))
      (Evl.pss_cut (ps_if (pt_cmpR op_gt (pc C_law_next (hr.mono (by decide)) (by rfl) (pa_cons (pv 0) (pa_cons pe_int pa_nil))) pe_int (nomark _)) (pss_one (ps_set (i := 5) sc_law_spots.nd rfl (.inr rfl) (kjoin K pe_str (pe_lc (own := [("sign", 6)]) (g := gName 6) (by rfl) sc_law_spots.nd (pi_range1 (by rfl) T.range_ (pa_cons (pe_op op_add pe_int (pc C_law_next (hr.mono (by decide)) (by rfl) (pa_cons (pv 0) (pa_cons pe_int pa_nil)))) pa_nil)) (blkOk_by (own := [("sign", 6)]) (N := ["draw", "many", "own", "found", "k", "name", "sign"]) (sc := defScope s_law_spots) (by decide +kernel)) (fun _ _ _ _ _ => (pg_name (i := 6) sc_law_spots.nd rfl (Or.inl rfl))) (fun _ _ _ _ _ => pts_nil) (fun _ _ _ _ _ => (pc C_law_pick (hr.mono (by decide)) (by rfl) (pa_cons (pv 0) (pa_cons pe_str pa_nil)))))))) pss_nil)
      (Evl.pss_cut (ps_if (pt_cmpR (kIn K) (pv 5) (pv 3) rfl) (pss_one (ps_set (i := 5) sc_law_spots.nd rfl (.inr rfl) (pe_ix (kixL K) (pe_lc (own := [("sign", 6)]) (g := gName 6) (by rfl) sc_law_spots.nd (pi_str pe_str) (blkOk_by (own := [("sign", 6)]) (N := ["draw", "many", "own", "found", "k", "name", "sign"]) (sc := defScope s_law_spots) (by decide +kernel)) (fun _ _ _ _ _ => (pg_name (i := 6) sc_law_spots.nd rfl (Or.inl rfl))) (fun _ _ _ _ _ => (pts_one (pt_cmpR (kNotIn K) (pe_op kAddS (pe_slice sl_str (pv 5) po_none (po_some pe_int)) (pv 6)) (pv 3) rfl))) (fun _ _ _ _ _ => (pe_op kAddS (pe_slice sl_str (pv 5) po_none (po_some pe_int)) (pv 6)))) pe_int (fun _ _ => rfl)))) pss_nil)
      (pss_one (ps_expr (kapp K (pv 3) (pa_cons (pv 5) pa_nil))))))))
      (pss_one (ps_ret (pe_callB (ksortedS K) (by rfl) T.sorted_ (by decide +kernel) (pa_cons (pv 3) pa_nil)))))), ?_⟩
    refine w_from [some (.ref d), some (.int m), none, none, none, none, none] ?_
    try dsimp only [cxOf]
    walk_at "go"
    refine ⟨small (by show 12 ≤ 100000; omega), ?_⟩
    intro o ho
    generalize hE : upd _ o _ = H1
    have nH1 : New _ o (.lst (owns.map V.str)) H1 := New.of ho hE
    clear hE
    walk_at "go"
    refine ⟨small (by show 0 ≤ 100000; omega), ?_⟩
    intro p hp
    generalize hE : upd _ p _ = H2
    have nH2 := New.of hp hE
    clear hE
    walk_at "go"
    refine ⟨small (by show 2 ≤ 100000; omega), ?_⟩
    intro t ht
    generalize hE : upd _ t _ = H3
    have nH3 := New.of ht hE
    clear hE
    have hT := SqT.of (K := K) nH3.here
    walk_at "go"
    refine w_r1 (by omega) ?_
    have g3 : Go d H H3 := nH3.go (nH2.go nH1.go1)
    have ho3 := nH3.keep (nH2.keep nH1.here)
    have hp3 := nH3.keep nH2.here
    have pd : p ≠ d := (nH1.drw hd).ne nH2.free
    have hp0 : H p = none := nH1.back nH2.free
    have po : p ≠ o := (nH2.apart nH1.here).symm
    have od : o ≠ d := hd.ne nH1.free
    have ho0 : H o = none := nH1.free
    have hd3 := nH3.drw (nH2.drw (nH1.drw hd))
    refine forR (fun i σ H' => ∃ (l : List Str) (x4 x5 x6 : Option V), l.length = i ∧ l.Nodup ∧ (∀ s ∈ l, Place s) ∧ Drw H' d (n + 9 * i) ∧ H' p = some (.lst (l.map V.str)) ∧ H' o = some (.lst (owns.map V.str)) ∧ Go d H H' ∧
      σ = [some (.ref d), some (.int m), some (.ref o), some (.ref p), x4, x5, x6]) ?_ ?_ ?_
    · exact ⟨[], none, none, none, rfl, List.nodup_nil, fun s h => absurd h (by simp), hd3, hp3, ho3, g3, rfl⟩
    · rintro i σ' H4 im ⟨l, x4, x5, x6, rfl, nd, pl, hd4, hp4, ho4, g4, rfl⟩
      walk_at "go"
      refine pick_l hd4 (by omega) (SqL.of ho4) od (by show 0 < 12; omega) (by show 12 ≤ 100000; omega) fun v H5 hv b5 hd5 => ?_
      obtain ⟨z, hz, rfl⟩ := List.mem_map.mp hv
      have pz := owns_pl z hz
      have g5 := g4.bt b5
      have hp5 := b5.keep hp4 pd
      have ho5 := b5.keep ho4 od
      walk_at "go"
      refine ⟨fun σ' H' => ∃ (z : Str) (y6 : Option V), Place z ∧ Drw H' d (n + 9 * l.length + 9) ∧ Go d H5 H' ∧ σ' = [some (.ref d), some (.int m), some (.ref o), some (.ref p), some (.int (l.length : Int)), some (.str z), y6], ?_, ?_⟩
      · walk_at "go"
        refine next_i hd5 (by omega) (by omega) (by omega) fun r H6 r0 r1 b6 hd6 => ?_
        walk_at "go"
        refine w_bool (fun _ => ?_) (fun _ => ?_)
        · walk_at "go"
          refine next_i hd6 (by omega) (by omega) (by omega) fun u H7 u0 u1 b7 hd7 => ?_
          walk_at "go"
          obtain ⟨k, rfl, hk⟩ := nat_of (m := 6) u0 (by omega)
          have e1 : (1 : Int) + (k : Int) = ((1 + k : Nat) : Int) := by omega
          rw [e1]
          refine w_r1 (by omega) ?_
          refine lcR (fun C i H' => ∃ cs : List Nat, cs.length = i ∧ (∀ c ∈ cs, SignOk c) ∧ Drw H' d (n + 9 * l.length + 3 + i) ∧ Go d H7 H' ∧ H' C = some (.lst (cs.map fun c => .str ⟨#[c]⟩))) ?_ ?_ ?_
          · intro C hC
            exact ⟨[], rfl, fun c h => absurd h (by simp), hd7.new hC, (Go.refl d H7).put hC, upd_same⟩
          · rintro C j H8 hC hj ⟨cs, rfl, ok, hd8, g8, hC8⟩
            refine w_turn rfl ?_
            walk_at "go"
            refine pick_s hd8 (by omega) (by decide +kernel) (by decide +kernel) fun c H9 hc b9 hd9 => ?_
            have hCd : C ≠ d := hd7.ne hC
            refine ⟨cs.map fun c => .str ⟨#[c]⟩, b9.keep hC8 hCd, smallS (by rw [List.length_map]; omega), cs ++ [c], by simp, fun x hx => ?_, hd9.put hCd.symm, (g8.bt b9).put hC, ?_⟩
            · rcases List.mem_append.mp hx with hx | hx
              · exact ok x hx
              · rw [List.mem_singleton.mp hx]
                exact letters_ok c hc
            · rw [upd_same, List.map_append]
              rfl
          · rintro C H8 hC ⟨cs, hl, ok, hd8, g8, hC8⟩
            refine ⟨⟨#[]⟩, C, cs.map fun c => ⟨#[c]⟩, rfl, rfl, .inl (SqL.of (by rw [hC8, List.map_map]; rfl)), ?_, ?_⟩
            · rw [ones_sum]
              show cs.length + _ * 0 ≤ _
              omega
            · walk_at "go"
              exact ⟨_, _, place_join (by omega) (by omega) ok, hd8.le (by omega), (b6.go.trans b7.go).trans g8, rfl⟩
        · walk_at "go"
          exact ⟨z, _, pz, hd6.le (by omega), b6.go, rfl⟩
      · rintro σ' H6 ⟨z, y6, pz, hd6, g6, rfl⟩
        have hp6 := g6 _ _ pd hp5
        have ho6 := g6 _ _ od ho5
        refine ⟨fun σ' H' => ∃ (z : Str) (y6 : Option V), Place z ∧ z ∉ l ∧ Drw H' d (n + 9 * l.length + 9) ∧ Go d H6 H' ∧ σ' = [some (.ref d), some (.int m), some (.ref o), some (.ref p), some (.int (l.length : Int)), some (.str z), y6], ?_, ?_⟩
        · walk_at "go"
          refine w_inS (SqL.of hp6) ?_
          walk_at "go"
          refine w_bool (fun _ => ?_) (fun hz => ?_)
          · walk_at "go"
            have habc : cL "abcdefghijklmnopqrstuvwxyz" = abc := by decide +kernel
            refine lcS (fun C i H' => Drw H' d (n + 9 * l.length + 9) ∧ Go d H6 H' ∧ H' C = some (.lst ((left z l (abc.take i)).map fun c => .str (other z c)))) ?_ ?_ ?_
            · intro C hC
              exact ⟨hd6.new hC, (Go.refl d H6).put hC, upd_same⟩
            · rintro C i c H7 hC hc ⟨hd7, g7, hC7⟩
              rw [habc] at hc
              have hz5 := cut5_len z
              have hz6 : z.length ≤ 6 := pz.2.1
              refine w_turn rfl ?_
              walk_at "go"
              refine w_slS (small (by omega)) ?_
              walk_at "go"
              refine w_addS (i := cutS z none (some 5)) (j := ⟨#[c]⟩) (small (by show _ + 1 ≤ _; omega)) ?_
              walk_at "go"
              refine w_ninS (SqL.of (g7 _ _ pd hp6)) ?_
              walk_at "go"
              have ht := left_take (z := z) (l := l) hc
              refine w_ndec (fun h => ?_) (fun h => ?_)
              · walk_at "go"
                refine w_slS (small (by omega)) ?_
                walk_at "go"
                refine w_addS (i := cutS z none (some 5)) (j := ⟨#[c]⟩) (small (by show _ + 1 ≤ _; omega)) ?_
                rw [if_neg (show ¬ other z c ∈ l from h)] at ht
                refine ⟨_, hC7, smallS ?_, hd7.put (hd6.ne hC).symm, g7.put hC, ?_⟩
                · rw [List.length_map]
                  have : (left z l (abc.take i)).length ≤ 26 := Nat.le_trans (List.length_filter_le _ _) (by rw [List.length_take]; exact Nat.min_le_right _ _)
                  omega
                · rw [upd_same, ht, List.map_append]
                  rfl
              · rw [if_pos (show other z c ∈ l from h)] at ht
                refine ⟨hd7, g7, ?_⟩
                rw [ht]
                exact hC7
            · rintro C H7 hC ⟨hd7, g7, hC7⟩
              rw [habc, List.take_length] at hC7
              obtain ⟨c, r, e, hc, hn⟩ := left_ne (z := z) (l := l) (by omega)
              rw [e] at hC7
              walk_at "go"
              refine w_ixL (SqL.of hC7) (atI_of (i := 0) rfl) ?_
              exact ⟨_, _, other_place pz hc, hn, hd7, g7, rfl⟩
          · walk_at "go"
            exact ⟨z, _, pz, of_decide_eq_false hz, hd6, Go.refl d H6, rfl⟩
        · rintro σ' H7 ⟨z, y6, pz, hz, hd7, g7, rfl⟩
          have hp7 := g7 _ _ pd hp6
          have ho7 := g7 _ _ od ho6
          walk_at "go"
          refine ⟨.inl ⟨rfl, _, SqL.of hp7⟩, ?_⟩
          walk_at "go"
          refine w_app hp7 (smallS (by rw [List.length_map]; omega)) ?_
          refine ⟨l ++ [z], _, _, _, by simp, ?_, ?_, hd7.put pd.symm, ?_, ?_, ((g5.trans g6).trans g7).put hp0, rfl⟩
          · rw [List.nodup_append]
            exact ⟨nd, by simp, fun a ha b hb e => hz (by rw [← List.mem_singleton.mp hb, ← e]; exact ha)⟩
          · intro s hs
            rcases List.mem_append.mp hs with hs | hs
            · exact pl s hs
            · rw [List.mem_singleton.mp hs]
              exact pz
          · rw [upd_same, List.map_append]
            rfl
          · rw [upd_ne po.symm]
            exact ho7
    · rintro σ' H4 ⟨l, x4, x5, x6, rfl, nd, pl, hd4, hp4, ho4, g4, rfl⟩
      walk_at "go"
      refine ⟨p, l, rfl, SqL.of hp4, by omega, fun ys r perm srt hr0 => ?_⟩
      have nr : r ≠ d := hd4.ne hr0
      have ndy : ys.Nodup := perm.nodup_iff.mpr nd
      refine q r ys _ ?_ ⟨fun s hs => pl s (perm.mem_iff.mp hs), sortedS_lt srt ndy⟩ perm.length_eq (fun a u na e => ?_) (hd4.new hr0) upd_same
      · cases e : H r with
        | none => rfl
        | some u => rw [g4 r u nr e] at hr0; cases hr0
      · rw [upd_ne (ne_of_none (g4 a u na e) hr0)]
        exact g4 a u na e
end
end Fk
namespace Fk
open PySem PySem.Spec PyProof.Rows L2
local macro_rules | `(tactic| walk_at "fk") => `(tactic| first
  | with_reducible refine w_seq ?_ | with_reducible refine w_set ?_ | with_reducible refine w_asg ?_ | with_reducible refine w_drop ?_ | with_reducible refine w_ret ?_ | with_reducible refine w_if ?_
  | with_reducible refine w_op ?_ | with_reducible refine w_un ?_ | with_reducible refine w_c ?_ | ((with_reducible apply w_var); rfl)
  | with_reducible refine w_test ?_ | with_reducible refine w_B ?_ | with_reducible refine w_exb ?_ | with_reducible refine w_exi ?_ | with_reducible refine w_I0 ?_ | with_reducible refine w_U ?_
  | with_reducible refine w_nil ?_ | with_reducible refine w_cons ?_ | with_reducible refine w_call ?_ | with_reducible refine w_cb ?_ | with_reducible refine w_tup ?_ | with_reducible refine w_lst ?_
  | with_reducible refine w_and ?_ | with_reducible refine w_or ?_ | with_reducible refine w_not ?_ | with_reducible refine w_andV ?_ | with_reducible refine w_orV ?_ | with_reducible refine w_notV ?_
  | with_reducible refine w_ifE ?_ | with_reducible refine w_chain ?_ | with_reducible refine w_for ?_ | with_reducible refine w_lc ?_ | with_reducible refine w_yes ?_ | with_reducible refine w_iR1 ?_ | with_reducible refine w_iL ?_ | with_reducible refine w_iT ?_ | with_reducible refine w_iE ?_ | with_reducible refine w_iZ ?_ | with_reducible refine w_iS ?_ | with_reducible refine w_s1 ?_ | with_reducible refine w_m1 ?_ | with_reducible refine w_m0 ?_ | with_reducible refine w_estr ?_ | with_reducible refine w_lz ?_ | with_reducible refine w_ss ?_ | with_reducible refine w_revL ?_ | with_reducible refine w_dc ?_ | with_reducible refine w_c2 ?_ | with_reducible refine w_c2D ?_ | with_reducible refine w_iIT ?_ | with_reducible refine w_ddelT ?_ | with_reducible refine w_dsetd ?_ | with_reducible refine w_dget1 ?_ | with_reducible refine w_iI ?_ | with_reducible refine w_iES ?_ | with_reducible refine w_dget ?_ | with_reducible refine w_dget2 ?_ | with_reducible refine w_dput ?_ | with_reducible refine w_callN ?_ | with_reducible refine w_callD ?_ | with_reducible refine w_dnew ?_ | with_reducible refine w_dnewT ?_ | with_reducible refine w_revT ?_ | with_reducible refine w_leS ?_ | with_reducible refine w_ltS ?_ | with_reducible refine w_inSg ?_ | with_reducible refine w_notInSg ?_ | with_reducible refine iteT ?_ | with_reducible refine iteF ?_ | with_reducible refine w_par ?_ | with_reducible refine w_par3 ?_ | with_reducible refine w_three ?_ | with_reducible refine w_two ?_ | with_reducible refine w_gname ?_ | with_reducible refine w_gcons ?_ | with_reducible refine w_gnil ?_ | ((with_reducible apply w_gtup); (with_reducible assumption); rfl) | with_reducible refine w_gsub ?_
  | with_reducible refine w_bm0 ?_ | with_reducible refine w_iK ?_ | with_reducible refine w_iQ ?_ | with_reducible refine w_c1 ?_ | with_reducible refine iteNT ?_ | with_reducible refine iteNF ?_ | with_reducible refine w_tru ?_ | with_reducible refine w_dnin ?_ | with_reducible refine w_dgetN ?_
  | with_reducible refine w_bm ?_ | with_reducible refine w_sl ?_ | with_reducible refine w_noP ?_ | with_reducible refine w_part ?_ | with_reducible refine w_next ?_ | with_reducible refine w_retN ?_
  | ((with_reducible refine w_I ?hk ?_); (case hk => (first | (show (0 : Int) < _; omega) | exact ⟨by omega, by omega⟩ | exact .inl ⟨by omega, by omega⟩ | exact .inr ⟨by omega, by omega⟩ | exact cpow_small (by decide) (by decide) (by decide))))
  | ((with_reducible apply w_eq); rfl) | ((with_reducible apply w_ne); rfl)
  | ((with_reducible apply w_ixL); (with_reducible assumption); rfl)
  | ((with_reducible apply w_setL); (with_reducible assumption); rfl))
local macro_rules | `(tactic| walk_at "go") => `(tactic| repeat walk_at "fk")

/-- a pair of places of l, rising, as it stands at x -/
def PairAt (K : PySem.W.Frag) (H : Hp) (l : List Str) (x : V) (a b : Str) : Prop := ∃ t : Addr, x = .ref t ∧ H t = some (.tup [.str a, .str b]) ∧ a ∈ l ∧ b ∈ l ∧ Lts a b
section
variable {P : Program} {w : World} {K : PySem.W.Frag} {mg : Str → Option Value} {base : Heap}
theorem PairAt.go {H H' : Hp} {l : List Str} {x : V} {a b : Str} {d : Addr} {n : Nat} (g : Go d H H') (hd : Drw H d n) (h : PairAt K H l x a b) : PairAt K H' l x a b := by
  obtain ⟨t, rfl, ht, r⟩ := h
  refine ⟨t, rfl, g t _ (fun e => ?_) ht, r⟩
  obtain ⟨a, b, c, hd, _⟩ := hd
  rw [e, hd] at ht
  cases ht
def spPairs (K : PySem.W.Frag) : Sp := fun vs H Q _ => ∃ (d a : Addr) (n : Nat) (l : List Str), vs = [.ref d, .ref a] ∧ H a = some (.lst (l.map V.str)) ∧ Drw H d n ∧ n + 4 ≤ 100000 ∧ Names l ∧ 2 ≤ l.length ∧ l.length ≤ 12 ∧
  ∀ (p : Addr) (xs : List V) (H' : Hp), Go d H H' → Drw H' d (n + 4) → H' p = some (.lst xs) → H p = none → xs ≠ [] → xs.length ≤ 1000 → (∀ x ∈ xs, ∃ a b, PairAt K H' l x a b) → Q (.ref p) H'
theorem ok_pairs {f : Addr} {fd : FuncData} (F : Fun K "_law_pairs" "_law_pairs" s_law_pairs f fd) (T : Txt mg) (C_law_next : Cal P w K mg base 1 "_law_next" ["draw", "size"] spNext)
    (C_law_pick : Cal P w K mg base 2 "_law_pick" ["draw", "some"] (spPick K)) : FnOk P w K mg base CX0 3 f fd ["draw", "spots"] (spPairs K) := by
  refine F.ok sc_law_pairs (fun vs H Q E h => ?_) (fun cdv A outer s H vs Q E hr h => ?_)
  · obtain ⟨d, a, n, l, rfl, _⟩ := h
    rfl
  · obtain ⟨d, a, n, l, rfl, ha, hd, hn, nm, l2, l12, q⟩ := h
    have ad : a ≠ d := fun e => by
      obtain ⟨x, y, z, h, _⟩ := hd
      rw [e, h] at ha
      have := HO.lst.inj (Option.some.inj ha)
      cases l with
      | nil => cases this
      | cons s r => cases (List.cons.inj this).1
    refine ⟨_, (pss_cons (ps_asg (pe_tup (pa_cons (pe_lst pa_nil) (pa_cons (pc C_law_next (hr.mono (by decide)) (by rfl) (pa_cons (pv 0) (pa_cons pe_int pa_nil))) pa_nil))) (ktup K (n := 2) rfl (pgs_cons (pg_name (i := 2) sc_law_pairs.nd rfl (.inr rfl)) (pgs_cons (pg_name (i := 3) sc_law_pairs.nd rfl (.inl rfl)) pgs_nil))))
      (pss_cons (ps_for PassesOwn.never rfl (kenumI K (by rfl) T.enumerate_ (pa_cons (pv 1) pa_nil)) (ktup K (n := 2) rfl (pgs_cons (pg_name (i := 4) sc_law_pairs.nd rfl (.inl rfl)) (pgs_cons (pg_name (i := 5) sc_law_pairs.nd rfl (.inr rfl)) pgs_nil))) (pss_one (ps_set (i := 2) sc_law_pairs.nd rfl (.inr rfl) (pe_op op_cat (pv 2) (pe_lc (own := [("other", 7)]) (g := gName 7) (by rfl) sc_law_pairs.nd (klistI K (pe_slice (kslL K) (pv 1) (po_some (pe_op op_add (pv 4) pe_int)) po_none)) (blkOk_by (own := [("other", 7)]) (N := ["draw", "spots", "every", "way", "at", "one", "poles", "other", "turn", "pair"]) (sc := defScope s_law_pairs) (by decide +kernel)) (fun _ _ _ _ _ => (pg_name (i := 7) sc_law_pairs.nd rfl (Or.inl rfl))) (fun _ _ _ _ _ => pts_nil) (fun _ _ _ _ _ => (pe_tup (pa_cons (pv 5) (pa_cons (pv 7) pa_nil)))))))))
      (pss_cons (ps_if (PW.pt (pw_or (pt_cmpR op_eq (pv 3) pe_int (nomark _)) (pw_or1 (pt_cmpR op_eq (pe_callB (klen K) (by rfl) T.len_ PySem.boot_len (pa_cons (pv 1) pa_nil)) pe_int (nomark _))))) (pss_one (ps_ret (pv 2))) pss_nil)
      (pss_cons (ps_if (pt_cmpR op_eq (pv 3) pe_int (nomark _)) (pss_one (ps_ret (pe_lc (own := [("turn", 8)]) (g := gName 8) (by rfl) sc_law_pairs.nd (pi_range1 (by rfl) T.range_ (pa_cons pe_int pa_nil)) (blkOk_by (own := [("turn", 8)]) (N := ["draw", "spots", "every", "way", "at", "one", "poles", "other", "turn", "pair"]) (sc := defScope s_law_pairs) (by decide +kernel)) (fun _ _ _ _ _ => (pg_name (i := 8) sc_law_pairs.nd rfl (Or.inl rfl))) (fun _ _ _ _ _ => pts_nil) (fun _ _ _ _ _ => (pc C_law_pick (hr.mono (by decide)) (by rfl) (pa_cons (pv 0) (pa_cons (pv 2) pa_nil))))))) pss_nil)
      (pss_cons (ps_if (pt_cmpR op_eq (pv 3) pe_int (nomark _)) (pss_cons (ps_set (i := 6) sc_law_pairs.nd rfl (.inr rfl) (pe_lst (pa_cons (pc C_law_pick (hr.mono (by decide)) (by rfl) (pa_cons (pv 0) (pa_cons (pv 1) pa_nil))) (pa_cons (pc C_law_pick (hr.mono (by decide)) (by rfl) (pa_cons (pv 0) (pa_cons (pv 1) pa_nil))) pa_nil))))
      (pss_one (ps_ret (pe_lc (own := [("pair", 9)]) (g := gName 9) (by rfl) sc_law_pairs.nd (klistI K (pv 2)) (blkOk_by (own := [("pair", 9)]) (N := ["draw", "spots", "every", "way", "at", "one", "poles", "other", "turn", "pair"]) (sc := defScope s_law_pairs) (by decide +kernel)) (fun _ _ _ _ _ => (pg_name (i := 9) sc_law_pairs.nd rfl (Or.inl rfl))) (fun _ _ _ _ _ => (pts_one (PW.pt (pw_or (pt_cmpR (kIn K) (pe_ix (kixT K) (pv 9) pe_int (fun _ _ => rfl)) (pv 6) rfl) (pw_or1 (pt_cmpR (kIn K) (pe_ix (kixT K) (pv 9) pe_int (fun _ _ => rfl)) (pv 6) rfl)))))) (fun _ _ _ _ _ => (pv 9)))))) pss_nil)
      (pss_one (ps_ret (pe_listZip K rfl (by rfl) T.list_ (by rfl) T.zip_ (pa_cons (pv 1) (pa_cons (pe_slice (kslL K) (pv 1) (po_some pe_int) po_none) pa_nil)))))))))), ?_⟩
    refine w_from [some (.ref d), some (.ref a), none, none, none, none, none, none, none, none] ?_
    try dsimp only [cxOf]
    walk_at "go"
    refine ⟨small (by show 0 ≤ 100000; omega), ?_⟩
    intro e he
    generalize hE : upd _ e _ = H1
    have nH1 : New _ e (.lst []) H1 := New.of he hE
    clear hE
    walk_at "go"
    refine next_i (nH1.drw hd) (by omega) (by omega) (by omega) fun r H2 r0 r1 b2 hd2 => ?_
    walk_at "go"
    refine ⟨small (by show 2 ≤ 100000; omega), ?_⟩
    intro t ht
    generalize hE : upd _ t _ = H3
    have nH3 := New.of ht hE
    clear hE
    have hT := SqT.of (K := K) nH3.here
    have g3 : Go d H H3 := nH3.go (nH1.go1.bt b2)
    have ed : e ≠ d := hd.ne nH1.free
    have he3 : H3 e = some (.lst []) := nH3.keep (b2.keep nH1.here ed)
    have hd3 := nH3.drw hd2
    walk_at "go"
    refine w_e1 (xs := l.map V.str) (SqL.of (g3 a _ ad ha)) ?_
    refine forE (xs := l.map V.str) (fun i σ' H' => ∃ (e' : Addr) (xs : List V) (x4 x5 x7 : Option V), e' ≠ d ∧ H e' = none ∧ H' e' = some (.lst xs) ∧ xs.length ≤ 12 * i ∧ (∀ x ∈ xs, ∃ a b, PairAt K H' l x a b) ∧
      (∀ j k a b, j < i → j < k → l[j]? = some a → l[k]? = some b → ∃ x ∈ xs, PairAt K H' l x a b) ∧ Go d H H' ∧ Drw H' d (n + 1) ∧
      σ' = [some (.ref d), some (.ref a), some (.ref e'), some (.int r), x4, x5, none, x7, none, none]) ?_ ?_ ?_ ?_
    · exact ⟨e, [], none, none, none, ed, nH1.free, he3, Nat.le_refl _, fun x h => absurd h (by simp), fun j k a b h => absurd h (by omega), g3, hd3, rfl⟩
    · rintro i σ' H' _ ⟨e', xs, x4, x5, x7, ed', he0, he', hl', hx', hc', g', hd', rfl⟩
      exact SqL.of (g' a _ ad ha)
    · rintro i x T σ' H4 hx ⟨e', xs, x4, x5, x7, ed', he0, he4, hl4, hx4, hc4, g4, hd4, rfl⟩ hTn
      obtain ⟨s, hs, rfl⟩ : ∃ s, l[i]? = some s ∧ x = .str s := by
        rw [List.getElem?_map] at hx
        cases e : l[i]? with
        | none => rw [e] at hx; cases hx
        | some s => rw [e] at hx; exact ⟨s, rfl, (Option.some.inj hx).symm⟩
      have il : i < l.length := (List.getElem?_eq_some_iff.mp hs).1
      generalize hE : upd _ T _ = H5
      have nH5 := New.of hTn hE
      clear hE
      have hT5 := SqT.of (K := K) nH5.here
      walk_at "go"
      refine w_slL (SqL.of (nH5.keep (g4 a _ ad ha))) ?_
      rw [cut_from, ← List.map_drop]
      intro c hc
      generalize hE : upd _ c _ = H6
      have nH6 := New.of hc hE
      clear hE
      walk_at "go"
      refine w_l1 (SqL.of nH6.here) ?_
      have hd6 := nH6.drw (nH5.drw hd4)
      have cd : c ≠ d := (nH5.drw hd4).ne nH6.free
      refine lcL (xs := (l.drop (i + 1)).map V.str) (fun C j H' => ∃ ys : List V, H' C = some (.lst ys) ∧ ys.length = j ∧ Go d H6 H' ∧ Drw H' d (n + 1) ∧ (∀ k b, k < j → (l.drop (i + 1))[k]? = some b → ∃ x ∈ ys, PairAt K H' l x s b) ∧ (∀ x ∈ ys, ∃ b, PairAt K H' l x s b)) ?_ ?_ ?_ ?_
      · intro C hC
        exact ⟨[], upd_same, rfl, (Go.refl d H6).put hC, hd6.new hC, fun k b h => absurd h (by omega), fun x h => absurd h (by simp)⟩
      · rintro C j H7 hC _ ⟨ys, _, _, g7, _⟩
        exact SqL.of (g7 c _ cd nH6.here)
      · rintro C j x H7 hC hx ⟨ys, hC7, rfl, g7, hd7, hc7, hy7⟩
        obtain ⟨b, hb, rfl⟩ : ∃ s, (l.drop (i + 1))[ys.length]? = some s ∧ x = .str s := by
          rw [List.getElem?_map] at hx
          cases e : (l.drop (i + 1))[ys.length]? with
          | none => rw [e] at hx; cases hx
          | some s => rw [e] at hx; exact ⟨s, rfl, (Option.some.inj hx).symm⟩
        have hb' : l[i + 1 + ys.length]? = some b := by rw [List.getElem?_drop] at hb; exact hb
        have jl : i + 1 + ys.length < l.length := (List.getElem?_eq_some_iff.mp hb').1
        refine w_turn rfl ?_
        walk_at "go"
        refine ⟨small (by show 2 ≤ 100000; omega), ?_⟩
        intro u hu
        generalize hE : upd _ u _ = H8
        have nH8 := New.of hu hE
        clear hE
        have uC : u ≠ C := (nH8.apart hC7).symm
        have Cd : C ≠ d := hd6.ne hC
        have P8 : ∀ {x : V} {b : Str}, PairAt K H7 l x s b → PairAt K (upd H8 C (.lst (ys ++ [.ref u]))) l x s b := by
          rintro x b ⟨t, rfl, ht, r⟩
          refine ⟨t, rfl, ?_, r⟩
          rw [upd_ne (fun e => by rw [e, hC7] at ht; cases ht)]
          exact nH8.keep ht
        have new8 : PairAt K (upd H8 C (.lst (ys ++ [.ref u]))) l (.ref u) s b :=
          ⟨u, rfl, by rw [upd_ne uC]; exact nH8.here, List.mem_of_getElem? hs, List.mem_of_getElem? hb', nm.lt hs hb' (by omega)⟩
        refine ⟨ys, nH8.keep hC7, smallS (by omega), ys ++ [.ref u], upd_same, by simp, (nH8.go g7).put hC, (nH8.drw hd7).put Cd.symm, ?_, ?_⟩
        · intro k b2 hk hb2
          by_cases e : k = ys.length
          · subst e
            rw [hb] at hb2
            cases hb2
            exact ⟨_, by simp, new8⟩
          · obtain ⟨x, hx, hp⟩ := hc7 k b2 (by omega) hb2
            exact ⟨x, List.mem_append_left _ hx, P8 hp⟩
        · intro x hx
          rcases List.mem_append.mp hx with hx | hx
          · obtain ⟨b, hb⟩ := hy7 x hx
            exact ⟨b, P8 hb⟩
          · rw [List.mem_singleton.mp hx]
            exact ⟨b, new8⟩
      · rintro C H7 hC ⟨ys, hC7, hl7, g7, hd7, hc7, hy7⟩
        have ly : ys.length ≤ 12 := by rw [hl7, List.length_map, List.length_drop]; omega
        walk_at "go"
        have g47 : Go d H4 H7 := (nH6.go nH5.go1).trans g7
        refine w_cat (g47 e' _ ed' he4) hC7 (by omega) ?_
        intro e2 he2
        generalize hE : upd _ e2 _ = H8
        have nH8 := New.of he2 hE
        clear hE
        walk_at "go"
        refine ⟨e2, xs ++ ys, _, _, _, hd7.ne nH8.free, ?_, nH8.here, by rw [List.length_append]; omega, ?_, ?_, nH8.go (g4.trans g47), nH8.drw hd7, rfl⟩
        · cases q : H e2 with
          | none => rfl
          | some u =>
            have := (g4.trans g47) e2 u (hd7.ne nH8.free) q
            rw [nH8.free] at this
            cases this
        · intro x hx
          rcases List.mem_append.mp hx with hx | hx
          · obtain ⟨a, b, h⟩ := hx4 x hx
            exact ⟨a, b, (h.go g47 hd4).go nH8.go1 hd7⟩
          · obtain ⟨b, h⟩ := hy7 x hx
            exact ⟨s, b, h.go nH8.go1 hd7⟩
        · intro j k a b hj hjk ha hb
          by_cases e : j = i
          · subst e
            rw [hs] at ha
            cases ha
            have kl : k < l.length := (List.getElem?_eq_some_iff.mp hb).1
            obtain ⟨x, hx, hp⟩ := hc7 (k - (j + 1)) b (by rw [List.length_map, List.length_drop]; omega) (by rw [List.getElem?_drop, show j + 1 + (k - (j + 1)) = k by omega]; exact hb)
            exact ⟨x, List.mem_append_right _ hx, hp.go nH8.go1 hd7⟩
          · obtain ⟨x, hx, hp⟩ := hc4 j k a b (by omega) hjk ha hb
            exact ⟨x, List.mem_append_left _ hx, (hp.go g47 hd4).go nH8.go1 hd7⟩
    · rintro σ' H4 ⟨e', xs, x4, x5, x7, ed', he0, he4, hl4, hx4, hc4, g4, hd4, rfl⟩
      rw [List.length_map] at hl4 hc4
      walk_at "go"
      have l0 : l[0]? = some (l[0]'(by omega)) := List.getElem?_eq_getElem (by omega)
      have l1 : l[1]? = some (l[1]'(by omega)) := List.getElem?_eq_getElem (by omega)
      have xne : xs ≠ [] := by
        obtain ⟨x, hx, _⟩ := hc4 0 1 _ _ (by omega) (by omega) l0 l1
        exact fun e => by rw [e] at hx; cases hx
      have xlen : xs.length ≤ 1000 := by omega
      refine w_bool (fun _ => ?_) (fun _ => ?_)
      · walk_at "go"
        exact q e' xs H4 g4 (hd4.le (by omega)) he4 he0 xne xlen hx4
      · walk_at "go"
        refine w_len (.inl ⟨_, SqL.of (g4 a _ ad ha), rfl⟩) ?_
        walk_at "go"
        refine w_bool (fun _ => ?_) (fun _ => ?_)
        · walk_at "go"
          exact q e' xs H4 g4 (hd4.le (by omega)) he4 he0 xne xlen hx4
        · walk_at "go"
          refine w_bool (fun _ => ?_) (fun _ => ?_)
          · walk_at "go"
            refine w_r1 (m := 3) (by omega) ?_
            refine lcR (fun C i H' => ∃ ys : List V, H' C = some (.lst ys) ∧ ys.length = i ∧ (∀ y ∈ ys, y ∈ xs) ∧ Go d H4 H' ∧ Drw H' d (n + 1 + i)) ?_ ?_ ?_
            · intro C hC
              exact ⟨[], upd_same, rfl, fun y h => absurd h (by simp), (Go.refl d H4).put hC, hd4.new hC⟩
            · rintro C i H5 hC hi ⟨ys, hC5, rfl, hy5, g5, hd5⟩
              refine w_turn rfl ?_
              walk_at "go"
              refine pick_l hd5 (by omega) (SqL.of (g5 e' _ ed' he4)) ed' (List.length_pos_iff.mpr xne) (by omega) fun v H6 hv b6 hd6 => ?_
              have Cd : C ≠ d := hd4.ne hC
              refine ⟨ys, b6.keep hC5 Cd, smallS (by omega), ys ++ [v], upd_same, by simp, fun y hy => ?_, (g5.bt b6).put hC, hd6.put Cd.symm⟩
              rcases List.mem_append.mp hy with hy | hy
              · exact hy5 y hy
              · rw [List.mem_singleton.mp hy]
                exact hv
            · rintro C H5 hC ⟨ys, hC5, hl5, hy5, g5, hd5⟩
              refine q C ys H5 (g4.trans g5) (hd5.le (by omega)) hC5 (g4.back hd4 hC) (fun e => by rw [e] at hl5; cases hl5) (by omega) fun x hx => ?_
              obtain ⟨a, b, h⟩ := hx4 x (hy5 x hx)
              exact ⟨a, b, h.go g5 hd4⟩
          · walk_at "go"
            refine w_bool (fun _ => ?_) (fun _ => ?_)
            · walk_at "go"
              refine pick_l hd4 (by omega) (SqL.of (g4 a _ ad ha)) ad (by rw [List.length_map]; omega) (by rw [List.length_map]; omega) fun v H5 hv b5 hd5 => ?_
              obtain ⟨s1, hs1, rfl⟩ := List.mem_map.mp hv
              walk_at "go"
              refine pick_l hd5 (by omega) (SqL.of (b5.keep (g4 a _ ad ha) ad)) ad (by rw [List.length_map]; omega) (by rw [List.length_map]; omega) fun v H6 hv b6 hd6 => ?_
              obtain ⟨s2, hs2, rfl⟩ := List.mem_map.mp hv
              walk_at "go"
              refine ⟨small (by show 2 ≤ 100000; omega), ?_⟩
              intro o ho
              generalize hE : upd _ o _ = H7
              have nH7 : New _ o (.lst ([s1, s2].map V.str)) H7 := New.of ho hE
              clear hE
              have hd7 := nH7.drw hd6
              have od : o ≠ d := hd6.ne nH7.free
              have g7 : Go d H4 H7 := nH7.go (b5.go.trans b6.go)
              have he7 := g7 e' _ ed' he4
              walk_at "go"
              refine w_l1 (SqL.of he7) ?_
              refine lcL (xs := xs) (fun C i H' => Go d H7 H' ∧ Drw H' d (n + 3) ∧ ∃ ys : List V, H' C = some (.lst ys) ∧ ys.length ≤ i ∧ (∀ y ∈ ys, y ∈ xs) ∧
                ∀ j x, j < i → xs[j]? = some x → (∃ b, PairAt K H4 l x s1 b ∨ PairAt K H4 l x b s1) → x ∈ ys) ?_ ?_ ?_ ?_
              · intro C hC
                exact ⟨(Go.refl d H7).put hC, hd7.new hC, [], upd_same, Nat.le_refl _, fun y h => absurd h (by simp), fun j x h => absurd h (by omega)⟩
              · rintro C i H8 hC _ ⟨g8, _⟩
                exact SqL.of (g8 e' _ ed' he7)
              · rintro C i x H8 hC hx ⟨g8, hd8, ys, hC8, hl8, hy8, hc8⟩
                have il : i < xs.length := (List.getElem?_eq_some_iff.mp hx).1
                obtain ⟨u1, u2, hp⟩ := hx4 x (List.mem_of_getElem? hx)
                obtain ⟨t, rfl, ht, ru⟩ := hp
                have td : t ≠ d := fun e => by
                  obtain ⟨x, y, z, h, _⟩ := hd4
                  rw [e, h] at ht
                  cases ht
                have ht8 := SqT.of (K := K) (g8 t _ td (g7 t _ td ht))
                have ho8 := SqL.of (K := K) (g8 o _ od nH7.here)
                have Cd : C ≠ d := hd7.ne hC
                have only : ∀ {b : Str}, PairAt K H4 l (.ref t) s1 b ∨ PairAt K H4 l (.ref t) b s1 → u1 ∈ [s1, s2] ∨ u2 ∈ [s1, s2] := by
                  rintro b (⟨t', e, ht', _⟩ | ⟨t', e, ht', _⟩)
                  · cases e
                    rw [ht] at ht'
                    cases ht'
                    exact .inl (by simp)
                  · cases e
                    rw [ht] at ht'
                    cases ht'
                    exact .inr (by simp)
                have yes : ∀ H9, H9 = H8 → (∃ acc, H9 C = some (.lst acc) ∧ acc.length < sizeLine ∧ (Go d H7 (upd H9 C (.lst (acc ++ [.ref t]))) ∧ Drw (upd H9 C (.lst (acc ++ [.ref t]))) d (n + 3) ∧ ∃ ys : List V, (upd H9 C (.lst (acc ++ [.ref t]))) C = some (.lst ys) ∧ ys.length ≤ i + 1 ∧ (∀ y ∈ ys, y ∈ xs) ∧
                    ∀ j x, j < i + 1 → xs[j]? = some x → (∃ b, PairAt K H4 l x s1 b ∨ PairAt K H4 l x b s1) → x ∈ ys)) := by
                  rintro H9 rfl
                  refine ⟨ys, hC8, smallS (by omega), g8.put hC, hd8.put Cd.symm, ys ++ [.ref t], upd_same, by simp; omega, fun y hy => ?_, fun j x hj hxj hb => ?_⟩
                  · rcases List.mem_append.mp hy with hy | hy
                    · exact hy8 y hy
                    · rw [List.mem_singleton.mp hy]
                      exact List.mem_of_getElem? hx
                  · by_cases e : j = i
                    · subst e
                      rw [hx] at hxj
                      cases hxj
                      simp
                    · exact List.mem_append_left _ (hc8 j x (by omega) hxj hb)
                refine w_turn rfl ?_
                walk_at "go"
                refine w_ixT ht8 (atI_of (i := 0) rfl) ?_
                walk_at "go"
                refine w_inS ho8 ?_
                walk_at "go"
                refine w_dec (fun h1 => ?_) (fun h1 => ?_)
                · walk_at "go"
                  exact yes H8 rfl
                · walk_at "go"
                  refine w_ixT ht8 (atI_of (i := 1) rfl) ?_
                  walk_at "go"
                  refine w_inS ho8 ?_
                  walk_at "go"
                  refine w_dec (fun h2 => ?_) (fun h2 => ?_)
                  · walk_at "go"
                    exact yes H8 rfl
                  · refine ⟨g8, hd8, ys, hC8, by omega, hy8, fun j x hj hxj hb => ?_⟩
                    by_cases e : j = i
                    · subst e
                      rw [hx] at hxj
                      cases hxj
                      obtain ⟨b, hb⟩ := hb
                      rcases only hb with h | h
                      · exact (h1 h).elim
                      · exact (h2 h).elim
                    · exact hc8 j x (by omega) hxj hb
              · rintro C H8 hC ⟨g8, hd8, ys, hC8, hl8, hy8, hc8⟩
                have g48 : Go d H4 H8 := g7.trans g8
                refine q C ys H8 (g4.trans g48) (hd8.le (by omega)) hC8 (g4.back hd4 (g7.back hd7 hC)) ?_ (by omega) fun x hx => ?_
                · have some1 : ∃ x ∈ xs, ∃ b, PairAt K H4 l x s1 b ∨ PairAt K H4 l x b s1 := by
                    obtain ⟨j, hj, ej⟩ := List.mem_iff_getElem.mp hs1
                    have hj' : l[j]? = some s1 := by rw [List.getElem?_eq_getElem hj, ej]
                    by_cases h0 : j = 0
                    · subst h0
                      obtain ⟨x, hx, hp⟩ := hc4 0 1 _ _ (by omega) (by omega) hj' l1
                      exact ⟨x, hx, _, .inl hp⟩
                    · obtain ⟨x, hx, hp⟩ := hc4 0 j _ _ (by omega) (by omega) l0 hj'
                      exact ⟨x, hx, _, .inr hp⟩
                  obtain ⟨x, hx, hb⟩ := some1
                  obtain ⟨j, hj, ej⟩ := List.mem_iff_getElem.mp hx
                  have := hc8 j x hj (by rw [List.getElem?_eq_getElem hj, ej]) hb
                  exact fun e => by rw [e] at this; cases this
                · obtain ⟨a, b, h⟩ := hx4 x (hy8 x hx)
                  exact ⟨a, b, h.go g48 hd4⟩
            · walk_at "go"
              refine w_slL (SqL.of (g4 a _ ad ha)) ?_
              rw [cut_one, ← List.map_drop]
              intro c hc
              generalize hE : upd _ c _ = H5
              have nH5 := New.of hc hE
              clear hE
              walk_at "go"
              refine ⟨a, c, _, _, rfl, SqL.of (nH5.keep (g4 a _ ad ha)), SqL.of nH5.here, fun p ts H6 e6 hp hp6 hl6 ht6 => ?_⟩
              have g6 : Go d H4 H6 := fun a o _ h => e6 a o (nH5.keep h)
              rw [List.length_map, List.length_map, List.length_drop] at hl6
              refine q p _ H6 (g4.trans g6) ((hd4.ex nH5.ex).ex e6 |>.le (by omega)) hp6 (g4.back hd4 (nH5.back hp)) ?_ (by rw [List.length_map]; omega) fun x hx => ?_
              · intro e
                have := congrArg List.length e
                rw [List.length_map] at this
                simp at this
                rw [this] at hl6
                simp at hl6
                omega
              · obtain ⟨t, ht, rfl⟩ := List.mem_map.mp hx
                obtain ⟨i, hi, ei⟩ := List.mem_iff_getElem.mp ht
                obtain ⟨x, y, hx, hy, h6⟩ := ht6 i t (by rw [List.getElem?_eq_getElem hi, ei])
                rw [List.getElem?_map] at hx hy
                rw [List.getElem?_drop] at hy
                cases e1 : l[i]? with
                | none => rw [e1] at hx; cases hx
                | some s =>
                  cases e2 : l[1 + i]? with
                  | none => rw [e2] at hy; cases hy
                  | some u =>
                    rw [e1] at hx
                    rw [e2] at hy
                    cases hx
                    cases hy
                    exact ⟨s, u, t, rfl, h6, List.mem_of_getElem? e1, List.mem_of_getElem? e2, nm.lt e1 e2 (by omega)⟩
end
end Fk
namespace Fk
open PySem PySem.Spec PyProof.Rows L2
local macro_rules | `(tactic| walk_at "fk") => `(tactic| first
  | with_reducible refine w_seq ?_ | with_reducible refine w_set ?_ | with_reducible refine w_asg ?_ | with_reducible refine w_drop ?_ | with_reducible refine w_ret ?_ | with_reducible refine w_if ?_
  | with_reducible refine w_op ?_ | with_reducible refine w_un ?_ | with_reducible refine w_c ?_ | ((with_reducible apply w_var); rfl)
  | with_reducible refine w_test ?_ | with_reducible refine w_B ?_ | with_reducible refine w_exb ?_ | with_reducible refine w_exi ?_ | with_reducible refine w_I0 ?_ | with_reducible refine w_U ?_
  | with_reducible refine w_nil ?_ | with_reducible refine w_cons ?_ | with_reducible refine w_call ?_ | with_reducible refine w_cb ?_ | with_reducible refine w_tup ?_ | with_reducible refine w_lst ?_
  | with_reducible refine w_and ?_ | with_reducible refine w_or ?_ | with_reducible refine w_not ?_ | with_reducible refine w_andV ?_ | with_reducible refine w_orV ?_ | with_reducible refine w_notV ?_
  | with_reducible refine w_ifE ?_ | with_reducible refine w_chain ?_ | with_reducible refine w_for ?_ | with_reducible refine w_lc ?_ | with_reducible refine w_yes ?_ | with_reducible refine w_iR1 ?_ | with_reducible refine w_iL ?_ | with_reducible refine w_iT ?_ | with_reducible refine w_iE ?_ | with_reducible refine w_iZ ?_ | with_reducible refine w_iS ?_ | with_reducible refine w_s1 ?_ | with_reducible refine w_m1 ?_ | with_reducible refine w_m0 ?_ | with_reducible refine w_estr ?_ | with_reducible refine w_lz ?_ | with_reducible refine w_ss ?_ | with_reducible refine w_revL ?_ | with_reducible refine w_dc ?_ | with_reducible refine w_c2 ?_ | with_reducible refine w_c2D ?_ | with_reducible refine w_iIT ?_ | with_reducible refine w_ddelT ?_ | with_reducible refine w_dsetd ?_ | with_reducible refine w_dget1 ?_ | with_reducible refine w_iI ?_ | with_reducible refine w_iES ?_ | with_reducible refine w_dget ?_ | with_reducible refine w_dget2 ?_ | with_reducible refine w_dput ?_ | with_reducible refine w_callN ?_ | with_reducible refine w_callD ?_ | with_reducible refine w_dnew ?_ | with_reducible refine w_dnewT ?_ | with_reducible refine w_revT ?_ | with_reducible refine w_leS ?_ | with_reducible refine w_ltS ?_ | with_reducible refine w_inSg ?_ | with_reducible refine w_notInSg ?_ | with_reducible refine iteT ?_ | with_reducible refine iteF ?_ | with_reducible refine w_par ?_ | with_reducible refine w_par3 ?_ | with_reducible refine w_three ?_ | with_reducible refine w_two ?_ | with_reducible refine w_gname ?_ | with_reducible refine w_gcons ?_ | with_reducible refine w_gnil ?_ | ((with_reducible apply w_gtup); (with_reducible assumption); rfl) | with_reducible refine w_gsub ?_
  | with_reducible refine w_bm0 ?_ | with_reducible refine w_iK ?_ | with_reducible refine w_iQ ?_ | with_reducible refine w_c1 ?_ | with_reducible refine iteNT ?_ | with_reducible refine iteNF ?_ | with_reducible refine w_tru ?_ | with_reducible refine w_dnin ?_ | with_reducible refine w_dgetN ?_
  | with_reducible refine w_bm ?_ | with_reducible refine w_sl ?_ | with_reducible refine w_noP ?_ | with_reducible refine w_part ?_ | with_reducible refine w_next ?_ | with_reducible refine w_retN ?_
  | ((with_reducible refine w_I ?hk ?_); (case hk => (first | (show (0 : Int) < _; omega) | exact ⟨by omega, by omega⟩ | exact .inl ⟨by omega, by omega⟩ | exact .inr ⟨by omega, by omega⟩ | exact cpow_small (by decide) (by decide) (by decide))))
  | ((with_reducible apply w_eq); rfl) | ((with_reducible apply w_ne); rfl)
  | ((with_reducible apply w_ixL); (with_reducible assumption); rfl)
  | ((with_reducible apply w_setL); (with_reducible assumption); rfl))
local macro_rules | `(tactic| walk_at "go") => `(tactic| repeat walk_at "fk")

/-- a link between places of l -/
structure LinkAt (H : Hp) (l : List Str) (t : Addr) (c m : Int) (a b : Str) : Prop where
  here : H t = some (.tup [.int c, .int m, .str a, .str b])
  c0 : 0 ≤ c
  c1 : c ≤ 1000000
  m0 : 0 ≤ m
  m1 : m ≤ 1000000
  ia : a ∈ l
  ib : b ∈ l
  lt : Lts a b
theorem cost_of {r : Int} {v : V} (r0 : 0 ≤ r) (r1 : r < 10 ^ Int.toNat 6 + 1) (h : v ∈ [V.int 0, .int 1, .int 2, .int 3, .int (10 ^ Int.toNat 6), .int r]) : ∃ c, v = .int c ∧ 0 ≤ c ∧ c ≤ 1000000 := by
  have e : (10 : Int) ^ Int.toNat 6 = 1000000 := by decide
  rw [e] at h r1
  simp only [List.mem_cons, List.not_mem_nil, or_false] at h
  rcases h with rfl | rfl | rfl | rfl | rfl | rfl
  all_goals exact ⟨_, rfl, by omega, by omega⟩
theorem mark_of {r : Int} {v : V} (r0 : 0 ≤ r) (r1 : r < 10 ^ Int.toNat 6 + 1) (h : v ∈ [V.int 0, .int 1, .int 2, .int r]) : ∃ c, v = .int c ∧ 0 ≤ c ∧ c ≤ 1000000 := by
  have e : (10 : Int) ^ Int.toNat 6 = 1000000 := by decide
  rw [e] at r1
  simp only [List.mem_cons, List.not_mem_nil, or_false] at h
  rcases h with rfl | rfl | rfl | rfl
  all_goals exact ⟨_, rfl, by omega, by omega⟩
section
variable {P : Program} {w : World} {K : PySem.W.Frag} {mg : Str → Option Value} {base : Heap}
def spLink (K : PySem.W.Frag) : Sp := fun vs H Q _ => ∃ (d a : Addr) (n : Nat) (l : List Str) (xs : List V), vs = [.ref d, .ref a] ∧ H a = some (.lst xs) ∧ a ≠ d ∧ xs ≠ [] ∧ xs.length ≤ 1000 ∧ (∀ x ∈ xs, ∃ a b, PairAt K H l x a b) ∧ Drw H d n ∧ n + 5 ≤ 100000 ∧
  ∀ (t : Addr) (c m : Int) (a b : Str) (H' : Hp), Go d H H' → Drw H' d (n + 5) → H t = none → LinkAt H' l t c m a b → Q (.ref t) H'
theorem ok_link {f : Addr} {fd : FuncData} (F : Fun K "_law_link" "_law_link" s_law_link f fd) (T : Txt mg) (C_law_next : Cal P w K mg base 1 "_law_next" ["draw", "size"] spNext)
    (C_law_pick : Cal P w K mg base 2 "_law_pick" ["draw", "some"] (spPick K)) : FnOk P w K mg base CX0 3 f fd ["draw", "pairs"] (spLink K) := by
  refine F.ok sc_law_link (fun vs H Q E h => ?_) (fun cdv A outer s H vs Q E hr h => ?_)
  · obtain ⟨d, a, n, l, xs, rfl, _⟩ := h
    rfl
  · obtain ⟨d, a, n, l, xs, rfl, ha, ad, xne, xl, hx, hd, hn, q⟩ := h
    refine ⟨_, (pss_cons (ps_asg (pc C_law_pick (hr.mono (by decide)) (by rfl) (pa_cons (pv 0) (pa_cons (pv 1) pa_nil))) (ktup K (n := 2) rfl (pgs_cons (pg_name (i := 2) sc_law_link.nd rfl (.inl rfl)) (pgs_cons (pg_name (i := 3) sc_law_link.nd rfl (.inl rfl)) pgs_nil))))
      (pss_cons (ps_set (i := 4) sc_law_link.nd rfl (.inl rfl) (pc C_law_pick (hr.mono (by decide)) (by rfl) (pa_cons (pv 0) (pa_cons (pe_lst (pa_cons pe_int (pa_cons pe_int (pa_cons pe_int (pa_cons pe_int (pa_cons (pe_op op_powN pe_int pe_int) (pa_cons (pc C_law_next (hr.mono (by decide)) (by rfl) (pa_cons (pv 0) (pa_cons (pe_op op_add (pe_op op_powN pe_int pe_int) pe_int) pa_nil))) pa_nil))))))) pa_nil))))
      (pss_one (ps_ret (pe_tup (pa_cons (pv 4) (pa_cons (pc C_law_pick (hr.mono (by decide)) (by rfl) (pa_cons (pv 0) (pa_cons (pe_lst (pa_cons pe_int (pa_cons pe_int (pa_cons pe_int (pa_cons (pc C_law_next (hr.mono (by decide)) (by rfl) (pa_cons (pv 0) (pa_cons (pe_op op_add (pe_op op_powN pe_int pe_int) pe_int) pa_nil))) pa_nil))))) pa_nil))) (pa_cons (pv 2) (pa_cons (pv 3) pa_nil))))))))), ?_⟩
    refine w_from [some (.ref d), some (.ref a), none, none, none] ?_
    try dsimp only [cxOf]
    walk_at "go"
    refine pick_l hd (by omega) (SqL.of ha) ad (List.length_pos_iff.mpr xne) (by omega) fun v H1 hv b1 hd1 => ?_
    obtain ⟨pa, pb, t, rfl, ht, ia, ib, lt⟩ := hx v hv
    have td : t ≠ d := fun e => by
      obtain ⟨x, y, z, h, _⟩ := hd
      rw [e, h] at ht
      cases ht
    have ht1 := SqT.of (K := K) (b1.keep ht td)
    walk_at "go"
    refine next_i hd1 (by omega) (by decide) (by decide) fun r H2 r0 r1 b2 hd2 => ?_
    walk_at "go"
    refine ⟨small (by show 6 ≤ 100000; omega), ?_⟩
    intro o ho
    generalize hE : upd _ o _ = H3
    have nH3 := New.of ho hE
    clear hE
    walk_at "go"
    have g3 : Go d H H3 := nH3.go ((b1.go.bt b2))
    have hd3 := nH3.drw hd2
    refine pick_l hd3 (by omega) (SqL.of nH3.here) (hd2.ne nH3.free) (by show 0 < 6; omega) (by show 6 ≤ 100000; omega) fun v H4 hv b4 hd4 => ?_
    obtain ⟨c, rfl, c0, c1⟩ := cost_of r0 r1 hv
    walk_at "go"
    refine next_i hd4 (by omega) (by decide) (by decide) fun r2 H5 r20 r21 b5 hd5 => ?_
    walk_at "go"
    refine ⟨small (by show 4 ≤ 100000; omega), ?_⟩
    intro o2 ho2
    generalize hE : upd _ o2 _ = H6
    have nH6 := New.of ho2 hE
    clear hE
    walk_at "go"
    have hd6 := nH6.drw hd5
    refine pick_l hd6 (by omega) (SqL.of nH6.here) (hd5.ne nH6.free) (by show 0 < 4; omega) (by show 4 ≤ 100000; omega) fun v H7 hv b7 hd7 => ?_
    obtain ⟨m, rfl, m0, m1⟩ := mark_of r20 r21 hv
    walk_at "go"
    refine ⟨small (by show 4 ≤ 100000; omega), ?_⟩
    intro u hu
    generalize hE : upd _ u _ = H8
    have nH8 := New.of hu hE
    clear hE
    have g7 : Go d H H7 := (nH6.go ((g3.bt b4).bt b5)).bt b7
    exact q u c m pa pb H8 (nH8.go g7) (nH8.drw hd7) (g7.back hd7 nH8.free) ⟨nH8.here, c0, c1, m0, m1, ia, ib, lt⟩
end
end Fk
namespace Fk
open PySem PySem.Spec PyProof.Rows L2
local macro_rules | `(tactic| walk_at "fk") => `(tactic| first
  | with_reducible refine w_seq ?_ | with_reducible refine w_set ?_ | with_reducible refine w_asg ?_ | with_reducible refine w_drop ?_ | with_reducible refine w_ret ?_ | with_reducible refine w_if ?_
  | with_reducible refine w_op ?_ | with_reducible refine w_un ?_ | with_reducible refine w_c ?_ | ((with_reducible apply w_var); rfl)
  | with_reducible refine w_test ?_ | with_reducible refine w_B ?_ | with_reducible refine w_exb ?_ | with_reducible refine w_exi ?_ | with_reducible refine w_I0 ?_ | with_reducible refine w_U ?_
  | with_reducible refine w_nil ?_ | with_reducible refine w_cons ?_ | with_reducible refine w_call ?_ | with_reducible refine w_cb ?_ | with_reducible refine w_tup ?_ | with_reducible refine w_lst ?_
  | with_reducible refine w_and ?_ | with_reducible refine w_or ?_ | with_reducible refine w_not ?_ | with_reducible refine w_andV ?_ | with_reducible refine w_orV ?_ | with_reducible refine w_notV ?_
  | with_reducible refine w_ifE ?_ | with_reducible refine w_chain ?_ | with_reducible refine w_for ?_ | with_reducible refine w_lc ?_ | with_reducible refine w_yes ?_ | with_reducible refine w_iR1 ?_ | with_reducible refine w_iL ?_ | with_reducible refine w_iT ?_ | with_reducible refine w_iE ?_ | with_reducible refine w_iZ ?_ | with_reducible refine w_iS ?_ | with_reducible refine w_s1 ?_ | with_reducible refine w_m1 ?_ | with_reducible refine w_m0 ?_ | with_reducible refine w_estr ?_ | with_reducible refine w_lz ?_ | with_reducible refine w_ss ?_ | with_reducible refine w_revL ?_ | with_reducible refine w_dc ?_ | with_reducible refine w_c2 ?_ | with_reducible refine w_c2D ?_ | with_reducible refine w_iIT ?_ | with_reducible refine w_ddelT ?_ | with_reducible refine w_dsetd ?_ | with_reducible refine w_dget1 ?_ | with_reducible refine w_iI ?_ | with_reducible refine w_iES ?_ | with_reducible refine w_dget ?_ | with_reducible refine w_dget2 ?_ | with_reducible refine w_dput ?_ | with_reducible refine w_callN ?_ | with_reducible refine w_callD ?_ | with_reducible refine w_dnew ?_ | with_reducible refine w_dnewT ?_ | with_reducible refine w_revT ?_ | with_reducible refine w_leS ?_ | with_reducible refine w_ltS ?_ | with_reducible refine w_inSg ?_ | with_reducible refine w_notInSg ?_ | with_reducible refine iteT ?_ | with_reducible refine iteF ?_ | with_reducible refine w_par ?_ | with_reducible refine w_par3 ?_ | with_reducible refine w_three ?_ | with_reducible refine w_two ?_ | with_reducible refine w_gname ?_ | with_reducible refine w_gcons ?_ | with_reducible refine w_gnil ?_ | ((with_reducible apply w_gtup); (with_reducible assumption); rfl) | with_reducible refine w_gsub ?_
  | with_reducible refine w_bm0 ?_ | with_reducible refine w_iK ?_ | with_reducible refine w_iQ ?_ | with_reducible refine w_c1 ?_ | with_reducible refine iteNT ?_ | with_reducible refine iteNF ?_ | with_reducible refine w_tru ?_ | with_reducible refine w_dnin ?_ | with_reducible refine w_dgetN ?_
  | with_reducible refine w_bm ?_ | with_reducible refine w_sl ?_ | with_reducible refine w_noP ?_ | with_reducible refine w_part ?_ | with_reducible refine w_next ?_ | with_reducible refine w_retN ?_
  | ((with_reducible refine w_I ?hk ?_); (case hk => (first | (show (0 : Int) < _; omega) | exact ⟨by omega, by omega⟩ | exact .inl ⟨by omega, by omega⟩ | exact .inr ⟨by omega, by omega⟩ | exact cpow_small (by decide) (by decide) (by decide))))
  | ((with_reducible apply w_eq); rfl) | ((with_reducible apply w_ne); rfl)
  | ((with_reducible apply w_ixL); (with_reducible assumption); rfl)
  | ((with_reducible apply w_setL); (with_reducible assumption); rfl))
local macro_rules | `(tactic| walk_at "go") => `(tactic| repeat walk_at "fk")

section
variable {P : Program} {w : World} {K : PySem.W.Frag} {mg : Str → Option Value} {base : Heap}
def spPlace : Sp := fun vs H Q _ => ∃ x : V, vs = [x] ∧ Kd H x ∧ ∀ H', Evl.Ex H H' → Q (.bl (plV x)) H'
def spNumber : Sp := fun vs H Q _ => ∃ (x : V) (m : Int), vs = [x, .int m] ∧ Kd H x ∧ ∀ H', Evl.Ex H H' → Q (.bl (numV m x)) H'
def spIsLink : Sp := fun vs H Q _ => ∃ x : V, vs = [x] ∧ Kd H x ∧ ∀ H', Evl.Ex H H' → Q (.bl (linkV H x)) H'
theorem ok_is_place {f : Addr} {fd : FuncData} (F : Fun K "is_place" "is_place" s_is_place f fd) (T : Txt mg) : FnOk P w K mg base CX0 1 f fd ["thing"] spPlace := by
  obtain ⟨_, gMOST_SIGNS⟩ := T.MOST_SIGNS_
  refine F.ok sc_is_place (fun vs H Q E h => ?_) (fun cdv A outer s H vs Q E hr h => ?_)
  · obtain ⟨x, rfl, _⟩ := h
    rfl
  · obtain ⟨x, rfl, hx, q⟩ := h
    refine ⟨_, (pss_cons (ps_if (PW.pt (pw_or (pt_not (pt_val (pe_callB (kisi K) (by rfl) T.isinstance_ (by decide +kernel) (pa_cons (pv 0) (pa_cons (pe_bltn (v := .ty "str") (by rfl) T.str_ (by decide +kernel) rfl) pa_nil))))) (pw_or1 (pt_not (pt_chain op_le op_le pe_int (pe_callB (klen K) (by rfl) T.len_ PySem.boot_len (pa_cons (pv 0) pa_nil)) (pe_glob (v := .int 6) rfl gMOST_SIGNS ⟨_, rfl⟩)))))) (pss_one (ps_ret pe_bl)) pss_nil)
      (pss_one (ps_ret (pe_callB (kall K rfl) (by rfl) T.all_ (by decide +kernel) (pa_cons (pe_lc (own := [("sign", 1)]) (g := gName 1) (by rfl) sc_is_place.nd (pi_str (pv 0)) (blkOk_by (own := [("sign", 1)]) (N := ["thing", "sign"]) (sc := defScope s_is_place) (by decide +kernel)) (fun _ _ _ _ _ => (pg_name (i := 1) sc_is_place.nd rfl (Or.inl rfl))) (fun _ _ _ _ _ => pts_nil) (fun _ _ _ _ _ => (pe_chain kLeS kLeS pe_str (pv 1) pe_str))) pa_nil))))), ?_⟩
    refine w_from [some x, none] ?_
    try dsimp only [cxOf]
    walk_at "go"
    refine w_isi hx (by decide) ?_
    walk_at "go"
    refine w_bool (fun h => ?_) (fun h => ?_)
    · walk_at "go"
      rw [Bool.not_eq_true'] at h
      have := q H (Evl.Ex.refl H)
      rw [hx.str_no h] at this
      exact this
    · rw [Bool.not_eq_false'] at h
      obtain ⟨z, rfl, hz, hz8⟩ := hx.str_of h
      walk_at "go"
      refine w_len ⟨small hz, rfl⟩ ?_
      walk_at "go"
      refine w_dec (fun h1 => ?_) (fun h1 => ?_)
      · walk_at "go"
        refine w_bool (fun h2 => ?_) (fun h2 => ?_)
        · walk_at "go"
          have e : plV (.str z) = false := by
            show decide (Place z) = false
            rw [decide_eq_false_iff_not]
            simp at h2
            exact fun hp => by have := hp.2.1; omega
          have := q H (Evl.Ex.refl H)
          rw [e] at this
          exact this
        · walk_at "go"
          simp at h2
          refine lcS (fun C i H' => Evl.Ex H H' ∧ H' C = some (.lst (((cL z).take i).map fun c => .bl (signB c)))) ?_ ?_ ?_
          · intro C hC
            exact ⟨Evl.Ex.new hC, upd_same⟩
          · rintro C i c H1 hC hc ⟨e1, hC1⟩
            refine w_turn rfl ?_
            walk_at "go"
            rw [le_a]
            refine w_dec (fun h3 => ?_) (fun h3 => ?_)
            · walk_at "go"
              rw [le_z]
              refine ⟨_, hC1, smallS (by rw [List.length_map, List.length_take, ← cL_len]; omega), Evl.Ex.mut e1 hC, ?_⟩
              rw [upd_same, List.take_add_one, hc, List.map_append]
              simp [signB, h3]
            · refine ⟨_, hC1, smallS (by rw [List.length_map, List.length_take, ← cL_len]; omega), Evl.Ex.mut e1 hC, ?_⟩
              rw [upd_same, List.take_add_one, hc, List.map_append]
              simp [signB, h3]
          · rintro C H1 hC ⟨e1, hC1⟩
            rw [List.take_length] at hC1
            walk_at "go"
            refine w_all (bs := (cL z).map signB) (SqL.of (by rw [hC1, List.map_map]; rfl)) ?_
            rw [all_signs]
            have e : plV (.str z) = decide (∀ c ∈ cL z, SignOk c) := by
              show decide (Place z) = _
              rw [decide_eq_decide]
              refine ⟨fun hp => hp.2.2, fun hp => ⟨by omega, by omega, hp⟩⟩
            have := q H1 e1
            rw [e] at this
            exact this
      · walk_at "go"
        have e : plV (.str z) = false := by
          show decide (Place z) = false
          rw [decide_eq_false_iff_not]
          exact fun hp => h1 (by have := hp.1; omega)
        have := q H (Evl.Ex.refl H)
        rw [e] at this
        exact this
theorem ok_is_number {f : Addr} {fd : FuncData} (F : Fun K "is_number" "is_number" s_is_number f fd) (T : Txt mg) : FnOk P w K mg base CX0 1 f fd ["thing", "most"] spNumber := by
  refine F.ok sc_is_number (fun vs H Q E h => ?_) (fun cdv A outer s H vs Q E hr h => ?_)
  · obtain ⟨x, m, rfl, _⟩ := h
    rfl
  · obtain ⟨x, m, rfl, hx, q⟩ := h
    refine ⟨_, (pss_one (ps_ret (pe_and (pe_callB (kisi K) (by rfl) T.isinstance_ (by decide +kernel) (pa_cons (pv 0) (pa_cons (pe_bltn (v := .ty "int") (by rfl) T.int_ (by decide +kernel) rfl) pa_nil))) (pe_and (pe_not (pe_callB (kisi K) (by rfl) T.isinstance_ (by decide +kernel) (pa_cons (pv 0) (pa_cons (pe_bltn (v := .ty "bool") (by rfl) T.bool_ (by decide +kernel) rfl) pa_nil)))) (pe_one (pe_chain op_le op_le pe_int (pv 0) (pv 1))))))), ?_⟩
    refine w_from [some x, some (.int m)] ?_
    try dsimp only [cxOf]
    walk_at "go"
    refine w_isi hx (by decide) ?_
    walk_at "go"
    refine w_bool (fun h => ?_) (fun h => ?_)
    · walk_at "go"
      refine w_isi hx (by decide) ?_
      walk_at "go"
      refine w_bool (fun h2 => ?_) (fun h2 => ?_)
      · rw [Bool.not_eq_true'] at h2
        obtain ⟨i, rfl⟩ := hx.int_of h h2
        walk_at "go"
        refine w_dec (fun h3 => ?_) (fun h3 => ?_)
        · walk_at "go"
          have := q H (Evl.Ex.refl H)
          rw [show numV m (.int i) = decide (i ≤ m) by simp [numV, h3]] at this
          exact this
        · have := q H (Evl.Ex.refl H)
          rw [show numV m (.int i) = false by simp [numV, h3]] at this
          exact this
      · rw [Bool.not_eq_false'] at h2
        have := q H (Evl.Ex.refl H)
        rw [hx.bool_no h2] at this
        exact this
    · have := q H (Evl.Ex.refl H)
      rw [hx.int_no h] at this
      exact this
end
end Fk
namespace Fk
open PySem PySem.Spec PyProof.Rows L2
local macro_rules | `(tactic| walk_at "fk") => `(tactic| first
  | with_reducible refine w_seq ?_ | with_reducible refine w_set ?_ | with_reducible refine w_asg ?_ | with_reducible refine w_drop ?_ | with_reducible refine w_ret ?_ | with_reducible refine w_if ?_
  | with_reducible refine w_op ?_ | with_reducible refine w_un ?_ | with_reducible refine w_c ?_ | ((with_reducible apply w_var); rfl)
  | with_reducible refine w_test ?_ | with_reducible refine w_B ?_ | with_reducible refine w_exb ?_ | with_reducible refine w_exi ?_ | with_reducible refine w_I0 ?_ | with_reducible refine w_U ?_
  | with_reducible refine w_nil ?_ | with_reducible refine w_cons ?_ | with_reducible refine w_call ?_ | with_reducible refine w_cb ?_ | with_reducible refine w_tup ?_ | with_reducible refine w_lst ?_
  | with_reducible refine w_and ?_ | with_reducible refine w_or ?_ | with_reducible refine w_not ?_ | with_reducible refine w_andV ?_ | with_reducible refine w_orV ?_ | with_reducible refine w_notV ?_
  | with_reducible refine w_ifE ?_ | with_reducible refine w_chain ?_ | with_reducible refine w_for ?_ | with_reducible refine w_lc ?_ | with_reducible refine w_yes ?_ | with_reducible refine w_iR1 ?_ | with_reducible refine w_iL ?_ | with_reducible refine w_iT ?_ | with_reducible refine w_iE ?_ | with_reducible refine w_iZ ?_ | with_reducible refine w_iS ?_ | with_reducible refine w_s1 ?_ | with_reducible refine w_m1 ?_ | with_reducible refine w_m0 ?_ | with_reducible refine w_estr ?_ | with_reducible refine w_lz ?_ | with_reducible refine w_ss ?_ | with_reducible refine w_revL ?_ | with_reducible refine w_dc ?_ | with_reducible refine w_c2 ?_ | with_reducible refine w_c2D ?_ | with_reducible refine w_iIT ?_ | with_reducible refine w_ddelT ?_ | with_reducible refine w_dsetd ?_ | with_reducible refine w_dget1 ?_ | with_reducible refine w_iI ?_ | with_reducible refine w_iES ?_ | with_reducible refine w_dget ?_ | with_reducible refine w_dget2 ?_ | with_reducible refine w_dput ?_ | with_reducible refine w_callN ?_ | with_reducible refine w_callD ?_ | with_reducible refine w_dnew ?_ | with_reducible refine w_dnewT ?_ | with_reducible refine w_revT ?_ | with_reducible refine w_leS ?_ | with_reducible refine w_ltS ?_ | with_reducible refine w_inSg ?_ | with_reducible refine w_notInSg ?_ | with_reducible refine iteT ?_ | with_reducible refine iteF ?_ | with_reducible refine w_par ?_ | with_reducible refine w_par3 ?_ | with_reducible refine w_three ?_ | with_reducible refine w_two ?_ | with_reducible refine w_gname ?_ | with_reducible refine w_gcons ?_ | with_reducible refine w_gnil ?_ | ((with_reducible apply w_gtup); (with_reducible assumption); rfl) | with_reducible refine w_gsub ?_
  | with_reducible refine w_bm0 ?_ | with_reducible refine w_iK ?_ | with_reducible refine w_iQ ?_ | with_reducible refine w_c1 ?_ | with_reducible refine iteNT ?_ | with_reducible refine iteNF ?_ | with_reducible refine w_tru ?_ | with_reducible refine w_dnin ?_ | with_reducible refine w_dgetN ?_
  | with_reducible refine w_bm ?_ | with_reducible refine w_sl ?_ | with_reducible refine w_noP ?_ | with_reducible refine w_part ?_ | with_reducible refine w_next ?_ | with_reducible refine w_retN ?_
  | ((with_reducible refine w_I ?hk ?_); (case hk => (first | (show (0 : Int) < _; omega) | exact ⟨by omega, by omega⟩ | exact .inl ⟨by omega, by omega⟩ | exact .inr ⟨by omega, by omega⟩ | exact cpow_small (by decide) (by decide) (by decide))))
  | ((with_reducible apply w_eq); rfl) | ((with_reducible apply w_ne); rfl)
  | ((with_reducible apply w_ixL); (with_reducible assumption); rfl)
  | ((with_reducible apply w_setL); (with_reducible assumption); rfl))
local macro_rules | `(tactic| walk_at "go") => `(tactic| repeat walk_at "fk")

theorem plV_str {x : V} (h : plV x = true) : ∃ z, x = .str z ∧ Place z := by
  cases x with
  | str z => exact ⟨z, rfl, of_decide_eq_true h⟩
  | _ => exact absurd (show false = true from h) (by decide)
theorem fourV_len {xs : List V} (h : xs.length ≠ 4) : fourV xs = false := by
  match xs, h with
  | [], _ => rfl
  | [_], _ => rfl
  | [_, _], _ => rfl
  | [_, _, _], _ => rfl
  | [_, _, _, _], h => exact absurd rfl h
  | _ :: _ :: _ :: _ :: _ :: _, _ => rfl
theorem four_of {xs : List V} (h : xs.length = 4) : ∃ a b c d, xs = [a, b, c, d] := by
  match xs, h with
  | [a, b, c, d], _ => exact ⟨a, b, c, d, rfl⟩
section
variable {P : Program} {w : World} {K : PySem.W.Frag} {mg : Str → Option Value} {base : Heap}
theorem ok_is_link {f : Addr} {fd : FuncData} (F : Fun K "is_link" "is_link" s_is_link f fd) (T : Txt mg) (C_is_place : Cal P w K mg base 1 "is_place" ["thing"] spPlace)
    (C_is_number : Cal P w K mg base 1 "is_number" ["thing", "most"] spNumber) : FnOk P w K mg base CX0 2 f fd ["thing"] spIsLink := by
  obtain ⟨_, gMOST_COST⟩ := T.MOST_COST_
  refine F.ok sc_is_link (fun vs H Q E h => ?_) (fun cdv A outer s H vs Q E hr h => ?_)
  · obtain ⟨x, rfl, _⟩ := h
    rfl
  · obtain ⟨x, rfl, hx, q⟩ := h
    refine ⟨_, (pss_cons (ps_if (PW.pt (pw_or (pt_not (pt_val (pe_callB (kisi K) (by rfl) T.isinstance_ (by decide +kernel) (pa_cons (pv 0) (pa_cons (pe_bltn (v := .ty "tuple") (by rfl) T.tuple_ (by decide +kernel) rfl) pa_nil))))) (pw_or1 (pt_cmpR op_ne (pe_callB (klen K) (by rfl) T.len_ PySem.boot_len (pa_cons (pv 0) pa_nil)) pe_int (nomark _))))) (pss_one (ps_ret pe_bl)) pss_nil)
      (pss_cons (ps_asg (pv 0) (ktup K (n := 4) rfl (pgs_cons (pg_name (i := 1) sc_is_link.nd rfl (.inl rfl)) (pgs_cons (pg_name (i := 2) sc_is_link.nd rfl (.inl rfl)) (pgs_cons (pg_name (i := 3) sc_is_link.nd rfl (.inl rfl)) (pgs_cons (pg_name (i := 4) sc_is_link.nd rfl (.inl rfl)) pgs_nil))))))
      (pss_cons (ps_if (PW.pt (pw_or (pt_not (pt_val (pc C_is_number hr (by rfl) (pa_cons (pv 1) (pa_cons (pe_glob (v := .int 1000000) rfl gMOST_COST ⟨_, rfl⟩) pa_nil))))) (pw_or1 (pt_not (pt_val (pc C_is_number hr (by rfl) (pa_cons (pv 2) (pa_cons (pe_glob (v := .int 1000000) rfl gMOST_COST ⟨_, rfl⟩) pa_nil)))))))) (pss_one (ps_ret pe_bl)) pss_nil)
      (pss_one (ps_ret (pe_and (pc C_is_place hr (by rfl) (pa_cons (pv 3) pa_nil)) (pe_and (pc C_is_place hr (by rfl) (pa_cons (pv 4) pa_nil)) (pe_one (pe_cmpR kLtS (pv 3) (pv 4) (nomark _)))))))))), ?_⟩
    refine w_from [some x, none, none, none, none] ?_
    try dsimp only [cxOf]
    walk_at "go"
    refine w_isi hx (by decide) ?_
    walk_at "go"
    refine w_bool (fun h => ?_) (fun h => ?_)
    · walk_at "go"
      rw [Bool.not_eq_true'] at h
      have := q H (Evl.Ex.refl H)
      rw [hx.tup_no h] at this
      exact this
    · rw [Bool.not_eq_false'] at h
      obtain ⟨a, xs, rfl, ha, hl, hy⟩ := hx.tup_of h
      have el := linkV_tup ha
      walk_at "go"
      refine w_len (.inr ⟨xs, SqT.of ha, rfl⟩) ?_
      walk_at "go"
      refine w_ndec (fun h1 => ?_) (fun h1 => ?_)
      · walk_at "go"
        have := q H (Evl.Ex.refl H)
        rw [el, fourV_len (fun e => h1 (by rw [e]; rfl))] at this
        exact this
      · have hx4 : xs.length = 4 := by
          have := V.int.inj h1
          omega
        obtain ⟨c, m, o, t, rfl⟩ := four_of hx4
        have hT := SqT.of (K := K) ha
        have hc : Kd H c := hy c (by simp)
        have hm : Kd H m := hy m (by simp)
        have ho : Kd H o := hy o (by simp)
        have ht : Kd H t := hy t (by simp)
        walk_at "go"
        refine ⟨c, 1000000, rfl, hc, fun H1 e1 => ?_⟩
        walk_at "go"
        refine w_bool (fun h2 => ?_) (fun h2 => ?_)
        · walk_at "go"
          rw [Bool.not_eq_true'] at h2
          have := q H1 e1
          rw [el, show fourV [c, m, o, t] = false by simp [fourV, h2]] at this
          exact this
        · rw [Bool.not_eq_false'] at h2
          walk_at "go"
          refine ⟨m, 1000000, rfl, hm.ex e1, fun H2 e2 => ?_⟩
          walk_at "go"
          have e12 := e1.trans e2
          refine w_bool (fun h3 => ?_) (fun h3 => ?_)
          · walk_at "go"
            rw [Bool.not_eq_true'] at h3
            have := q H2 e12
            rw [el, show fourV [c, m, o, t] = false by simp [fourV, h3]] at this
            exact this
          · rw [Bool.not_eq_false'] at h3
            walk_at "go"
            refine ⟨o, rfl, ho.ex e12, fun H3 e3 => ?_⟩
            walk_at "go"
            have e13 := e12.trans e3
            refine w_bool (fun h6 => ?_) (fun h6 => ?_)
            · walk_at "go"
              refine ⟨t, rfl, ht.ex e13, fun H4 e4 => ?_⟩
              walk_at "go"
              have e14 := e13.trans e4
              refine w_bool (fun h5 => ?_) (fun h5 => ?_)
              · obtain ⟨z1, rfl, _⟩ := plV_str h6
                obtain ⟨z2, rfl, _⟩ := plV_str h5
                walk_at "go"
                have := q H4 e14
                rw [el, show fourV [c, m, .str z1, .str z2] = decide (cL z1 < cL z2) by simp [fourV, h2, h3, h6, h5, ltV, Lts]; exact decide_eq_decide.mpr Iff.rfl] at this
                exact this
              · have := q H4 e14
                rw [el, show fourV [c, m, o, t] = false by simp [fourV, h5]] at this
                exact this
            · have := q H3 e13
              rw [el, show fourV [c, m, o, t] = false by simp [fourV, h6]] at this
              exact this
end
end Fk
namespace Fk
open PySem PySem.Spec PyProof.Rows L2
local macro_rules | `(tactic| walk_at "fk") => `(tactic| first
  | with_reducible refine w_seq ?_ | with_reducible refine w_set ?_ | with_reducible refine w_asg ?_ | with_reducible refine w_drop ?_ | with_reducible refine w_ret ?_ | with_reducible refine w_if ?_
  | with_reducible refine w_op ?_ | with_reducible refine w_un ?_ | with_reducible refine w_c ?_ | ((with_reducible apply w_var); rfl)
  | with_reducible refine w_test ?_ | with_reducible refine w_B ?_ | with_reducible refine w_exb ?_ | with_reducible refine w_exi ?_ | with_reducible refine w_I0 ?_ | with_reducible refine w_U ?_
  | with_reducible refine w_nil ?_ | with_reducible refine w_cons ?_ | with_reducible refine w_call ?_ | with_reducible refine w_cb ?_ | with_reducible refine w_tup ?_ | with_reducible refine w_lst ?_
  | with_reducible refine w_and ?_ | with_reducible refine w_or ?_ | with_reducible refine w_not ?_ | with_reducible refine w_andV ?_ | with_reducible refine w_orV ?_ | with_reducible refine w_notV ?_
  | with_reducible refine w_ifE ?_ | with_reducible refine w_chain ?_ | with_reducible refine w_for ?_ | with_reducible refine w_lc ?_ | with_reducible refine w_yes ?_ | with_reducible refine w_iR1 ?_ | with_reducible refine w_iL ?_ | with_reducible refine w_iT ?_ | with_reducible refine w_iE ?_ | with_reducible refine w_iZ ?_ | with_reducible refine w_iS ?_ | with_reducible refine w_s1 ?_ | with_reducible refine w_m1 ?_ | with_reducible refine w_m0 ?_ | with_reducible refine w_estr ?_ | with_reducible refine w_lz ?_ | with_reducible refine w_ss ?_ | with_reducible refine w_revL ?_ | with_reducible refine w_dc ?_ | with_reducible refine w_c2 ?_ | with_reducible refine w_c2D ?_ | with_reducible refine w_iIT ?_ | with_reducible refine w_ddelT ?_ | with_reducible refine w_dsetd ?_ | with_reducible refine w_dget1 ?_ | with_reducible refine w_iI ?_ | with_reducible refine w_iES ?_ | with_reducible refine w_dget ?_ | with_reducible refine w_dget2 ?_ | with_reducible refine w_dput ?_ | with_reducible refine w_callN ?_ | with_reducible refine w_callD ?_ | with_reducible refine w_dnew ?_ | with_reducible refine w_dnewT ?_ | with_reducible refine w_revT ?_ | with_reducible refine w_leS ?_ | with_reducible refine w_ltS ?_ | with_reducible refine w_inSg ?_ | with_reducible refine w_notInSg ?_ | with_reducible refine iteT ?_ | with_reducible refine iteF ?_ | with_reducible refine w_par ?_ | with_reducible refine w_par3 ?_ | with_reducible refine w_three ?_ | with_reducible refine w_two ?_ | with_reducible refine w_gname ?_ | with_reducible refine w_gcons ?_ | with_reducible refine w_gnil ?_ | ((with_reducible apply w_gtup); (with_reducible assumption); rfl) | with_reducible refine w_gsub ?_
  | with_reducible refine w_bm0 ?_ | with_reducible refine w_iK ?_ | with_reducible refine w_iQ ?_ | with_reducible refine w_c1 ?_ | with_reducible refine iteNT ?_ | with_reducible refine iteNF ?_ | with_reducible refine w_tru ?_ | with_reducible refine w_dnin ?_ | with_reducible refine w_dgetN ?_
  | with_reducible refine w_bm ?_ | with_reducible refine w_sl ?_ | with_reducible refine w_noP ?_ | with_reducible refine w_part ?_ | with_reducible refine w_next ?_ | with_reducible refine w_retN ?_
  | ((with_reducible refine w_I ?hk ?_); (case hk => (first | (show (0 : Int) < _; omega) | exact ⟨by omega, by omega⟩ | exact .inl ⟨by omega, by omega⟩ | exact .inr ⟨by omega, by omega⟩ | exact cpow_small (by decide) (by decide) (by decide))))
  | ((with_reducible apply w_eq); rfl) | ((with_reducible apply w_ne); rfl)
  | ((with_reducible apply w_ixL); (with_reducible assumption); rfl)
  | ((with_reducible apply w_setL); (with_reducible assumption); rfl))
local macro_rules | `(tactic| walk_at "go") => `(tactic| repeat walk_at "fk")

section
variable {P : Program} {w : World} {K : PySem.W.Frag} {mg : Str → Option Value} {base : Heap}
def spLawLinkG : Sp := fun vs H Q _ => ∃ (x : V), vs = [x] ∧ Kd H x ∧ ∀ H', Evl.Ex H H' → Q (.bl (linkV H x)) H'
theorem ok_law_is_link_g {f : Addr} {fd : FuncData} (F : Fun K "_law_is_link" "_law_is_link" s_law_is_link f fd) (T : Txt mg) : FnOk P w K mg base CX0 1 f fd ["thing"] spLawLinkG := by
  refine F.ok sc_law_is_link (fun vs H Q E h => ?_) (fun cdv A outer s H vs Q E hr h => ?_)
  · obtain ⟨x, rfl, _⟩ := h
    rfl
  · obtain ⟨x, rfl, kx, q⟩ := h
    refine ⟨_, (pss_cons (ps_if (PW.pt (pw_or (pt_not (pt_val (pe_callB (kisi K) (by rfl) T.isinstance_ (by decide +kernel) (pa_cons (pv 0) (pa_cons (pe_bltn (v := .ty "tuple") (by rfl) T.tuple_ (by decide +kernel) rfl) pa_nil))))) (pw_or1 (pt_cmpR op_ne (pe_callB (klen K) (by rfl) T.len_ PySem.boot_len (pa_cons (pv 0) pa_nil)) pe_int (nomark _))))) (pss_one (ps_ret pe_bl)) pss_nil)
      (pss_cons (ps_for PassesOwn.never rfl (ktupI K (pe_slice (kslT K) (pv 0) po_none (po_some pe_int))) (pg_name (i := 1) sc_law_is_link.nd rfl (.inl rfl)) (pss_one (ps_if (PW.pt (pw_or (pt_not (pt_val (pe_callB (kisi K) (by rfl) T.isinstance_ (by decide +kernel) (pa_cons (pv 1) (pa_cons (pe_bltn (v := .ty "int") (by rfl) T.int_ (by decide +kernel) rfl) pa_nil))))) (pw_or (pt_val (pe_callB (kisi K) (by rfl) T.isinstance_ (by decide +kernel) (pa_cons (pv 1) (pa_cons (pe_bltn (v := .ty "bool") (by rfl) T.bool_ (by decide +kernel) rfl) pa_nil)))) (pw_or1 (pt_not (pt_chain op_le op_le pe_int (pv 1) (pe_op op_powN pe_int pe_int))))))) (pss_one (ps_ret pe_bl)) pss_nil)))
      (pss_cons (ps_for PassesOwn.never rfl (ktupI K (pe_slice (kslT K) (pv 0) (po_some pe_int) po_none)) (pg_name (i := 2) sc_law_is_link.nd rfl (.inl rfl)) (pss_cons (ps_if (PW.pt (pw_or (pt_not (pt_val (pe_callB (kisi K) (by rfl) T.isinstance_ (by decide +kernel) (pa_cons (pv 2) (pa_cons (pe_bltn (v := .ty "str") (by rfl) T.str_ (by decide +kernel) rfl) pa_nil))))) (pw_or1 (pt_not (pt_chain op_lt op_lt pe_int (pe_callB (klen K) (by rfl) T.len_ PySem.boot_len (pa_cons (pv 2) pa_nil)) pe_int))))) (pss_one (ps_ret pe_bl)) pss_nil)
      (pss_one (ps_if (pt_cmpR (kNeL0 K hr.units) (pe_lc (own := [("sign", 3)]) (g := gName 3) (by rfl) sc_law_is_link.nd (pi_str (pv 2)) (blkOk_by (own := [("sign", 3)]) (N := ["thing", "number", "name", "sign"]) (sc := defScope s_law_is_link) (by decide +kernel)) (fun _ _ _ _ _ => (pg_name (i := 3) sc_law_is_link.nd rfl (Or.inl rfl))) (fun _ _ _ _ _ => (pts_one (pt_cmpR kNotInS (pv 3) pe_str rfl))) (fun _ _ _ _ _ => (pv 3))) (pe_lst pa_nil) (nomark _)) (pss_one (ps_ret pe_bl)) pss_nil))))
      (pss_one (ps_ret (pe_cmpR kLtS (pe_ix (kixT K) (pv 0) pe_int (fun _ _ => rfl)) (pe_ix (kixT K) (pv 0) pe_int (fun _ _ => rfl)) (nomark _))))))), ?_⟩
    refine w_from [some x, none, none, none] ?_
    try dsimp only [cxOf]
    have fail : ∀ {H' : Hp}, Evl.Ex H H' → linkV H x = false → Q (.bl false) H' := fun {H'} e h => by
      have z := q H' e
      rw [h] at z
      exact z
    walk_at "go"
    refine w_isi kx (by decide) ?_
    by_cases tp : isB (tyN H x) "tuple" = true
    · rw [tp]
      obtain ⟨t, xs, rfl, ht, lx, kxs⟩ := kx.tup_of tp
      have sT := SqT.of (K := K) ht
      rw [linkV_tup ht] at fail q
      walk_at "go"
      refine w_len (.inr ⟨xs, sT, rfl⟩) ?_
      walk_at "go"
      by_cases l4 : xs.length = 4
      · obtain ⟨c, m, o, n, rfl⟩ := four_of l4
        rw [show (!decide (V.int ((([c, m, o, n] : List V).length : Nat) : Int) = V.int 4)) = false from by show (!decide (V.int 4 = V.int 4)) = false; decide]
        have kc := kxs c (by simp)
        have km := kxs m (by simp)
        have ko := kxs o (by simp)
        have kn := kxs n (by simp)
        walk_at "go"
        refine w_slT ht fun t1 H1 e1 ht1 => ?_
        rw [show cutV [c, m, o, n] none (some 2) = [c, m] from rfl] at ht1
        walk_at "go"
        refine w_t1 (xs := [c, m]) (SqT.of ht1) ?_
        refine forT (xs := [c, m]) (fun i σ' H' => Evl.Ex H1 H' ∧ (∀ y ∈ [c, m].take i, numV 1000000 y = true) ∧ ∃ x1, σ' = [some (.ref t), x1, none, none]) ?_ ?_ ?_ ?_
        · exact ⟨Evl.Ex.refl H1, (fun y m => by simp at m), _, rfl⟩
        · rintro i σ' H2 _ ⟨e2, _⟩
          exact SqT.of (e2 _ _ ht1)
        · rintro i y σ' H2 hy ⟨e2, all, x1, rfl⟩
          have my := List.mem_of_getElem? hy
          have tk := take_snoc hy
          have e02 := e1.trans e2
          have ky : Kd H2 y := by
            simp only [List.mem_cons, List.not_mem_nil, or_false] at my
            rcases my with rfl | rfl
            · exact kc.ex e02
            · exact km.ex e02
          have bad : numV 1000000 y = false → Q (.bl false) H2 := fun h => fail e02 (by
            unfold fourV
            simp only [List.mem_cons, List.not_mem_nil, or_false] at my
            rcases my with rfl | rfl <;> simp [h])
          have next : numV 1000000 y = true → Evl.Ex H1 H2 ∧ (∀ z ∈ [c, m].take (i + 1), numV 1000000 z = true) ∧ ∃ x1, [some (V.ref t), some y, none, none] = [some (.ref t), x1, none, none] := fun h => by
            refine ⟨e2, fun z mz => ?_, _, rfl⟩
            rw [tk] at mz
            rcases List.mem_append.mp mz with mz | mz
            · exact all z mz
            · rw [List.mem_singleton.mp mz]; exact h
          walk_at "go"
          refine w_isi ky (by decide) ?_
          by_cases ti : isB (tyN H2 y) "int" = true
          · rw [ti]
            walk_at "go"
            refine w_isi ky (by decide) ?_
            by_cases tb : isB (tyN H2 y) "bool" = true
            · rw [tb]
              walk_at "go"
              refine bad ?_
              cases ky with
              | bl b => rfl
              | int n => exact absurd tb (by show ¬ isB "int" "bool" = true; decide)
              | _ => rfl
            · have tb := Bool.eq_false_iff.mpr tb
              rw [tb]
              obtain ⟨v, rfl⟩ : ∃ v : Int, y = .int v := by
                cases ky with
                | int n => exact ⟨n, rfl⟩
                | bl b => exact absurd tb (by show ¬ isB "bool" "bool" = false; decide)
                | non => exact absurd ti (by show ¬ isB "NoneType" "int" = true; decide)
                | str z h hc => exact absurd ti (by show ¬ isB "str" "int" = true; decide)
                | lst h => rw [tyN_lst h] at ti; exact absurd ti (by decide)
                | tup h hl hx => rw [tyN_tup h] at ti; exact absurd ti (by decide)
                | dct h => rw [tyN_dK h] at ti; exact absurd ti (by decide)
              walk_at "go"
              by_cases v0 : 0 ≤ v
              · rw [decide_eq_true v0]
                walk_at "go"
                by_cases v1 : v ≤ 1000000
                · rw [show (10 : Int) ^ Int.toNat 6 = 1000000 from by decide, decide_eq_true v1]
                  walk_at "go"
                  exact next (by show (decide (0 ≤ v) && decide (v ≤ 1000000)) = true; simp [v0, v1])
                · rw [show (10 : Int) ^ Int.toNat 6 = 1000000 from by decide, decide_eq_false v1]
                  walk_at "go"
                  exact bad (by show (decide (0 ≤ v) && decide (v ≤ 1000000)) = false; simp [v1])
              · rw [decide_eq_false v0]
                walk_at "go"
                exact bad (by show (decide (0 ≤ v) && decide (v ≤ 1000000)) = false; simp [v0])
          · have ti := Bool.eq_false_iff.mpr ti
            rw [ti]
            walk_at "go"
            refine bad ?_
            cases ky with
            | int n => exact absurd ti (by show ¬ isB "int" "int" = false; decide)
            | _ => rfl
        · rintro σ' H2 ⟨e2, all, x1, rfl⟩
          have nc := all c (by simp)
          have nm := all m (by simp)
          have e02 := e1.trans e2
          have four : fourV [c, m, o, n] = (plV o && plV n && ltV o n) := by
            show (numV 1000000 c && numV 1000000 m && (plV o && plV n && ltV o n)) = _
            rw [nc, nm]
            rfl
          rw [four] at fail q
          walk_at "go"
          refine w_slT (e02 _ _ ht) fun t2 H3 e3 ht2 => ?_
          rw [show cutV [c, m, o, n] (some 2) none = [o, n] from rfl] at ht2
          walk_at "go"
          refine w_t1 (xs := [o, n]) (SqT.of ht2) ?_
          refine forT (xs := [o, n]) (fun i σ' H' => Evl.Ex H3 H' ∧ (∀ y ∈ [o, n].take i, plV y = true) ∧ ∃ x2 x3, σ' = [some (.ref t), x1, x2, x3]) ?_ ?_ ?_ ?_
          · exact ⟨Evl.Ex.refl H3, (fun y m => by simp at m), _, _, rfl⟩
          · rintro i σ' H4 _ ⟨e4, _⟩
            exact SqT.of (e4 _ _ ht2)
          · rintro i y σ' H4 hy ⟨e4, all2, x2, x3, rfl⟩
            have my := List.mem_of_getElem? hy
            have tk := take_snoc hy
            have e04 := (e02.trans e3).trans e4
            have ky : Kd H4 y := by
              simp only [List.mem_cons, List.not_mem_nil, or_false] at my
              rcases my with rfl | rfl
              · exact ko.ex e04
              · exact kn.ex e04
            have bad : ∀ {H' : Hp}, Evl.Ex H4 H' → plV y = false → Q (.bl false) H' := fun {H'} e h => fail (e04.trans e) (by
              simp only [List.mem_cons, List.not_mem_nil, or_false] at my
              rcases my with rfl | rfl <;> simp [h])
            walk_at "go"
            refine w_isi ky (by decide) ?_
            by_cases ts : isB (tyN H4 y) "str" = true
            · rw [ts]
              obtain ⟨z, rfl, lz, hz⟩ : ∃ z : Str, y = .str z ∧ z.length ≤ 100000 ∧ ∀ c ∈ cL z, c < 128 := by
                cases ky with
                | int n => exact absurd ts (by show ¬ isB "int" "str" = true; decide)
                | bl b => exact absurd ts (by show ¬ isB "bool" "str" = true; decide)
                | non => exact absurd ts (by show ¬ isB "NoneType" "str" = true; decide)
                | str z h hc => exact ⟨z, rfl, h, hc⟩
                | lst h => rw [tyN_lst h] at ts; exact absurd ts (by decide)
                | tup h hl hx => rw [tyN_tup h] at ts; exact absurd ts (by decide)
                | dct h => rw [tyN_dK h] at ts; exact absurd ts (by decide)
              walk_at "go"
              refine w_len ⟨small lz, rfl⟩ ?_
              walk_at "go"
              by_cases z0 : (0 : Int) < ((z.length : Nat) : Int)
              · rw [decide_eq_true z0]
                walk_at "go"
                by_cases z7 : ((z.length : Nat) : Int) < 7
                · rw [decide_eq_true z7]
                  walk_at "go"
                  have habc : cL "abcdefghijklmnopqrstuvwxyz" = abc := by decide +kernel
                  refine lcS (fun C i H' => Evl.Ex H4 H' ∧ H' C = some (.lst ((((cL z).take i).filter fun c => !decide (c ∈ abc)).map fun c => V.str ⟨#[c]⟩))) ?_ ?_ ?_
                  · intro C hC
                    exact ⟨Evl.Ex.new hC, upd_same⟩
                  · rintro C j c H' hC hc ⟨e, hN⟩
                    have tk := take_snoc hc
                    have lj : j < (cL z).length := (List.getElem?_eq_some_iff.mp hc).1
                    have lf := List.length_filter_le (fun c => !decide (c ∈ abc)) ((cL z).take j)
                    rw [List.length_take] at lf
                    refine w_turn rfl ?_
                    walk_at "go"
                    rw [habc]
                    cases cc : (!decide (c ∈ abc)) with
                    | true =>
                      walk_at "go"
                      refine ⟨_, hN, smallS (by rw [List.length_map]; rw [← cL_len] at lj; omega), e.mut hC, ?_⟩
                      rw [upd_same, tk, List.filter_append, List.filter_cons_of_pos (by exact cc)]
                      simp
                    | false =>
                      walk_at "go"
                      refine ⟨e, ?_⟩
                      rw [hN, tk, List.filter_append, List.filter_cons_of_neg (by rw [cc]; exact Bool.false_ne_true)]
                      simp
                  · rintro C H5 hC ⟨e5, hC5⟩
                    rw [List.take_length] at hC5
                    walk_at "go"
                    refine ⟨small (by show 0 ≤ 100000; omega), ?_⟩
                    intro B hB
                    generalize hE : upd _ B _ = H6
                    have nH6 := New.of hB hE
                    clear hE
                    refine w_neL0 (SqL.of (nH6.keep hC5)) (SqL.of nH6.here) ?_
                    have e46 := e5.trans nH6.ex
                    by_cases pz : Place z
                    · rw [show (cL z).filter (fun c => !decide (c ∈ abc)) = [] from List.filter_eq_nil_iff.mpr fun c mc => by simp [abc_iff.mpr (pz.2.2 c mc)]]
                      rw [show (!(([] : List Nat).map fun c => V.str ⟨#[c]⟩).isEmpty) = false from rfl]
                      walk_at "go"
                      refine ⟨e4.trans e46, fun v mv => ?_, _, _, rfl⟩
                      rw [tk] at mv
                      rcases List.mem_append.mp mv with mv | mv
                      · exact all2 v mv
                      · rw [List.mem_singleton.mp mv]
                        exact decide_eq_true pz
                    · have ne : (cL z).filter (fun c => !decide (c ∈ abc)) ≠ [] := fun h => pz ⟨by omega, by omega, fun c mc => by
                        have k := List.filter_eq_nil_iff.mp h c mc
                        exact abc_iff.mp (by simpa using k)⟩
                      rw [show (!(((cL z).filter fun c => !decide (c ∈ abc)).map fun c => V.str ⟨#[c]⟩).isEmpty) = true from by
                        cases hh : (cL z).filter (fun c => !decide (c ∈ abc)) with
                        | nil => exact absurd hh ne
                        | cons _ _ => rfl]
                      walk_at "go"
                      exact bad e46 (decide_eq_false pz)
                · rw [decide_eq_false z7]
                  walk_at "go"
                  exact bad (Evl.Ex.refl _) (decide_eq_false fun pz => z7 (by have := pz.2.1; omega))
              · rw [decide_eq_false z0]
                walk_at "go"
                exact bad (Evl.Ex.refl _) (decide_eq_false fun pz => z0 (by have := pz.1; omega))
            · have ts := Bool.eq_false_iff.mpr ts
              rw [ts]
              walk_at "go"
              refine bad (Evl.Ex.refl _) ?_
              cases ky with
              | str z h hc => exact absurd ts (by show ¬ isB "str" "str" = false; decide)
              | _ => rfl
          · rintro σ' H4 ⟨e4, all2, x2, x3, rfl⟩
            have po := all2 o (by simp)
            have pn := all2 n (by simp)
            obtain ⟨u, rfl, pu⟩ := plV_str po
            obtain ⟨v, rfl, pv⟩ := plV_str pn
            have e04 := (e02.trans e3).trans e4
            have s4 := SqT.of (K := K) (e04 _ _ ht)
            walk_at "go"
            refine w_ixT s4 (atI_of (i := 2) rfl) ?_
            walk_at "go"
            refine w_ixT s4 (atI_of (i := 3) rfl) ?_
            walk_at "go"
            have z := q H4 e04
            rw [show (plV (V.str u) && plV (V.str v) && ltV (V.str u) (V.str v)) = decide (cL u < cL v) from by
              rw [po, pn]
              rfl] at z
            exact z
      · rw [show (!decide (V.int ((xs.length : Nat) : Int) = V.int 4)) = true from by
          rw [decide_eq_false fun e => l4 (by injection e with e; omega)]
          rfl]
        walk_at "go"
        exact fail (Evl.Ex.refl _) (fourV_len l4)
    · have tp := Bool.eq_false_iff.mpr tp
      rw [tp]
      walk_at "go"
      exact fail (Evl.Ex.refl _) (kx.tup_no tp)
end
end Fk
namespace Fk
open PySem PySem.Spec PySem.W PyProof.Rows L2
abbrev numS (n : Int) : Str := Str.ofString (toString n)
theorem cL_num (n : Nat) : cL (numS (n : Int)) = TL.numL n := TL.tl_num n
theorem str_ext {x y : Str} (h : cL x = cL y) : x = y := TL.ext_tl h
theorem len_cL (x : Str) : x.length = (cL x).length := TL.len_tl x
def FigOk (w : Str) : Prop := 1 ≤ w.length ∧ w.length ≤ 7 ∧ (∀ c ∈ cL w, 48 ≤ c ∧ c ≤ 57) ∧ ((cL w).head? = some 48 → cL w = [48])
instance (w : Str) : Decidable (FigOk w) := by unfold FigOk; infer_instance
/-- the number that a word tells -/
def figN (w : Str) : Option Nat := if FigOk w then some (NumText.digitsVal (cL w)) else none
theorem dig_back : ∀ {cs : List Nat}, (∀ c ∈ cs, 48 ≤ c ∧ c ≤ 57) → (cs.map Char.ofNat).map Char.toNat = cs
  | [], _ => rfl
  | c :: cs, h => by
    have hc := h c List.mem_cons_self
    rw [List.map_cons, List.map_cons, dig_back fun d m => h d (List.mem_cons_of_mem _ m)]
    congr 1
    have : c = 48 ∨ c = 49 ∨ c = 50 ∨ c = 51 ∨ c = 52 ∨ c = 53 ∨ c = 54 ∨ c = 55 ∨ c = 56 ∨ c = 57 := by omega
    rcases this with rfl | rfl | rfl | rfl | rfl | rfl | rfl | rfl | rfl | rfl <;> rfl
theorem fig_ok {w : Str} {n : Nat} (h : figN w = some n) : FigOk w ∧ n = NumText.digitsVal (cL w) := by
  unfold figN at h
  by_cases k : FigOk w
  · rw [if_pos k] at h
    exact ⟨k, (Option.some.inj h).symm⟩
  · rw [if_neg k] at h
    cases h
theorem fig_num {w : Str} {n : Nat} (h : figN w = some n) : w = numS (n : Int) := by
  obtain ⟨⟨h1, _, h3, h4⟩, rfl⟩ := fig_ok h
  refine str_ext ?_
  rw [cL_num]
  unfold TL.numL
  rw [NumText.toDigits_all (cL w) h3]
  cases e : cL w with
  | nil =>
    rw [len_cL, e] at h1
    exact absurd h1 (by decide)
  | cons c cs =>
    rw [e] at h3 h4
    by_cases c0 : c = 48
    · subst c0
      have := h4 rfl
      rw [this]
      rfl
    · rw [List.dropWhile_cons, if_neg (by rw [beq_iff_eq]; exact c0)]
      exact (dig_back h3).symm
theorem numL_head : ∀ n : Nat, (TL.numL n).head? = some 48 → TL.numL n = [48] := by
  intro n
  induction n using Nat.strongRecOn with
  | _ n ih =>
    intro h
    by_cases l : n < 10
    · rw [TL.numL_lt l] at h ⊢
      have : 48 + n = 48 := by simpa using h
      rw [this]
    · rw [TL.numL_step (by omega)] at h
      have ne := TL.numL_ne (n / 10)
      have h2 : (TL.numL (n / 10)).head? = some 48 := by
        cases e : TL.numL (n / 10) with
        | nil => exact absurd e ne
        | cons a r => rw [e] at h; exact h
      have h3 := ih (n / 10) (by omega) h2
      have h4 : TL.numL (n / 10) = TL.numL 0 := by rw [h3, TL.numL_lt (by decide)]
      have := TL.numL_inj h4
      omega
theorem num_len {n : Nat} (h : n ≤ 1000000) : (numS (n : Int)).length ≤ 7 := by
  rw [len_cL, cL_num]
  exact TL.numL_len (by decide) (by omega)
theorem num_fig {n : Nat} (h : n ≤ 1000000) : figN (numS (n : Int)) = some n := by
  have ok : FigOk (numS (n : Int)) := by
    refine ⟨?_, num_len h, ?_, ?_⟩
    · rw [len_cL, cL_num]
      exact List.length_pos_iff.mpr (TL.numL_ne n)
    · rw [cL_num]
      exact TL.numL_digits n
    · rw [cL_num]
      exact numL_head n
  unfold figN
  rw [if_pos ok, cL_num, TL.numL_val]
theorem fig_int {w : Str} (h : FigOk w) : PySem.intText? w = some ((NumText.digitsVal (cL w) : Nat) : Int) := by
  obtain ⟨h1, h2, h3, _⟩ := h
  exact intText_digits h3 (fun e => by rw [len_cL, show cL w = [] from e] at h1; exact absurd h1 (by decide)) (by omega)
/-- the words of a link, its text -/
def wordsL (x : Lk) : List Str := [numS x.c, numS x.m, x.a, x.b]
def textL (x : Lk) : Str := Txt.join " " (wordsL x)
theorem nat_num {i : Int} (h : 0 ≤ i) : ∃ n : Nat, i = n := ⟨i.toNat, by omega⟩
theorem place_free {z : Str} (h : Place z) : 32 ∉ cL z := fun m => by
  have := h.2.2 32 m
  unfold SignOk at this
  omega
theorem words_free {x : Lk} (ok : x.ok) : ∀ p ∈ wordsL x, 32 ∉ cL p := fun p m => by
  have num : ∀ i : Int, 0 ≤ i → 32 ∉ cL (numS i) := fun i h => by
    obtain ⟨n, rfl⟩ := nat_num h
    rw [cL_num]
    exact TL.numL_free (by omega)
  unfold wordsL at m
  simp only [List.mem_cons, List.not_mem_nil, or_false] at m
  obtain ⟨c0, _, m0, _, pa, pb, _⟩ := ok
  rcases m with rfl | rfl | rfl | rfl
  · exact num _ c0
  · exact num _ m0
  · exact place_free pa
  · exact place_free pb
theorem split_text {x : Lk} (ok : x.ok) : Txt.split (textL x) " " = wordsL x :=
  TL.split_join (s := 32) (S := []) (by decide +kernel) (by decide +kernel) (by unfold wordsL; simp) (words_free ok)
theorem join_split (t : Str) : Txt.join " " (Txt.split t " ") = t := by
  rw [TL.join_eq]
  exact StrLaws.join_split t " "
theorem text_back {x : Lk} {t : Str} (h : Txt.split t " " = wordsL x) : t = textL x := by
  unfold textL
  rw [← h, join_split]
theorem words_inj {x y : Lk} (ox : x.ok) (oy : y.ok) (h : wordsL x = wordsL y) : x = y := by
  unfold wordsL at h
  simp only [List.cons.injEq, and_true] at h
  obtain ⟨h1, h2, h3, h4⟩ := h
  have inj : ∀ {i j : Int}, 0 ≤ i → i ≤ 1000000 → 0 ≤ j → j ≤ 1000000 → numS i = numS j → i = j := fun {i j} a b c d e => by
    obtain ⟨n, rfl⟩ := nat_num a
    obtain ⟨m, rfl⟩ := nat_num c
    have e1 := num_fig (n := n) (by omega)
    have e2 := num_fig (n := m) (by omega)
    rw [e, e2] at e1
    have := Option.some.inj e1
    omega
  obtain ⟨xc, xm, xa, xb⟩ := x
  obtain ⟨yc, ym, ya, yb⟩ := y
  obtain ⟨a1, a2, a3, a4, _⟩ := ox
  obtain ⟨b1, b2, b3, b4, _⟩ := oy
  simp only at h1 h2 h3 h4
  have e1 : xc = yc := inj a1 a2 b1 b2 h1
  have e2 : xm = ym := inj a3 a4 b3 b4 h2
  rw [e1, e2, h3, h4]
theorem joinL_mem {s : List Nat} : ∀ {ps : List (List Nat)} {p : List Nat} {c : Nat}, p ∈ ps → c ∈ p → c ∈ TL.joinL s ps
  | [], _, _, m, _ => nomatch m
  | [q], p, c, m, h => by
    rw [List.mem_singleton.mp m] at h
    exact h
  | q :: r :: ps, p, c, m, h => by
    show c ∈ q ++ (s ++ TL.joinL s (r :: ps))
    rcases List.mem_cons.mp m with rfl | m
    · exact List.mem_append_left _ h
    · exact List.mem_append_right _ (List.mem_append_right _ (joinL_mem m h))
theorem joinL_in {s : List Nat} : ∀ {ps : List (List Nat)} {c : Nat}, c ∈ TL.joinL s ps → c ∈ s ∨ ∃ p ∈ ps, c ∈ p
  | [], _, h => nomatch h
  | [q], c, h => .inr ⟨q, List.mem_cons_self, h⟩
  | q :: r :: ps, c, h => by
    have h : c ∈ q ++ (s ++ TL.joinL s (r :: ps)) := h
    rcases List.mem_append.mp h with h | h
    · exact .inr ⟨q, List.mem_cons_self, h⟩
    · rcases List.mem_append.mp h with h | h
      · exact .inl h
      · rcases joinL_in h with k | ⟨p, m, k⟩
        · exact .inl k
        · exact .inr ⟨p, List.mem_cons_of_mem _ m, k⟩
theorem joinL_len {s : List Nat} : ∀ ps : List (List Nat), (TL.joinL s ps).length ≤ (ps.map (·.length)).sum + ps.length * s.length
  | [] => Nat.zero_le _
  | [q] => by
    show q.length ≤ _
    simp
  | q :: r :: ps => by
    have ih := joinL_len (s := s) (r :: ps)
    show (q ++ (s ++ TL.joinL s (r :: ps))).length ≤ _
    rw [List.length_append, List.length_append, List.map_cons, List.sum_cons, List.length_cons (a := q), Nat.add_mul]
    omega
theorem cL_join (y : Str) (ps : List Str) : cL (Txt.join y ps) = TL.joinL (cL y) (ps.map cL) := by
  rw [TL.join_eq]
  exact TL.tl_join y ps
theorem split_signs {z y : Str} (m : y ∈ Txt.split z " ") {c : Nat} (h : c ∈ cL y) : c ∈ cL z := by
  have e := congrArg cL (join_split z)
  rw [cL_join] at e
  rw [← e]
  exact joinL_mem (List.mem_map.mpr ⟨y, m, rfl⟩) h
theorem split_sum (z : Str) : ((Txt.split z " ").map (·.length)).sum + (Txt.split z " ").length ≤ z.length + 1 := PyProof.Rows.split_weight z " " (by decide +kernel)
/-- words put together: their signs, how long -/
theorem join_sum (ps : List Str) : (Txt.join " " ps).length ≤ (ps.map (·.length)).sum + ps.length := by
  rw [len_cL, cL_join]
  have z := joinL_len (s := cL " ") (ps.map cL)
  have e : (ps.map cL).map (·.length) = ps.map (·.length) := by
    rw [List.map_map]
    exact List.map_congr_left fun p _ => (len_cL p).symm
  rw [e, List.length_map, show (cL " ").length = 1 from by decide +kernel, Nat.mul_one] at z
  exact z
theorem join_signs {ps : List Str} {c : Nat} (h : c ∈ cL (Txt.join " " ps)) : c = 32 ∨ ∃ p ∈ ps, c ∈ cL p := by
  rw [cL_join] at h
  rcases joinL_in h with k | ⟨p, m, k⟩
  · rw [show cL " " = [32] from by decide +kernel] at k
    exact .inl (List.mem_singleton.mp k)
  · obtain ⟨q, mq, rfl⟩ := List.mem_map.mp m
    exact .inr ⟨q, mq, k⟩
end Fk
namespace Fk
open PySem PySem.Spec PySem.W PyProof.Rows L2 L2.DX
section
variable {X : Cx} (K : PySem.W.Frag) {o e : Expr} {es : List Expr} {to : TE} {ta : TA}
theorem kext {apos cpos : Pos} (ho : PE X o to) (ha : PA X (e :: es) ta)
    (hbase : attributeBase o "extend" X.env (eval o X.env) = eval o X.env := by rfl)
    (hfew : ((backTo cpos (starEach (e :: es) X.env)).all (fun x => !x.1) && (backToKw cpos (keywordEach [] X.env)).all (fun x => x.1.isSome)
      && decide ((e :: es).length + ([] : List Keyword).length + (if ([] : List Keyword).isEmpty then 0 else 1) < 30)) = true := by rfl)
    (hline : (apos.endLine == cpos.line) = true := by rfl) (hs : starEach (e :: es) X.env = (false, eval e X.env) :: starEach es X.env := by rfl) (hplain : (backTo cpos (starEach es X.env)).any (·.1) = false := by rfl) (h : X.K = K := by rfl) :
    PE X (.Call (.Attribute o "extend" apos) (e :: es) [] cpos) (tBM K "list" rExtend to ta) := by
  subst h
  exact pe_bm PySem.F.plainAttrs_list PySem.F.slot_list_extend PySem.F.type_list_extend mt_extend ho ha hbase hfew hline hs hplain
theorem kpopAt {apos cpos : Pos} (ho : PE X o to) (ha : PA X (e :: es) ta)
    (hbase : attributeBase o "pop" X.env (eval o X.env) = eval o X.env := by rfl)
    (hfew : ((backTo cpos (starEach (e :: es) X.env)).all (fun x => !x.1) && (backToKw cpos (keywordEach [] X.env)).all (fun x => x.1.isSome)
      && decide ((e :: es).length + ([] : List Keyword).length + (if ([] : List Keyword).isEmpty then 0 else 1) < 30)) = true := by rfl)
    (hline : (apos.endLine == cpos.line) = true := by rfl) (hs : starEach (e :: es) X.env = (false, eval e X.env) :: starEach es X.env := by rfl) (hplain : (backTo cpos (starEach es X.env)).any (·.1) = false := by rfl) (h : X.K = K := by rfl) :
    PE X (.Call (.Attribute o "pop" apos) (e :: es) [] cpos) (tBM K "list" rPopAt to ta) := by
  subst h
  exact pe_bm PySem.F.plainAttrs_list PySem.F.slot_list_pop PySem.F.type_list_pop mt_popAt ho ha hbase hfew hline hs hplain
end
section
variable {σ : L2.St} {H : Hp} {Q : VK} {K : PySem.W.Frag}
theorem w_ext {l b : Addr} {xs zs : List V} (h : H l = some (.lst xs)) (h2 : H b = some (.lst zs)) (hz : xs.length + zs.length ≤ 100000) (q : Q .non (upd H l (.lst (xs ++ zs)))) : rExtend (.ref l) [.ref b] H Q := ⟨l, b, xs, zs, rfl, rfl, h, h2, Nat.le_trans hz (by decide), q⟩
theorem w_popAt {l : Addr} {xs : List V} {i : Nat} {y : V} (h : H l = some (.lst xs)) (hi : xs[i]? = some y) (few : xs.length ≤ 100000) (q : Q y (upd H l (.lst (xs.eraseIdx i)))) : rPopAt (.ref l) [.int (i : Int)] H Q := by
  have li : i < xs.length := (List.getElem?_eq_some_iff.mp hi).1
  refine ⟨l, xs, (i : Int), i, y, rfl, rfl, h, ?_, ?_, ?_, hi, q⟩
  · exact Int.le_trans (by decide) (Int.natCast_nonneg i)
  · have e : (i : Int) ≤ 100000 := by omega
    exact Int.lt_of_le_of_lt e (by decide)
  · unfold seqIndex?
    have h0 : ¬ (i : Int) < 0 := by omega
    simp only [h0, if_false]
    have h1 : (0 : Int) ≤ (i : Int) ∧ (i : Int) < (xs.length : Int) := ⟨by omega, by omega⟩
    simp [h1]
/-- a comprehension over d.items() -/
theorem lcIT {g : TG} {tt : TT} {te : TE} {vs : List Nat} {d : Addr} {o : Obj} {kvs : List (List Key × V)} (Pv : Addr → Nat → Hp → Prop) (h0 : ∀ C, H C = none → Pv C 0 (upd H C (.lst []))) (hl : ∀ C i H', H C = none → i ≤ kvs.length → Pv C i H' → H' d = some (.frz o (.dT kvs)))
    (hs : ∀ C i k v q T H', H C = none → kvs[i]? = some (k, v) → Pv C i H' → H' T = none → H' q = some (.tup (k.map kV)) → LcTurn g tt te vs σ C (.ref T) (upd H' T (.tup [.ref q, v])) (Pv C (i + 1))) (hd : ∀ C H', H C = none → Pv C kvs.length H' → Q (.ref C) H') : LcGo g tt te vs σ Q (IttI d o kvs) H := fun C hC => by
  have wk : Walk (IttI d o kvs) kvs.length (fun H => H d = some (.frz o (.dT kvs))) (fun i H x H' => ∃ (T : Addr) (k : List Key) (v : V) (q : Addr), kvs[i]? = some (k, v) ∧ x = .ref T ∧ H T = none ∧ H q = some (.tup (k.map kV)) ∧ H' = upd H T (.tup [.ref q, v])) :=
    ⟨fun _ _ hi q => ⟨q, hi⟩, fun _ q => ⟨q, Nat.le_refl _⟩, fun _ _ _ _ _ _ y => y⟩
  exact lc_it wk (Pv C) (h0 C hC) (fun i H' hi p => hl C i H' hC hi p) (fun i x H1 H2 hi p y => by
    obtain ⟨T, k, v, q, e, rfl, hT, hq, rfl⟩ := y
    exact hs C i k v q T H1 hC e p hT hq) (fun H' p => hd C H' hC p)
end
/-- a def whose last parameter has a default, (), which stands at T -/
structure CalP (P : Program) (w : World) (K : PySem.W.Frag) (mg : Str → Option Value) (base : Heap) (k : Nat) (x : Str) (ps : List Str) (sp : Sp) (T : Addr) : Prop where
  ex : ∃ (f : Addr) (fd : FuncData), FnOk P w K mg base CX0 k f fd ps sp ∧ mg x = some (.ref f) ∧ PySem.W.keepIn K (.ref f) = true ∧ Binds K fd ps [.ref T]
  nil : ∃ o m, K.lookup T = some o ∧ o.cls = .type "tuple" ∧ o.data = .seq #[] m
section
variable {P : Program} {w : World} {K : PySem.W.Frag} {mg : Str → Option Value} {base : Heap} {k : Nat} {x : Str} {ps : List Str} {sp : Sp} {T : Addr}
theorem CalP.seq (C : CalP P w K mg base k x ps sp T) (H : Hp) : SqT K H T [] := by
  obtain ⟨o, m, e1, e2, e3⟩ := C.nil
  exact .inr ⟨o, #[], m, e1, e2, e3, Nat.zero_le _, .nil⟩
theorem CalP.mono {j : Nat} (C : CalP P w K mg base k x ps sp T) (h : k ≤ j) : CalP P w K mg base j x ps sp T := by
  obtain ⟨f, fd, F, r⟩ := C.ex
  exact ⟨⟨f, fd, F.mono h, r⟩, C.nil⟩
abbrev FunP (K : PySem.W.Frag) (x : Str) (st : Stmt) (T0 f : Addr) (fd : FuncData) : Prop := FunD K x x (defArgs st) (defBody st) (defScope st) [.ref T0] [] f fd
theorem funP_mk {x : Str} {st : Stmt} {T0 D f : Addr} {oc kV ocD : Value} {od odD an : Option Addr} {osl slD : Array (Option Value)} {dc pm cdv ct : Value} {nD : Nat} (l : K.lookup f = some ⟨oc, od, .func (PySem.W.fnOf x x (defArgs st) (defBody st) (defScope st) (.ref D) kV dc pm an cdv ct), osl⟩)
    (c : PySem.W.codeIn K cdv x = true) (k : PySem.W.keepIn K (.ref f) = true) (h : K.lookup D = some ⟨ocD, odD, .seq #[.ref T0] nD, slD⟩) : FunP K x st T0 f (PySem.W.fnOf x x (defArgs st) (defBody st) (defScope st) (.ref D) kV dc pm an cdv ct) :=
  ⟨⟨oc, od, .ref D, kV, dc, pm, an, cdv, ct, osl, rfl, l, c, .inr ⟨(fun z => nomatch z), D, _, [Value.ref T0], nD, rfl, h, rfl, .cons rfl .nil⟩, .inl rfl⟩, k⟩
theorem CalP.of {st : Stmt} {f : Addr} {fd : FuncData} {sp : Sp} (F : FunP K x st T f fd) (ok : FnOk P w K mg base CX0 k f fd ps sp) (hm : mg x = some (.ref f)) (b : ∃ ds, Vals [V.ref T] ds ∧ Binds K fd ps ds)
    (hn : ∃ o m, K.lookup T = some o ∧ o.cls = .type "tuple" ∧ o.data = .seq #[] m) : CalP P w K mg base k x ps sp T := by
  obtain ⟨ds, e, b⟩ := b
  cases e with
  | cons e t =>
    cases t
    obtain rfl := (show _ = Value.ref T from e)
    exact ⟨⟨f, fd, ok, hm, F.kp, b⟩, hn⟩
end
section
variable {X : Cx} {k : Nat} {x : Str} {ps : List Str} {sp : Sp} {T : Addr} {p pos : Pos} {e : Expr} {es : List Expr} {t : TA}
/-- left out -/
theorem pcP (C : CalP X.prog X.w X.K X.mg X.base k x ps sp T) (hr : Room k X.A) (hg : Gl X x) (ha : PA X (e :: es) t) (hdb : (x == ("__debug__" : Str)) = false := by decide)
    (he : starEach (e :: es) X.env = (false, eval e X.env) :: starEach es X.env := by rfl) (hpl : (backTo pos (starEach es X.env)).any (·.1) = false := by rfl) :
    PE X (.Call (.Name x p) (e :: es) [] pos) (tCall sp [.ref T] E0 t) := by
  obtain ⟨f, fd, F, hm, hk, hb⟩ := C.ex
  exact pe_call F hr hg hm hk hb (.cons rfl .nil) pass0 ha hdb he hpl
end
end Fk
namespace Fk
open PySem PySem.Spec PySem.W PyProof.Rows L2
section
variable {X : Cx}
theorem kunl (K : PySem.W.Frag) {es : List Expr} {k : Nat} {t : TGs} {n : Nat} {pos : Pos} (hc : X.calm = true) (ht : PGs X es t)
    (hn : (assignEach es X.env).length = n := by rfl) (hst : (assignEach es X.env).findIdx? (·.1) = none := by rfl) (h : X.K = K := by rfl) : PG X (.Tuple es k pos) (gUnl K n t) := by subst h; exact pg_unl hc ht hn hst
end
theorem w_gunl {K : PySem.W.Frag} {σ : L2.St} {H : Hp} {n : Nat} {t : TGs} {a : Addr} {xs : List V} {R : L2.St → Hp → Prop} (h : SqL K H a xs) (hl : xs.length = n) (q : t xs σ H R) : gUnl K n t (.ref a) σ H R := ⟨a, xs, rfl, h, hl, q⟩
end Fk
namespace Fk
open PySem PySem.Spec PyProof.Rows L2
local macro_rules | `(tactic| walk_at "fk") => `(tactic| first
  | with_reducible refine w_seq ?_ | with_reducible refine w_set ?_ | with_reducible refine w_asg ?_ | with_reducible refine w_drop ?_ | with_reducible refine w_ret ?_ | with_reducible refine w_if ?_
  | with_reducible refine w_op ?_ | with_reducible refine w_un ?_ | with_reducible refine w_c ?_ | ((with_reducible apply w_var); rfl)
  | with_reducible refine w_test ?_ | with_reducible refine w_B ?_ | with_reducible refine w_exb ?_ | with_reducible refine w_exi ?_ | with_reducible refine w_I0 ?_ | with_reducible refine w_U ?_
  | with_reducible refine w_nil ?_ | with_reducible refine w_cons ?_ | with_reducible refine w_call ?_ | with_reducible refine w_cb ?_ | with_reducible refine w_tup ?_ | with_reducible refine w_lst ?_
  | with_reducible refine w_and ?_ | with_reducible refine w_or ?_ | with_reducible refine w_not ?_ | with_reducible refine w_andV ?_ | with_reducible refine w_orV ?_ | with_reducible refine w_notV ?_
  | with_reducible refine w_ifE ?_ | with_reducible refine w_chain ?_ | with_reducible refine w_for ?_ | with_reducible refine w_lc ?_ | with_reducible refine w_yes ?_ | with_reducible refine w_iR1 ?_ | with_reducible refine w_iL ?_ | with_reducible refine w_iT ?_ | with_reducible refine w_iE ?_ | with_reducible refine w_iZ ?_ | with_reducible refine w_iS ?_ | with_reducible refine w_s1 ?_ | with_reducible refine w_m1 ?_ | with_reducible refine w_m0 ?_ | with_reducible refine w_estr ?_ | with_reducible refine w_lz ?_ | with_reducible refine w_ss ?_ | with_reducible refine w_revL ?_ | with_reducible refine w_dc ?_ | with_reducible refine w_c2 ?_ | with_reducible refine w_c2D ?_ | with_reducible refine w_iIT ?_ | with_reducible refine w_ddelT ?_ | with_reducible refine w_dsetd ?_ | with_reducible refine w_dget1 ?_ | with_reducible refine w_iI ?_ | with_reducible refine w_iES ?_ | with_reducible refine w_dget ?_ | with_reducible refine w_dget2 ?_ | with_reducible refine w_dput ?_ | with_reducible refine w_callN ?_ | with_reducible refine w_callD ?_ | with_reducible refine w_dnew ?_ | with_reducible refine w_dnewT ?_ | with_reducible refine w_revT ?_ | with_reducible refine w_leS ?_ | with_reducible refine w_ltS ?_ | with_reducible refine w_inSg ?_ | with_reducible refine w_notInSg ?_ | with_reducible refine iteT ?_ | with_reducible refine iteF ?_ | with_reducible refine w_par ?_ | with_reducible refine w_par3 ?_ | with_reducible refine w_three ?_ | with_reducible refine w_two ?_ | with_reducible refine w_gname ?_ | with_reducible refine w_gcons ?_ | with_reducible refine w_gnil ?_ | ((with_reducible apply w_gtup); (with_reducible assumption); rfl) | with_reducible refine w_gsub ?_
  | with_reducible refine w_bm0 ?_ | with_reducible refine w_iK ?_ | with_reducible refine w_iQ ?_ | with_reducible refine w_c1 ?_ | with_reducible refine iteNT ?_ | with_reducible refine iteNF ?_ | with_reducible refine w_tru ?_ | with_reducible refine w_dnin ?_ | with_reducible refine w_dgetN ?_
  | with_reducible refine w_bm ?_ | with_reducible refine w_sl ?_ | with_reducible refine w_noP ?_ | with_reducible refine w_part ?_ | with_reducible refine w_next ?_ | with_reducible refine w_retN ?_
  | ((with_reducible refine w_I ?hk ?_); (case hk => (first | (show (0 : Int) < _; omega) | exact ⟨by omega, by omega⟩ | exact .inl ⟨by omega, by omega⟩ | exact .inr ⟨by omega, by omega⟩ | exact cpow_small (by decide) (by decide) (by decide))))
  | ((with_reducible apply w_eq); rfl) | ((with_reducible apply w_ne); rfl)
  | ((with_reducible apply w_ixL); (with_reducible assumption); rfl)
  | ((with_reducible apply w_setL); (with_reducible assumption); rfl))
local macro_rules | `(tactic| walk_at "go") => `(tactic| repeat walk_at "fk")

theorem le_0 (c : Nat) : (!decide (cL ⟨#[c]⟩ < cL "0")) = decide (48 ≤ c) := by
  have e : cL "0" = [48] := by decide +kernel
  rw [cL_one, e, Bool.eq_iff_iff]
  simp [List.cons_lt_cons_iff]
theorem le_9 (c : Nat) : (!decide (cL "9" < cL ⟨#[c]⟩)) = decide (c ≤ 57) := by
  have e : cL "9" = [57] := by decide +kernel
  rw [cL_one, e, Bool.eq_iff_iff]
  simp [List.cons_lt_cons_iff]
def digB (c : Nat) : Bool := decide (48 ≤ c) && decide (c ≤ 57)
theorem all_digs (l : List Nat) : (l.map digB).all id = decide (∀ c ∈ l, 48 ≤ c ∧ c ≤ 57) := by
  rw [Bool.eq_iff_iff]
  rw [decide_eq_true_eq, List.all_map, List.all_eq_true]
  simp [digB]
abbrev dec10 : List Nat := [48, 49, 50, 51, 52, 53, 54, 55, 56, 57]
theorem dec_mem {c : Nat} : c ∈ dec10 ↔ 48 ≤ c ∧ c ≤ 57 := by
  simp only [dec10, List.mem_cons, List.not_mem_nil, or_false]
  omega
/-- what a word tells -/
def figV (w : Str) : V := match figN w with
  | some n => .int (n : Int)
  | none => .non
def numW (w : Str) : V := match figN w with
  | some n => if n ≤ 1000000 then .int (n : Int) else .non
  | none => .non
theorem figV_no {w : Str} (h : ¬ FigOk w) : figV w = .non := by
  unfold figV figN
  rw [if_neg h]
theorem figV_yes {w : Str} (h : FigOk w) : figV w = .int ((NumText.digitsVal (cL w) : Nat) : Int) := by
  unfold figV figN
  rw [if_pos h]
theorem numW_no {w : Str} (h : ¬ FigOk w) : numW w = .non := by
  unfold numW figN
  rw [if_neg h]
theorem numW_yes {w : Str} (h : FigOk w) : numW w = if NumText.digitsVal (cL w) ≤ 1000000 then .int ((NumText.digitsVal (cL w) : Nat) : Int) else .non := by
  unfold numW figN
  rw [if_pos h]
theorem numV_fig (w : Str) : numV 1000000 (figV w) = numV 1000000 (numW w) := by
  unfold figV numW
  cases figN w with
  | none => rfl
  | some n =>
    by_cases h : n ≤ 1000000
    · show _ = numV 1000000 (if n ≤ 1000000 then _ else _)
      rw [if_pos h]
    · show numV 1000000 (.int (n : Int)) = numV 1000000 (if n ≤ 1000000 then _ else _)
      rw [if_neg h]
      show (decide ((0 : Int) ≤ (n : Int)) && decide ((n : Int) ≤ 1000000)) = false
      rw [decide_eq_false (p := (n : Int) ≤ 1000000) (by omega), Bool.and_false]
theorem str_head {w : Str} {c : Nat} {r : List Nat} (h : cL w = c :: r) : atI (cL w) 0 = some c := by
  rw [h]
  exact atI_of (i := 0) rfl
theorem w_ne0 {w : Str} (h : 1 ≤ w.length) : ∃ c r, cL w = c :: r := by
  rw [cL_len] at h
  cases e : cL w with
  | nil => rw [e] at h; exact absurd h (by decide)
  | cons c r => exact ⟨c, r, rfl⟩
theorem one_eq (c d : Nat) : decide (V.str ⟨#[c]⟩ = V.str ⟨#[d]⟩) = decide (c = d) := decide_eq_decide.mpr ⟨fun e => by
  have := V.str.inj e
  have z := congrArg cL this
  rw [cL_one, cL_one] at z
  exact (List.cons.inj z).1, fun e => by rw [e]⟩
theorem eq_zero (w : Str) : decide (V.str w = V.str "0") = decide (cL w = [48]) := decide_eq_decide.mpr ⟨fun e => by
  rw [V.str.inj e]
  decide +kernel, fun e => by
  have : w = "0" := str_ext (by rw [e]; decide +kernel)
  rw [this]⟩
/-- int(a text) -/
def rIntOf (z : Str) (H : Hp) (Q : VK) : Prop := ∃ a n, [V.str z] = [V.str a] ∧ PySem.intText? a = some n ∧ a.length ≤ 640 ∧ Q (.int n) H
section
variable {P : Program} {w : World} {K : PySem.W.Frag} {mg : Str → Option Value} {base : Heap}
def spFigured : Sp := fun vs H Q _ => ∃ z : Str, vs = [.str z, .int 7] ∧ Asc 2000 z ∧ ∀ H', Evl.Ex H H' → Q (figV z) H'
theorem ok_figured {f : Addr} {fd : FuncData} (F : Fun K "figured" "figured" s_figured f fd) (T : Txt mg) : FnOk P w K mg base CX0 1 f fd ["word", "most"] spFigured := by
  refine F.ok sc_figured (fun vs H Q E h => ?_) (fun cdv A outer s H vs Q E hr h => ?_)
  · obtain ⟨z, rfl, _⟩ := h
    rfl
  · obtain ⟨z, rfl, ⟨lz, az⟩, q⟩ := h
    refine ⟨_, (pss_cons (ps_if (PW.pt (pw_or (pt_not (pt_chain op_le op_le pe_int (pe_callB (klen K) (by rfl) T.len_ PySem.boot_len (pa_cons (pv 0) pa_nil)) (pv 1))) (pw_or1 (pt_not (pt_val (pe_callB (kall K rfl) (by rfl) T.all_ (by decide +kernel) (pa_cons (pe_lc (own := [("sign", 2)]) (g := gName 2) (by rfl) sc_figured.nd (pi_str (pv 0)) (blkOk_by (own := [("sign", 2)]) (N := ["word", "most", "sign"]) (sc := defScope s_figured) (by decide +kernel)) (fun _ _ _ _ _ => (pg_name (i := 2) sc_figured.nd rfl (Or.inl rfl))) (fun _ _ _ _ _ => pts_nil) (fun _ _ _ _ _ => (pe_chain kLeS kLeS pe_str (pv 2) pe_str))) pa_nil))))))) (pss_one (ps_ret pe_non)) pss_nil)
      (pss_cons (ps_if (PW.pt (pw_and (pt_cmpR op_eq (pe_ix ix_str (pv 0) pe_int (fun _ _ => rfl)) pe_str (nomark _)) (pw_and1 (pt_cmpR op_ne (pv 0) pe_str (nomark _))))) (pss_one (ps_ret pe_non)) pss_nil)
      (pss_one (ps_ret (pe_callTy call_int_str (by rfl) T.int_ (by decide +kernel) (pa_cons (pv 0) pa_nil)))))), ?_⟩
    refine w_from [some (.str z), some (.int 7), none] ?_
    try dsimp only [cxOf]
    have none_ : ∀ {H' : Hp}, Evl.Ex H H' → ¬ FigOk z → Q .non H' := fun {H'} e h => by
      have k := q H' e
      rw [figV_no h] at k
      exact k
    walk_at "go"
    refine w_len ⟨small (by omega), rfl⟩ ?_
    walk_at "go"
    refine w_dec (fun h1 => ?_) (fun h1 => ?_)
    · walk_at "go"
      refine w_bool (fun h2 => ?_) (fun h2 => ?_)
      · walk_at "go"
        simp at h2
        exact none_ (Evl.Ex.refl _) fun k => by have := k.2.1; omega
      · walk_at "go"
        simp at h2
        refine lcS (fun C i H' => Evl.Ex H H' ∧ H' C = some (.lst (((cL z).take i).map fun c => .bl (digB c)))) ?_ ?_ ?_
        · intro C hC
          exact ⟨Evl.Ex.new hC, upd_same⟩
        · rintro C i c H1 hC hc ⟨e1, hC1⟩
          refine w_turn rfl ?_
          walk_at "go"
          rw [le_0]
          refine w_dec (fun h3 => ?_) (fun h3 => ?_)
          · walk_at "go"
            rw [le_9]
            refine ⟨_, hC1, smallS (by rw [List.length_map, List.length_take, ← cL_len]; omega), Evl.Ex.mut e1 hC, ?_⟩
            rw [upd_same, List.take_add_one, hc, List.map_append]
            simp [digB, h3]
          · refine ⟨_, hC1, smallS (by rw [List.length_map, List.length_take, ← cL_len]; omega), Evl.Ex.mut e1 hC, ?_⟩
            rw [upd_same, List.take_add_one, hc, List.map_append]
            simp [digB, h3]
        · rintro C H1 hC ⟨e1, hC1⟩
          rw [List.take_length] at hC1
          walk_at "go"
          refine w_all (bs := (cL z).map digB) (SqL.of (by rw [hC1, List.map_map]; rfl)) ?_
          rw [all_digs]
          by_cases dg : ∀ c ∈ cL z, 48 ≤ c ∧ c ≤ 57
          case neg =>
            rw [decide_eq_false dg]
            walk_at "go"
            exact none_ e1 fun k => dg k.2.2.1
          rw [decide_eq_true dg]
          have one : 1 ≤ z.length := by omega
          obtain ⟨c0, r0, ez⟩ := w_ne0 one
          walk_at "go"
          refine w_ixS (small (by omega)) (str_head ez) ?_
          walk_at "go"
          rw [eq_zero, cL_one]
          have fin : ∀ {H' : Hp}, Evl.Ex H H' → ((cL z).head? = some 48 → cL z = [48]) → rIntOf z H' Q := fun {H'} e k => by
            have ok : FigOk z := ⟨one, by omega, dg, k⟩
            have zz := q H' e
            rw [figV_yes ok] at zz
            exact ⟨z, _, rfl, fig_int ok, by omega, zz⟩
          refine w_dec (fun c48 => ?_) (fun c48 => ?_)
          · walk_at "go"
            rw [eq_zero]
            by_cases z0 : cL z = [48]
            · rw [decide_eq_true z0]
              walk_at "go"
              exact fin e1 fun _ => z0
            · rw [decide_eq_false z0]
              walk_at "go"
              refine none_ e1 fun k => z0 (k.2.2.2 ?_)
              rw [ez, (List.cons.inj c48).1]
              rfl
          · walk_at "go"
            refine fin e1 fun k => absurd ?_ c48
            rw [ez] at k
            rw [Option.some.inj k]
    · walk_at "go"
      exact none_ (Evl.Ex.refl _) fun k => h1 (by have := k.1; omega)
def spLawNum : Sp := fun vs H Q _ => ∃ z : Str, vs = [.str z] ∧ Asc 2000 z ∧ ∀ H', Evl.Ex H H' → Q (numW z) H'
theorem ok_lawnum {f : Addr} {fd : FuncData} (F : Fun K "_law_number" "_law_number" s_law_number f fd) (T : Txt mg) : FnOk P w K mg base CX0 1 f fd ["word"] spLawNum := by
  refine F.ok sc_law_number (fun vs H Q E h => ?_) (fun cdv A outer s H vs Q E hr h => ?_)
  · obtain ⟨z, rfl, _⟩ := h
    rfl
  · obtain ⟨z, rfl, ⟨lz, az⟩, q⟩ := h
    refine ⟨_, (pss_cons (ps_if (PW.pt (pw_or (pt_cmpR op_eq (pv 0) pe_str (nomark _)) (pw_or (pt_cmpR op_gt (pe_callB (klen K) (by rfl) T.len_ PySem.boot_len (pa_cons (pv 0) pa_nil)) pe_int (nomark _)) (pw_or1 (pt_cmpR (kNeL0 K hr.units) (pe_lc (own := [("sign", 1)]) (g := gName 1) (by rfl) sc_law_number.nd (pi_str (pv 0)) (blkOk_by (own := [("sign", 1)]) (N := ["word", "sign"]) (sc := defScope s_law_number) (by decide +kernel)) (fun _ _ _ _ _ => (pg_name (i := 1) sc_law_number.nd rfl (Or.inl rfl))) (fun _ _ _ _ _ => (pts_one (pt_cmpR kNotInS (pv 1) pe_str rfl))) (fun _ _ _ _ _ => (pv 1))) (pe_lst pa_nil) (nomark _)))))) (pss_one (ps_ret pe_non)) pss_nil)
      (pss_cons (ps_if (PW.pt (pw_or (PW.pt (pw_and (pt_cmpR op_eq (pe_ix ix_str (pv 0) pe_int (fun _ _ => rfl)) pe_str (nomark _)) (pw_and1 (pt_cmpR op_ne (pv 0) pe_str (nomark _))))) (pw_or1 (pt_cmpR op_gt (pe_callTy call_int_str (by rfl) T.int_ (by decide +kernel) (pa_cons (pv 0) pa_nil)) (pe_op op_powN pe_int pe_int) (nomark _))))) (pss_one (ps_ret pe_non)) pss_nil)
      (pss_one (ps_ret (pe_callTy call_int_str (by rfl) T.int_ (by decide +kernel) (pa_cons (pv 0) pa_nil)))))), ?_⟩
    refine w_from [some (.str z), none] ?_
    try dsimp only [cxOf]
    have none_ : ∀ {H' : Hp}, Evl.Ex H H' → ¬ FigOk z → Q .non H' := fun {H'} e h => by
      have k := q H' e
      rw [numW_no h] at k
      exact k
    have e0 : decide (V.str z = V.str "") = decide (z.length = 0) := decide_eq_decide.mpr ⟨fun e => by rw [V.str.inj e]; rfl, fun e => by
      have : z = "" := str_ext (by
        rw [cL_len] at e
        rw [List.length_eq_zero_iff.mp e]
        decide +kernel)
      rw [this]⟩
    walk_at "go"
    rw [e0]
    refine w_dec (fun h0 => ?_) (fun h0 => ?_)
    · walk_at "go"
      exact none_ (Evl.Ex.refl _) fun k => by have := k.1; omega
    walk_at "go"
    refine w_len ⟨small (by omega), rfl⟩ ?_
    walk_at "go"
    refine w_dec (fun h1 => ?_) (fun h1 => ?_)
    · walk_at "go"
      exact none_ (Evl.Ex.refl _) fun k => by have := k.2.1; omega
    walk_at "go"
    have hdec : cL "0123456789" = dec10 := by decide +kernel
    refine lcS (fun C i H' => Evl.Ex H H' ∧ H' C = some (.lst ((((cL z).take i).filter fun c => !decide (c ∈ dec10)).map fun c => V.str ⟨#[c]⟩))) ?_ ?_ ?_
    · intro C hC
      exact ⟨Evl.Ex.new hC, upd_same⟩
    · rintro C j c H' hC hc ⟨e, hN⟩
      have tk := take_snoc hc
      have lj : j < (cL z).length := (List.getElem?_eq_some_iff.mp hc).1
      have lf := List.length_filter_le (fun c => !decide (c ∈ dec10)) ((cL z).take j)
      rw [List.length_take] at lf
      refine w_turn rfl ?_
      walk_at "go"
      rw [hdec]
      cases cc : (!decide (c ∈ dec10)) with
      | true =>
        walk_at "go"
        refine ⟨_, hN, smallS (by rw [List.length_map]; rw [← cL_len] at lj; omega), e.mut hC, ?_⟩
        rw [upd_same, tk, List.filter_append, List.filter_cons_of_pos (by exact cc)]
        simp
      | false =>
        walk_at "go"
        refine ⟨e, ?_⟩
        rw [hN, tk, List.filter_append, List.filter_cons_of_neg (by rw [cc]; exact Bool.false_ne_true)]
        simp
    rintro C H5 hC ⟨e5, hC5⟩
    rw [List.take_length] at hC5
    walk_at "go"
    refine ⟨small (by show 0 ≤ 100000; omega), ?_⟩
    intro B hB
    generalize hE : upd _ B _ = H6
    have nH6 := New.of hB hE
    clear hE
    refine w_neL0 (SqL.of (nH6.keep hC5)) (SqL.of nH6.here) ?_
    have e6 := e5.trans nH6.ex
    by_cases dg : ∀ c ∈ cL z, 48 ≤ c ∧ c ≤ 57
    case neg =>
      rw [show (!(((cL z).filter fun c => !decide (c ∈ dec10)).map fun c => V.str ⟨#[c]⟩).isEmpty) = true from by
        cases e : (cL z).filter fun c => !decide (c ∈ dec10) with
        | nil => exact absurd (fun c mc => dec_mem.mp (Classical.byContradiction fun n => List.filter_eq_nil_iff.mp e c mc (by rw [decide_eq_false n]; rfl))) dg
        | cons _ _ => rfl]
      walk_at "go"
      exact none_ e6 fun k => dg k.2.2.1
    rw [show (cL z).filter (fun c => !decide (c ∈ dec10)) = [] from List.filter_eq_nil_iff.mpr fun c mc => by simp only [dec_mem.mpr (dg c mc), decide_true, Bool.not_true]; exact Bool.false_ne_true]
    rw [show (!(([] : List Nat).map fun c => V.str ⟨#[c]⟩).isEmpty) = false from rfl]
    have one : 1 ≤ z.length := by omega
    obtain ⟨c0, r0, ez⟩ := w_ne0 one
    walk_at "go"
    refine w_ixS (small (by omega)) (str_head ez) ?_
    walk_at "go"
    rw [eq_zero, cL_one]
    have fin : ((cL z).head? = some 48 → cL z = [48]) → ∀ Q' : VK, Q' (.int ((NumText.digitsVal (cL z) : Nat) : Int)) H6 → rIntOf z H6 Q' := fun k Q' zz => ⟨z, _, rfl, fig_int ⟨one, by omega, dg, k⟩, by omega, zz⟩
    have num : ((cL z).head? = some 48 → cL z = [48]) → Q (if NumText.digitsVal (cL z) ≤ 1000000 then .int ((NumText.digitsVal (cL z) : Nat) : Int) else .non) H6 := fun k => by
      have zz := q H6 e6
      rw [numW_yes ⟨one, by omega, dg, k⟩] at zz
      exact zz
    refine w_dec (fun c48 => ?_) (fun c48 => ?_)
    · walk_at "go"
      rw [eq_zero]
      by_cases z0 : cL z = [48]
      · rw [decide_eq_true z0]
        walk_at "go"
        refine ⟨z, _, rfl, fig_int ⟨one, by omega, dg, fun _ => z0⟩, by omega, ?_⟩
        walk_at "go"
        rw [show (10 : Int) ^ Int.toNat 6 = 1000000 from by decide]
        by_cases big : NumText.digitsVal (cL z) ≤ 1000000
        · rw [show decide ((1000000 : Int) < ((NumText.digitsVal (cL z) : Nat) : Int)) = false from decide_eq_false (by omega)]
          walk_at "go"
          refine ⟨z, _, rfl, fig_int ⟨one, by omega, dg, fun _ => z0⟩, by omega, ?_⟩
          have zz := num (fun _ => z0)
          rw [if_pos big] at zz
          exact zz
        · rw [show decide ((1000000 : Int) < ((NumText.digitsVal (cL z) : Nat) : Int)) = true from decide_eq_true (by omega)]
          walk_at "go"
          have zz := num (fun _ => z0)
          rw [if_neg big] at zz
          exact zz
      · rw [decide_eq_false z0]
        walk_at "go"
        refine none_ e6 fun k => z0 (k.2.2.2 ?_)
        rw [ez, (List.cons.inj c48).1]
        rfl
    · have kk : (cL z).head? = some 48 → cL z = [48] := fun k => by
        refine absurd ?_ c48
        rw [ez] at k
        rw [Option.some.inj k]
      walk_at "go"
      refine ⟨z, _, rfl, fig_int ⟨one, by omega, dg, kk⟩, by omega, ?_⟩
      walk_at "go"
      rw [show (10 : Int) ^ Int.toNat 6 = 1000000 from by decide]
      by_cases big : NumText.digitsVal (cL z) ≤ 1000000
      · rw [show decide ((1000000 : Int) < ((NumText.digitsVal (cL z) : Nat) : Int)) = false from decide_eq_false (by omega)]
        walk_at "go"
        refine ⟨z, _, rfl, fig_int ⟨one, by omega, dg, kk⟩, by omega, ?_⟩
        have zz := num kk
        rw [if_pos big] at zz
        exact zz
      · rw [show decide ((1000000 : Int) < ((NumText.digitsVal (cL z) : Nat) : Int)) = true from decide_eq_true (by omega)]
        walk_at "go"
        have zz := num kk
        rw [if_neg big] at zz
        exact zz
end
end Fk
namespace Fk
open PySem PySem.Spec PyProof.Rows L2
local macro_rules | `(tactic| walk_at "fk") => `(tactic| first
  | with_reducible refine w_seq ?_ | with_reducible refine w_set ?_ | with_reducible refine w_asg ?_ | with_reducible refine w_drop ?_ | with_reducible refine w_ret ?_ | with_reducible refine w_if ?_
  | with_reducible refine w_op ?_ | with_reducible refine w_un ?_ | with_reducible refine w_c ?_ | ((with_reducible apply w_var); rfl)
  | with_reducible refine w_test ?_ | with_reducible refine w_B ?_ | with_reducible refine w_exb ?_ | with_reducible refine w_exi ?_ | with_reducible refine w_I0 ?_ | with_reducible refine w_U ?_
  | with_reducible refine w_nil ?_ | with_reducible refine w_cons ?_ | with_reducible refine w_call ?_ | with_reducible refine w_cb ?_ | with_reducible refine w_tup ?_ | with_reducible refine w_lst ?_
  | with_reducible refine w_and ?_ | with_reducible refine w_or ?_ | with_reducible refine w_not ?_ | with_reducible refine w_andV ?_ | with_reducible refine w_orV ?_ | with_reducible refine w_notV ?_
  | with_reducible refine w_ifE ?_ | with_reducible refine w_chain ?_ | with_reducible refine w_for ?_ | with_reducible refine w_lc ?_ | with_reducible refine w_yes ?_ | with_reducible refine w_iR1 ?_ | with_reducible refine w_iL ?_ | with_reducible refine w_iT ?_ | with_reducible refine w_iE ?_ | with_reducible refine w_iZ ?_ | with_reducible refine w_iS ?_ | with_reducible refine w_s1 ?_ | with_reducible refine w_m1 ?_ | with_reducible refine w_m0 ?_ | with_reducible refine w_estr ?_ | with_reducible refine w_lz ?_ | with_reducible refine w_ss ?_ | with_reducible refine w_revL ?_ | with_reducible refine w_dc ?_ | with_reducible refine w_c2 ?_ | with_reducible refine w_c2D ?_ | with_reducible refine w_iIT ?_ | with_reducible refine w_ddelT ?_ | with_reducible refine w_dsetd ?_ | with_reducible refine w_dget1 ?_ | with_reducible refine w_iI ?_ | with_reducible refine w_iES ?_ | with_reducible refine w_dget ?_ | with_reducible refine w_dget2 ?_ | with_reducible refine w_dput ?_ | with_reducible refine w_callN ?_ | with_reducible refine w_callD ?_ | with_reducible refine w_dnew ?_ | with_reducible refine w_dnewT ?_ | with_reducible refine w_revT ?_ | with_reducible refine w_leS ?_ | with_reducible refine w_ltS ?_ | with_reducible refine w_inSg ?_ | with_reducible refine w_notInSg ?_ | with_reducible refine iteT ?_ | with_reducible refine iteF ?_ | with_reducible refine w_par ?_ | with_reducible refine w_par3 ?_ | with_reducible refine w_three ?_ | with_reducible refine w_two ?_ | with_reducible refine w_gname ?_ | with_reducible refine w_gcons ?_ | with_reducible refine w_gnil ?_ | ((with_reducible apply w_gtup); (with_reducible assumption); rfl) | with_reducible refine w_gsub ?_
  | with_reducible refine w_bm0 ?_ | with_reducible refine w_iK ?_ | with_reducible refine w_iQ ?_ | with_reducible refine w_c1 ?_ | with_reducible refine iteNT ?_ | with_reducible refine iteNF ?_ | with_reducible refine w_tru ?_ | with_reducible refine w_dnin ?_ | with_reducible refine w_dgetN ?_
  | with_reducible refine w_bm ?_ | with_reducible refine w_sl ?_ | with_reducible refine w_noP ?_ | with_reducible refine w_part ?_ | with_reducible refine w_next ?_ | with_reducible refine w_retN ?_
  | ((with_reducible refine w_I ?hk ?_); (case hk => (first | (show (0 : Int) < _; omega) | exact ⟨by omega, by omega⟩ | exact .inl ⟨by omega, by omega⟩ | exact .inr ⟨by omega, by omega⟩ | exact cpow_small (by decide) (by decide) (by decide))))
  | ((with_reducible apply w_eq); rfl) | ((with_reducible apply w_ne); rfl)
  | ((with_reducible apply w_ixL); (with_reducible assumption); rfl)
  | ((with_reducible apply w_setL); (with_reducible assumption); rfl))
local macro_rules | `(tactic| walk_at "go") => `(tactic| repeat walk_at "fk")

theorem numV_int {A : V} (h : numV 1000000 A = true) : ∃ n : Nat, n ≤ 1000000 ∧ A = .int (n : Int) := by
  cases A with
  | int i =>
    unfold numV at h
    simp only [Bool.and_eq_true, decide_eq_true_iff] at h
    exact ⟨i.toNat, by omega, by congr 1; omega⟩
  | _ => exact absurd (show false = true from h) (by decide)
theorem fig_iff {w : Str} {n : Nat} (_ : n ≤ 1000000) : figV w = .int (n : Int) ↔ figN w = some n := by
  unfold figV
  cases figN w with
  | none => exact ⟨fun h => (nomatch h), fun h => (nomatch h)⟩
  | some m => exact ⟨fun h => (by have := V.int.inj h; congr 1; omega), fun h => (by rw [Option.some.inj h])⟩
theorem num_iff {w : Str} {n : Nat} (h : n ≤ 1000000) : numW w = .int (n : Int) ↔ figN w = some n := by
  unfold numW
  cases figN w with
  | none => exact ⟨fun h => (nomatch h), fun h => (nomatch h)⟩
  | some m =>
    by_cases c : m ≤ 1000000
    · show (if m ≤ 1000000 then V.int (m : Int) else V.non) = _ ↔ _
      rw [if_pos c]
      exact ⟨fun h => (by have := V.int.inj h; congr 1; omega), fun h => (by rw [Option.some.inj h])⟩
    · show (if m ≤ 1000000 then V.int (m : Int) else V.non) = _ ↔ _
      rw [if_neg c]
      exact ⟨fun h => (nomatch h), fun k => absurd (show m ≤ 1000000 from (by rw [Option.some.inj k]; exact h)) c⟩
theorem four_words {a b c d : Str} {A B : V} (hA : ∀ n : Nat, n ≤ 1000000 → (A = .int (n : Int) ↔ figN a = some n)) (hB : ∀ n : Nat, n ≤ 1000000 → (B = .int (n : Int) ↔ figN b = some n)) :
    fourV [A, B, .str c, .str d] = true ↔ ∃ x : Lk, x.ok ∧ [a, b, c, d] = wordsL x ∧ [A, B, V.str c, V.str d] = x.vs := by
  constructor
  · intro h
    unfold fourV at h
    simp only [Bool.and_eq_true] at h
    obtain ⟨⟨hc, hm⟩, ⟨ho, ht⟩, hl⟩ := h
    obtain ⟨n, ln, rfl⟩ := numV_int hc
    obtain ⟨m, lm, rfl⟩ := numV_int hm
    have e1 := fig_num ((hA n ln).1 rfl)
    have e2 := fig_num ((hB m lm).1 rfl)
    have pc : Place c := of_decide_eq_true ho
    have pd : Place d := of_decide_eq_true ht
    refine ⟨⟨n, m, c, d⟩, ⟨by show (0 : Int) ≤ (n : Int); omega, by show (n : Int) ≤ 1000000; omega, by show (0 : Int) ≤ (m : Int); omega, by show (m : Int) ≤ 1000000; omega, pc, pd, of_decide_eq_true hl⟩, ?_, rfl⟩
    show [a, b, c, d] = [numS (n : Int), numS (m : Int), c, d]
    rw [← e1, ← e2]
  · rintro ⟨x, ok, e, ev⟩
    rw [ev]
    obtain ⟨x1, x2, x3, x4, x5, x6, x7⟩ := ok
    show ((decide (0 ≤ x.c) && decide (x.c ≤ 1000000)) && (decide (0 ≤ x.m) && decide (x.m ≤ 1000000)) && (decide (Place x.a) && decide (Place x.b) && decide (Lts x.a x.b))) = true
    simp [x1, x2, x3, x4, x5, x6, x7]
theorem four_vs {a b c d : Str} {A B : V} {x : Lk} (hA : ∀ n : Nat, n ≤ 1000000 → (A = .int (n : Int) ↔ figN a = some n)) (hB : ∀ n : Nat, n ≤ 1000000 → (B = .int (n : Int) ↔ figN b = some n)) (ok : x.ok) (e : [a, b, c, d] = wordsL x) : [A, B, V.str c, V.str d] = x.vs := by
  unfold wordsL at e
  simp only [List.cons.injEq, and_true] at e
  obtain ⟨rfl, rfl, rfl, rfl⟩ := e
  obtain ⟨x1, x2, x3, x4, _⟩ := ok
  obtain ⟨n, en⟩ := nat_num x1
  obtain ⟨m, em⟩ := nat_num x3
  have e1 : A = .int x.c := by
    rw [en]
    refine (hA n (by omega)).2 ?_
    rw [en]
    exact num_fig (by omega)
  have e2 : B = .int x.m := by
    rw [em]
    refine (hB m (by omega)).2 ?_
    rw [em]
    exact num_fig (by omega)
  rw [e1, e2]
  rfl
/-- the link that words tell, or none -/
def LkAns (H : Hp) (v : V) (ws : List Str) : Prop := (∃ x : Lk, x.ok ∧ ws = wordsL x ∧ ∃ t, v = .ref t ∧ H t = some (.tup x.vs)) ∨ (v = .non ∧ ¬ ∃ x : Lk, x.ok ∧ ws = wordsL x)
theorem words_four {ws : List Str} (h : ws.length ≠ 4) : ¬ ∃ x : Lk, x.ok ∧ ws = wordsL x := fun ⟨x, _, e⟩ => h (by rw [e]; rfl)
theorem four_str {ws : List Str} (h : ws.length = 4) : ∃ a b c d, ws = [a, b, c, d] := by
  match ws, h with
  | [a, b, c, d], _ => exact ⟨a, b, c, d, rfl⟩
theorem asc_kd {H : Hp} {z : Str} {n : Nat} (h : Asc n z) (l : n ≤ 100000) : Kd H (.str z) := .str z (Nat.le_trans h.1 l) h.2
theorem figV_kd (H : Hp) (z : Str) : Kd H (figV z) := by
  unfold figV
  cases figN z with
  | none => exact .non
  | some n => exact .int _
theorem numW_kd (H : Hp) (z : Str) : Kd H (numW z) := by
  unfold numW
  cases figN z with
  | none => exact .non
  | some n =>
    show Kd H (if n ≤ 1000000 then _ else _)
    split
    · exact .int _
    · exact .non
section
variable {P : Program} {w : World} {K : PySem.W.Frag} {mg : Str → Option Value} {base : Heap}
def spWorded : Sp := fun vs H Q _ => ∃ (p : Addr) (ws : List Str), vs = [.ref p] ∧ H p = some (.lst (ws.map V.str)) ∧ ws.length ≤ 3000 ∧ (∀ z ∈ ws, Asc 2000 z) ∧ ∀ (v : V) (H' : Hp), Evl.Ex H H' → LkAns H' v ws → Q v H'
theorem ok_worded {f : Addr} {fd : FuncData} (F : Fun K "worded_link" "worded_link" s_worded_link f fd) (T : Txt mg) (C_figured : Cal P w K mg base 1 "figured" ["word", "most"] spFigured) (C_is_link : Cal P w K mg base 2 "is_link" ["thing"] spIsLink) : FnOk P w K mg base CX0 3 f fd ["words"] spWorded := by
  obtain ⟨_, gMOST_FIGURES⟩ := T.MOST_FIGURES_
  refine F.ok sc_worded_link (fun vs H Q E h => ?_) (fun cdv A outer s H vs Q E hr h => ?_)
  · obtain ⟨p, ws, rfl, _⟩ := h
    rfl
  · obtain ⟨p, ws, rfl, hp, lw, aw, q⟩ := h
    refine ⟨_, (pss_cons (ps_if (pt_cmpR op_ne (pe_callB (klen K) (by rfl) T.len_ PySem.boot_len (pa_cons (pv 0) pa_nil)) pe_int (nomark _)) (pss_one (ps_ret pe_non)) pss_nil)
      (pss_cons (ps_asg (pv 0) (kunl K (n := 4) rfl (pgs_cons (pg_name (i := 1) sc_worded_link.nd rfl (.inl rfl)) (pgs_cons (pg_name (i := 2) sc_worded_link.nd rfl (.inl rfl)) (pgs_cons (pg_name (i := 3) sc_worded_link.nd rfl (.inl rfl)) (pgs_cons (pg_name (i := 4) sc_worded_link.nd rfl (.inl rfl)) pgs_nil))))))
      (pss_cons (ps_set (i := 5) sc_worded_link.nd rfl (.inl rfl) (pe_tup (pa_cons (pc C_figured (hr.mono (by decide)) (by rfl) (pa_cons (pv 1) (pa_cons (pe_glob (v := .int 7) rfl gMOST_FIGURES ⟨_, rfl⟩) pa_nil))) (pa_cons (pc C_figured (hr.mono (by decide)) (by rfl) (pa_cons (pv 2) (pa_cons (pe_glob (v := .int 7) rfl gMOST_FIGURES ⟨_, rfl⟩) pa_nil))) (pa_cons (pv 3) (pa_cons (pv 4) pa_nil))))))
      (pss_one (ps_ret (pe_ifExp (pt_val (pc C_is_link (hr.mono (by decide)) (by rfl) (pa_cons (pv 5) pa_nil))) (pv 5) pe_non)))))), ?_⟩
    refine w_from [some (.ref p), none, none, none, none, none] ?_
    try dsimp only [cxOf]
    walk_at "go"
    refine w_len (.inl ⟨_, SqL.of hp, rfl⟩) ?_
    rw [show (ws.map V.str).length = ws.length from List.length_map ..]
    walk_at "go"
    by_cases l4 : ws.length = 4
    case neg =>
      rw [show (!decide (V.int (ws.length : Int) = V.int 4)) = true from by
        rw [decide_eq_false fun k => l4 (by injection k with k; omega)]
        rfl]
      walk_at "go"
      exact q _ H (Evl.Ex.refl H) (.inr ⟨rfl, words_four l4⟩)
    rw [show (!decide (V.int (ws.length : Int) = V.int 4)) = false from by rw [l4]; rfl]
    obtain ⟨a, b, c, d, rfl⟩ := four_str l4
    have Aa := aw a (by simp)
    have Ab := aw b (by simp)
    have Ac := aw c (by simp)
    have Ad := aw d (by simp)
    walk_at "go"
    refine w_gunl (xs := [a, b, c, d].map V.str) (SqL.of hp) rfl ?_
    refine w_gcons (w_gname (w_gcons (w_gname (w_gcons (w_gname (w_gcons (w_gname (w_gnil ?_))))))))
    walk_at "go"
    refine ⟨a, rfl, Aa, fun H1 e1 => ?_⟩
    walk_at "go"
    refine ⟨b, rfl, Ab, fun H2 e2 => ?_⟩
    walk_at "go"
    refine ⟨small (by show 4 ≤ 100000; omega), ?_⟩
    intro t ht
    generalize hE : upd _ t _ = H3
    have nH3 := New.of ht hE
    clear hE
    have e3 := (e1.trans e2).trans nH3.ex
    have kt : Kd H3 (.ref t) := .tup nH3.here (by show 4 ≤ 1000; omega) fun y m => by
      simp only [List.mem_cons, List.not_mem_nil, or_false] at m
      rcases m with rfl | rfl | rfl | rfl
      · exact figV_kd _ _
      · exact figV_kd _ _
      · exact asc_kd Ac (by omega)
      · exact asc_kd Ad (by omega)
    walk_at "go"
    refine ⟨.ref t, rfl, kt, fun H4 e4 => ?_⟩
    rw [linkV_tup nH3.here]
    have fw := four_words (c := c) (d := d) (A := figV a) (B := figV b) (fun n l => fig_iff l) (fun n l => fig_iff l)
    walk_at "go"
    cases c4 : fourV [figV a, figV b, .str c, .str d] with
    | true =>
      walk_at "go"
      obtain ⟨x, ok, ew, ev⟩ := fw.1 c4
      have ht := e4 _ _ nH3.here
      rw [ev] at ht
      exact q _ H4 (e3.trans e4) (.inl ⟨x, ok, ew, t, rfl, ht⟩)
    | false =>
      walk_at "go"
      refine q _ H4 (e3.trans e4) (.inr ⟨rfl, fun ⟨x, ok, ew⟩ => ?_⟩)
      rw [fw.2 ⟨x, ok, ew, four_vs (fun n l => fig_iff l) (fun n l => fig_iff l) ok ew⟩] at c4
      cases c4
def spLRead : Sp := fun vs H Q _ => ∃ (z : Str), vs = [.str z] ∧ Asc 2000 z ∧ ∀ (v : V) (H' : Hp), Evl.Ex H H' → LkAns H' v (Txt.split z " ") → Q v H'
theorem split_asc {z y : Str} {n : Nat} (h : Asc n z) (m : y ∈ Txt.split z " ") : Asc n y := by
  exact ⟨Nat.le_trans (PyProof.Rows.part_short m) h.1, fun c mc => h.2 c (split_signs m mc)⟩
theorem ok_lread {f : Addr} {fd : FuncData} (F : Fun K "_law_read" "_law_read" s_law_read f fd) (T : Txt mg) (C_law_number : Cal P w K mg base 1 "_law_number" ["word"] spLawNum) (C_law_is_link : Cal P w K mg base 1 "_law_is_link" ["thing"] spLawLinkG) : FnOk P w K mg base CX0 2 f fd ["text"] spLRead := by
  refine F.ok sc_law_read (fun vs H Q E h => ?_) (fun cdv A outer s H vs Q E hr h => ?_)
  · obtain ⟨z, rfl, _⟩ := h
    rfl
  · obtain ⟨z, rfl, Az, q⟩ := h
    refine ⟨_, (pss_cons (ps_set (i := 1) sc_law_read.nd rfl (.inl rfl) (pe_split (pv 0) pe_str))
      (pss_cons (ps_if (pt_cmpR op_ne (pe_callB (klen K) (by rfl) T.len_ PySem.boot_len (pa_cons (pv 1) pa_nil)) pe_int (nomark _)) (pss_one (ps_ret pe_non)) pss_nil)
      (pss_cons (ps_set (i := 2) sc_law_read.nd rfl (.inl rfl) (pe_tup (pa_cons (pc C_law_number (hr.mono (by decide)) (by rfl) (pa_cons (pe_ix (kixL K) (pv 1) pe_int (fun _ _ => rfl)) pa_nil)) (pa_cons (pc C_law_number (hr.mono (by decide)) (by rfl) (pa_cons (pe_ix (kixL K) (pv 1) pe_int (fun _ _ => rfl)) pa_nil)) (pa_cons (pe_ix (kixL K) (pv 1) pe_int (fun _ _ => rfl)) (pa_cons (pe_ix (kixL K) (pv 1) pe_int (fun _ _ => rfl)) pa_nil))))))
      (pss_one (ps_ret (pe_ifExp (pt_val (pc C_law_is_link (hr.mono (by decide)) (by rfl) (pa_cons (pv 2) pa_nil))) (pv 2) pe_non)))))), ?_⟩
    refine w_from [some (.str z), none, none] ?_
    try dsimp only [cxOf]
    walk_at "go"
    refine ⟨z, " ", rfl, rfl, by decide +kernel, small (by have := Az.1; omega), fun p hp => ?_⟩
    generalize hE : upd _ p _ = H1
    have nH1 := New.of hp hE
    clear hE
    have sw : (Txt.split z " ").length ≤ 2002 := by have := split_sum z; have := Az.1; omega
    have hp1 : H1 p = some (.lst ((Txt.split z " ").map V.str)) := nH1.here
    have aw : ∀ y ∈ Txt.split z " ", Asc 2000 y := fun y m => split_asc Az m
    generalize Txt.split z " " = ws at hp1 sw aw q
    walk_at "go"
    refine w_len (.inl ⟨_, SqL.of hp1, rfl⟩) ?_
    rw [show (ws.map V.str).length = ws.length from List.length_map ..]
    walk_at "go"
    by_cases l4 : ws.length = 4
    case neg =>
      rw [show (!decide (V.int (ws.length : Int) = V.int 4)) = true from by
        rw [decide_eq_false fun k => l4 (by injection k with k; omega)]
        rfl]
      walk_at "go"
      exact q _ H1 nH1.ex (.inr ⟨rfl, words_four l4⟩)
    rw [show (!decide (V.int (ws.length : Int) = V.int 4)) = false from by rw [l4]; rfl]
    obtain ⟨a, b, c, d, rfl⟩ := four_str l4
    have Aa := aw a (by simp)
    have Ab := aw b (by simp)
    have Ac := aw c (by simp)
    have Ad := aw d (by simp)
    walk_at "go"
    refine w_ixL (SqL.of hp1) (atI_of (i := 0) rfl) ?_
    walk_at "go"
    refine ⟨a, rfl, Aa, fun H2 e2 => ?_⟩
    walk_at "go"
    refine w_ixL (SqL.of (e2 _ _ hp1)) (atI_of (i := 1) rfl) ?_
    walk_at "go"
    refine ⟨b, rfl, Ab, fun H3 e3 => ?_⟩
    have e23 := e2.trans e3
    walk_at "go"
    refine w_ixL (SqL.of (e23 _ _ hp1)) (atI_of (i := 2) rfl) ?_
    walk_at "go"
    refine w_ixL (SqL.of (e23 _ _ hp1)) (atI_of (i := 3) rfl) ?_
    walk_at "go"
    refine ⟨small (by show 4 ≤ 100000; omega), ?_⟩
    intro t ht
    generalize hE : upd _ t _ = H4
    have nH4 := New.of ht hE
    clear hE
    have e4 := (nH1.ex.trans e23).trans nH4.ex
    have kt : Kd H4 (.ref t) := .tup nH4.here (by show 4 ≤ 1000; omega) fun y m => by
      simp only [List.mem_cons, List.not_mem_nil, or_false] at m
      rcases m with rfl | rfl | rfl | rfl
      · exact numW_kd _ _
      · exact numW_kd _ _
      · exact asc_kd Ac (by omega)
      · exact asc_kd Ad (by omega)
    walk_at "go"
    refine ⟨.ref t, rfl, kt, fun H5 e5 => ?_⟩
    rw [linkV_tup nH4.here]
    have fw := four_words (c := c) (d := d) (A := numW a) (B := numW b) (fun n l => num_iff l) (fun n l => num_iff l)
    walk_at "go"
    cases c4 : fourV [numW a, numW b, .str c, .str d] with
    | true =>
      walk_at "go"
      obtain ⟨x, ok, ew, ev⟩ := fw.1 c4
      have ht := e5 _ _ nH4.here
      rw [ev] at ht
      exact q _ H5 (e4.trans e5) (.inl ⟨x, ok, ew, t, rfl, ht⟩)
    | false =>
      walk_at "go"
      refine q _ H5 (e4.trans e5) (.inr ⟨rfl, fun ⟨x, ok, ew⟩ => ?_⟩)
      rw [fw.2 ⟨x, ok, ew, four_vs (fun n l => num_iff l) (fun n l => num_iff l) ok ew⟩] at c4
      cases c4
end
end Fk
namespace Fk
open PySem PySem.Spec PyProof.Rows L2
/-- the context of what follows a try, an error being kept -/
abbrev kpx (X : Cx) (pn : List (Addr × Obj)) : Cx := { X with pn := pn }
theorem kpx_in {X : Cx} {pins : List (Addr × Obj)} {σ : L2.St} {H : Hp} {s : Shared} {a : Addr} {q : Addr × Obj} (I : Inv (X.suite a (q :: (X.pn ++ pins))) [] σ H s) (ok : X.Ok) : Inv (kpx X (q :: (X.pn ++ pins))) [] σ H s where
  ok := ⟨ok.mod, ok.kind, ok.glob, ok.blt, ok.above, ok.inj, ok.has, ok.cab, ok.hd, ok.frames, ok.stk, ok.exf, ok.bs, ok.bsz, ok.noex, ok.exfs, ok.funs, ok.frf⟩
  os := I.os
  bare := I.bare
  base := I.base
  loc := I.loc
  cell := I.cell
  free := I.free
  freeC := I.freeC
  pin := I.pin
  hok := I.hok
  len := I.len
theorem kpx_out {X : Cx} {pins : List (Addr × Obj)} {σ : L2.St} {H : Hp} {s : Shared} {q : Addr × Obj} (I : Inv (kpx X (q :: (X.pn ++ pins))) [] σ H s) (ok : X.Ok) : Inv X pins σ H s where
  ok := ok
  os := I.os
  bare := I.bare
  base := I.base
  loc := I.loc
  cell := I.cell
  free := I.free
  freeC := I.freeC
  pin p m := I.pin p (by rw [List.append_nil]; exact List.mem_cons_of_mem _ m)
  hok := I.hok
  len := I.len
/-- what is never come to -/
theorem pss_dead {X : Cx} {l : List Stmt} : PSs X l (fun _ _ _ => False) := ⟨fun _ _ _ _ _ _ h => h.elim⟩
/-- what the clause wishes of an error: the suite, then what follows, the error kept -/
def wKp (K : PySem.W.Frag) (c : Value) (i : Nat) (ts uk : Addr → Value → Option Addr → TS) (D : Ends) : WX := fun cls d σ H =>
  PySem.W.exmOne K cls c = some true ∧ ∀ a, H a = none → ts a cls d { D with nx := fun σ' H' => uk a cls d D (σ'.set i none) H', bk := fun _ _ => False, ct := fun _ _ => False, rt := fun _ _ => False } (σ.set i (some (.ref a))) H
section
variable {X : Cx} {x n : Str} {c : Value} {i : Nat} {body suite rest : List Stmt} {b0 : Stmt} {np pos pos' : Pos} {tb : WX → TS} {ts uk : Addr → Value → Option Addr → TS} {u : TS}
theorem pss_keep (stk : X.stack = X.env :: X.outer) (frm : X.env.frame = some X.env.locals) (nod : X.N.Nodup) (ix : X.N[i]? = some n) (kind : X.env.kindOf n = some .local) (nm : L2.Names X x c)
    (hb : ∀ (W : WX) (pn : List (Addr × Obj)) (xe : Value → Shared → Prop), Takes (X.tr pn xe) W → PassesOwn (model X.prog X.w) X.A X.env xe → PSs (X.tr pn xe) body (tb W))
    (hs : ∀ (a : Addr) (oe : Obj) (cls : Value) (d : Option Addr) (pn : List (Addr × Obj)), Zc cls d oe → (∃ vs, oe.data = .fields vs) → PSs (X.suite a ((a, oe) :: pn)) (b0 :: suite) (ts a cls d))
    (hr : PSs X rest u) (hk : ∀ (a : Addr) (oe : Obj) (cls : Value) (d : Option Addr) (pn : List (Addr × Obj)), Zc cls d oe → (∃ vs, oe.data = .fields vs) → PSs (kpx X ((a, oe) :: pn)) rest (uk a cls d)) :
    PSs X (.Try body [.ExceptHandler (some (.Name x np)) (some n) (b0 :: suite) pos'] [] [] pos :: rest) (fun D σ H => tb (wKp X.K c i ts uk D) { D with nx := u D } σ H) := by
  refine ⟨fun pins s σ H D I goal => ?_⟩
  have okX := I.ok
  have frames : X.A.frames = some (X.env :: X.outer) := okX.frames.trans (congrArg some stk)
  let after : Flow → Shared → Prop := fun f s1 => match f with
    | .next => wpAny (model X.prog X.w) X.A (execs rest X.env) (SP X pins D) X.xe s1
    | g => SP X pins D g s1
  suffices main : wpAny (model X.prog X.w) X.A (exec (.Try body [.ExceptHandler (some (.Name x np)) (some n) (b0 :: suite) pos'] [] [] pos) X.env) after X.xe s by
    refine wpAny_execs_cons (thn main fun f s1 q => ?_)
    cases f with
    | next => exact q
    | ret v => exact q
    | brk => exact q
    | cont => exact q
  refine wpAny_Try_except ?_
  refine wpAny_mono ((hb (wKp X.K c i ts uk D) (X.pn ++ pins) _ (fun y s' xx => ?caught) PassesOwn.looking).run [] s σ H _ (I.toTry _) goal) (fun f s1 q => ?done) (fun y s1 h => h)
  case done =>
    cases f with
    | next =>
      obtain ⟨σ1, H1, J, q⟩ := q
      exact wpAny_execs_nil (hr.run pins s1 σ1 H1 D (J.ofTry okX) q)
    | brk =>
      obtain ⟨σ1, H1, J, q⟩ := q
      exact ⟨σ1, H1, J.ofTry okX, q⟩
    | cont =>
      obtain ⟨σ1, H1, J, q⟩ := q
      exact ⟨σ1, H1, J.ofTry okX, q⟩
    | ret v =>
      obtain ⟨w, σ1, H1, J, r, q⟩ := q
      exact ⟨w, σ1, H1, J.ofTry okX, r, q⟩
  case caught =>
    obtain ⟨a, B, sI, pins', σ1, H1, cls, d, rfl, J0, ground, up, sky, free, os, bare, fits, yes⟩ := xx
    have J := J0.ofTry okX
    have sk : Sky B (X.env :: X.outer) a (Zc cls d) X.env.locals s'.heap := stk ▸ sky
    show wpAny _ _ (noteFrame (.ref a) X.env) _ _ _
    refine Sky.land Zc.steady frames frm sk fun g1 fl1 up1 => ?_
    obtain ⟨o1, vs1, got1, z1, dt1⟩ := fl1.there
    have J1 : L2.Inv X pins σ1 H1 { s' with heap := g1 } := J.landed ground fl1.1 (up.trans up1) os bare
    have apart : a ∉ L2.frs (X.env :: X.outer) := fun m => by
      obtain ⟨_, o', e', not⟩ := fl1.2.2.1.mem m
      rw [got1] at e'
      cases e'
      exact not _ dt1
    have nLoc : a ≠ X.env.locals := fun e => apart (List.mem_filterMap.mpr ⟨X.env, List.mem_cons_self, frm.trans (congrArg some e.symm)⟩)
    have nFs : a ∉ X.fs := fun m => apart (by
      obtain ⟨e, me, q⟩ := List.mem_filterMap.mp m
      exact List.mem_filterMap.mpr ⟨e, List.mem_cons_of_mem _ me, q⟩)
    have S1 := J1.suite got1 dt1 free nLoc nFs
    refine wpAny_handleBy_cons (codeAny_handlers_test ?_) nofun
    have seen : ∀ {Q E : Value → Shared → Prop}, Q c { s' with heap := g1 } → wpAny (model X.prog X.w) (X.A.mark (some (.ref a))) (eval (.Name x np) X.env) Q E { s' with heap := g1 } := fun {Q E} q => by
      rcases nm with ⟨k1, k2, k3 | ⟨k3, k4, k5⟩⟩
      · exact ld_glob (X := X.suite a ((a, o1) :: (X.pn ++ pins))) S1 k1 k3 q k2
      · exact ld_blt (X := X.suite a ((a, o1) :: (X.pn ++ pins))) S1 k1 k3 k4 q k5 k2
    refine seen ((PySem.W.exm_one (M := model X.prog X.w) J1.kIn (fun A Q E s k q => wpAny_typeOf_ref (k _ _ got1) (by rw [z1.1]; exact q)) fits).here ?_)
    refine codeAny_handlers_suite_as (HandSPX.lands_againZ fl1 fun g2 fl2 up2 => ?_)
    obtain ⟨o2, vs2, got2, z2, dt2⟩ := fl2.there
    have J2 : L2.Inv X pins σ1 H1 { s' with heap := g2 } := J.landed ground fl2.1 ((up.trans up1).trans up2) os bare
    have S2 := J2.suite got2 dt2 free nLoc nFs
    refine store_ok (X := X.suite a ((a, o2) :: (X.pn ++ pins))) (v := .ref a) S2 nod ix (.inl kind) rfl (fun s2 S => ?_) (.inr kind)
    refine wpAny_mono ((hs a o2 cls d (X.pn ++ pins) z2 ⟨_, dt2⟩).run [] s2 _ H1 _ S (yes a free)) (fun f s3 q => ?_) (fun _ _ z => z.elim)
    cases f with
    | next =>
      obtain ⟨σ3, H3, S3, q⟩ := q
      refine gone_ok (X := kpx X ((a, o2) :: (X.pn ++ pins))) (kpx_in S3 okX) nod ix kind fun s4 S4 => ?_
      refine thn ((hk a o2 cls d (X.pn ++ pins) z2 ⟨_, dt2⟩).run [] s4 _ H3 D S4 q) fun f s5 e => ?_
      cases f with
      | next =>
        obtain ⟨σ5, H5, S5, q⟩ := e
        exact ⟨σ5, H5, kpx_out S5 okX, q⟩
      | brk =>
        obtain ⟨σ5, H5, S5, q⟩ := e
        exact ⟨σ5, H5, kpx_out S5 okX, q⟩
      | cont =>
        obtain ⟨σ5, H5, S5, q⟩ := e
        exact ⟨σ5, H5, kpx_out S5 okX, q⟩
      | ret v =>
        obtain ⟨w, σ5, H5, S5, r, q⟩ := e
        exact ⟨w, σ5, H5, kpx_out S5 okX, r, q⟩
    | brk =>
      obtain ⟨_, _, _, q⟩ := q
      exact q.elim
    | cont =>
      obtain ⟨_, _, _, q⟩ := q
      exact q.elim
    | ret v =>
      obtain ⟨_, _, _, _, _, q⟩ := q
      exact q.elim
/-- isinstance(e, C) of a kept error -/
theorem call_isK {a : Addr} {cls : Value} {d : Option Addr} {oe : Obj} {pn : List (Addr × Obj)} (hz : Zc cls d oe) (hf : ∃ vs, oe.data = .fields vs) : CallR (kpx X ((a, oe) :: pn)) (.builtin "isinstance") (rIsX X.K a cls d) := by
  intro pins s σ H xs us Q I r h
  obtain ⟨D, dd, fs, c, cv, b, rfl, rfl, C, hdd, rfl, hcv, e, q⟩ := h
  cases r with
  | cons rx rr =>
    cases rr with
    | cons rt rr =>
      cases rr
      cases rx
      cases hcv _ rt
      have hget := (I.pin (a, oe) (List.mem_append_left _ List.mem_cons_self)).1
      obtain ⟨vs, hv⟩ := hf
      obtain ⟨mA, ⟨od, _, _, ho, _⟩, _⟩ := (show ObjOk X.prog X.w H s.heap dd (.xd fs) from I.hok dd _ hdd)
      have J : PySem.W.InstAt s.heap a oe D (some od) := ⟨hget, hz.1, by unfold PySem.W.notCls; rw [hv] <;> rfl, by rw [hz.2]; exact ho⟩
      obtain ⟨cd, hcd, _⟩ := PySem.W.any_some C.hd
      exact PySem.W.kia_one (PySem.W.kitx_exc (by rw [hcd]; rfl) C.hg C.hk C.hs C.ha C.hn C.ht C.hm) I.kIn J e (fun z => nomatch z) fun tk => ⟨.bl b, H, I.kept (t' := tk) fun _ _ z => z, rfl, q⟩
/-- a kept error's field -/
theorem pe_xfK {a C : Addr} {oe : Obj} {cls : Value} {d : Option Addr} {pn : List (Addr × Obj)} {e : Expr} {te : TE} {pos : Pos} {n : Str} (T : XfC X.K C) (own : PySem.W.findIn X.K (.ref C) n = some none)
    (hz : Zc cls d oe) (hf : ∃ vs, oe.data = .fields vs) (he : PE (kpx X ((a, oe) :: pn)) e te) (hb : attributeBase e n X.env (eval e X.env) = eval e X.env := by rfl) : PE (kpx X ((a, oe) :: pn)) (.Attribute e n pos) (tXf a cls d C n te) := by
  refine ⟨fun pins s σ H Q I h => attr_of hb (thn (he.run pins s σ H _ I h) fun v s1 hh => ?_)⟩
  obtain ⟨x, H1, I1, rx, rfl, rfl, dd, fs, y, rfl, ea, look, q⟩ := hh
  obtain rfl : v = Value.ref a := rx
  have there := (I1.pin (a, oe) (List.mem_append_left _ List.mem_cons_self)).1
  obtain ⟨vs, dat⟩ := hf
  obtain ⟨mA, ns, rd⟩ := (show ObjOk X.prog X.w H1 s1.heap dd (.xd fs) from I1.hok dd _ ea)
  obtain ⟨od, ho, hl⟩ := lookIn_ns ns
  obtain ⟨u, hu, ru⟩ := RelO.some_of (v := y) (o := mA n) (by rw [← look]; exact rd n)
  have inst : PySem.W.InstAt s1.heap a oe C (some od) := ⟨there, hz.1, by unfold PySem.W.notCls; rw [dat] <;> rfl, by rw [hz.2]; exact ho⟩
  exact HandSPX.exc_get I1.kIn inst T.ga T.gg T.exC (PySem.W.findObj_own T.hdC own rfl (by rw [hl, hu])) (handed_of ru) ⟨y, H1, I1.tok _, ru, q⟩
end
end Fk
namespace Fk
open PySem PySem.Spec PyProof.Rows L2 NdefX
local macro_rules | `(tactic| walk_at "fk") => `(tactic| first
  | with_reducible refine w_seq ?_ | with_reducible refine w_set ?_ | with_reducible refine w_asg ?_ | with_reducible refine w_drop ?_ | with_reducible refine w_ret ?_ | with_reducible refine w_if ?_
  | with_reducible refine w_op ?_ | with_reducible refine w_un ?_ | with_reducible refine w_c ?_ | ((with_reducible apply w_var); rfl)
  | with_reducible refine w_test ?_ | with_reducible refine w_B ?_ | with_reducible refine w_exb ?_ | with_reducible refine w_exi ?_ | with_reducible refine w_I0 ?_ | with_reducible refine w_U ?_
  | with_reducible refine w_nil ?_ | with_reducible refine w_cons ?_ | with_reducible refine w_call ?_ | with_reducible refine w_cb ?_ | with_reducible refine w_tup ?_ | with_reducible refine w_lst ?_
  | with_reducible refine w_and ?_ | with_reducible refine w_or ?_ | with_reducible refine w_not ?_ | with_reducible refine w_andV ?_ | with_reducible refine w_orV ?_ | with_reducible refine w_notV ?_
  | with_reducible refine w_ifE ?_ | with_reducible refine w_chain ?_ | with_reducible refine w_for ?_ | with_reducible refine w_lc ?_ | with_reducible refine w_yes ?_ | with_reducible refine w_iR1 ?_ | with_reducible refine w_iL ?_ | with_reducible refine w_iT ?_ | with_reducible refine w_iE ?_ | with_reducible refine w_iZ ?_ | with_reducible refine w_iS ?_ | with_reducible refine w_s1 ?_ | with_reducible refine w_m1 ?_ | with_reducible refine w_m0 ?_ | with_reducible refine w_estr ?_ | with_reducible refine w_lz ?_ | with_reducible refine w_ss ?_ | with_reducible refine w_revL ?_ | with_reducible refine w_dc ?_ | with_reducible refine w_c2 ?_ | with_reducible refine w_c2D ?_ | with_reducible refine w_iIT ?_ | with_reducible refine w_ddelT ?_ | with_reducible refine w_dsetd ?_ | with_reducible refine w_dget1 ?_ | with_reducible refine w_iI ?_ | with_reducible refine w_iES ?_ | with_reducible refine w_dget ?_ | with_reducible refine w_dget2 ?_ | with_reducible refine w_dput ?_ | with_reducible refine w_callN ?_ | with_reducible refine w_callD ?_ | with_reducible refine w_dnew ?_ | with_reducible refine w_dnewT ?_ | with_reducible refine w_revT ?_ | with_reducible refine w_leS ?_ | with_reducible refine w_ltS ?_ | with_reducible refine w_inSg ?_ | with_reducible refine w_notInSg ?_ | with_reducible refine iteT ?_ | with_reducible refine iteF ?_ | with_reducible refine w_par ?_ | with_reducible refine w_par3 ?_ | with_reducible refine w_three ?_ | with_reducible refine w_two ?_ | with_reducible refine w_gname ?_ | with_reducible refine w_gcons ?_ | with_reducible refine w_gnil ?_ | ((with_reducible apply w_gtup); (with_reducible assumption); rfl) | with_reducible refine w_gsub ?_
  | with_reducible refine w_bm0 ?_ | with_reducible refine w_iK ?_ | with_reducible refine w_iQ ?_ | with_reducible refine w_c1 ?_ | with_reducible refine iteNT ?_ | with_reducible refine iteNF ?_ | with_reducible refine w_tru ?_ | with_reducible refine w_dnin ?_ | with_reducible refine w_dgetN ?_
  | with_reducible refine w_bm ?_ | with_reducible refine w_sl ?_ | with_reducible refine w_noP ?_ | with_reducible refine w_part ?_ | with_reducible refine w_next ?_ | with_reducible refine w_retN ?_
  | ((with_reducible refine w_I ?hk ?_); (case hk => (first | (show (0 : Int) < _; omega) | exact ⟨by omega, by omega⟩ | exact .inl ⟨by omega, by omega⟩ | exact .inr ⟨by omega, by omega⟩ | exact cpow_small (by decide) (by decide) (by decide))))
  | ((with_reducible apply w_eq); rfl) | ((with_reducible apply w_ne); rfl)
  | ((with_reducible apply w_ixL); (with_reducible assumption); rfl)
  | ((with_reducible apply w_setL); (with_reducible assumption); rfl))
local macro_rules | `(tactic| walk_at "go") => `(tactic| repeat walk_at "fk")

def clsBody : Stmt → List Stmt
  | .ClassDef _ _ _ b _ _ _ _ _ _ _ => b
  | _ => []
abbrev s_nl : Stmt := (clsBody (top 2)).getD 0 (.Pass ⟨0, 0, 0, 0⟩)
theorem sc_nl : NScope ["self", "at", "__class__"] ["self", "at"] ["__class__"] (defScope s_nl) := nscope_by (by decide +kernel)
section
variable {P : Program} {w : World} {K : PySem.W.Frag} {mg : Str → Option Value} {base : Heap}
theorem ok_nl {D cc cda f : Addr} {dV kV doc pm ct oc : Value} {an od : Option Addr} {osl : Array (Option Value)} (T : SupTxt P K mg D cc cda) (O : OexC K D) (hno : PySem.W.findIn K (.ref D) "at" = some none)
    (lk : K.lookup f = some ⟨oc, od, .func (PySem.W.ksFn "__init__" "NoLink.__init__" (defArgs s_nl) (defBody s_nl) (defScope s_nl) dV kV doc pm an (.ref cda) ct cc), osl⟩) (hcd : PySem.W.codeIn K (.ref cda) "NoLink.__init__" = true) :
    FnOk P w K mg base CX0 1 f (PySem.W.ksFn "__init__" "NoLink.__init__" (defArgs s_nl) (defBody s_nl) (defScope s_nl) dV kV doc pm an (.ref cda) ct cc) ["self", "at"] (spErr D "at") := by
  refine fn_super T O lk hcd sc_nl rfl rfl rfl (fun vs H Q E h => ?_) (fun _ => rfl) (fun _ => rfl) (fun _ => rfl) (fun A outer s H vs Q E hr h => ?_)
  · obtain ⟨a, i, rfl, _⟩ := h
    rfl
  · obtain ⟨a, i, rfl, hi, ha, q⟩ := h
    refine ⟨_, _, pa_cons (pe_joined (.cons pe_str (.cons (pe_fmt (pv 1)) .nil))) pa_nil, pss_one (ps_ost (pv 0) (pv 1)), a, rfl, ha, ?_⟩
    obtain ⟨n1, n2⟩ := str_num (i := i) (b := 0) (by decide) (by omega)
    refine ⟨_, rfl, by decide +kernel, ?_⟩
    refine ⟨.int i, rfl, .inr ⟨i, rfl, n1, _, rfl, ?_, ?_⟩⟩
    · have l := n2.1
      refine small ?_
      have e : (Str.empty ++ ("no link at " : Str) ++ (toString i : String) : Str).length = 11 + ((toString i : String) : Str).length := by
        rw [Str.length_append]
        rfl
      rw [e]
      omega
    · refine ⟨by show 1 ≤ 1000; decide, ha, .int i, rfl, .ref a, rfl, a, D, rfl, O, hno, .inl ⟨ha, fun dx n ne => q dx _ n ne rfl⟩⟩
end
/-- what the text has of NoLink, at C -/
structure NlTxt (P : Program) (w : World) (K : PySem.W.Frag) (mg : Str → Option Value) (base : Heap) (C fI : Addr) (fdI : FuncData) : Prop where
  O : OexC K C
  iC : PySem.W.findIn K (.ref C) "__init__" = some (some (.ref fI))
  tI : PySem.W.typeIn K (.ref fI) = some (.type "function")
  F1 : FnOk P w K mg base CX0 1 fI fdI ["self", "at"] (spErr C "at")
  b1 : Binds K fdI ["self", "at"] []
  gC : mg "NoLink" = some (.ref C)
abbrev s_nt : Stmt := (clsBody (top 7)).getD 0 (.Pass ⟨0, 0, 0, 0⟩)
theorem sc_nt : NScope ["self", "at", "__class__"] ["self", "at"] ["__class__"] (defScope s_nt) := nscope_by (by decide +kernel)
section
variable {P : Program} {w : World} {K : PySem.W.Frag} {mg : Str → Option Value} {base : Heap}
theorem ok_nt {D cc cda f : Addr} {dV kV doc pm ct oc : Value} {an od : Option Addr} {osl : Array (Option Value)} (T : SupTxt P K mg D cc cda) (O : OexC K D) (hno : PySem.W.findIn K (.ref D) "at" = some none)
    (lk : K.lookup f = some ⟨oc, od, .func (PySem.W.ksFn "__init__" "NoText.__init__" (defArgs s_nt) (defBody s_nt) (defScope s_nt) dV kV doc pm an (.ref cda) ct cc), osl⟩) (hcd : PySem.W.codeIn K (.ref cda) "NoText.__init__" = true) :
    FnOk P w K mg base CX0 1 f (PySem.W.ksFn "__init__" "NoText.__init__" (defArgs s_nt) (defBody s_nt) (defScope s_nt) dV kV doc pm an (.ref cda) ct cc) ["self", "at"] (spErr D "at") := by
  refine fn_super T O lk hcd sc_nt rfl rfl rfl (fun vs H Q E h => ?_) (fun _ => rfl) (fun _ => rfl) (fun _ => rfl) (fun A outer s H vs Q E hr h => ?_)
  · obtain ⟨a, i, rfl, _⟩ := h
    rfl
  · obtain ⟨a, i, rfl, hi, ha, q⟩ := h
    refine ⟨_, _, pa_cons (pe_joined (.cons pe_str (.cons (pe_fmt (pv 1)) .nil))) pa_nil, pss_one (ps_ost (pv 0) (pv 1)), a, rfl, ha, ?_⟩
    obtain ⟨n1, n2⟩ := str_num (i := i) (b := 0) (by decide) (by omega)
    refine ⟨_, rfl, by decide +kernel, ?_⟩
    refine ⟨.int i, rfl, .inr ⟨i, rfl, n1, _, rfl, ?_, ?_⟩⟩
    · have l := n2.1
      refine small ?_
      have e : (Str.empty ++ ("no text at " : Str) ++ (toString i : String) : Str).length = 11 + ((toString i : String) : Str).length := by
        rw [Str.length_append]
        rfl
      rw [e]
      omega
    · refine ⟨by show 1 ≤ 1000; decide, ha, .int i, rfl, .ref a, rfl, a, D, rfl, O, hno, .inl ⟨ha, fun dx n ne => q dx _ n ne rfl⟩⟩
end
/-- what the text has of NoText, at C -/
structure NtTxt (P : Program) (w : World) (K : PySem.W.Frag) (mg : Str → Option Value) (base : Heap) (C fI : Addr) (fdI : FuncData) : Prop where
  O : OexC K C
  iC : PySem.W.findIn K (.ref C) "__init__" = some (some (.ref fI))
  tI : PySem.W.typeIn K (.ref fI) = some (.type "function")
  F1 : FnOk P w K mg base CX0 1 fI fdI ["self", "at"] (spErr C "at")
  b1 : Binds K fdI ["self", "at"] []
  gC : mg "NoText" = some (.ref C)

theorem text_fmt (x : Lk) : Str.empty ++ numS x.c ++ " " ++ numS x.m ++ " " ++ x.a ++ " " ++ x.b = textL x := by
  refine str_ext ?_
  unfold textL
  rw [cL_join]
  simp only [cL_app, wordsL, List.map_cons, List.map_nil, TL.joinL, List.append_assoc]
  rw [show cL Str.empty = [] from rfl, List.nil_append]
theorem num_asc {i : Int} (h : 0 ≤ i) (h2 : i ≤ 1000000) : Asc 7 (numS i) := by
  obtain ⟨n, rfl⟩ := nat_num h
  refine ⟨num_len (by omega), fun c m => ?_⟩
  rw [cL_num] at m
  have := TL.numL_digits n c m
  omega
theorem num_log {i : Int} (h : 0 ≤ i) (h2 : i ≤ 1000000) : i.natAbs.log2 < 1920 := (str_num (i := i) (b := 0) (by decide) (by omega)).1
theorem exn0 {H H' : Hp} {a : Addr} (e : Evl.Ex H H') (n : H' a = none) : H a = none := by
  cases h : H a with
  | none => rfl
  | some o => rw [e _ _ h] at n; cases n
/-- it is a link -/
def LkIs (H : Hp) (v : V) (x : Lk) : Prop := x.ok ∧ ∃ t, v = .ref t ∧ H t = some (.tup x.vs)
section
variable {P : Program} {w : World} {K : PySem.W.Frag} {mg : Str → Option Value} {base : Heap}
def spLinkText (C : Addr) : Sp := fun vs H Q E =>
  (∃ (v : V) (x : Lk), vs = [v] ∧ LkIs H v x ∧ ∀ H', Evl.Ex H H' → Q (.str (textL x)) H') ∨
  ∃ v : V, vs = [v] ∧ Kd H v ∧ linkV H v = false ∧ ∀ (d : Addr) (H' : Hp), Evl.Ex H H' → H d = none → H' d = some (.xd [("at", .int (0 : Int))]) → E (.ref C) (some d) H'
theorem ok_link_text {C fI : Addr} {fdI : FuncData} {f : Addr} {fd : FuncData} (F : Fun K "link_text" "link_text" s_link_text f fd) (T : Txt mg) (N : NlTxt P w K mg base C fI fdI) (C_is_link : Cal P w K mg base 2 "is_link" ["thing"] spIsLink) : FnOk P w K mg base (L2.CX P w) 3 f fd ["link"] (spLinkText C) := by
  refine F.okX sc_link_text (fun vs H Q E h => ?_) (fun cdv A outer s H vs Q E hr h => ?_)
  · rcases h with ⟨v, x, rfl, _⟩ | ⟨v, rfl, _⟩ <;> rfl
  refine ⟨_, (pss_cons (ps_if (pt_not (pt_val (pc C_is_link (hr.mono (by decide)) (by rfl) (pa_cons (pv 0) pa_nil)))) (pss_one (ps_raise rfl (takes_of rfl rfl rfl rfl) (pmk_oex N.O N.iC N.tI N.F1 (hr.mono (by decide)) N.b1 .nil pass0 rfl N.gC (pa_cons pe_int pa_nil)))) pss_nil)
      (pss_cons (ps_asg (pv 0) (ktup K (n := 4) rfl (pgs_cons (pg_name (i := 1) sc_link_text.nd rfl (.inl rfl)) (pgs_cons (pg_name (i := 2) sc_link_text.nd rfl (.inl rfl)) (pgs_cons (pg_name (i := 3) sc_link_text.nd rfl (.inl rfl)) (pgs_cons (pg_name (i := 4) sc_link_text.nd rfl (.inl rfl)) pgs_nil))))))
      (pss_one (ps_ret (pe_joined (.cons (pe_fmt (pv 1)) (.cons pe_str (.cons (pe_fmt (pv 2)) (.cons pe_str (.cons (pe_fmt (pv 3)) (.cons pe_str (.cons (pe_fmt (pv 4)) .nil)))))))))))), ?_⟩
  rcases h with ⟨v, x, rfl, ⟨ok, t, rfl, ht⟩, q⟩ | ⟨v, rfl, kv, no, q⟩
  · refine w_from [some (.ref t), none, none, none, none] ?_
    try dsimp only [cxOf]
    walk_at "go"
    refine ⟨.ref t, rfl, lk_kd (q := (t, x)) ht ok, fun H1 e1 => ?_⟩
    rw [lk_link (q := (t, x)) ht ok]
    have ht1 : SqT K H1 t [.int x.c, .int x.m, .str x.a, .str x.b] := SqT.of (e1 _ _ ht)
    obtain ⟨x1, x2, x3, x4, xa, xb, _⟩ := id ok
    have ac := num_asc x1 x2
    have am := num_asc x3 x4
    have lc : (Str.ofString (toString x.c)).length ≤ 7 := ac.1
    have lm : (Str.ofString (toString x.m)).length ≤ 7 := am.1
    have la := xa.2.1
    have lb := xb.2.1
    have sp : (" " : Str).length = 1 := by decide +kernel
    have s0 : Str.empty.length = 0 := rfl
    walk_at "go"
    refine ⟨.int x.c, rfl, .inr ⟨x.c, rfl, num_log x1 x2, _, rfl, small (by rw [Str.length_append]; omega), ?_⟩⟩
    refine ⟨_, rfl, small (by simp only [Str.length_append]; omega), ?_⟩
    refine ⟨.int x.m, rfl, .inr ⟨x.m, rfl, num_log x3 x4, _, rfl, small (by simp only [Str.length_append]; omega), ?_⟩⟩
    refine ⟨_, rfl, small (by simp only [Str.length_append]; omega), ?_⟩
    refine ⟨.str x.a, rfl, .inl ⟨x.a, rfl, small (by omega), _, rfl, small (by simp only [Str.length_append]; omega), ?_⟩⟩
    refine ⟨_, rfl, small (by simp only [Str.length_append]; omega), ?_⟩
    refine ⟨.str x.b, rfl, .inl ⟨x.b, rfl, small (by omega), _, rfl, small (by simp only [Str.length_append]; omega), ?_⟩⟩
    have z := q H1 e1
    rw [← text_fmt] at z
    exact z
  · refine w_from [some v, none, none, none, none] ?_
    try dsimp only [cxOf]
    walk_at "go"
    refine ⟨v, rfl, kv, fun H1 e1 => ?_⟩
    rw [no]
    walk_at "go"
    refine w_mk ?_
    walk_at "go"
    exact mk_err (by decide) fun d H' n e4 hd => q d H' (e1.trans e4) (exn0 e1 n) hd
def spReadLink (C : Addr) : Sp := fun vs H Q E => ∃ v : V, vs = [v] ∧ Kd H v ∧ (∀ z, v = .str z → Asc 2000 z) ∧
  (∀ (x : Lk), x.ok → v = .str (textL x) → ∀ (t : Addr) (H' : Hp), Evl.Ex H H' → H' t = some (.tup x.vs) → Q (.ref t) H') ∧
  ((¬ ∃ x : Lk, x.ok ∧ v = .str (textL x)) → ∀ (d : Addr) (H' : Hp), Evl.Ex H H' → H d = none → H' d = some (.xd [("at", .int (0 : Int))]) → E (.ref C) (some d) H')
theorem ok_read_link {C fI : Addr} {fdI : FuncData} {f : Addr} {fd : FuncData} (F : Fun K "read_link" "read_link" s_read_link f fd) (T : Txt mg) (N : NtTxt P w K mg base C fI fdI) (C_worded_link : Cal P w K mg base 3 "worded_link" ["words"] spWorded) : FnOk P w K mg base (L2.CX P w) 4 f fd ["text"] (spReadLink C) := by
  refine F.okX sc_read_link (fun vs H Q E h => ?_) (fun cdv A outer s H vs Q E hr h => ?_)
  · obtain ⟨v, rfl, _⟩ := h
    rfl
  refine ⟨_, (pss_cons (ps_set (i := 1) sc_read_link.nd rfl (.inl rfl) (pe_ifExp (pt_val (pe_callB (kisi K) (by rfl) T.isinstance_ (by decide +kernel) (pa_cons (pv 0) (pa_cons (pe_bltn (v := .ty "str") (by rfl) T.str_ (by decide +kernel) rfl) pa_nil)))) (pc C_worded_link (hr.mono (by decide)) (by rfl) (pa_cons (pe_split (pv 0) pe_str) pa_nil)) pe_non))
      (pss_cons (ps_if (pt_cmpR op_isN (pv 1) pe_non (nomark _)) (pss_one (ps_raise rfl (takes_of rfl rfl rfl rfl) (pmk_oex N.O N.iC N.tI N.F1 (hr.mono (by decide)) N.b1 .nil pass0 rfl N.gC (pa_cons pe_int pa_nil)))) pss_nil)
      (pss_one (ps_ret (pv 1))))), ?_⟩
  obtain ⟨v, rfl, kv, az, q1, q2⟩ := h
  refine w_from [some v, none] ?_
  try dsimp only [cxOf]
  walk_at "go"
  refine w_isi kv (by decide) ?_
  have fail : (¬ ∃ x : Lk, x.ok ∧ v = .str (textL x)) → ∀ {H1 : Hp}, Evl.Ex H H1 → ∀ (d : Addr) (H' : Hp), Evl.Ex H1 H' → H1 d = none → H' d = some (.xd [("at", .int (0 : Int))]) → E (.ref C) (some d) H' := fun no {H1} e d H' e4 n hd => q2 no d H' (e.trans e4) (exn0 e n) hd
  by_cases st : isB (tyN H v) "str" = true
  · rw [st]
    obtain ⟨z, rfl, lz, hz⟩ := kv.str_of st
    have Az := az z rfl
    walk_at "go"
    refine ⟨z, " ", rfl, rfl, by decide +kernel, small (by have := Az.1; omega), fun p hp => ?_⟩
    generalize hE : upd _ p _ = H1
    have nH1 := New.of hp hE
    clear hE
    have sw : (Txt.split z " ").length ≤ 2002 := by have := split_sum z; have := Az.1; omega
    walk_at "go"
    refine ⟨p, Txt.split z " ", rfl, nH1.here, by omega, fun y m => split_asc Az m, fun u H2 e2 ans => ?_⟩
    have e02 := nH1.ex.trans e2
    walk_at "go"
    refine ⟨rfl, ?_⟩
    rcases ans with ⟨x, ok, ew, t, rfl, ht⟩ | ⟨rfl, no⟩
    · walk_at "go"
      refine w_dec (fun k => (nomatch k)) (fun _ => ?_)
      walk_at "go"
      exact q1 x ok (by rw [text_back ew]) t H2 e02 ht
    · walk_at "go"
      refine w_dec (fun _ => ?_) (fun k => absurd rfl k)
      walk_at "go"
      refine w_mk ?_
      walk_at "go"
      refine mk_err (by decide) fun d H' n e4 hd => fail (fun ⟨x, ok, e⟩ => no ⟨x, ok, ?_⟩) e02 d H' e4 n hd
      rw [V.str.inj e]
      exact split_text ok
  · rw [Bool.eq_false_iff.mpr st]
    walk_at "go"
    refine ⟨rfl, ?_⟩
    walk_at "go"
    refine w_dec (fun _ => ?_) (fun k => absurd rfl k)
    walk_at "go"
    refine w_mk ?_
    walk_at "go"
    refine mk_err (by decide) fun d H' n e4 hd => fail (fun ⟨x, ok, e⟩ => ?_) (Evl.Ex.refl H) d H' e4 n hd
    subst e
    exact st rfl
end
end Fk
namespace Fk
open PySem PySem.Spec PySem.W PyProof.Rows L2
theorem r3_bounds (n : Nat) : sliceBounds none (some 1) (some (-1)) n = ((n : Int) - 1, (if 2 ≤ n then 1 else (n : Int) - 1), -1) := by
  simp only [sliceBounds, Option.getD_some]
  rw [if_neg (by decide), if_neg (by decide), if_neg (by decide)]
  by_cases h : 2 ≤ n
  · rw [if_pos h]
    congr 2
    omega
  · rw [if_neg h]
    congr 2
    omega
theorem r3_range (n : Nat) : sliceRange ((n : Int) - 1) (if 2 ≤ n then 1 else (n : Int) - 1) (-1) = (List.range (n - 2)).map fun k => n - 1 - k := by
  unfold sliceRange
  have h1 : ¬ ((-1 : Int) > 0) := by decide
  by_cases h : 3 ≤ n
  · rw [if_pos (show 2 ≤ n by omega)]
    have e : ((n : Int) - 1 - 1 - -1 - 1) / (- -1) = ((n - 2 : Nat) : Int) := by
      rw [show (- -1 : Int) = 1 by decide, Int.ediv_one]
      omega
    have h2 : (n : Int) - 1 > 1 := by omega
    simp only [h1, if_false, h2, if_true, e, Int.toNat_natCast]
    apply List.map_congr_left
    intro k hk
    have := List.mem_range.mp hk
    omega
  · have e0 : n - 2 = 0 := by omega
    have h2 : ¬ ((n : Int) - 1 > (if 2 ≤ n then 1 else (n : Int) - 1)) := by
      split <;> omega
    rw [e0]
    simp only [h1, if_false, h2]
    rfl
theorem r3_pick (items : Array Value) : slicePick items none (some 1) (some (-1)) = (items.toList.drop 2).reverse.toArray := by
  unfold slicePick
  rw [r3_bounds]
  show ((sliceRange ((items.size : Int) - 1) (if 2 ≤ items.size then 1 else (items.size : Int) - 1) (-1)).filterMap (items[·]?)).toArray = _
  rw [r3_range, List.filterMap_map]
  congr 1
  have g : (List.range (items.size - 2)).filterMap ((fun x => items[x]?) ∘ fun k => items.size - 1 - k) = (List.range (items.size - 2)).map fun k => items.getD (items.size - 1 - k) .none := by
    have : ∀ l : List Nat, (∀ k ∈ l, k < items.size) → l.filterMap ((fun x => items[x]?) ∘ fun k => items.size - 1 - k) = l.map fun k => items.getD (items.size - 1 - k) .none := by
      intro l
      induction l with
      | nil => intro _; rfl
      | cons x r ih =>
        intro h
        have hx := h x (List.mem_cons_self ..)
        rw [List.filterMap_cons, List.map_cons, ih fun k hk => h k (List.mem_cons_of_mem _ hk)]
        have hl : items.size - 1 - x < items.size := by omega
        simp [Array.getD, hl]
    exact this _ fun k hk => by have := List.mem_range.mp hk; omega
  rw [g]
  apply List.ext_getElem?
  intro i
  by_cases hi : i < items.size - 2
  · rw [List.getElem?_map, List.getElem?_range hi, List.getElem?_reverse (by rw [List.length_drop]; simpa using hi), List.getElem?_drop, List.length_drop]
    have hl : items.size - 1 - i < items.size := by omega
    have e : 2 + (items.toList.length - 2 - 1 - i) = items.size - 1 - i := by rw [Array.length_toList]; omega
    rw [e]
    simp [Array.getD, hl]
  · rw [List.getElem?_eq_none (by simpa using hi), List.getElem?_eq_none (by rw [List.length_reverse, List.length_drop]; simpa using hi)]
section
variable {X : Cx}
/-- l[:1:-1] -/
def tRev3 (K : PySem.W.Frag) (te : TE) : TE := fun σ H Q => te σ H fun x H1 => ∃ a xs, x = .ref a ∧ SqL K H1 a xs ∧ ∀ p, H1 p = none → Q (.ref p) (upd H1 p (.lst (xs.drop 2).reverse))
theorem pe_rev2L {e : Expr} {te : TE} {k k2 : Nat} {p0 p1 p2 p3 pos : Pos} (K : PySem.W.Frag) (he : PE X e te) (hK : X.K = K := by rfl) : PE X (.Subscript e (.Slice none (some (.Constant (.int 1) k2 p0)) (some (.UnaryOp .USub (.Constant (.int 1) k p1) p2)) p3) pos) (tRev3 K te) := by
  subst hK
  refine ⟨fun pins s σ H Q I h => ?_⟩
  refine Subscript_ (thn (he.run pins s σ H _ I h) fun v s1 ⟨x, H1, I1, r1, q1⟩ => ?_)
  obtain ⟨a, xs, ex, hx, q⟩ := q1
  subst ex
  cases r1
  have hst : PO X (some (.UnaryOp .USub (.Constant (.int 1) k p1) p2)) (tPart (tUn (rU fun i => .int (-i)) (tC (.int 1)))) := po_some (pe_un un_neg pe_int)
  have oneC : PO X (some (.Constant (.int 1) k2 p0)) (tPart (tC (.int 1))) := po_some pe_int
  refine wpAny_Slice (thn (po_none.run pins s1 σ H1 (fun o H2 => o = none ∧ H2 = H1) I1 ⟨rfl, rfl⟩) fun vl s2 ⟨l, H2, I2, pl, el, e2⟩ => ?_)
  subst el e2
  refine thn (oneC.run pins s2 σ H2 (fun o H3 => o = some 1 ∧ H3 = H2) I2 ⟨1, rfl, rfl, rfl⟩) fun vu s3 ⟨u, H3, I3, pu, eu, e3⟩ => ?_
  subst eu e3
  refine thn (hst.run pins s3 σ H3 (fun o H4 => o = some (-1) ∧ H4 = H3) I3 ⟨1, rfl, -1, rfl, rfl, rfl⟩) fun vs s4 ⟨o, H4, I4, ps, eo, e4⟩ => ?_
  subst eo e4
  have I5 : Inv X pins σ H4 { s4 with heap := s4.heap.push { cls := .type "slice", data := .fields #[vl, vu, vs] } } := I4.kept (t' := s4.toks) fun b ob q => Heap.get?_push_of_some _ q
  obtain ⟨its, r, ht, hz⟩ := I5.list hx
  have hlen := r.length
  show wpAny (model X.prog X.w) X.A (subscriptTail e (.Slice none (some (.Constant (.int 1) k2 p0)) (some (.UnaryOp .USub (.Constant (.int 1) k p1) p2)) p3) (.ref a) (.ref s4.heap.objs.size)) (EP X pins σ Q) X.xe { s4 with heap := s4.heap.push { cls := .type "slice", data := .fields #[vl, vu, vs] } }
  refine tail_any (ops := [.ref a, .ref s4.heap.objs.size]) ht.isList.typeIs (PySem.slot_list_getitem.lookup) ?_ (by with_unfolding_all rfl)
  refine wpAny_getItem_list_slice ht.isList (Heap.IsSliceOf.new _ vl vu vs) pl pu ps (by decide) ?_ (by rw [List.size_toArray]; omega)
  rw [r3_pick]
  refine ⟨.ref _, _, I5.laid (t' := s4.toks) (o := .lst (xs.drop 2).reverse) (fun b ob q => Heap.get?_push_of_some _ q) (Nat.le_refl _) ?_, rfl, q _ (I5.hok.fresh (Nat.le_refl _))⟩
  exact ⟨by rw [List.length_reverse, List.length_drop]; omega, _, 0, (r.drop 2).reverse, Heap.get?_push_size _ rfl⟩
theorem w_rev3 {K : PySem.W.Frag} {te : TE} {σ : L2.St} {H : Hp} {Q : VK} (h : te σ H fun x H1 => ∃ a xs, x = .ref a ∧ SqL K H1 a xs ∧ ∀ p, H1 p = none → Q (.ref p) (upd H1 p (.lst (xs.drop 2).reverse))) : tRev3 K te σ H Q := h
end
end Fk
namespace Fk
open PySem PySem.Spec PyProof.Rows L2
local macro_rules | `(tactic| walk_at "fk") => `(tactic| first
  | with_reducible refine w_seq ?_ | with_reducible refine w_set ?_ | with_reducible refine w_asg ?_ | with_reducible refine w_drop ?_ | with_reducible refine w_ret ?_ | with_reducible refine w_if ?_
  | with_reducible refine w_op ?_ | with_reducible refine w_un ?_ | with_reducible refine w_c ?_ | ((with_reducible apply w_var); rfl)
  | with_reducible refine w_test ?_ | with_reducible refine w_B ?_ | with_reducible refine w_exb ?_ | with_reducible refine w_exi ?_ | with_reducible refine w_I0 ?_ | with_reducible refine w_U ?_
  | with_reducible refine w_nil ?_ | with_reducible refine w_cons ?_ | with_reducible refine w_call ?_ | with_reducible refine w_cb ?_ | with_reducible refine w_tup ?_ | with_reducible refine w_lst ?_
  | with_reducible refine w_and ?_ | with_reducible refine w_or ?_ | with_reducible refine w_not ?_ | with_reducible refine w_andV ?_ | with_reducible refine w_orV ?_ | with_reducible refine w_notV ?_
  | with_reducible refine w_ifE ?_ | with_reducible refine w_chain ?_ | with_reducible refine w_for ?_ | with_reducible refine w_lc ?_ | with_reducible refine w_yes ?_ | with_reducible refine w_iR1 ?_ | with_reducible refine w_iL ?_ | with_reducible refine w_iT ?_ | with_reducible refine w_iE ?_ | with_reducible refine w_iZ ?_ | with_reducible refine w_iS ?_ | with_reducible refine w_s1 ?_ | with_reducible refine w_m1 ?_ | with_reducible refine w_m0 ?_ | with_reducible refine w_estr ?_ | with_reducible refine w_lz ?_ | with_reducible refine w_ss ?_ | with_reducible refine w_revL ?_ | with_reducible refine w_dc ?_ | with_reducible refine w_c2 ?_ | with_reducible refine w_c2D ?_ | with_reducible refine w_iIT ?_ | with_reducible refine w_ddelT ?_ | with_reducible refine w_dsetd ?_ | with_reducible refine w_dget1 ?_ | with_reducible refine w_iI ?_ | with_reducible refine w_iES ?_ | with_reducible refine w_dget ?_ | with_reducible refine w_dget2 ?_ | with_reducible refine w_dput ?_ | with_reducible refine w_callN ?_ | with_reducible refine w_callD ?_ | with_reducible refine w_dnew ?_ | with_reducible refine w_dnewT ?_ | with_reducible refine w_revT ?_ | with_reducible refine w_leS ?_ | with_reducible refine w_ltS ?_ | with_reducible refine w_inSg ?_ | with_reducible refine w_notInSg ?_ | with_reducible refine iteT ?_ | with_reducible refine iteF ?_ | with_reducible refine w_par ?_ | with_reducible refine w_par3 ?_ | with_reducible refine w_three ?_ | with_reducible refine w_two ?_ | with_reducible refine w_gname ?_ | with_reducible refine w_gcons ?_ | with_reducible refine w_gnil ?_ | ((with_reducible apply w_gtup); (with_reducible assumption); rfl) | with_reducible refine w_gsub ?_
  | with_reducible refine w_bm0 ?_ | with_reducible refine w_iK ?_ | with_reducible refine w_iQ ?_ | with_reducible refine w_c1 ?_ | with_reducible refine iteNT ?_ | with_reducible refine iteNF ?_ | with_reducible refine w_tru ?_ | with_reducible refine w_dnin ?_ | with_reducible refine w_dgetN ?_
  | with_reducible refine w_bm ?_ | with_reducible refine w_sl ?_ | with_reducible refine w_noP ?_ | with_reducible refine w_part ?_ | with_reducible refine w_next ?_ | with_reducible refine w_retN ?_
  | ((with_reducible refine w_I ?hk ?_); (case hk => (first | (show (0 : Int) < _; omega) | exact ⟨by omega, by omega⟩ | exact .inl ⟨by omega, by omega⟩ | exact .inr ⟨by omega, by omega⟩ | exact cpow_small (by decide) (by decide) (by decide))))
  | ((with_reducible apply w_eq); rfl) | ((with_reducible apply w_ne); rfl)
  | ((with_reducible apply w_ixL); (with_reducible assumption); rfl)
  | ((with_reducible apply w_setL); (with_reducible assumption); rfl))
local macro_rules | `(tactic| walk_at "go") => `(tactic| repeat walk_at "fk")

/-- how long words put together are at most -/
def wsz (ws : List Str) : Nat := (ws.map (·.length)).sum + ws.length
theorem wsz_app (a b : List Str) : wsz (a ++ b) = wsz a + wsz b := by
  unfold wsz
  rw [List.map_append, List.sum_append, List.length_append]
  omega
theorem wsz_cut (ws : List Str) (i : Nat) : wsz (ws.take i) + wsz (ws.drop i) = wsz ws := by
  rw [← wsz_app, List.take_append_drop]
theorem wsz_one (w : Str) : wsz [w] = w.length + 1 := by
  unfold wsz
  simp
theorem wsz_mem {ws : List Str} {w : Str} (m : w ∈ ws) : w.length + 1 ≤ wsz ws := by
  obtain ⟨i, hi⟩ := List.mem_iff_getElem?.mp m
  obtain ⟨h, e⟩ := List.getElem?_eq_some_iff.mp hi
  have z := wsz_cut ws i
  rw [List.drop_eq_getElem_cons h, e, show w :: ws.drop (i + 1) = [w] ++ ws.drop (i + 1) from rfl, wsz_app, wsz_one] at z
  omega
theorem wsz_rev (ws : List Str) : wsz ws.reverse = wsz ws := by
  unfold wsz
  rw [List.map_reverse, List.length_reverse]
  congr 1
  induction ws with
  | nil => rfl
  | cons x r ih => rw [List.map_cons, List.reverse_cons, List.sum_append, ih, List.sum_cons]; simp; omega
theorem wsz_drop (ws : List Str) (i : Nat) : wsz (ws.drop i) ≤ wsz ws := by
  have := wsz_cut ws i
  omega
theorem wsz_take (ws : List Str) (i : Nat) : wsz (ws.take i) ≤ wsz ws := by
  have := wsz_cut ws i
  omega
theorem wsz_set (ws : List Str) (i : Nat) (w : Str) : wsz (ws.set i w) ≤ wsz ws + w.length := by
  by_cases h : i < ws.length
  · have e : ws.set i w = ws.take i ++ ([w] ++ ws.drop (i + 1)) := by
      rw [List.set_eq_take_append_cons_drop, if_pos h]
      rfl
    have z := wsz_cut ws i
    rw [List.drop_eq_getElem_cons h, show ws[i] :: ws.drop (i + 1) = [ws[i]] ++ ws.drop (i + 1) from rfl, wsz_app, wsz_one] at z
    rw [e, wsz_app, wsz_app, wsz_one]
    omega
  · rw [List.set_eq_of_length_le (by omega)]
    omega
/-- words of few plain signs -/
def WOk (S : Nat) (ws : List Str) : Prop := wsz ws ≤ S ∧ ∀ w ∈ ws, ∀ c ∈ cL w, c < 128
theorem wok_join {S : Nat} {ws : List Str} (h : WOk S ws) : Asc S (Txt.join " " ws) := by
  refine ⟨Nat.le_trans (join_sum ws) h.1, fun c mc => ?_⟩
  rcases join_signs mc with rfl | ⟨p, mp, k⟩
  · decide
  · exact h.2 p mp c k
theorem wok_app {S T : Nat} {a b : List Str} (h : WOk S a) (k : WOk T b) : WOk (S + T) (a ++ b) := ⟨by rw [wsz_app]; exact Nat.add_le_add h.1 k.1, fun w m => (List.mem_append.mp m).elim (h.2 w) (k.2 w)⟩
theorem wok_take {S : Nat} {a : List Str} (h : WOk S a) (i : Nat) : WOk S (a.take i) := ⟨Nat.le_trans (wsz_take a i) h.1, fun w m => h.2 w (List.mem_of_mem_take m)⟩
theorem wok_drop {S : Nat} {a : List Str} (h : WOk S a) (i : Nat) : WOk S (a.drop i) := ⟨Nat.le_trans (wsz_drop a i) h.1, fun w m => h.2 w (List.mem_of_mem_drop m)⟩
theorem wok_rev {S : Nat} {a : List Str} (h : WOk S a) : WOk S a.reverse := ⟨by rw [wsz_rev]; exact h.1, fun w m => h.2 w (List.mem_reverse.mp m)⟩
theorem wok_one {n : Nat} {w : Str} (h : Asc n w) : WOk (n + 1) [w] := ⟨by rw [wsz_one]; have := h.1; omega, fun v m => by rw [List.mem_singleton.mp m]; exact h.2⟩
theorem wok_asc {S : Nat} {ws : List Str} (h : WOk S ws) {w : Str} (m : w ∈ ws) : Asc S w := ⟨by have := wsz_mem m; have := h.1; omega, h.2 w m⟩
theorem wok_mid {S m : Nat} {ws : List Str} (h : WOk S ws) {w : Str} (k : Asc m w) {i j : Nat} (l : i ≤ j) : WOk (S + m + 1) (ws.take i ++ [w] ++ ws.drop j) := by
  refine ⟨?_, fun v mv => ?_⟩
  · rw [wsz_app, wsz_app, wsz_one]
    have z1 := wsz_cut ws i
    have z2 := wsz_drop (ws.drop i) (j - i)
    rw [List.drop_drop, show i + (j - i) = j by omega] at z2
    have := h.1
    have := k.1
    omega
  · rcases List.mem_append.mp mv with mv | mv
    · rcases List.mem_append.mp mv with mv | mv
      · exact h.2 v (List.mem_of_mem_take mv)
      · rw [List.mem_singleton.mp mv]
        exact k.2
    · exact h.2 v (List.mem_of_mem_drop mv)
theorem cut_toX {xs : List V} {i : Nat} : cutV xs none (some (i : Int)) = xs.take i := by
  unfold cutV
  rw [HT.sIx_none, HT.sIx_nat, List.drop_zero, Nat.sub_zero]
  by_cases h : i ≤ xs.length
  · rw [Nat.min_eq_left h]
  · rw [Nat.min_eq_right (by omega), List.take_of_length_le (Nat.le_refl _), List.take_of_length_le (by omega)]
theorem cut_dnX {xs : List V} {i : Nat} : cutV xs (some (i : Int)) none = xs.drop i := by
  unfold cutV
  rw [HT.sIx_nat, HT.sIx_none]
  by_cases h : i ≤ xs.length
  · rw [Nat.min_eq_left h, List.take_of_length_le (by rw [List.length_drop]; omega)]
  · rw [Nat.min_eq_right (by omega), List.drop_of_length_le (Nat.le_refl _), List.drop_of_length_le (by omega)]
    simp
theorem str_at {S : List Str} {i : Nat} {y : V} (h : (S.map V.str)[i]? = some y) : ∃ z, S[i]? = some z ∧ y = .str z := by
  rw [List.getElem?_map] at h
  obtain ⟨z, e1, e2⟩ := Option.map_eq_some_iff.mp h
  exact ⟨z, e1, e2.symm⟩
theorem w_joinW {K : PySem.W.Frag} {H : Hp} {Q : VK} {p : Addr} {ws : List Str} {S : Nat} (h : H p = some (.lst (ws.map V.str))) (k : WOk S ws) (l : S ≤ 100000) (q : Q (.str (Txt.join " " ws)) H) : rJoin K (.str " ") [.ref p] H Q :=
  ⟨" ", p, ws, rfl, rfl, .inl (SqL.of h), by
    have := k.1
    unfold wsz at this
    rw [show (" " : Str).length = 1 from by decide +kernel]
    omega, q⟩
section
variable {P : Program} {w : World} {K : PySem.W.Frag} {mg : Str → Option Value} {base : Heap}
def spBentX : Sp := fun vs H Q _ => ∃ (d : Addr) (n B : Nat) (z : Str), vs = [.ref d, .str z] ∧ Drw H d n ∧ n ≤ 5000 ∧ Asc B z ∧ B ≤ 900 ∧ ∀ (y : Str) (H' : Hp), Go d H H' → Drw H' d (n + 7) → Asc (2 * B + 12) y → Q (.str y) H'
theorem ok_bent_x {f : Addr} {fd : FuncData} (F : Fun K "_law_bent" "_law_bent" s_law_bent f fd) (T : Txt mg) (C_law_next : Cal P w K mg base 1 "_law_next" ["draw", "size"] spNext) (C_law_pick : Cal P w K mg base 2 "_law_pick" ["draw", "some"] (spPick K)) : FnOk P w K mg base CX0 3 f fd ["draw", "text"] spBentX := by
  refine F.ok sc_law_bent (fun vs H Q E h => ?_) (fun cdv A0 outer s0 H vs Q E hr h => ?_)
  · obtain ⟨d, n, B, z, rfl, _⟩ := h
    rfl
  · obtain ⟨d, n, B, z, rfl, hd, hn, Az, hB, q⟩ := h
    refine ⟨_, (pss_cons (ps_par (i := 2) (j := 3) rfl sc_law_bent.nd rfl rfl (by decide) rfl rfl (pa_cons (pc C_law_next (hr.mono (by decide)) (by rfl) (pa_cons (pv 0) (pa_cons (pe_op op_add (pe_callB (klen K) (by rfl) T.len_ PySem.boot_len (pa_cons (pv 1) pa_nil)) pe_int) pa_nil))) (pa_cons (pc C_law_next (hr.mono (by decide)) (by rfl) (pa_cons (pv 0) (pa_cons pe_int pa_nil))) pa_nil)) (by rfl))
      (pss_cons (ps_set (i := 4) sc_law_bent.nd rfl (.inl rfl) (pc C_law_pick (hr.mono (by decide)) (by rfl) (pa_cons (pv 0) (pa_cons pe_str pa_nil))))
      (pss_cons (ps_set (i := 5) sc_law_bent.nd rfl (.inr rfl) (pe_split (pv 1) pe_str))
      (pss_cons (ps_asg (pe_tup (pa_cons (pc C_law_next (hr.mono (by decide)) (by rfl) (pa_cons (pv 0) (pa_cons (pe_callB (klen K) (by rfl) T.len_ PySem.boot_len (pa_cons (pv 5) pa_nil)) pa_nil))) (pa_cons (pc C_law_next (hr.mono (by decide)) (by rfl) (pa_cons (pv 0) (pa_cons (pe_callB (klen K) (by rfl) T.len_ PySem.boot_len (pa_cons (pv 5) pa_nil)) pa_nil))) pa_nil))) (ktup K (n := 2) rfl (pgs_cons (pg_name (i := 6) sc_law_bent.nd rfl (.inr rfl)) (pgs_cons (pg_name (i := 7) sc_law_bent.nd rfl (.inr rfl)) pgs_nil))))
      (pss_cons (ps_if (pt_cmpR op_lt (pv 3) pe_int (nomark _)) (pss_one (ps_ret (pe_op kAddS (pe_op kAddS (pe_slice sl_str (pv 1) po_none (po_some (pv 2))) (pe_ix (kixL K) (pe_lst (pa_cons (pv 4) (pa_cons pe_str (pa_cons (pv 4) pa_nil)))) (pv 3) (fun _ _ => rfl))) (pe_slice sl_str (pv 1) (po_some (pe_op op_add (pv 2) (pe_ix (kixL K) (pe_lst (pa_cons pe_int (pa_cons pe_int (pa_cons pe_int pa_nil)))) (pv 3) (fun _ _ => rfl)))) po_none)))) pss_nil)
      (pss_cons (ps_if (pt_cmpR op_eq (pv 3) pe_int (nomark _)) (pss_one (ps_ret (kjoin K pe_str (pe_lc (own := [("k", 8), ("word", 9)])  (by rfl) sc_law_bent.nd (kenumI K (by rfl) T.enumerate_ (pa_cons (pv 5) pa_nil)) (blkOk_by (own := [("k", 8), ("word", 9)]) (N := ["draw", "text", "at", "way", "sign", "words", "one", "other", "k", "word"]) (sc := defScope s_law_bent) (by decide +kernel)) (fun _ _ _ _ _ => (ktup K (n := 2) rfl (pgs_cons (pg_name (i := 8) sc_law_bent.nd rfl (.inl rfl)) (pgs_cons (pg_name (i := 9) sc_law_bent.nd rfl (.inl rfl)) pgs_nil)))) (fun _ _ _ _ _ => pts_nil) (fun _ _ _ _ _ => (pe_ifExp (pt_cmpR op_eq (pv 8) (pv 6) (nomark _)) (pe_ix (kixL K) (pv 5) (pv 7) (fun _ _ => rfl)) (pv 9))))))) pss_nil)
      (pss_cons (ps_if (pt_cmpR op_eq (pv 3) pe_int (nomark _)) (pss_one (ps_ret (kjoin K pe_str (pe_op op_cat (pe_slice (kslL K) (pv 5) po_none (po_some (pv 6))) (pe_slice (kslL K) (pv 5) (po_some (pe_op op_add (pv 6) pe_int)) po_none))))) pss_nil)
      (pss_cons (ps_if (pt_cmpR op_eq (pv 3) pe_int (nomark _)) (pss_one (ps_ret (kjoin K pe_str (pe_op op_cat (pe_op op_cat (pe_slice (kslL K) (pv 5) po_none (po_some (pv 6))) (pe_lst (pa_cons (pe_ix (kixL K) (pv 5) (pv 7) (fun _ _ => rfl)) pa_nil))) (pe_slice (kslL K) (pv 5) (po_some (pv 6)) po_none))))) pss_nil)
      (pss_cons (ps_if (pt_cmpR op_eq (pv 3) pe_int (nomark _)) (pss_one (ps_ret (kjoin K pe_str (pe_op op_cat (pe_op op_cat (pe_slice (kslL K) (pv 5) po_none (po_some (pv 6))) (pe_lst (pa_cons (pe_op kAddS pe_str (pe_ix (kixL K) (pv 5) (pv 6) (fun _ _ => rfl))) pa_nil))) (pe_slice (kslL K) (pv 5) (po_some (pe_op op_add (pv 6) pe_int)) po_none))))) pss_nil)
      (pss_cons (ps_if (pt_cmpR op_eq (pv 3) pe_int (nomark _)) (pss_one (ps_ret (kjoin K pe_str (pe_op op_cat (pe_op op_cat (pe_slice (kslL K) (pv 5) po_none (po_some (pv 6))) (pe_lst (pa_cons (pc C_law_pick (hr.mono (by decide)) (by rfl) (pa_cons (pv 0) (pa_cons (pe_lst (pa_cons pe_str (pa_cons pe_str (pa_cons pe_str (pa_cons pe_str (pa_cons pe_str pa_nil)))))) pa_nil))) pa_nil))) (pe_slice (kslL K) (pv 5) (po_some (pe_op op_add (pv 6) pe_int)) po_none))))) pss_nil)
      (pss_one (ps_ret (pc C_law_pick (hr.mono (by decide)) (by rfl) (pa_cons (pv 0) (pa_cons (pe_lst (pa_cons pe_str (pa_cons (pe_op kAddS pe_str (pv 1)) (pa_cons (pe_op kAddS (pv 1) pe_str) (pa_cons (pe_op kAddS (pv 1) pe_str) (pa_cons (kjoin K pe_str (pe_op op_cat (pe_slice (kslL K) (pv 5) po_none (po_some pe_int)) (pe_rev2L K (pv 5)))) (pa_cons (pe_op kAddS (pv 1) (pv 1)) pa_nil))))))) pa_nil))))))))))))))), ?_⟩
    refine w_from [some (.ref d), some (.str z), none, none, none, none, none, none, none, none] ?_
    try dsimp only [cxOf]
    have lz := Az.1
    walk_at "go"
    refine w_len ⟨small (by omega), rfl⟩ ?_
    walk_at "go"
    refine next_i hd (by omega) (by omega) (by omega) fun r1 H1 r10 r11 b1 hd1 => ?_
    obtain ⟨at_, rfl, hat⟩ := nat_of (m := z.length + 1) r10 (by omega)
    walk_at "go"
    refine next_i hd1 (by omega) (by omega) (by omega) fun r2 H2 r20 r21 b2 hd2 => ?_
    obtain ⟨way, rfl, hway⟩ := nat_of (m := 9) r20 (by omega)
    walk_at "go"
    refine pick_s hd2 (by omega) (by decide +kernel) (by decide +kernel) fun c H3 mc b3 hd3 => ?_
    have c128 : c < 128 := by
      rw [show cL "0123456789abzAZ -+._,\n" = [48, 49, 50, 51, 52, 53, 54, 55, 56, 57, 97, 98, 122, 65, 90, 32, 45, 43, 46, 95, 44, 10] from by decide +kernel] at mc
      simp only [List.mem_cons, List.not_mem_nil, or_false] at mc
      omega
    have Ac : Asc 1 ⟨#[c]⟩ := Asc.one c128
    walk_at "go"
    refine ⟨z, " ", rfl, rfl, by decide +kernel, small (by omega), fun p hp => ?_⟩
    generalize hE : upd _ p _ = H4
    have nH4 := New.of hp hE
    clear hE
    have pd : p ≠ d := hd3.ne nH4.free
    have hd4 := nH4.drw hd3
    have hws : H4 p = some (.lst ((Txt.split z " ").map V.str)) := nH4.here
    have W0 : WOk (B + 1) (Txt.split z " ") := ⟨by have := split_sum z; unfold wsz; omega, fun w m => (split_asc Az m).2⟩
    have pos : 1 ≤ (Txt.split z " ").length := PyProof.Rows.split_pos z " "
    have g4 : Go d H H4 := ((b1.go.bt b2).bt b3).exx nH4.ex
    generalize Txt.split z " " = ws at hws W0 pos
    have lws : ws.length ≤ B + 1 := by have := W0.1; unfold wsz at this; omega
    have lmap : (ws.map V.str).length = ws.length := List.length_map ..
    walk_at "go"
    refine w_len (.inl ⟨_, SqL.of hws, rfl⟩) ?_
    rw [lmap]
    walk_at "go"
    refine next_i hd4 (by omega) (by omega) (by omega) fun r5 H5 r50 r51 b5 hd5 => ?_
    obtain ⟨one, rfl, hone⟩ := nat_of (m := ws.length) r50 (by omega)
    have hws5 := b5.keep hws pd
    walk_at "go"
    refine w_len (.inl ⟨_, SqL.of hws5, rfl⟩) ?_
    rw [lmap]
    walk_at "go"
    refine next_i hd5 (by omega) (by omega) (by omega) fun r6 H6 r60 r61 b6 hd6 => ?_
    obtain ⟨oth, rfl, hoth⟩ := nat_of (m := ws.length) r60 (by omega)
    have hws6 := b6.keep hws5 pd
    walk_at "go"
    refine ⟨small (by show 2 ≤ 100000; omega), ?_⟩
    intro tt htt
    generalize hE : upd _ tt _ = H7
    have nH7 := New.of htt hE
    clear hE
    have htt := SqT.of (K := K) nH7.here
    have hws7 := nH7.keep hws6
    have hd7 := nH7.drw hd6
    have g7 : Go d H H7 := ((g4.bt b5).bt b6).exx nH7.ex
    have fin : ∀ {y : Str} {H' : Hp} {m : Nat}, Evl.Ex H7 H' → Asc m y → m ≤ 2 * B + 12 → Q (.str y) H' := fun {y H' m} e a l => q y H' (g7.exx e) ((hd7.ex e).le (by omega)) (a.le l)
    obtain ⟨wo, ewo⟩ : ∃ wo, ws[oth]? = some wo := ⟨ws[oth], List.getElem?_eq_getElem hoth⟩
    obtain ⟨w1, ew1⟩ : ∃ w1, ws[one]? = some w1 := ⟨ws[one], List.getElem?_eq_getElem hone⟩
    have mo := List.mem_of_getElem? ewo
    have m1 := List.mem_of_getElem? ew1
    have Ao := wok_asc W0 mo
    have A1 := wok_asc W0 m1
    have ixo : atI (ws.map V.str) (oth : Int) = some (.str wo) := atI_of (by rw [List.getElem?_map, ewo]; rfl)
    have ix1 : atI (ws.map V.str) (one : Int) = some (.str w1) := atI_of (by rw [List.getElem?_map, ew1]; rfl)
    walk_at "go"
    refine w_dec (fun h3 => ?_) (fun h3 => ?_)
    · walk_at "go"
      refine w_slA Az (by omega) ?_
      walk_at "go"
      refine ⟨small (by show 3 ≤ 100000; omega), ?_⟩
      intro l1 hl1
      generalize hE : upd _ l1 _ = H8
      have nH8 := New.of hl1 hE
      clear hE
      walk_at "go"
      obtain ⟨sg, esg, Asg⟩ : ∃ sg, atI [V.str ⟨#[c]⟩, V.str "", V.str ⟨#[c]⟩] (way : Int) = some (.str sg) ∧ Asc 1 sg := by
        have : way = 0 ∨ way = 1 ∨ way = 2 := by omega
        rcases this with rfl | rfl | rfl
        · exact ⟨_, rfl, Ac⟩
        · exact ⟨"", rfl, by decide +kernel, by decide +kernel⟩
        · exact ⟨_, rfl, Ac⟩
      refine w_ixL (SqL.of nH8.here) esg ?_
      walk_at "go"
      refine w_addA Az.cut Asg (by omega) ?_
      walk_at "go"
      refine ⟨small (by show 3 ≤ 100000; omega), ?_⟩
      intro l2 hl2
      generalize hE : upd _ l2 _ = H9
      have nH9 := New.of hl2 hE
      clear hE
      walk_at "go"
      obtain ⟨kk, ekk⟩ : ∃ kk : Nat, atI [V.int 0, V.int 1, V.int 1] (way : Int) = some (.int (kk : Int)) := by
        have : way = 0 ∨ way = 1 ∨ way = 2 := by omega
        rcases this with rfl | rfl | rfl
        · exact ⟨0, rfl⟩
        · exact ⟨1, rfl⟩
        · exact ⟨1, rfl⟩
      refine w_ixL (SqL.of nH9.here) ekk ?_
      walk_at "go"
      refine w_slA Az (by omega) ?_
      walk_at "go"
      refine w_addA (Az.cut.app Asg) Az.cut (by omega) ?_
      exact fin (nH8.ex.trans nH9.ex) ((Az.cut.app Asg).app Az.cut) (by omega)
    walk_at "go"
    refine w_dec (fun h4 => ?_) (fun h4 => ?_)
    · walk_at "go"
      refine w_e1 (xs := ws.map V.str) (SqL.of hws7) ?_
      have sz := wsz_set ws one wo
      have lset : (ws.set one wo).length = ws.length := List.length_set ..
      refine lcE (xs := ws.map V.str) (fun C i H' => Evl.Ex H7 H' ∧ H' C = some (.lst (((ws.set one wo).take i).map V.str))) ?_ ?_ ?_ ?_
      · intro C hC
        exact ⟨Evl.Ex.new hC, upd_same⟩
      · rintro C i H' hC hi ⟨e, _⟩
        exact SqL.of (e _ _ hws7)
      · rintro C i x Tp H' hC hx ⟨e, hM⟩ hTp
        obtain ⟨u, eu, rfl⟩ := str_at hx
        have li : i < ws.length := (List.getElem?_eq_some_iff.mp eu).1
        generalize hE : upd _ Tp _ = H8
        have nH8 := New.of hTp hE
        clear hE
        have hT8 := SqT.of (K := K) nH8.here
        unfold LcTurn
        walk_at "go"
        refine ⟨rfl, ?_⟩
        walk_at "go"
        refine w_dec (fun k1 => ?_) (fun k1 => ?_)
        · walk_at "go"
          have ei : i = one := by have := V.int.inj k1; omega
          refine w_ixL (SqL.of (nH8.keep (e _ _ hws7))) ixo ?_
          refine ⟨_, nH8.keep hM, smallS (by rw [List.length_map, List.length_take]; omega), (e.trans nH8.ex).mut hC, ?_⟩
          rw [upd_same, take_snoc (x := wo) (by rw [ei, List.getElem?_set, if_pos rfl, if_pos (by omega)]), List.map_append]
          rfl
        · walk_at "go"
          have ni : one ≠ i := fun k => k1 (by rw [k])
          refine ⟨_, nH8.keep hM, smallS (by rw [List.length_map, List.length_take]; omega), (e.trans nH8.ex).mut hC, ?_⟩
          rw [upd_same, take_snoc (x := u) (by rw [List.getElem?_set, if_neg ni]; exact eu), List.map_append]
          rfl
      rintro C H8 hC ⟨e8, hM8⟩
      rw [lmap, ← lset, List.take_length] at hM8
      walk_at "go"
      have k : WOk (2 * B + 2) (ws.set one wo) := ⟨by have := W0.1; have := wsz_mem mo; omega, fun v mv => by
        rcases List.mem_or_eq_of_mem_set mv with m | rfl
        · exact W0.2 v m
        · exact W0.2 _ mo⟩
      refine w_joinW hM8 k (by omega) ?_
      exact fin e8 (wok_join k) (by omega)
    walk_at "go"
    refine w_dec (fun h5 => ?_) (fun h5 => ?_)
    · walk_at "go"
      refine w_slL (SqL.of hws7) ?_
      rw [cut_toX, ← List.map_take]
      intro c1 hc1
      generalize hE : upd _ c1 _ = H8
      have nH8 := New.of hc1 hE
      clear hE
      walk_at "go"
      refine w_slL (SqL.of (nH8.keep hws7)) ?_
      rw [show (one : Int) + 1 = ((one + 1 : Nat) : Int) by omega, cut_dnX, ← List.map_drop]
      intro c2 hc2
      generalize hE : upd _ c2 _ = H9
      have nH9 := New.of hc2 hE
      clear hE
      walk_at "go"
      refine w_cat (nH9.keep nH8.here) nH9.here (by rw [List.length_map, List.length_map, List.length_take, List.length_drop]; omega) ?_
      intro c3 hc3
      generalize hE : upd _ c3 _ = HA
      have nHA := New.of hc3 hE
      clear hE
      have hA : HA c3 = some (.lst ((ws.take one ++ ws.drop (one + 1)).map V.str)) := by rw [nHA.here, List.map_append]
      have k := wok_app (wok_take W0 one) (wok_drop W0 (one + 1))
      walk_at "go"
      refine w_joinW hA k (by omega) ?_
      exact fin ((nH8.ex.trans nH9.ex).trans nHA.ex) (wok_join k) (by omega)
    walk_at "go"
    refine w_dec (fun h6 => ?_) (fun h6 => ?_)
    · walk_at "go"
      refine w_slL (SqL.of hws7) ?_
      rw [cut_toX, ← List.map_take]
      intro c1 hc1
      generalize hE : upd _ c1 _ = H8
      have nH8 := New.of hc1 hE
      clear hE
      walk_at "go"
      refine w_ixL (SqL.of (nH8.keep hws7)) ixo ?_
      walk_at "go"
      refine ⟨small (by show 1 ≤ 100000; omega), ?_⟩
      intro c2 hc2
      generalize hE : upd _ c2 _ = H9
      have nH9 := New.of hc2 hE
      clear hE
      walk_at "go"
      refine w_cat (nH9.keep nH8.here) nH9.here (by rw [List.length_map, List.length_take]; show _ + 1 ≤ _; omega) ?_
      intro c3 hc3
      generalize hE : upd _ c3 _ = HA
      have nHA := New.of hc3 hE
      clear hE
      have e7A := (nH8.ex.trans nH9.ex).trans nHA.ex
      walk_at "go"
      refine w_slL (SqL.of (e7A _ _ hws7)) ?_
      rw [cut_dnX, ← List.map_drop]
      intro c4 hc4
      generalize hE : upd _ c4 _ = HB
      have nHB := New.of hc4 hE
      clear hE
      walk_at "go"
      refine w_cat (nHB.keep nHA.here) nHB.here (by rw [List.length_append, List.length_map, List.length_map, List.length_take, List.length_drop]; show _ + 1 + _ ≤ _; omega) ?_
      intro c5 hc5
      generalize hE : upd _ c5 _ = HC
      have nHC := New.of hc5 hE
      clear hE
      have hC : HC c5 = some (.lst ((ws.take one ++ [wo] ++ ws.drop one).map V.str)) := by
        rw [nHC.here, List.map_append, List.map_append]
        rfl
      have k := wok_mid W0 Ao (Nat.le_refl one)
      walk_at "go"
      refine w_joinW hC k (by omega) ?_
      exact fin ((e7A.trans nHB.ex).trans nHC.ex) (wok_join k) (by omega)
    walk_at "go"
    refine w_dec (fun h7 => ?_) (fun h7 => ?_)
    · walk_at "go"
      refine w_slL (SqL.of hws7) ?_
      rw [cut_toX, ← List.map_take]
      intro c1 hc1
      generalize hE : upd _ c1 _ = H8
      have nH8 := New.of hc1 hE
      clear hE
      walk_at "go"
      refine w_ixL (SqL.of (nH8.keep hws7)) ix1 ?_
      walk_at "go"
      have A0 : Asc 1 "0" := ⟨by decide +kernel, by decide +kernel⟩
      refine w_addA A0 A1 (by omega) ?_
      walk_at "go"
      refine ⟨small (by show 1 ≤ 100000; omega), ?_⟩
      intro c2 hc2
      generalize hE : upd _ c2 _ = H9
      have nH9 := New.of hc2 hE
      clear hE
      walk_at "go"
      refine w_cat (nH9.keep nH8.here) nH9.here (by rw [List.length_map, List.length_take]; show _ + 1 ≤ _; omega) ?_
      intro c3 hc3
      generalize hE : upd _ c3 _ = HA
      have nHA := New.of hc3 hE
      clear hE
      have e7A := (nH8.ex.trans nH9.ex).trans nHA.ex
      walk_at "go"
      refine w_slL (SqL.of (e7A _ _ hws7)) ?_
      rw [show (one : Int) + 1 = ((one + 1 : Nat) : Int) by omega, cut_dnX, ← List.map_drop]
      intro c4 hc4
      generalize hE : upd _ c4 _ = HB
      have nHB := New.of hc4 hE
      clear hE
      walk_at "go"
      refine w_cat (nHB.keep nHA.here) nHB.here (by rw [List.length_append, List.length_map, List.length_map, List.length_take, List.length_drop]; show _ + 1 + _ ≤ _; omega) ?_
      intro c5 hc5
      generalize hE : upd _ c5 _ = HC
      have nHC := New.of hc5 hE
      clear hE
      have hC : HC c5 = some (.lst ((ws.take one ++ [("0" : Str) ++ w1] ++ ws.drop (one + 1)).map V.str)) := by
        rw [nHC.here, List.map_append, List.map_append]
        rfl
      have k := wok_mid W0 (A0.app A1) (show one ≤ one + 1 by omega)
      walk_at "go"
      refine w_joinW hC k (by omega) ?_
      exact fin ((e7A.trans nHB.ex).trans nHC.ex) (wok_join k) (by omega)
    walk_at "go"
    refine w_dec (fun h8 => ?_) (fun h8 => ?_)
    · walk_at "go"
      refine w_slL (SqL.of hws7) ?_
      rw [cut_toX, ← List.map_take]
      intro c1 hc1
      generalize hE : upd _ c1 _ = H8
      have nH8 := New.of hc1 hE
      clear hE
      walk_at "go"
      refine ⟨small (by show 5 ≤ 100000; omega), ?_⟩
      intro cl hcl
      generalize hE : upd _ cl _ = H9
      have nH9 := New.of hcl hE
      clear hE
      have hd9 := hd7.ex (nH8.ex.trans nH9.ex)
      have c1d : c1 ≠ d := hd7.ne nH8.free
      walk_at "go"
      refine pick_l hd9 (by omega) (SqL.of nH9.here) ((nH8.drw hd7).ne nH9.free) (by show 0 < 5; omega) (by show 5 ≤ 100000; omega) fun v Ha hv ba hda => ?_
      obtain ⟨y, rfl, Ay⟩ : ∃ y, v = .str y ∧ Asc 7 y := by
        simp only [List.mem_cons, List.not_mem_nil, or_false] at hv
        rcases hv with rfl | rfl | rfl | rfl | rfl
        all_goals exact ⟨_, rfl, by decide +kernel, by decide +kernel⟩
      have hc1 := ba.keep (nH9.keep nH8.here) c1d
      have hwsa := ba.keep ((nH8.ex.trans nH9.ex) _ _ hws7) pd
      walk_at "go"
      refine ⟨small (by show 1 ≤ 100000; omega), ?_⟩
      intro c2 hc2
      generalize hE : upd _ c2 _ = Hb
      have nHb := New.of hc2 hE
      clear hE
      walk_at "go"
      refine w_cat (nHb.keep hc1) nHb.here (by rw [List.length_map, List.length_take]; show _ + 1 ≤ _; omega) ?_
      intro c3 hc3
      generalize hE : upd _ c3 _ = HA
      have nHA := New.of hc3 hE
      clear hE
      have e7A := nHb.ex.trans nHA.ex
      walk_at "go"
      refine w_slL (SqL.of (e7A _ _ hwsa)) ?_
      rw [show (one : Int) + 1 = ((one + 1 : Nat) : Int) by omega, cut_dnX, ← List.map_drop]
      intro c4 hc4
      generalize hE : upd _ c4 _ = HB
      have nHB := New.of hc4 hE
      clear hE
      walk_at "go"
      refine w_cat (nHB.keep nHA.here) nHB.here (by rw [List.length_append, List.length_map, List.length_map, List.length_take, List.length_drop]; show _ + 1 + _ ≤ _; omega) ?_
      intro c5 hc5
      generalize hE : upd _ c5 _ = HC
      have nHC := New.of hc5 hE
      clear hE
      have hC : HC c5 = some (.lst ((ws.take one ++ [y] ++ ws.drop (one + 1)).map V.str)) := by
        rw [nHC.here, List.map_append, List.map_append]
        rfl
      have k := wok_mid W0 Ay (show one ≤ one + 1 by omega)
      have ea := (e7A.trans nHB.ex).trans nHC.ex
      walk_at "go"
      refine w_joinW hC k (by omega) ?_
      exact q _ HC (((g7.exx (nH8.ex.trans nH9.ex)).bt ba).exx ea) ((hda.ex ea).le (by omega)) ((wok_join k).le (by omega))
    have As : Asc 1 " " := ⟨by decide +kernel, by decide +kernel⟩
    have Al : Asc 1 "\n" := ⟨by decide +kernel, by decide +kernel⟩
    walk_at "go"
    refine w_addA As Az (by omega) ?_
    walk_at "go"
    refine w_addA Az As (by omega) ?_
    walk_at "go"
    refine w_addA Az Al (by omega) ?_
    walk_at "go"
    refine w_slL (SqL.of hws7) ?_
    rw [show (2 : Int) = ((2 : Nat) : Int) from rfl, cut_toX, ← List.map_take]
    intro c1 hc1
    generalize hE : upd _ c1 _ = H8
    have nH8 := New.of hc1 hE
    clear hE
    walk_at "go"
    refine w_rev3 ?_
    walk_at "go"
    refine ⟨p, _, rfl, SqL.of (nH8.keep hws7), ?_⟩
    intro c2 hc2
    generalize hE : upd _ c2 _ = H9
    have nH9 := New.of hc2 hE
    clear hE
    walk_at "go"
    refine w_cat (nH9.keep nH8.here) nH9.here (by rw [List.length_reverse, List.length_drop, List.length_map, List.length_map, List.length_take]; omega) ?_
    intro c3 hc3
    generalize hE : upd _ c3 _ = HA
    have nHA := New.of hc3 hE
    clear hE
    have hA : HA c3 = some (.lst ((ws.take 2 ++ (ws.drop 2).reverse).map V.str)) := by
      rw [nHA.here, List.map_append, List.map_reverse, List.map_drop]
    have k := wok_app (wok_take W0 2) (wok_rev (wok_drop W0 2))
    walk_at "go"
    refine w_joinW hA k (by omega) ?_
    walk_at "go"
    refine w_addA Az Az (by omega) ?_
    walk_at "go"
    refine ⟨small (by show 6 ≤ 100000; omega), ?_⟩
    intro cl hcl
    generalize hE : upd _ cl _ = HB
    have nHB := New.of hcl hE
    clear hE
    have e7B := ((nH8.ex.trans nH9.ex).trans nHA.ex).trans nHB.ex
    have hdB := hd7.ex e7B
    walk_at "go"
    refine pick_l hdB (by omega) (SqL.of nHB.here) ((hd7.ex ((nH8.ex.trans nH9.ex).trans nHA.ex)).ne nHB.free) (by show 0 < 6; omega) (by show 6 ≤ 100000; omega) fun v HC hv bC hdC => ?_
    obtain ⟨y, rfl, Ay⟩ : ∃ y, v = .str y ∧ Asc (2 * B + 12) y := by
      simp only [List.mem_cons, List.not_mem_nil, or_false] at hv
      rcases hv with rfl | rfl | rfl | rfl | rfl | rfl
      · exact ⟨_, rfl, by show 0 ≤ _; omega, by decide +kernel⟩
      · exact ⟨_, rfl, (As.app Az).le (by omega)⟩
      · exact ⟨_, rfl, (Az.app As).le (by omega)⟩
      · exact ⟨_, rfl, (Az.app Al).le (by omega)⟩
      · exact ⟨_, rfl, (wok_join k).le (by omega)⟩
      · exact ⟨_, rfl, (Az.app Az).le (by omega)⟩
    exact q y HC ((g7.exx e7B).bt bC) (hdC.le (by omega)) Ay
end
end Fk
namespace Fk
open PySem PySem.Spec PyProof.Rows L2
local macro_rules | `(tactic| walk_at "fk") => `(tactic| first
  | with_reducible refine w_seq ?_ | with_reducible refine w_set ?_ | with_reducible refine w_asg ?_ | with_reducible refine w_drop ?_ | with_reducible refine w_ret ?_ | with_reducible refine w_if ?_
  | with_reducible refine w_op ?_ | with_reducible refine w_un ?_ | with_reducible refine w_c ?_ | ((with_reducible apply w_var); rfl)
  | with_reducible refine w_test ?_ | with_reducible refine w_B ?_ | with_reducible refine w_exb ?_ | with_reducible refine w_exi ?_ | with_reducible refine w_I0 ?_ | with_reducible refine w_U ?_
  | with_reducible refine w_nil ?_ | with_reducible refine w_cons ?_ | with_reducible refine w_call ?_ | with_reducible refine w_cb ?_ | with_reducible refine w_tup ?_ | with_reducible refine w_lst ?_
  | with_reducible refine w_and ?_ | with_reducible refine w_or ?_ | with_reducible refine w_not ?_ | with_reducible refine w_andV ?_ | with_reducible refine w_orV ?_ | with_reducible refine w_notV ?_
  | with_reducible refine w_ifE ?_ | with_reducible refine w_chain ?_ | with_reducible refine w_for ?_ | with_reducible refine w_lc ?_ | with_reducible refine w_yes ?_ | with_reducible refine w_iR1 ?_ | with_reducible refine w_iL ?_ | with_reducible refine w_iT ?_ | with_reducible refine w_iE ?_ | with_reducible refine w_iZ ?_ | with_reducible refine w_iS ?_ | with_reducible refine w_s1 ?_ | with_reducible refine w_m1 ?_ | with_reducible refine w_m0 ?_ | with_reducible refine w_estr ?_ | with_reducible refine w_lz ?_ | with_reducible refine w_ss ?_ | with_reducible refine w_revL ?_ | with_reducible refine w_dc ?_ | with_reducible refine w_c2 ?_ | with_reducible refine w_c2D ?_ | with_reducible refine w_iIT ?_ | with_reducible refine w_ddelT ?_ | with_reducible refine w_dsetd ?_ | with_reducible refine w_dget1 ?_ | with_reducible refine w_iI ?_ | with_reducible refine w_iES ?_ | with_reducible refine w_dget ?_ | with_reducible refine w_dget2 ?_ | with_reducible refine w_dput ?_ | with_reducible refine w_callN ?_ | with_reducible refine w_callD ?_ | with_reducible refine w_dnew ?_ | with_reducible refine w_dnewT ?_ | with_reducible refine w_revT ?_ | with_reducible refine w_leS ?_ | with_reducible refine w_ltS ?_ | with_reducible refine w_inSg ?_ | with_reducible refine w_notInSg ?_ | with_reducible refine iteT ?_ | with_reducible refine iteF ?_ | with_reducible refine w_par ?_ | with_reducible refine w_par3 ?_ | with_reducible refine w_three ?_ | with_reducible refine w_two ?_ | with_reducible refine w_gname ?_ | with_reducible refine w_gcons ?_ | with_reducible refine w_gnil ?_ | ((with_reducible apply w_gtup); (with_reducible assumption); rfl) | with_reducible refine w_gsub ?_
  | with_reducible refine w_bm0 ?_ | with_reducible refine w_iK ?_ | with_reducible refine w_iQ ?_ | with_reducible refine w_c1 ?_ | with_reducible refine iteNT ?_ | with_reducible refine iteNF ?_ | with_reducible refine w_tru ?_ | with_reducible refine w_dnin ?_ | with_reducible refine w_dgetN ?_
  | with_reducible refine w_bm ?_ | with_reducible refine w_sl ?_ | with_reducible refine w_noP ?_ | with_reducible refine w_part ?_ | with_reducible refine w_next ?_ | with_reducible refine w_retN ?_
  | ((with_reducible refine w_I ?hk ?_); (case hk => (first | (show (0 : Int) < _; omega) | exact ⟨by omega, by omega⟩ | exact .inl ⟨by omega, by omega⟩ | exact .inr ⟨by omega, by omega⟩ | exact cpow_small (by decide) (by decide) (by decide))))
  | ((with_reducible apply w_eq); rfl) | ((with_reducible apply w_ne); rfl)
  | ((with_reducible apply w_ixL); (with_reducible assumption); rfl)
  | ((with_reducible apply w_setL); (with_reducible assumption); rfl))
local macro_rules | `(tactic| walk_at "go") => `(tactic| repeat walk_at "fk")

/-- one of two readings -/
theorem pe_orE {X : Cx} {e : Expr} {t1 t2 : TE} (h1 : PE X e t1) (h2 : PE X e t2) : PE X e (fun σ H Q => t1 σ H Q ∨ t2 σ H Q) := ⟨fun pins s σ H Q I h => h.elim (h1.run pins s σ H Q I) (h2.run pins s σ H Q I)⟩
/-- what is known of one class of errors -/
structure ErrOne (K : PySem.W.Frag) (D CK CP CT CE CG C C2 : Addr) (bl bx : Bool) : Prop where
  exm : PySem.W.exmOne K (.ref D) (.ref CK) = some true
  E : ExcC K D
  X : XfC K D
  no : PySem.W.findIn K (.ref D) "at" = some none
  kP : PySem.W.kitOne K (.ref D) (.ref CP) = some false
  kT : PySem.W.kitOne K (.ref D) (.ref CT) = some false
  kK : PySem.W.kitOne K (.ref D) (.ref CE) = some false
  kG : PySem.W.kitOne K (.ref D) (.ref CG) = some false
  kL : PySem.W.kitOne K (.ref D) (.ref C) = some bl
  kX : PySem.W.kitOne K (.ref D) (.ref C2) = some bx
  kV : PySem.W.kitOne K (.ref D) (.type "ValueError") = some true
structure ErrTwo (K : PySem.W.Frag) (mg : Str → Option Value) (C C2 CK CP CT CE CG : Addr) : Prop where
  gE : mg "KeepError" = some (.ref CK)
  gL : mg "NoLink" = some (.ref C)
  gP : mg "NoPlace" = some (.ref CP)
  gT : mg "TooMany" = some (.ref CT)
  gK : mg "NoKept" = some (.ref CE)
  gG : mg "NoPage" = some (.ref CG)
  gX : mg "NoText" = some (.ref C2)
  gV : mg "ValueError" = none
  a : ErrOne K C CK CP CT CE CG C C2 true false
  b : ErrOne K C2 CK CP CT CE CG C C2 false true
theorem w_as {K : PySem.W.Frag} {c : Value} {i : Nat} {ts : Addr → Value → Option Addr → TS} {Wout : WX} {D : Ends} {cls : Value} {d : Option Addr} {σ : L2.St} {H : Hp} (h : PySem.W.exmOne K cls c = some true)
    (q : ∀ a, H a = none → ts a cls d { nx := fun σ' H' => D.nx (σ'.set i none) H', rt := D.rt, bk := fun σ' H' => D.bk (σ'.set i none) H', ct := fun σ' H' => D.ct (σ'.set i none) H' } (σ.set i (some (.ref a))) H) : wAs K c i ts Wout D cls d σ H := ⟨true, h, fun _ => q, fun z => nomatch z⟩
section
variable {P : Program} {w : World} {K : PySem.W.Frag} {mg : Str → Option Value} {base : Heap}
def spRef53 : Sp := fun vs H Q _ => ∃ (m : Int) (v : V), vs = [.int m, v] ∧ Kd H v ∧ (∀ z, v = .str z → Asc 2000 z) ∧
  ((m = 0 ∧ (∀ (x : Lk), x.ok → v = .str (textL x) → ∀ (t : Addr) (H' : Hp), Evl.Ex H H' → H' t = some (.tup x.vs) → Q (.ref t) H') ∧
    ((¬ ∃ x : Lk, x.ok ∧ v = .str (textL x)) → ∀ (l : Addr) (H' : Hp), Evl.Ex H H' → H' l = some (.lst [.str "text", .int 0]) → Q (.ref l) H')) ∨
  (m ≠ 0 ∧ linkV H v = false ∧ ∀ (l : Addr) (H' : Hp), Evl.Ex H H' → H' l = some (.lst [.str "link", .int 0]) → Q (.ref l) H'))
theorem ok_refusal {C C2 CK CP CT CE CG : Addr} {f : Addr} {fd : FuncData} (F : Fun K "_law_refusal" "_law_refusal" s_law_refusal f fd) (T : Txt mg) (M : ErrTwo K mg C C2 CK CP CT CE CG) (C_read_link : CalX P w K mg base 4 "read_link" ["text"] (spReadLink C2))
    (C_link_text : CalX P w K mg base 3 "link_text" ["link"] (spLinkText C)) : FnOk P w K mg base CX0 5 f fd ["way", "thing"] spRef53 := by
  have gKeepError := M.gE
  refine F.ok sc_law_refusal (fun vs H Q E h => ?_) (fun cdv A outer s H vs Q E hr h => ?_)
  · obtain ⟨m, v, rfl, _⟩ := h
    rfl
  · obtain ⟨m, v, rfl, kv, az, cs⟩ := h
    refine ⟨_, (pss_cons (ps_set (i := 2) sc_law_refusal.nd rfl (.inl rfl) pe_non)
      (pss_cons (ps_try_as (i := 3) rfl rfl sc_law_refusal.nd rfl rfl ⟨rfl, by decide, .inl gKeepError⟩ takes0 (fun W pn xe tk _ => (pss_one (ps_set (i := 2) sc_law_refusal.nd rfl (.inl rfl) (pe_ifExp (pt_cmpR op_eq (pv 0) pe_int (nomark _)) (pcS C_read_link tk (hr.mono (by decide)) (by rfl) (pa_cons (pv 1) pa_nil)) (pcS C_link_text tk (hr.mono (by decide)) (by rfl) (pa_cons (pv 1) pa_nil)))))) (fun a oe cls d pn hz hf => (pss_cons (ps_set (i := 4) sc_law_refusal.nd rfl (.inl rfl) (pe_lst (pa_cons (pe_callB (call_isX hz hf) (by rfl) T.isinstance_ (by decide +kernel) (pa_cons (pv 3) (pa_cons (pe_glob (v := .ref CP) rfl M.gP rfl) pa_nil))) (pa_cons (pe_callB (call_isX hz hf) (by rfl) T.isinstance_ (by decide +kernel) (pa_cons (pv 3) (pa_cons (pe_glob (v := .ref CT) rfl M.gT rfl) pa_nil))) (pa_cons (pe_callB (call_isX hz hf) (by rfl) T.isinstance_ (by decide +kernel) (pa_cons (pv 3) (pa_cons (pe_glob (v := .ref CE) rfl M.gK rfl) pa_nil))) (pa_cons (pe_callB (call_isX hz hf) (by rfl) T.isinstance_ (by decide +kernel) (pa_cons (pv 3) (pa_cons (pe_glob (v := .ref CG) rfl M.gG rfl) pa_nil))) pa_nil))))))
      (pss_cons (ps_set (i := 5) sc_law_refusal.nd rfl (.inl rfl) (pe_or (pe_cmpR (kIn K) pe_bl (pv 4) rfl) (pe_one (pe_cmpR op_eq (pe_callB (call_isX hz hf) (by rfl) T.isinstance_ (by decide +kernel) (pa_cons (pv 3) (pa_cons (pe_glob (v := .ref C) rfl M.gL rfl) pa_nil))) (pe_callB (call_isX hz hf) (by rfl) T.isinstance_ (by decide +kernel) (pa_cons (pv 3) (pa_cons (pe_glob (v := .ref C2) rfl M.gX rfl) pa_nil))) (nomark _)))))
      (pss_cons (ps_set (i := 2) sc_law_refusal.nd rfl (.inl rfl) pe_str)
      (pss_one (ps_if (PW.pt (pw_and (pt_not (pt_val (pv 5))) (pw_and1 (pt_val (pe_callB (call_isX hz hf) (by rfl) T.isinstance_ (by decide +kernel) (pa_cons (pv 3) (pa_cons (pe_bltn (v := .ty "ValueError") (by rfl) M.gV (by decide +kernel) rfl) pa_nil))))))) (pss_one (ps_set (i := 2) sc_law_refusal.nd rfl (.inl rfl) (pe_lst (pa_cons (pe_ifExp (pt_val (pe_callB (call_isX hz hf) (by rfl) T.isinstance_ (by decide +kernel) (pa_cons (pv 3) (pa_cons (pe_glob (v := .ref C2) rfl M.gX rfl) pa_nil)))) pe_str pe_str) (pa_cons (pe_orE (pe_xf M.a.X M.a.no hz hf (pv 3)) (pe_xf M.b.X M.b.no hz hf (pv 3))) pa_nil))))) pss_nil)))))))
      (pss_one (ps_ret (pv 2))))), ?_⟩
    refine w_from [some (.int m), some v, none, none, none, none] ?_
    try dsimp only [cxOf]
    walk_at "go"
    rcases cs with ⟨rfl, q1, q2⟩ | ⟨m0, nl, q⟩
    · refine w_dec (fun _ => ?_) (fun k => absurd rfl k)
      walk_at "go"
      refine w_callS ?_
      walk_at "go"
      refine ⟨v, rfl, kv, az, fun x ok ev t H' e ht => ?_, fun no d H' e n hd => w_as M.b.exm fun a ha => ?_⟩
      · walk_at "go"
        exact q1 x ok ev t H' e ht
      · have isx : ∀ {H2 : Hp} {c : V} {cv : Value} {b : Bool} {Qx : VK}, H2 d = some (.xd [("at", .int (0 : Int))]) → (∀ u, RelV c u → u = cv) → PySem.W.kitOne K (.ref C2) cv = some b → Qx (.bl b) H2 → rIsX K a (.ref C2) (some d) [.ref a, c] H2 Qx :=
          fun h hc k z => ⟨C2, d, _, _, _, _, rfl, rfl, M.b.E, h, rfl, hc, k, z⟩
        walk_at "go"
        refine isx hd (fun _ r => r) M.b.kP ?_
        walk_at "go"
        refine isx hd (fun _ r => r) M.b.kT ?_
        walk_at "go"
        refine isx hd (fun _ r => r) M.b.kK ?_
        walk_at "go"
        refine isx hd (fun _ r => r) M.b.kG ?_
        walk_at "go"
        refine ⟨small (by show 4 ≤ 100000; omega), ?_⟩
        intro o ho
        generalize hE : upd _ o _ = H1
        have nH1 := New.of ho hE
        clear hE
        have hd1 := nH1.keep hd
        walk_at "go"
        refine ⟨o, _, rfl, .inl (SqL.of nH1.here), rfl, rfl, ?_⟩
        rw [show inV (V.bl true) [.bl false, .bl false, .bl false, .bl false] = false from rfl]
        walk_at "go"
        refine w_bool (fun h => absurd h (by decide)) (fun _ => ?_)
        walk_at "go"
        refine isx hd1 (fun _ r => r) M.b.kL ?_
        walk_at "go"
        refine isx hd1 (fun _ r => r) M.b.kX ?_
        walk_at "go"
        rw [show (!decide (V.bl false = V.bl true)) = true from by decide]
        walk_at "go"
        refine isx hd1 (fun _ r => r) M.b.kV ?_
        walk_at "go"
        refine isx hd1 (fun _ r => r) M.b.kX ?_
        walk_at "go"
        refine .inr ⟨V.ref a, rfl, rfl, rfl, d, _, _, rfl, hd1, rfl, ?_⟩
        walk_at "go"
        refine ⟨small (by show 2 ≤ 100000; omega), ?_⟩
        intro l hl
        generalize hE : upd _ l _ = H3
        have nH3 := New.of hl hE
        clear hE
        walk_at "go"
        exact q2 no l H3 ((e.trans nH1.ex).trans nH3.ex) nH3.here
    · refine w_dec (fun k => absurd (V.int.inj k) m0) (fun _ => ?_)
      walk_at "go"
      refine w_callS ?_
      walk_at "go"
      refine .inr ⟨v, rfl, kv, nl, fun d H' e n hd => w_as M.a.exm fun a ha => ?_⟩
      have isx : ∀ {H2 : Hp} {c : V} {cv : Value} {b : Bool} {Qx : VK}, H2 d = some (.xd [("at", .int (0 : Int))]) → (∀ u, RelV c u → u = cv) → PySem.W.kitOne K (.ref C) cv = some b → Qx (.bl b) H2 → rIsX K a (.ref C) (some d) [.ref a, c] H2 Qx :=
        fun h hc k z => ⟨C, d, _, _, _, _, rfl, rfl, M.a.E, h, rfl, hc, k, z⟩
      walk_at "go"
      refine isx hd (fun _ r => r) M.a.kP ?_
      walk_at "go"
      refine isx hd (fun _ r => r) M.a.kT ?_
      walk_at "go"
      refine isx hd (fun _ r => r) M.a.kK ?_
      walk_at "go"
      refine isx hd (fun _ r => r) M.a.kG ?_
      walk_at "go"
      refine ⟨small (by show 4 ≤ 100000; omega), ?_⟩
      intro o ho
      generalize hE : upd _ o _ = H1
      have nH1 := New.of ho hE
      clear hE
      have hd1 := nH1.keep hd
      walk_at "go"
      refine ⟨o, _, rfl, .inl (SqL.of nH1.here), rfl, rfl, ?_⟩
      rw [show inV (V.bl true) [.bl false, .bl false, .bl false, .bl false] = false from rfl]
      walk_at "go"
      refine w_bool (fun h => absurd h (by decide)) (fun _ => ?_)
      walk_at "go"
      refine isx hd1 (fun _ r => r) M.a.kL ?_
      walk_at "go"
      refine isx hd1 (fun _ r => r) M.a.kX ?_
      walk_at "go"
      rw [show (!decide (V.bl true = V.bl false)) = true from by decide]
      walk_at "go"
      refine isx hd1 (fun _ r => r) M.a.kV ?_
      walk_at "go"
      refine isx hd1 (fun _ r => r) M.a.kX ?_
      walk_at "go"
      refine .inl ⟨V.ref a, rfl, rfl, rfl, d, _, _, rfl, hd1, rfl, ?_⟩
      walk_at "go"
      refine ⟨small (by show 2 ≤ 100000; omega), ?_⟩
      intro l hl
      generalize hE : upd _ l _ = H3
      have nH3 := New.of hl hE
      clear hE
      walk_at "go"
      exact q l H3 ((e.trans nH1.ex).trans nH3.ex) nH3.here
end
end Fk
namespace Fk
open PySem PySem.Spec PyProof.Rows L2
local macro_rules | `(tactic| walk_at "fk") => `(tactic| first
  | with_reducible refine w_seq ?_ | with_reducible refine w_set ?_ | with_reducible refine w_asg ?_ | with_reducible refine w_drop ?_ | with_reducible refine w_ret ?_ | with_reducible refine w_if ?_
  | with_reducible refine w_op ?_ | with_reducible refine w_un ?_ | with_reducible refine w_c ?_ | ((with_reducible apply w_var); rfl)
  | with_reducible refine w_test ?_ | with_reducible refine w_B ?_ | with_reducible refine w_exb ?_ | with_reducible refine w_exi ?_ | with_reducible refine w_I0 ?_ | with_reducible refine w_U ?_
  | with_reducible refine w_nil ?_ | with_reducible refine w_cons ?_ | with_reducible refine w_call ?_ | with_reducible refine w_cb ?_ | with_reducible refine w_tup ?_ | with_reducible refine w_lst ?_
  | with_reducible refine w_and ?_ | with_reducible refine w_or ?_ | with_reducible refine w_not ?_ | with_reducible refine w_andV ?_ | with_reducible refine w_orV ?_ | with_reducible refine w_notV ?_
  | with_reducible refine w_ifE ?_ | with_reducible refine w_chain ?_ | with_reducible refine w_for ?_ | with_reducible refine w_lc ?_ | with_reducible refine w_yes ?_ | with_reducible refine w_iR1 ?_ | with_reducible refine w_iL ?_ | with_reducible refine w_iT ?_ | with_reducible refine w_iE ?_ | with_reducible refine w_iZ ?_ | with_reducible refine w_iS ?_ | with_reducible refine w_s1 ?_ | with_reducible refine w_m1 ?_ | with_reducible refine w_m0 ?_ | with_reducible refine w_estr ?_ | with_reducible refine w_lz ?_ | with_reducible refine w_ss ?_ | with_reducible refine w_revL ?_ | with_reducible refine w_dc ?_ | with_reducible refine w_c2 ?_ | with_reducible refine w_c2D ?_ | with_reducible refine w_iIT ?_ | with_reducible refine w_ddelT ?_ | with_reducible refine w_dsetd ?_ | with_reducible refine w_dget1 ?_ | with_reducible refine w_iI ?_ | with_reducible refine w_iES ?_ | with_reducible refine w_dget ?_ | with_reducible refine w_dget2 ?_ | with_reducible refine w_dput ?_ | with_reducible refine w_callN ?_ | with_reducible refine w_callD ?_ | with_reducible refine w_dnew ?_ | with_reducible refine w_dnewT ?_ | with_reducible refine w_revT ?_ | with_reducible refine w_leS ?_ | with_reducible refine w_ltS ?_ | with_reducible refine w_inSg ?_ | with_reducible refine w_notInSg ?_ | with_reducible refine iteT ?_ | with_reducible refine iteF ?_ | with_reducible refine w_par ?_ | with_reducible refine w_par3 ?_ | with_reducible refine w_three ?_ | with_reducible refine w_two ?_ | with_reducible refine w_gname ?_ | with_reducible refine w_gcons ?_ | with_reducible refine w_gnil ?_ | ((with_reducible apply w_gtup); (with_reducible assumption); rfl) | with_reducible refine w_gsub ?_
  | with_reducible refine w_bm0 ?_ | with_reducible refine w_iK ?_ | with_reducible refine w_iQ ?_ | with_reducible refine w_c1 ?_ | with_reducible refine iteNT ?_ | with_reducible refine iteNF ?_ | with_reducible refine w_tru ?_ | with_reducible refine w_dnin ?_ | with_reducible refine w_dgetN ?_
  | with_reducible refine w_bm ?_ | with_reducible refine w_sl ?_ | with_reducible refine w_noP ?_ | with_reducible refine w_part ?_ | with_reducible refine w_next ?_ | with_reducible refine w_retN ?_
  | ((with_reducible refine w_I ?hk ?_); (case hk => (first | (show (0 : Int) < _; omega) | exact ⟨by omega, by omega⟩ | exact .inl ⟨by omega, by omega⟩ | exact .inr ⟨by omega, by omega⟩ | exact cpow_small (by decide) (by decide) (by decide))))
  | ((with_reducible apply w_eq); rfl) | ((with_reducible apply w_ne); rfl)
  | ((with_reducible apply w_ixL); (with_reducible assumption); rfl)
  | ((with_reducible apply w_setL); (with_reducible assumption); rfl))
local macro_rules | `(tactic| walk_at "go") => `(tactic| repeat walk_at "fk")

theorem lk_self (x : Lk) : PyData.eqv x.data x.data = true := by simp [Lk.data, PyData.eqv, PyData.eqvAll]
theorem Kd.goD {H H' : Hp} {d : Addr} {n m : Nat} {y : V} (h : Kd H y) (hd : Drw H d n) (hd' : Drw H' d m) (g : Go d H H') : Kd H' y := by
  induction h with
  | non => exact .non
  | bl b => exact .bl b
  | int i => exact .int i
  | str z h hc => exact .str z h hc
  | @lst a xs h =>
    by_cases e : a = d
    · subst e
      obtain ⟨a', b', c', hh, _⟩ := hd'
      exact .lst hh
    · exact .lst (g _ _ e h)
  | @tup a xs h hl _ ih =>
    have ad : a ≠ d := fun e => by
      obtain ⟨a', b', c', hh, _⟩ := hd
      rw [e, hh] at h
      cases h
    exact .tup (g _ _ ad h) hl ih
  | @dct a kvs h =>
    have ad : a ≠ d := fun e => by
      obtain ⟨a', b', c', hh, _⟩ := hd
      rw [e, hh] at h
      cases h
    exact .dct (g _ _ ad h)
theorem Kd.linkGo {H H' : Hp} {d : Addr} {n m : Nat} {y : V} (h : Kd H y) (hd : Drw H d n) (hd' : Drw H' d m) (g : Go d H H') : linkV H' y = linkV H y := by
  cases h with
  | @lst a xs h =>
    by_cases e : a = d
    · subst e
      obtain ⟨a', b', c', hh, _⟩ := hd'
      rw [linkV_lst hh, linkV_lst h]
    · rw [linkV_lst h, linkV_lst (g _ _ e h)]
  | @tup a xs h hl hx =>
    have ad : a ≠ d := fun e => by
      obtain ⟨a', b', c', hh, _⟩ := hd
      rw [e, hh] at h
      cases h
    rw [linkV_tup h, linkV_tup (g _ _ ad h)]
  | @dct a kvs h =>
    have ad : a ≠ d := fun e => by
      obtain ⟨a', b', c', hh, _⟩ := hd
      rw [e, hh] at h
      cases h
    rw [linkV_dK h, linkV_dK (g _ _ ad h)]
  | _ => rfl
theorem w_neLk1 {K : PySem.W.Frag} {H : Hp} {Q : VK} {t u : Addr} {x : Lk} (h : H t = some (.tup x.vs)) (k : H u = some (.tup x.vs)) (ok : x.ok) (q : Q (.bl false) H) : rNeD K (.ref t) (.ref u) H Q :=
  w_neD (dp_lk h) (dp_lk k) (lk_shaped ok) (lk_shaped ok) (by rw [lk_self]; exact q)
theorem w_neTx {K : PySem.W.Frag} {H : Hp} {Q : VK} {l m : Addr} {w : Str} (h : H l = some (.lst [.str w, .int 0])) (k : H m = some (.lst [.str w, .int 0])) (sw : SeqAt.shaped (.list [.str w, .int 0]) = true) (q : Q (.bl false) H) : rNeD K (.ref l) (.ref m) H Q :=
  w_neD (.lst (SqL.of h) (.cons (.str w) (.cons (.int 0) .nil))) (.lst (SqL.of k) (.cons (.str w) (.cons (.int 0) .nil))) sw sw (by
    rw [show PyData.eqv (.list [.str w, .int 0]) (.list [.str w, .int 0]) = true from by simp [PyData.eqv, PyData.eqvAll]]
    exact q)
theorem words_ok {x : Lk} (ok : x.ok) : WOk 30 (wordsL x) := by
  obtain ⟨x1, x2, x3, x4, xa, xb, _⟩ := ok
  have ac := num_asc x1 x2
  have am := num_asc x3 x4
  have asc : ∀ {z : Str}, Place z → ∀ c ∈ cL z, c < 128 := fun {z} pz c m => by have := (pz.2.2 c m).2; omega
  refine ⟨?_, fun w m => ?_⟩
  · have h1 : (numS x.c).length ≤ 7 := ac.1
    have h2 : (numS x.m).length ≤ 7 := am.1
    have h3 := xa.2.1
    have h4 := xb.2.1
    unfold wsz wordsL
    simp only [List.map_cons, List.map_nil, List.sum_cons, List.sum_nil, List.length_cons, List.length_nil]
    omega
  · unfold wordsL at m
    simp only [List.mem_cons, List.not_mem_nil, or_false] at m
    rcases m with rfl | rfl | rfl | rfl
    · exact ac.2
    · exact am.2
    · exact asc xa
    · exact asc xb
def bsz : Nat → Nat
  | 0 => 30
  | n + 1 => 2 * bsz n + 12
theorem bsz_le : ∀ j, j ≤ 3 → bsz j ≤ 324
  | 0, _ => by decide
  | 1, _ => by decide
  | 2, _ => by decide
  | 3, _ => by decide
  | j + 4, h => absurd h (by omega)
def spLaw (K : PySem.W.Frag) : Sp := fun vs H Q _ => ∃ (a : Addr) (ns : List Int), vs = [.ref a] ∧ SqL K H a (ns.map V.int) ∧ ns.length ≤ 63 ∧ ∀ H', Q (.bl true) H'
section
variable {P : Program} {w : World} {K : PySem.W.Frag} {mg : Str → Option Value} {base : Heap}
theorem ok_law {C C2 : Addr} {f : Addr} {fd : FuncData} (F : Fun K "law" "law" s_law f fd) (T : Txt mg) (C_law_begun : Cal P w K mg base 1 "_law_begun" ["cell", "k"] spBegun) (C_law_next : Cal P w K mg base 1 "_law_next" ["draw", "size"] spNext) (C_law_pick : Cal P w K mg base 2 "_law_pick" ["draw", "some"] (spPick K))
    (C_law_spots : Cal P w K mg base 3 "_law_spots" ["draw", "many"] spSpots) (C_law_pairs : Cal P w K mg base 3 "_law_pairs" ["draw", "spots"] (spPairs K)) (C_law_link : Cal P w K mg base 3 "_law_link" ["draw", "pairs"] (spLink K)) (C_link_text : CalX P w K mg base 3 "link_text" ["link"] (spLinkText C))
    (C_read_link : CalX P w K mg base 4 "read_link" ["text"] (spReadLink C2)) (C_law_bent : Cal P w K mg base 3 "_law_bent" ["draw", "text"] spBentX) (C_law_read : Cal P w K mg base 2 "_law_read" ["text"] spLRead) (C_law_refusal : Cal P w K mg base 5 "_law_refusal" ["way", "thing"] spRef53) :
    FnOk P w K mg base CX0 6 f fd ["script"] (spLaw K) := by
  refine F.ok sc_law (fun vs H Q E h => ?_) (fun cdv A0 outer s0 H vs Q E hr h => ?_)
  · obtain ⟨a, ns, rfl, _⟩ := h
    rfl
  · obtain ⟨a, ns, rfl, hS, hlen, q⟩ := h
    refine ⟨_, (pss_cons (ps_for PassesOwn.never rfl (kenumI K (by rfl) T.enumerate_ (pa_cons (pe_slice (kslL K) (korT K (pv 0) (pe_one (pe_lst (pa_cons pe_int pa_nil)))) po_none (po_some pe_int)) pa_nil)) (ktup K (n := 2) rfl (pgs_cons (pg_name (i := 1) sc_law.nd rfl (.inl rfl)) (pgs_cons (pg_name (i := 2) sc_law.nd rfl (.inl rfl)) pgs_nil))) (pss_cons (ps_set (i := 3) sc_law.nd rfl (.inl rfl) (pc C_law_begun (hr.mono (by decide)) (by rfl) (pa_cons (pv 2) (pa_cons (pv 1) pa_nil))))
      (pss_cons (ps_set (i := 4) sc_law.nd rfl (.inl rfl) (pc C_law_spots (hr.mono (by decide)) (by rfl) (pa_cons (pv 3) (pa_cons (pe_op op_add pe_int (pc C_law_next (hr.mono (by decide)) (by rfl) (pa_cons (pv 3) (pa_cons pe_int pa_nil)))) pa_nil))))
      (pss_cons (ps_set (i := 5) sc_law.nd rfl (.inl rfl) (pc C_law_link (hr.mono (by decide)) (by rfl) (pa_cons (pv 3) (pa_cons (pc C_law_pairs (hr.mono (by decide)) (by rfl) (pa_cons (pv 3) (pa_cons (pv 4) pa_nil))) pa_nil))))
      (pss_cons (ps_set (i := 6) sc_law.nd rfl (.inl rfl) (kjoin K pe_str (pe_lst (pa_cons (pe_callTy kstrI (by rfl) T.str_ (by decide +kernel) (pa_cons (pe_ix (kixT K) (pv 5) pe_int (fun _ _ => rfl)) pa_nil)) (pa_cons (pe_callTy kstrI (by rfl) T.str_ (by decide +kernel) (pa_cons (pe_ix (kixT K) (pv 5) pe_int (fun _ _ => rfl)) pa_nil)) (pa_cons (pe_ix (kixT K) (pv 5) pe_int (fun _ _ => rfl)) (pa_cons (pe_ix (kixT K) (pv 5) pe_int (fun _ _ => rfl)) pa_nil)))))))
      (pss_cons (ps_if (PW.pt (pw_or (pt_cmpR op_ne (pcX C_link_text (hr.mono (by decide)) (by rfl) (pa_cons (pv 5) pa_nil)) (pv 6) (nomark _)) (pw_or1 (pt_cmpR (kNe K hr.units) (pcX C_read_link (hr.mono (by decide)) (by rfl) (pa_cons (pv 6) pa_nil)) (pv 5) (nomark _))))) (pss_one (ps_ret pe_bl)) pss_nil)
      (pss_cons (ps_for PassesOwn.never rfl (pi_range1 (by rfl) T.range_ (pa_cons pe_int pa_nil)) (pg_name (i := 7) sc_law.nd rfl (.inl rfl)) (pss_cons (ps_set (i := 8) sc_law.nd rfl (.inl rfl) (pv 6))
      (pss_cons (ps_for PassesOwn.never rfl (pi_range1 (by rfl) T.range_ (pa_cons (pe_op op_add pe_int (pc C_law_next (hr.mono (by decide)) (by rfl) (pa_cons (pv 3) (pa_cons pe_int pa_nil)))) pa_nil)) (pg_name (i := 9) sc_law.nd rfl (.inl rfl)) (pss_one (ps_set (i := 8) sc_law.nd rfl (.inl rfl) (pc C_law_bent (hr.mono (by decide)) (by rfl) (pa_cons (pv 3) (pa_cons (pv 8) pa_nil))))))
      (pss_cons (ps_set (i := 10) sc_law.nd rfl (.inl rfl) (pc C_law_read (hr.mono (by decide)) (by rfl) (pa_cons (pv 8) pa_nil)))
      (pss_cons (ps_set (i := 11) sc_law.nd rfl (.inl rfl) (pc C_law_refusal (hr.mono (by decide)) (by rfl) (pa_cons pe_int (pa_cons (pv 8) pa_nil))))
      (pss_cons (ps_if (pt_cmpR (kNe K hr.units) (pv 11) (pe_ifExp (pt_cmpR op_isN (pv 10) pe_non (nomark _)) (pe_lst (pa_cons pe_str (pa_cons pe_int pa_nil))) (pv 10)) (nomark _)) (pss_one (ps_ret pe_bl)) pss_nil)
      (pss_one (ps_if (PW.pt (pw_and (pt_cmpR op_notN (pv 10) pe_non (nomark _)) (pw_and1 (PW.pt (pw_or (pt_not (pt_val (pe_callB (kisi K) (by rfl) T.isinstance_ (by decide +kernel) (pa_cons (pv 11) (pa_cons (pe_bltn (v := .ty "tuple") (by rfl) T.tuple_ (by decide +kernel) rfl) pa_nil))))) (pw_or1 (pt_cmpR op_ne (pcX C_link_text (hr.mono (by decide)) (by rfl) (pa_cons (pv 11) pa_nil)) (pv 8) (nomark _)))))))) (pss_one (ps_ret pe_bl)) pss_nil))))))))
      (pss_cons (ps_set (i := 12) sc_law.nd rfl (.inl rfl) (pc C_law_pick (hr.mono (by decide)) (by rfl) (pa_cons (pv 3) (pa_cons (pe_lst (pa_cons pe_non (pa_cons pe_int (pa_cons pe_bl (pa_cons (pe_lst (pa_cons (pv 6) pa_nil)) (pa_cons (pe_tup (pa_cons (pv 6) pa_nil)) (pa_cons pe_dnewK (pa_cons (pv 5) (pa_cons (pe_callTy (klist K) (by rfl) T.list_ (by decide +kernel) (pa_cons (pv 5) pa_nil)) pa_nil))))))))) pa_nil))))
      (pss_cons (ps_if (pt_cmpR (kNe K hr.units) (pc C_law_refusal (hr.mono (by decide)) (by rfl) (pa_cons pe_int (pa_cons (pv 12) pa_nil))) (pe_lst (pa_cons pe_str (pa_cons pe_int pa_nil))) (nomark _)) (pss_one (ps_ret pe_bl)) pss_nil)
      (pss_cons (ps_asg (pv 5) (ktup K (n := 4) rfl (pgs_cons (pg_name (i := 13) sc_law.nd rfl (.inl rfl)) (pgs_cons (pg_name (i := 14) sc_law.nd rfl (.inl rfl)) (pgs_cons (pg_name (i := 15) sc_law.nd rfl (.inl rfl)) (pgs_cons (pg_name (i := 8) sc_law.nd rfl (.inl rfl)) pgs_nil))))))
      (pss_cons (ps_set (i := 12) sc_law.nd rfl (.inl rfl) (pe_lst (pa_cons (pe_tup (pa_cons (pv 13) (pa_cons (pv 14) (pa_cons (pv 8) (pa_cons (pv 15) pa_nil))))) (pa_cons (pe_tup (pa_cons (pv 13) (pa_cons (pv 14) (pa_cons (pv 15) pa_nil)))) (pa_cons (pe_callTy (klist K) (by rfl) T.list_ (by decide +kernel) (pa_cons (pv 5) pa_nil)) (pa_cons pe_non (pa_cons pe_int (pa_cons (pv 6) pa_nil))))))))
      (pss_cons (ps_expr (kapp K (pv 12) (pa_cons (pe_tup (pa_cons (pv 13) (pa_cons (pe_op op_add (pe_op op_powN pe_int pe_int) pe_int) (pa_cons (pv 15) (pa_cons (pv 8) pa_nil))))) pa_nil)))
      (pss_one (ps_if (pt_cmpR (kNe K hr.units) (pc C_law_refusal (hr.mono (by decide)) (by rfl) (pa_cons pe_int (pa_cons (pc C_law_pick (hr.mono (by decide)) (by rfl) (pa_cons (pv 3) (pa_cons (pe_op op_cat (pv 12) (pe_lst (pa_cons (pe_tup (pa_cons pe_bl (pa_cons (pv 14) (pa_cons (pv 15) (pa_cons (pv 8) pa_nil))))) (pa_cons (pe_tup (pa_cons (pv 13) (pa_cons (pv 14) (pa_cons (pv 15) (pa_cons (pv 15) pa_nil))))) pa_nil)))) pa_nil))) pa_nil))) (pe_lst (pa_cons pe_str (pa_cons pe_int pa_nil))) (nomark _)) (pss_one (ps_ret pe_bl)) pss_nil))))))))))))))
      (pss_one (ps_ret pe_bl))), ?_⟩
    refine w_from [some (.ref a), none, none, none, none, none, none, none, none, none, none, none, none, none, none, none] ?_
    try dsimp only [cxOf]
    walk_at "go"
    refine w_orL rfl hS hlen fun s1 ms1 Hd ed0 hs1 hm3 _ => ?_
    walk_at "go"
    refine w_slL hs1 ?_
    intro c hc
    generalize hE : upd _ c _ = H2
    have nH2 := New.of hc hE
    clear hE
    have hc2 : H2 c = some (.lst (cutV (ms1.map V.int) none (some 12))) := nH2.here
    have allI : ∀ y ∈ cutV (ms1.map V.int) none (some 12), ∃ z, y = V.int z := fun y hy => by
      obtain ⟨z, _, rfl⟩ := List.mem_map.mp (cutV_mem hy)
      exact ⟨z, rfl⟩
    generalize hxs : cutV (ms1.map V.int) none (some 12) = xs at hc2 allI
    walk_at "go"
    refine w_e1 (xs := xs) (SqL.of hc2) ?_
    refine forE (xs := xs) (fun i σ' H' => Evl.Ex H2 H' ∧ ∃ x1 x2 x3 x4 x5 x6 x7 x8 x9 x10 x11 x12 x13 x14 x15, σ' = [some (.ref a), x1, x2, x3, x4, x5, x6, x7, x8, x9, x10, x11, x12, x13, x14, x15]) ?_ ?_ ?_ ?_
    · exact ⟨Evl.Ex.refl H2, _, _, _, _, _, _, _, _, _, _, _, _, _, _, _, rfl⟩
    · rintro i σ' H3 _ ⟨e3, _⟩
      exact SqL.of (e3 _ _ hc2)
    · rintro i y TT σ' H3 hy ⟨e3, x1, x2, x3, x4, x5, x6, x7, x8, x9, x10, x11, x12, x13, x14, x15, rfl⟩ hTn
      obtain ⟨z, rfl⟩ := allI y (List.mem_of_getElem? hy)
      generalize hE : upd _ TT _ = H4
      have nH4 := New.of hTn hE
      clear hE
      have hT4 := SqT.of (K := K) nH4.here
      walk_at "go"
      refine ⟨z, (i : Int), rfl, fun d H5 hdn b5 hd5 => ?_⟩
      have back : ∀ {H' : Hp}, Go d H4 H' → Evl.Ex H2 H' := fun {H'} g b o h => by
        have h4 := (e3.trans nH4.ex) b o h
        exact g b o (fun k => by rw [k, hdn] at h4; cases h4) h4
      walk_at "go"
      refine next_i hd5 (by omega) (by omega) (by omega) fun r6 H6 r60 r61 b6 hd6 => ?_
      obtain ⟨k6, rfl, hk6⟩ := nat_of (m := 3) r60 (by omega)
      walk_at "go"
      rw [show (2 : Int) + (k6 : Int) = ((2 + k6 : Nat) : Int) by omega]
      refine ⟨d, _, 2 + k6, rfl, hd6, by omega, by omega, fun p l H7 hp0 nm ll g67 hd7 hp7 => ?_⟩
      walk_at "go"
      refine ⟨d, p, _, l, rfl, hp7, hd7, by omega, nm, by omega, by omega, fun pr prs H8 g78 hd8 hpr hpr0 neP lP allP => ?_⟩
      walk_at "go"
      refine ⟨d, pr, _, l, prs, rfl, hpr, hd7.ne hpr0, neP, lP, allP, hd8, by omega, fun t c0 m0 a0 b0 H9 g89 hd9 _ la => ?_⟩
      have ok : Lk.ok ⟨c0, m0, a0, b0⟩ := ⟨la.c0, la.c1, la.m0, la.m1, nm.pl a0 la.ia, nm.pl b0 la.ib, la.lt⟩
      have ht : H9 t = some (.tup (Lk.vs ⟨c0, m0, a0, b0⟩)) := la.here
      generalize hx : (⟨c0, m0, a0, b0⟩ : Lk) = x at ok ht
      have g49 : Go d H4 H9 := (((b5.go).bt b6).trans g67).trans (g78.trans g89)
      have td : t ≠ d := fun e => by
        obtain ⟨a', b', c', hh, _⟩ := hd9
        rw [e, hh] at ht
        cases ht
      have ht' : SqT K H9 t [.int x.c, .int x.m, .str x.a, .str x.b] := SqT.of ht
      obtain ⟨o1, o2, o3, o4, oa, ob, olt⟩ := id ok
      have W := words_ok ok
      generalize hn0 : (0 + 1 + 9 * (2 + k6) + 4 + 5 : Nat) = n0 at hd9
      have n0b : n0 ≤ 100 := by omega
      clear hn0 allP g78 g89 g67
      walk_at "go"
      refine w_ixT ht' (atI_of (i := 0) rfl) ?_
      walk_at "go"
      refine ⟨x.c, rfl, num_log o1 o2, ?_⟩
      walk_at "go"
      refine w_ixT ht' (atI_of (i := 1) rfl) ?_
      walk_at "go"
      refine ⟨x.m, rfl, num_log o3 o4, ?_⟩
      walk_at "go"
      refine w_ixT ht' (atI_of (i := 2) rfl) ?_
      walk_at "go"
      refine w_ixT ht' (atI_of (i := 3) rfl) ?_
      walk_at "go"
      refine ⟨small (by show 4 ≤ 100000; omega), ?_⟩
      intro wl hwl
      generalize hE : upd _ wl _ = HA
      have nHA := New.of hwl hE
      clear hE
      have hwl : HA wl = some (.lst ((wordsL x).map V.str)) := nHA.here
      walk_at "go"
      refine w_joinW hwl W (by omega) ?_
      rw [show Txt.join " " (wordsL x) = textL x from rfl]
      have Az : Asc 30 (textL x) := wok_join W
      walk_at "go"
      refine .inl ⟨.ref t, x, rfl, ⟨ok, t, rfl, nHA.keep ht⟩, fun HB eB => ?_⟩
      walk_at "go"
      rw [show (!decide (V.str (textL x) = V.str (textL x))) = false from by simp]
      walk_at "go"
      refine ⟨.str (textL x), rfl, asc_kd Az (by omega), fun z e => by rw [← V.str.inj e]; exact Az.le (by omega), fun x2 ok2 e2 t2 HC eC ht2 => ?_, fun no => absurd ⟨x, ok, rfl⟩ no⟩
      have ex : x2 = x := by
        have := V.str.inj e2
        have z1 := split_text ok
        rw [this, split_text ok2] at z1
        exact words_inj ok2 ok z1
      subst ex
      have e9C := (nHA.ex.trans eB).trans eC
      walk_at "go"
      refine w_neLk1 ht2 (e9C _ _ ht) ok ?_
      have hdC := hd9.ex e9C
      have htC := e9C _ _ ht
      have g4C : Go d H4 HC := g49.exx e9C
      clear ht'
      walk_at "go"
      refine w_r1 (m := 4) (by omega) ?_
      refine forR (m := 4) (fun j σ' H' => Go d HC H' ∧ Drw H' d (n0 + 25 * j) ∧ ∃ y7 y8 y9 y10 y11, σ' = [some (.ref a), some (.int (i : Int)), some (.int z), some (.ref d), some (.ref p), some (.ref t), some (.str (textL x2)), y7, y8, y9, y10, y11, x12, x13, x14, x15]) ?_ ?_ ?_
      · exact ⟨Go.refl _ _, hdC, _, _, _, _, _, rfl⟩
      · rintro j σ' HD hj ⟨gD, hdD, y7, y8, y9, y10, y11, rfl⟩
        walk_at "go"
        refine next_i hdD (by omega) (by omega) (by omega) fun c1 HE c10 c11 bE hdE => ?_
        obtain ⟨bn, rfl, hbn⟩ := nat_of (m := 3) c10 (by omega)
        walk_at "go"
        rw [show (1 : Int) + (bn : Int) = ((1 + bn : Nat) : Int) by omega]
        refine w_r1 (by omega) ?_
        refine forR (fun m σ' H' => Go d HC H' ∧ Drw H' d (n0 + 25 * j + 1 + 7 * m) ∧ ∃ (u : Str) (y9 : Option V), Asc (bsz m) u ∧ σ' = [some (.ref a), some (.int (i : Int)), some (.int z), some (.ref d), some (.ref p), some (.ref t), some (.str (textL x2)), some (.int (j : Int)), some (.str u), y9, y10, y11, x12, x13, x14, x15]) ?_ ?_ ?_
        · exact ⟨gD.bt bE, hdE, _, _, Az, rfl⟩
        · rintro m σ' HF hm ⟨gF, hdF, u, y9, Au, rfl⟩
          have bl := bsz_le m (by omega)
          walk_at "go"
          refine ⟨d, _, bsz m, u, rfl, hdF, by omega, Au, by omega, fun u2 HG gG hdG Au2 => ?_⟩
          walk_at "go"
          exact ⟨gF.trans gG, hdG.le (by omega), u2, _, Au2, rfl⟩
        rintro σ' HF ⟨gF, hdF, u, y9, Au, rfl⟩
        have bl := bsz_le (1 + bn) (by omega)
        have Au2 : Asc 2000 u := Au.le (by omega)
        walk_at "go"
        refine ⟨u, rfl, Au2, fun v HG eG ans => ?_⟩
        walk_at "go"
        refine ⟨0, .str u, rfl, asc_kd Au2 (by omega), fun z e => by rw [← V.str.inj e]; exact Au2, .inl ⟨rfl, fun x3 ok3 ev3 t3 HH eH ht3 => ?_, fun no l HH eH hl => ?_⟩⟩
        · have eu := V.str.inj ev3
          have es : Txt.split u " " = wordsL x3 := by rw [eu]; exact split_text ok3
          obtain ⟨tv, rfl, htv⟩ : ∃ tv, v = .ref tv ∧ HG tv = some (.tup x3.vs) := by
            rcases ans with ⟨x4, ok4, e4, tv, e5, e6⟩ | ⟨_, no⟩
            · rw [es] at e4
              rw [words_inj ok3 ok4 e4]
              exact ⟨tv, e5, e6⟩
            · exact absurd ⟨x3, ok3, es⟩ no
          walk_at "go"
          refine ⟨rfl, ?_⟩
          walk_at "go"
          refine w_dec (fun k => (nomatch k)) (fun _ => ?_)
          walk_at "go"
          refine w_neLk1 ht3 (eH _ _ htv) ok3 ?_
          walk_at "go"
          refine ⟨rfl, ?_⟩
          walk_at "go"
          rw [show (!decide (V.ref tv = V.non)) = true from by simp]
          walk_at "go"
          refine w_isi (lk_kd (q := (t3, x3)) ht3 ok3) (by decide) ?_
          rw [show isB (tyN HH (V.ref t3)) "tuple" = true from by rw [tyN_tup ht3]; decide]
          walk_at "go"
          refine .inl ⟨.ref t3, x3, rfl, ⟨ok3, t3, rfl, ht3⟩, fun HI eI => ?_⟩
          walk_at "go"
          rw [show (!decide (V.str (textL x3) = V.str u)) = false from by rw [eu]; simp]
          walk_at "go"
          exact ⟨(gF.exx (eG.trans eH)).exx eI, ((hdF.ex (eG.trans eH)).ex eI).le (by omega), _, _, _, _, _, rfl⟩
        · have ev : v = .non := by
            rcases ans with ⟨x4, ok4, e4, _⟩ | ⟨e, _⟩
            · exact absurd ⟨x4, ok4, by rw [text_back e4]⟩ no
            · exact e
          subst ev
          walk_at "go"
          refine ⟨rfl, ?_⟩
          walk_at "go"
          refine ⟨small (by show 2 ≤ 100000; omega), ?_⟩
          intro l2 hl2
          generalize hE : upd _ l2 _ = HI
          have nHI := New.of hl2 hE
          clear hE
          walk_at "go"
          refine w_neTx (nHI.keep hl) nHI.here (by decide +kernel) ?_
          walk_at "go"
          refine ⟨rfl, ?_⟩
          walk_at "go"
          have eFI := (eG.trans eH).trans nHI.ex
          exact ⟨gF.exx eFI, (hdF.ex eFI).le (by omega), _, _, _, _, _, rfl⟩
      · rintro σ' HD ⟨gD, hdD, y7, y8, y9, y10, y11, rfl⟩
        have htD := gD _ _ td htC
        walk_at "go"
        refine ⟨small (by show 1 ≤ 100000; omega), ?_⟩
        intro l1 hl1
        generalize hE : upd _ l1 _ = HE
        have nHE := New.of hl1 hE
        clear hE
        walk_at "go"
        refine ⟨small (by show 1 ≤ 100000; omega), ?_⟩
        intro l2 hl2
        generalize hE : upd _ l2 _ = HF
        have nHF := New.of hl2 hE
        clear hE
        walk_at "go"
        intro D hD
        generalize hE : upd _ D _ = HG
        have nHG := New.of hD hE
        clear hE
        walk_at "go"
        have e1 := (nHE.ex.trans nHF.ex).trans nHG.ex
        refine ⟨t, x2.vs, rfl, .inr (SqT.of (e1 _ _ htD)), fun l3 hl3 => ?_⟩
        generalize hE : upd _ l3 _ = HH
        have nHH := New.of hl3 hE
        clear hE
        walk_at "go"
        refine ⟨small (by show 8 ≤ 100000; omega), ?_⟩
        intro l4 hl4
        generalize hE : upd _ l4 _ = HI
        have nHI := New.of hl4 hE
        clear hE
        have e2 := (e1.trans nHH.ex).trans nHI.ex
        have hdI := hdD.ex e2
        walk_at "go"
        refine pick_l hdI (by omega) (SqL.of nHI.here) ((hdD.ex (e1.trans nHH.ex)).ne nHI.free) (by show 0 < 8; omega) (by show 8 ≤ 100000; omega) fun v HJ hv bJ hdJ => ?_
        have kt : Kd HI (.ref t) := lk_kd (q := (t, x2)) (e2 _ _ htD) ok
        have kz : Kd HI (.str (textL x2)) := asc_kd Az (by omega)
        have facts : Kd HI v ∧ ∀ z, v ≠ .str z := by
          simp only [List.mem_cons, List.not_mem_nil, or_false] at hv
          rcases hv with rfl | rfl | rfl | rfl | rfl | rfl | rfl | rfl
          · exact ⟨.non, fun z e => nomatch e⟩
          · exact ⟨.int 5, fun z e => nomatch e⟩
          · exact ⟨.bl true, fun z e => nomatch e⟩
          · exact ⟨.lst ((((nHF.ex.trans nHG.ex).trans nHH.ex).trans nHI.ex) _ _ nHE.here), fun z e => nomatch e⟩
          · refine ⟨.tup (((nHG.ex.trans nHH.ex).trans nHI.ex) _ _ nHF.here) (by show 1 ≤ 1000; omega) fun y m => ?_, fun z e => nomatch e⟩
            rw [List.mem_singleton.mp m]
            exact kz
          · exact ⟨.dct ((nHH.ex.trans nHI.ex) _ _ nHG.here), fun z e => nomatch e⟩
          · exact ⟨kt, fun z e => nomatch e⟩
          · exact ⟨.lst (nHI.ex _ _ nHH.here), fun z e => nomatch e⟩
        obtain ⟨kv, nstr⟩ := facts
        have kvJ := kv.goD hdI hdJ bJ.go
        have gJ : Go d HC HJ := (gD.exx e2).bt bJ
        walk_at "go"
        refine ⟨0, v, rfl, kvJ, fun z e => absurd e (nstr z), .inl ⟨rfl, fun x3 ok3 ev3 t3 HH eH ht3 => absurd ev3 (nstr _), fun no lr HK eK hlr => ?_⟩⟩
        walk_at "go"
        refine ⟨small (by show 2 ≤ 100000; omega), ?_⟩
        intro l5 hl5
        generalize hE : upd _ l5 _ = HL
        have nHL := New.of hl5 hE
        clear hE
        walk_at "go"
        refine w_neTx (nHL.keep hlr) nHL.here (by decide +kernel) ?_
        have eL := eK.trans nHL.ex
        have gL : Go d HC HL := gJ.exx eL
        have htL : HL t = some (.tup x2.vs) := gL _ _ td htC
        have hdL := hdJ.ex eL
        have htL' : SqT K HL t [.int x2.c, .int x2.m, .str x2.a, .str x2.b] := SqT.of htL
        walk_at "go"
        refine ⟨small (by show 4 ≤ 100000; omega), ?_⟩
        intro p1 hp1
        generalize hE : upd _ p1 _ = HM
        have nHM := New.of hp1 hE
        clear hE
        walk_at "go"
        refine ⟨small (by show 3 ≤ 100000; omega), ?_⟩
        intro p2 hp2
        generalize hE : upd _ p2 _ = HN
        have nHN := New.of hp2 hE
        clear hE
        walk_at "go"
        refine ⟨t, x2.vs, rfl, .inr (SqT.of ((nHM.ex.trans nHN.ex) _ _ htL)), fun p3 hp3 => ?_⟩
        generalize hE : upd _ p3 _ = HO
        have nHO := New.of hp3 hE
        clear hE
        walk_at "go"
        refine ⟨small (by show 6 ≤ 100000; omega), ?_⟩
        intro ol hol
        generalize hE : upd _ ol _ = HP
        have nHP := New.of hol hE
        clear hE
        walk_at "go"
        refine ⟨.inl ⟨rfl, _, SqL.of nHP.here⟩, ?_⟩
        walk_at "go"
        refine ⟨small (by show 4 ≤ 100000; omega), ?_⟩
        intro p4 hp4
        generalize hE : upd _ p4 _ = HQ
        have nHQ := New.of hp4 hE
        clear hE
        walk_at "go"
        refine w_app (nHQ.keep nHP.here) (smallS (by show 6 < 100000; omega)) ?_
        generalize hE : upd _ ol _ = HR
        have nHR := Put.of hE
        clear hE
        walk_at "go"
        refine ⟨small (by show 4 ≤ 100000; omega), ?_⟩
        intro p5 hp5
        generalize hE : upd _ p5 _ = HS
        have nHS := New.of hp5 hE
        clear hE
        walk_at "go"
        refine ⟨small (by show 4 ≤ 100000; omega), ?_⟩
        intro p6 hp6
        generalize hE : upd _ p6 _ = HT
        have nHT := New.of hp6 hE
        clear hE
        walk_at "go"
        refine ⟨small (by show 2 ≤ 100000; omega), ?_⟩
        intro p7 hp7
        generalize hE : upd _ p7 _ = HU
        have nHU := New.of hp7 hE
        clear hE
        walk_at "go"
        have olq : HU ol = some (.lst ([V.ref p1, .ref p2, .ref p3, .non, .int 5, .str (textL x2)] ++ [.ref p4])) := nHU.keep (nHT.keep (nHS.keep nHR.here))
        refine w_cat olq nHU.here (by show 7 + 2 ≤ 100000; omega) ?_
        intro ql hql
        generalize hE : upd _ ql _ = HV
        have nHV := New.of hql hE
        clear hE
        walk_at "go"
        have eOR : Evl.Ex HO HR := fun b o h => nHR.keep (nHQ.keep (nHP.keep h)) (ne_of_none h nHP.free)
        have eRU := (nHS.ex.trans nHT.ex).trans nHU.ex
        have eRV := eRU.trans nHV.ex
        have eLU := (((nHM.ex.trans nHN.ex).trans nHO.ex).trans eOR).trans eRU
        have eLV := eLU.trans nHV.ex
        have kpl : ∀ {z : Str}, Place z → Kd HV (.str z) := fun {z} pz => .str z (by have := pz.2.1; omega) fun c m => by have := (pz.2.2 c m).2; omega
        have ka := kpl oa
        have kb := kpl ob
        have four : ∀ {p : Addr} {u v w z : V}, HV p = some (.tup [u, v, w, z]) → Kd HV u → Kd HV v → Kd HV w → Kd HV z → Kd HV (.ref p) := fun {p u v w z} h k1 k2 k3 k4 => .tup h (by show 4 ≤ 1000; omega) fun y m => by
          simp only [List.mem_cons, List.not_mem_nil, or_false] at m
          rcases m with rfl | rfl | rfl | rfl
          · exact k1
          · exact k2
          · exact k3
          · exact k4
        have h1 := eRV _ _ (eOR _ _ (nHO.keep (nHN.keep nHM.here)))
        have h2 := eRV _ _ (eOR _ _ (nHO.keep nHN.here))
        have h3 := eRV _ _ (eOR _ _ nHO.here)
        have h4 := eRV _ _ (nHR.keep nHQ.here (Ne.symm (nHQ.apart nHP.here)))
        have h5 := nHV.keep (nHU.keep (nHT.keep nHS.here))
        have h6 := nHV.keep (nHU.keep nHT.here)
        have facts2 : ∀ v2 ∈ [V.ref p1, .ref p2, .ref p3, .non, .int 5, .str (textL x2), .ref p4] ++ [.ref p5, .ref p6], Kd HV v2 ∧ (∀ z, v2 = .str z → Asc 2000 z) ∧ linkV HV v2 = false := fun v2 hv2 => by
          simp only [List.cons_append, List.nil_append, List.mem_cons, List.not_mem_nil, or_false] at hv2
          rcases hv2 with rfl | rfl | rfl | rfl | rfl | rfl | rfl | rfl | rfl
          · refine ⟨four h1 (.int _) (.int _) kb ka, fun z e => (nomatch e), ?_⟩
            rw [linkV_tup h1]
            have nl : ¬ Lts x2.b x2.a := fun k => List.lt_irrefl _ (List.lt_trans olt k)
            simp [fourV, ltV, nl]
          · refine ⟨.tup h2 (by show 3 ≤ 1000; omega) fun y m => ?_, fun z e => (nomatch e), ?_⟩
            · simp only [List.mem_cons, List.not_mem_nil, or_false] at m
              rcases m with rfl | rfl | rfl
              · exact .int _
              · exact .int _
              · exact ka
            · rw [linkV_tup h2]
              rfl
          · exact ⟨.lst h3, fun z e => (nomatch e), linkV_lst h3⟩
          · exact ⟨.non, fun z e => (nomatch e), rfl⟩
          · exact ⟨.int 5, fun z e => (nomatch e), rfl⟩
          · exact ⟨asc_kd Az (by omega), fun z e => by rw [← V.str.inj e]; exact Az.le (by omega), rfl⟩
          · refine ⟨four h4 (.int _) (.int _) ka kb, fun z e => (nomatch e), ?_⟩
            rw [linkV_tup h4]
            have nm : numV 1000000 (.int 1000001) = false := by decide
            simp [fourV, nm]
          · refine ⟨four h5 (.bl _) (.int _) ka kb, fun z e => (nomatch e), ?_⟩
            rw [linkV_tup h5]
            have nm : numV 1000000 (.bl true) = false := rfl
            simp [fourV, nm]
          · refine ⟨four h6 (.int _) (.int _) ka ka, fun z e => (nomatch e), ?_⟩
            rw [linkV_tup h6]
            have nl : ¬ Lts x2.a x2.a := fun k => List.lt_irrefl _ k
            simp [fourV, ltV, nl]
        have hdU := hdL.ex eLU
        have hdV := hdL.ex eLV
        refine pick_l hdV (by omega) (SqL.of nHV.here) (hdU.ne nHV.free) (by show 0 < 9; omega) (by show 9 ≤ 100000; omega) fun v2 HW hv2 bW hdW => ?_
        obtain ⟨kv2, az2, nl2⟩ := facts2 v2 hv2
        have gW : Go d HC HW := (gL.exx eLV).bt bW
        walk_at "go"
        refine ⟨1, v2, rfl, kv2.goD hdV hdW bW.go, az2, .inr ⟨by decide, ?_, fun lr2 HX eX hlr2 => ?_⟩⟩
        · rw [kv2.linkGo hdV hdW bW.go]
          exact nl2
        walk_at "go"
        refine ⟨small (by show 2 ≤ 100000; omega), ?_⟩
        intro l6 hl6
        generalize hE : upd _ l6 _ = HY
        have nHY := New.of hl6 hE
        clear hE
        walk_at "go"
        refine w_neTx (nHY.keep hlr2) nHY.here (by decide +kernel) ?_
        walk_at "go"
        exact ⟨back (g4C.trans (gW.exx (eX.trans nHY.ex))), _, _, _, _, _, _, _, _, _, _, _, _, _, _, _, rfl⟩
    · rintro σ' H3 ⟨e3, x1, x2, x3, x4, x5, x6, x7, x8, x9, x10, x11, x12, x13, x14, x15, rfl⟩
      walk_at "go"
      exact q H3
end
end Fk
namespace Fk
open PySem PySem.Spec PyProof.Rows L2
theorem all_mk {l : PySem.W.OpenLaw} {w : World} {K : PySem.W.Frag} {h : Heap} {mg : Str → Option Value} {fa : Addr} (X : K.In h) (G : h.Ns mainGlobals mg) (hfa : mg "law" = some (.ref fa))
    {f0 : Addr} {od0 an0 : Option Addr} {sl0 : Array (Option Value)} {oc0 kV0 dc0 pm0 cd0 ct0 : Value} (a0 : PySem.W.nsIn K mainGlobals "is_place" = some (some (.ref f0)))
    (l0 : K.lookup f0 = some ⟨oc0, od0, .func (PySem.W.fnOf "is_place" "is_place" (defArgs s_is_place) (defBody s_is_place) (defScope s_is_place) .none kV0 dc0 pm0 an0 cd0 ct0), sl0⟩) (c0 : PySem.W.codeIn K cd0 "is_place" = true) (k0 : PySem.W.keepIn K (.ref f0) = true)
    {f1 : Addr} {od1 an1 : Option Addr} {sl1 : Array (Option Value)} {oc1 kV1 dc1 pm1 cd1 ct1 : Value} (a1 : PySem.W.nsIn K mainGlobals "is_number" = some (some (.ref f1)))
    (l1 : K.lookup f1 = some ⟨oc1, od1, .func (PySem.W.fnOf "is_number" "is_number" (defArgs s_is_number) (defBody s_is_number) (defScope s_is_number) .none kV1 dc1 pm1 an1 cd1 ct1), sl1⟩) (c1 : PySem.W.codeIn K cd1 "is_number" = true) (k1 : PySem.W.keepIn K (.ref f1) = true)
    {f2 : Addr} {od2 an2 : Option Addr} {sl2 : Array (Option Value)} {oc2 kV2 dc2 pm2 cd2 ct2 : Value} (a2 : PySem.W.nsIn K mainGlobals "is_link" = some (some (.ref f2)))
    (l2 : K.lookup f2 = some ⟨oc2, od2, .func (PySem.W.fnOf "is_link" "is_link" (defArgs s_is_link) (defBody s_is_link) (defScope s_is_link) .none kV2 dc2 pm2 an2 cd2 ct2), sl2⟩) (c2 : PySem.W.codeIn K cd2 "is_link" = true) (k2 : PySem.W.keepIn K (.ref f2) = true)
    {f3 : Addr} {od3 an3 : Option Addr} {sl3 : Array (Option Value)} {oc3 kV3 dc3 pm3 cd3 ct3 : Value} (a3 : PySem.W.nsIn K mainGlobals "link_text" = some (some (.ref f3)))
    (l3 : K.lookup f3 = some ⟨oc3, od3, .func (PySem.W.fnOf "link_text" "link_text" (defArgs s_link_text) (defBody s_link_text) (defScope s_link_text) .none kV3 dc3 pm3 an3 cd3 ct3), sl3⟩) (c3 : PySem.W.codeIn K cd3 "link_text" = true) (k3 : PySem.W.keepIn K (.ref f3) = true)
    {f4 : Addr} {od4 an4 : Option Addr} {sl4 : Array (Option Value)} {oc4 kV4 dc4 pm4 cd4 ct4 : Value} (a4 : PySem.W.nsIn K mainGlobals "read_link" = some (some (.ref f4)))
    (l4 : K.lookup f4 = some ⟨oc4, od4, .func (PySem.W.fnOf "read_link" "read_link" (defArgs s_read_link) (defBody s_read_link) (defScope s_read_link) .none kV4 dc4 pm4 an4 cd4 ct4), sl4⟩) (c4 : PySem.W.codeIn K cd4 "read_link" = true) (k4 : PySem.W.keepIn K (.ref f4) = true)
    {f5 : Addr} {od5 an5 : Option Addr} {sl5 : Array (Option Value)} {oc5 kV5 dc5 pm5 cd5 ct5 : Value} (a5 : PySem.W.nsIn K mainGlobals "worded_link" = some (some (.ref f5)))
    (l5 : K.lookup f5 = some ⟨oc5, od5, .func (PySem.W.fnOf "worded_link" "worded_link" (defArgs s_worded_link) (defBody s_worded_link) (defScope s_worded_link) .none kV5 dc5 pm5 an5 cd5 ct5), sl5⟩) (c5 : PySem.W.codeIn K cd5 "worded_link" = true) (k5 : PySem.W.keepIn K (.ref f5) = true)
    {f6 : Addr} {od6 an6 : Option Addr} {sl6 : Array (Option Value)} {oc6 kV6 dc6 pm6 cd6 ct6 : Value} (a6 : PySem.W.nsIn K mainGlobals "figured" = some (some (.ref f6)))
    (l6 : K.lookup f6 = some ⟨oc6, od6, .func (PySem.W.fnOf "figured" "figured" (defArgs s_figured) (defBody s_figured) (defScope s_figured) .none kV6 dc6 pm6 an6 cd6 ct6), sl6⟩) (c6 : PySem.W.codeIn K cd6 "figured" = true) (k6 : PySem.W.keepIn K (.ref f6) = true)
    {f7 : Addr} {od7 an7 : Option Addr} {sl7 : Array (Option Value)} {oc7 kV7 dc7 pm7 cd7 ct7 : Value} (a7 : PySem.W.nsIn K mainGlobals "_law_begun" = some (some (.ref f7)))
    (l7 : K.lookup f7 = some ⟨oc7, od7, .func (PySem.W.fnOf "_law_begun" "_law_begun" (defArgs s_law_begun) (defBody s_law_begun) (defScope s_law_begun) .none kV7 dc7 pm7 an7 cd7 ct7), sl7⟩) (c7 : PySem.W.codeIn K cd7 "_law_begun" = true) (k7 : PySem.W.keepIn K (.ref f7) = true)
    {f8 : Addr} {od8 an8 : Option Addr} {sl8 : Array (Option Value)} {oc8 kV8 dc8 pm8 cd8 ct8 : Value} (a8 : PySem.W.nsIn K mainGlobals "_law_next" = some (some (.ref f8)))
    (l8 : K.lookup f8 = some ⟨oc8, od8, .func (PySem.W.fnOf "_law_next" "_law_next" (defArgs s_law_next) (defBody s_law_next) (defScope s_law_next) .none kV8 dc8 pm8 an8 cd8 ct8), sl8⟩) (c8 : PySem.W.codeIn K cd8 "_law_next" = true) (k8 : PySem.W.keepIn K (.ref f8) = true)
    {f9 : Addr} {od9 an9 : Option Addr} {sl9 : Array (Option Value)} {oc9 kV9 dc9 pm9 cd9 ct9 : Value} (a9 : PySem.W.nsIn K mainGlobals "_law_pick" = some (some (.ref f9)))
    (l9 : K.lookup f9 = some ⟨oc9, od9, .func (PySem.W.fnOf "_law_pick" "_law_pick" (defArgs s_law_pick) (defBody s_law_pick) (defScope s_law_pick) .none kV9 dc9 pm9 an9 cd9 ct9), sl9⟩) (c9 : PySem.W.codeIn K cd9 "_law_pick" = true) (k9 : PySem.W.keepIn K (.ref f9) = true)
    {f10 : Addr} {od10 an10 : Option Addr} {sl10 : Array (Option Value)} {oc10 kV10 dc10 pm10 cd10 ct10 : Value} (a10 : PySem.W.nsIn K mainGlobals "_law_spots" = some (some (.ref f10)))
    (l10 : K.lookup f10 = some ⟨oc10, od10, .func (PySem.W.fnOf "_law_spots" "_law_spots" (defArgs s_law_spots) (defBody s_law_spots) (defScope s_law_spots) .none kV10 dc10 pm10 an10 cd10 ct10), sl10⟩) (c10 : PySem.W.codeIn K cd10 "_law_spots" = true) (k10 : PySem.W.keepIn K (.ref f10) = true)
    {f11 : Addr} {od11 an11 : Option Addr} {sl11 : Array (Option Value)} {oc11 kV11 dc11 pm11 cd11 ct11 : Value} (a11 : PySem.W.nsIn K mainGlobals "_law_pairs" = some (some (.ref f11)))
    (l11 : K.lookup f11 = some ⟨oc11, od11, .func (PySem.W.fnOf "_law_pairs" "_law_pairs" (defArgs s_law_pairs) (defBody s_law_pairs) (defScope s_law_pairs) .none kV11 dc11 pm11 an11 cd11 ct11), sl11⟩) (c11 : PySem.W.codeIn K cd11 "_law_pairs" = true) (k11 : PySem.W.keepIn K (.ref f11) = true)
    {f12 : Addr} {od12 an12 : Option Addr} {sl12 : Array (Option Value)} {oc12 kV12 dc12 pm12 cd12 ct12 : Value} (a12 : PySem.W.nsIn K mainGlobals "_law_link" = some (some (.ref f12)))
    (l12 : K.lookup f12 = some ⟨oc12, od12, .func (PySem.W.fnOf "_law_link" "_law_link" (defArgs s_law_link) (defBody s_law_link) (defScope s_law_link) .none kV12 dc12 pm12 an12 cd12 ct12), sl12⟩) (c12 : PySem.W.codeIn K cd12 "_law_link" = true) (k12 : PySem.W.keepIn K (.ref f12) = true)
    {f13 : Addr} {od13 an13 : Option Addr} {sl13 : Array (Option Value)} {oc13 kV13 dc13 pm13 cd13 ct13 : Value} (a13 : PySem.W.nsIn K mainGlobals "_law_is_link" = some (some (.ref f13)))
    (l13 : K.lookup f13 = some ⟨oc13, od13, .func (PySem.W.fnOf "_law_is_link" "_law_is_link" (defArgs s_law_is_link) (defBody s_law_is_link) (defScope s_law_is_link) .none kV13 dc13 pm13 an13 cd13 ct13), sl13⟩) (c13 : PySem.W.codeIn K cd13 "_law_is_link" = true) (k13 : PySem.W.keepIn K (.ref f13) = true)
    {f14 : Addr} {od14 an14 : Option Addr} {sl14 : Array (Option Value)} {oc14 kV14 dc14 pm14 cd14 ct14 : Value} (a14 : PySem.W.nsIn K mainGlobals "_law_number" = some (some (.ref f14)))
    (l14 : K.lookup f14 = some ⟨oc14, od14, .func (PySem.W.fnOf "_law_number" "_law_number" (defArgs s_law_number) (defBody s_law_number) (defScope s_law_number) .none kV14 dc14 pm14 an14 cd14 ct14), sl14⟩) (c14 : PySem.W.codeIn K cd14 "_law_number" = true) (k14 : PySem.W.keepIn K (.ref f14) = true)
    {f15 : Addr} {od15 an15 : Option Addr} {sl15 : Array (Option Value)} {oc15 kV15 dc15 pm15 cd15 ct15 : Value} (a15 : PySem.W.nsIn K mainGlobals "_law_read" = some (some (.ref f15)))
    (l15 : K.lookup f15 = some ⟨oc15, od15, .func (PySem.W.fnOf "_law_read" "_law_read" (defArgs s_law_read) (defBody s_law_read) (defScope s_law_read) .none kV15 dc15 pm15 an15 cd15 ct15), sl15⟩) (c15 : PySem.W.codeIn K cd15 "_law_read" = true) (k15 : PySem.W.keepIn K (.ref f15) = true)
    {f16 : Addr} {od16 an16 : Option Addr} {sl16 : Array (Option Value)} {oc16 kV16 dc16 pm16 cd16 ct16 : Value} (a16 : PySem.W.nsIn K mainGlobals "_law_bent" = some (some (.ref f16)))
    (l16 : K.lookup f16 = some ⟨oc16, od16, .func (PySem.W.fnOf "_law_bent" "_law_bent" (defArgs s_law_bent) (defBody s_law_bent) (defScope s_law_bent) .none kV16 dc16 pm16 an16 cd16 ct16), sl16⟩) (c16 : PySem.W.codeIn K cd16 "_law_bent" = true) (k16 : PySem.W.keepIn K (.ref f16) = true)
    {f17 : Addr} {od17 an17 : Option Addr} {sl17 : Array (Option Value)} {oc17 kV17 dc17 pm17 cd17 ct17 : Value} (a17 : PySem.W.nsIn K mainGlobals "_law_refusal" = some (some (.ref f17)))
    (l17 : K.lookup f17 = some ⟨oc17, od17, .func (PySem.W.fnOf "_law_refusal" "_law_refusal" (defArgs s_law_refusal) (defBody s_law_refusal) (defScope s_law_refusal) .none kV17 dc17 pm17 an17 cd17 ct17), sl17⟩) (c17 : PySem.W.codeIn K cd17 "_law_refusal" = true) (k17 : PySem.W.keepIn K (.ref f17) = true)
    {f18 : Addr} {od18 an18 : Option Addr} {sl18 : Array (Option Value)} {oc18 kV18 dc18 pm18 cd18 ct18 : Value} (a18 : PySem.W.nsIn K mainGlobals "law" = some (some (.ref f18)))
    (l18 : K.lookup f18 = some ⟨oc18, od18, .func (PySem.W.fnOf "law" "law" (defArgs s_law) (defBody s_law) (defScope s_law) .none kV18 dc18 pm18 an18 cd18 ct18), sl18⟩) (c18 : PySem.W.codeIn K cd18 "law" = true) (k18 : PySem.W.keepIn K (.ref f18) = true)
    (z0 : PySem.W.nsIn K mainGlobals "len" = some none)
    (z1 : PySem.W.nsIn K mainGlobals "max" = some none)
    (z2 : PySem.W.nsIn K mainGlobals "range" = some none)
    (z3 : PySem.W.nsIn K mainGlobals "sorted" = some none)
    (z4 : PySem.W.nsIn K mainGlobals "enumerate" = some none)
    (z5 : PySem.W.nsIn K mainGlobals "list" = some none)
    (z6 : PySem.W.nsIn K mainGlobals "zip" = some none)
    (z7 : PySem.W.nsIn K mainGlobals "isinstance" = some none)
    (z8 : PySem.W.nsIn K mainGlobals "tuple" = some none)
    (z9 : PySem.W.nsIn K mainGlobals "str" = some none)
    (z10 : PySem.W.nsIn K mainGlobals "int" = some none)
    (z11 : PySem.W.nsIn K mainGlobals "bool" = some none)
    (z12 : PySem.W.nsIn K mainGlobals "all" = some none)
    (z13 : PySem.W.nsIn K mainGlobals "set" = some none)
    (z14 : PySem.W.nsIn K mainGlobals "min" = some none)
    (z15 : PySem.W.nsIn K mainGlobals "sum" = some none)
    {t0 : Tok} (n0 : PySem.W.nsIn K mainGlobals "MOST_SIGNS" = some (some (.int 6 t0)))
    {t1 : Tok} (n1 : PySem.W.nsIn K mainGlobals "MOST_FIGURES" = some (some (.int 7 t1)))
    {t2 : Tok} (n2 : PySem.W.nsIn K mainGlobals "MOST_COST" = some (some (.int 1000000 t2)))
    {C : Addr} (xL : PySem.W.nsIn K mainGlobals "NoLink" = some (some (.ref C)))
    {C2 : Addr} (xX : PySem.W.nsIn K mainGlobals "NoText" = some (some (.ref C2)))
    {CK : Addr} (xE : PySem.W.nsIn K mainGlobals "KeepError" = some (some (.ref CK)))
    {CP : Addr} (xP : PySem.W.nsIn K mainGlobals "NoPlace" = some (some (.ref CP)))
    {CT : Addr} (xT : PySem.W.nsIn K mainGlobals "TooMany" = some (some (.ref CT)))
    {CE : Addr} (xK : PySem.W.nsIn K mainGlobals "NoKept" = some (some (.ref CE)))
    {CG : Addr} (xG : PySem.W.nsIn K mainGlobals "NoPage" = some (some (.ref CG)))
    (xV : PySem.W.nsIn K mainGlobals "ValueError" = some none)
    (xS : PySem.W.nsIn K mainGlobals "super" = some none)
    (xPt : (l.prog.main.scope.names.lookup ("super" : Str)).isSome = false)
    (xOp : PySem.W.nsIn K cStatics "thirdparty.any" = some none)
    (xHn : PySem.W.specialIn K (.builtin "object.__class__") "__get__" = some (some (.builtin "getset_descriptor.__get__")))
    (xHt : PySem.W.takesIn K (.builtin "object.__class__") = some true)
    (xE1 : PySem.W.subIn K (.ref CK) (.type "BaseException") = some true)
    (xE2 : PySem.W.hasDictIn K CK = true)
    (xE3 : PySem.W.typeIn K (.ref CK) = some (.type "type"))
    {nm q : Str} {N : Addr} {bs bm : List Value} {sn : _} {sub : _} {ab : _} {col : _} {dd : _} {m0 m1 m2 m3 m5 : _} (xC : K.lookup C = some (excClassObj nm q C N bs bm true sn sub ab col dd m0 m1 m2 m3 m5 "ValueError.__new__"))
    (xB : PySem.HandSPX.refsVE bm = true)
    (xSa : PySem.W.findIn K (.ref C) "__setattr__" = some (some (.builtin "object.__setattr__")))
    (xBe : PySem.W.subIn K (.ref C) (.type "BaseException") = some true)
    (xTy : PySem.W.typeIn K (.ref C) = some (.type "type"))
    (xKp : PySem.W.keepIn K (.ref C) = true)
    {fI : Addr} (xI : PySem.W.findIn K (.ref C) "__init__" = some (some (.ref fI)))
    (xIt : PySem.W.typeIn K (.ref fI) = some (.type "function"))
    {ocI kVI docI pmI ctI : Value} {odI anI : Option Addr} {slI : Array (Option Value)} {cda cc : Addr} (xIl : K.lookup fI = some ⟨ocI, odI, .func (PySem.W.ksFn "__init__" "NoLink.__init__" (defArgs s_nl) (defBody s_nl) (defScope s_nl) .none kVI docI pmI anI (.ref cda) ctI cc), slI⟩)
    (xIc : PySem.W.codeIn K (.ref cda) "NoLink.__init__" = true)
    (xNo : PySem.W.findIn K (.ref C) "at" = some none)
    {clD : Value} {odD : Option Addr} {vsD : _} {slD : Array (Option Value)} (xD : K.lookup cda = some ⟨clD, odD, .fields vsD, slD⟩)
    {fileD : Str} {tkD : _} (xDf : vsD[2]? = some (.str fileD tkD))
    (xDp : ((l.prog.main.file : Str) == fileD) = true)
    {clC : Value} {odC : Option Addr} {slC : Array (Option Value)} (xCc : K.lookup cc = some ⟨clC, odC, .cell (some (.ref C)), slC⟩)
    {cdC : _} (xCl : PySem.W.clsIn K C = some cdC)
    (xMr : PySem.W.mroIn K C (.ref C) = some true)
    (xMe : PySem.W.ks_superIn K C C "__init__" = some (some (.builtin "ValueError.__init__")))
    (xVe : PySem.W.subIn K (.ref C) (.type "ValueError") = some true)
    (xGa : PySem.W.findIn K (.ref C) "__getattribute__" = some (some (.builtin "BaseException.__getattribute__")))
    (xGg : PySem.W.findIn K (.ref C) "__getattr__" = some none)
    (xHd : PySem.W.hasDictIn K C = true)
    (xHa : PySem.W.findIn K (.ref C) "__class__" = some (some (.builtin "object.__class__")))
    (xHm : PySem.W.mroIn K C (.type "object") = some true)
    (xE4 : PySem.W.subIn K (.ref C) (.ref CK) = some true)
    (xykP : PySem.W.kitOne K (.ref C) (.ref CP) = some false)
    (xykT : PySem.W.kitOne K (.ref C) (.ref CT) = some false)
    (xykK : PySem.W.kitOne K (.ref C) (.ref CE) = some false)
    (xykG : PySem.W.kitOne K (.ref C) (.ref CG) = some false)
    (xykL : PySem.W.kitOne K (.ref C) (.ref C) = some true)
    (xykX : PySem.W.kitOne K (.ref C) (.ref C2) = some false)
    (xykV : PySem.W.kitOne K (.ref C) (.type "ValueError") = some true)
    {nm2 q2 : Str} {N2 : Addr} {bs2 bm2 : List Value} {sn2 : _} {sub2 : _} {ab2 : _} {col2 : _} {dd2 : _} {m02 m12 m22 m32 m52 : _} (uC : K.lookup C2 = some (excClassObj nm2 q2 C2 N2 bs2 bm2 true sn2 sub2 ab2 col2 dd2 m02 m12 m22 m32 m52 "ValueError.__new__"))
    (uB : PySem.HandSPX.refsVE bm2 = true)
    (uSa : PySem.W.findIn K (.ref C2) "__setattr__" = some (some (.builtin "object.__setattr__")))
    (uBe : PySem.W.subIn K (.ref C2) (.type "BaseException") = some true)
    (uTy : PySem.W.typeIn K (.ref C2) = some (.type "type"))
    (uKp : PySem.W.keepIn K (.ref C2) = true)
    {fI2 : Addr} (uI : PySem.W.findIn K (.ref C2) "__init__" = some (some (.ref fI2)))
    (uIt : PySem.W.typeIn K (.ref fI2) = some (.type "function"))
    {ocI2 kVI2 docI2 pmI2 ctI2 : Value} {odI2 anI2 : Option Addr} {slI2 : Array (Option Value)} {cda2 cc2 : Addr} (uIl : K.lookup fI2 = some ⟨ocI2, odI2, .func (PySem.W.ksFn "__init__" "NoText.__init__" (defArgs s_nt) (defBody s_nt) (defScope s_nt) .none kVI2 docI2 pmI2 anI2 (.ref cda2) ctI2 cc2), slI2⟩)
    (uIc : PySem.W.codeIn K (.ref cda2) "NoText.__init__" = true)
    (uNo : PySem.W.findIn K (.ref C2) "at" = some none)
    {clD2 : Value} {odD2 : Option Addr} {vsD2 : _} {slD2 : Array (Option Value)} (uD : K.lookup cda2 = some ⟨clD2, odD2, .fields vsD2, slD2⟩)
    {fileD2 : Str} {tkD2 : _} (uDf : vsD2[2]? = some (.str fileD2 tkD2))
    (uDp : ((l.prog.main.file : Str) == fileD2) = true)
    {clC2 : Value} {odC2 : Option Addr} {slC2 : Array (Option Value)} (uCc : K.lookup cc2 = some ⟨clC2, odC2, .cell (some (.ref C2)), slC2⟩)
    {cdC2 : _} (uCl : PySem.W.clsIn K C2 = some cdC2)
    (uMr : PySem.W.mroIn K C2 (.ref C2) = some true)
    (uMe : PySem.W.ks_superIn K C2 C2 "__init__" = some (some (.builtin "ValueError.__init__")))
    (uVe : PySem.W.subIn K (.ref C2) (.type "ValueError") = some true)
    (uGa : PySem.W.findIn K (.ref C2) "__getattribute__" = some (some (.builtin "BaseException.__getattribute__")))
    (uGg : PySem.W.findIn K (.ref C2) "__getattr__" = some none)
    (uHd : PySem.W.hasDictIn K C2 = true)
    (uHa : PySem.W.findIn K (.ref C2) "__class__" = some (some (.builtin "object.__class__")))
    (uHm : PySem.W.mroIn K C2 (.type "object") = some true)
    (uE4 : PySem.W.subIn K (.ref C2) (.ref CK) = some true)
    (uykP : PySem.W.kitOne K (.ref C2) (.ref CP) = some false)
    (uykT : PySem.W.kitOne K (.ref C2) (.ref CT) = some false)
    (uykK : PySem.W.kitOne K (.ref C2) (.ref CE) = some false)
    (uykG : PySem.W.kitOne K (.ref C2) (.ref CG) = some false)
    (uykL : PySem.W.kitOne K (.ref C2) (.ref C) = some false)
    (uykX : PySem.W.kitOne K (.ref C2) (.ref C2) = some true)
    (uykV : PySem.W.kitOne K (.ref C2) (.type "ValueError") = some true)
    : ∃ fd : FuncData, (∀ (s : Shared) (v : Value), BindsTo s fd ⟨[v], []⟩ [("script", v)]) ∧ ∀ base : Heap, K.In base → base.Ns mainGlobals mg → FnOk l.prog w K mg base CX0 6 fa fd ["script"] (spLaw K) := by
  have e := hfa.symm.trans (PySem.W.mg_of X G a18)
  cases e
  have T : Txt mg := ⟨PySem.W.mg_none_of X G z0, PySem.W.mg_none_of X G z1, PySem.W.mg_none_of X G z2, PySem.W.mg_none_of X G z3, PySem.W.mg_none_of X G z4, PySem.W.mg_none_of X G z5, PySem.W.mg_none_of X G z6, PySem.W.mg_none_of X G z7, PySem.W.mg_none_of X G z8, PySem.W.mg_none_of X G z9, PySem.W.mg_none_of X G z10, PySem.W.mg_none_of X G z11, PySem.W.mg_none_of X G z12, PySem.W.mg_none_of X G z13, PySem.W.mg_none_of X G z14, PySem.W.mg_none_of X G z15, ⟨_, PySem.W.mg_of X G n0⟩, ⟨_, PySem.W.mg_of X G n1⟩, ⟨_, PySem.W.mg_of X G n2⟩⟩
  have F_is_place := fun_mk (st := s_is_place) l0 c0 k0
  have m_is_place := PySem.W.mg_of X G a0
  have b_is_place := F_is_place.binds (ps := ["thing"]) fun _ _ _ _ _ _ us hl => match us, hl with | [_], _ => rfl
  have F_is_number := fun_mk (st := s_is_number) l1 c1 k1
  have m_is_number := PySem.W.mg_of X G a1
  have b_is_number := F_is_number.binds (ps := ["thing", "most"]) fun _ _ _ _ _ _ us hl => match us, hl with | [_, _], _ => rfl
  have F_is_link := fun_mk (st := s_is_link) l2 c2 k2
  have m_is_link := PySem.W.mg_of X G a2
  have b_is_link := F_is_link.binds (ps := ["thing"]) fun _ _ _ _ _ _ us hl => match us, hl with | [_], _ => rfl
  have F_link_text := fun_mk (st := s_link_text) l3 c3 k3
  have m_link_text := PySem.W.mg_of X G a3
  have b_link_text := F_link_text.binds (ps := ["link"]) fun _ _ _ _ _ _ us hl => match us, hl with | [_], _ => rfl
  have F_read_link := fun_mk (st := s_read_link) l4 c4 k4
  have m_read_link := PySem.W.mg_of X G a4
  have b_read_link := F_read_link.binds (ps := ["text"]) fun _ _ _ _ _ _ us hl => match us, hl with | [_], _ => rfl
  have F_worded_link := fun_mk (st := s_worded_link) l5 c5 k5
  have m_worded_link := PySem.W.mg_of X G a5
  have b_worded_link := F_worded_link.binds (ps := ["words"]) fun _ _ _ _ _ _ us hl => match us, hl with | [_], _ => rfl
  have F_figured := fun_mk (st := s_figured) l6 c6 k6
  have m_figured := PySem.W.mg_of X G a6
  have b_figured := F_figured.binds (ps := ["word", "most"]) fun _ _ _ _ _ _ us hl => match us, hl with | [_, _], _ => rfl
  have F_law_begun := fun_mk (st := s_law_begun) l7 c7 k7
  have m_law_begun := PySem.W.mg_of X G a7
  have b_law_begun := F_law_begun.binds (ps := ["cell", "k"]) fun _ _ _ _ _ _ us hl => match us, hl with | [_, _], _ => rfl
  have F_law_next := fun_mk (st := s_law_next) l8 c8 k8
  have m_law_next := PySem.W.mg_of X G a8
  have b_law_next := F_law_next.binds (ps := ["draw", "size"]) fun _ _ _ _ _ _ us hl => match us, hl with | [_, _], _ => rfl
  have F_law_pick := fun_mk (st := s_law_pick) l9 c9 k9
  have m_law_pick := PySem.W.mg_of X G a9
  have b_law_pick := F_law_pick.binds (ps := ["draw", "some"]) fun _ _ _ _ _ _ us hl => match us, hl with | [_, _], _ => rfl
  have F_law_spots := fun_mk (st := s_law_spots) l10 c10 k10
  have m_law_spots := PySem.W.mg_of X G a10
  have b_law_spots := F_law_spots.binds (ps := ["draw", "many"]) fun _ _ _ _ _ _ us hl => match us, hl with | [_, _], _ => rfl
  have F_law_pairs := fun_mk (st := s_law_pairs) l11 c11 k11
  have m_law_pairs := PySem.W.mg_of X G a11
  have b_law_pairs := F_law_pairs.binds (ps := ["draw", "spots"]) fun _ _ _ _ _ _ us hl => match us, hl with | [_, _], _ => rfl
  have F_law_link := fun_mk (st := s_law_link) l12 c12 k12
  have m_law_link := PySem.W.mg_of X G a12
  have b_law_link := F_law_link.binds (ps := ["draw", "pairs"]) fun _ _ _ _ _ _ us hl => match us, hl with | [_, _], _ => rfl
  have F_law_is_link := fun_mk (st := s_law_is_link) l13 c13 k13
  have m_law_is_link := PySem.W.mg_of X G a13
  have b_law_is_link := F_law_is_link.binds (ps := ["thing"]) fun _ _ _ _ _ _ us hl => match us, hl with | [_], _ => rfl
  have F_law_number := fun_mk (st := s_law_number) l14 c14 k14
  have m_law_number := PySem.W.mg_of X G a14
  have b_law_number := F_law_number.binds (ps := ["word"]) fun _ _ _ _ _ _ us hl => match us, hl with | [_], _ => rfl
  have F_law_read := fun_mk (st := s_law_read) l15 c15 k15
  have m_law_read := PySem.W.mg_of X G a15
  have b_law_read := F_law_read.binds (ps := ["text"]) fun _ _ _ _ _ _ us hl => match us, hl with | [_], _ => rfl
  have F_law_bent := fun_mk (st := s_law_bent) l16 c16 k16
  have m_law_bent := PySem.W.mg_of X G a16
  have b_law_bent := F_law_bent.binds (ps := ["draw", "text"]) fun _ _ _ _ _ _ us hl => match us, hl with | [_, _], _ => rfl
  have F_law_refusal := fun_mk (st := s_law_refusal) l17 c17 k17
  have m_law_refusal := PySem.W.mg_of X G a17
  have b_law_refusal := F_law_refusal.binds (ps := ["way", "thing"]) fun _ _ _ _ _ _ us hl => match us, hl with | [_, _], _ => rfl
  have F_law := fun_mk (st := s_law) l18 c18 k18
  have m_law := PySem.W.mg_of X G a18
  exact ⟨PySem.W.fnOf "law" "law" (defArgs s_law) (defBody s_law) (defScope s_law) .none kV18 dc18 pm18 an18 cd18 ct18, fun s v => .of_eq rfl, fun base _ _ => by
    have O : OexC K C := ⟨⟨nm, q, N, bs, bm, sn, sub, ab, col, dd, m0, m1, m2, m3, m5, xC, xB⟩, xSa, xBe, xTy, xKp⟩
    have ST : SupTxt l.prog K mg C cc cda := ⟨⟨_, _, _, _, _, _, xD, xDf, xDp⟩, ⟨_, _, _, xCc⟩, ⟨_, xCl⟩, xMr, xOp, xMe, xVe, PySem.W.mg_none_of X G xS, xPt⟩
    have F1 := ok_nl (w := w) (base := base) ST O xNo xIl xIc
    have NT := NlTxt.mk O xI xIt F1 (Binds.all fun us hl => match us, hl with | [_, _], _ => rfl) (PySem.W.mg_of X G xL)
    have O2 : OexC K C2 := ⟨⟨nm2, q2, N2, bs2, bm2, sn2, sub2, ab2, col2, dd2, m02, m12, m22, m32, m52, uC, uB⟩, uSa, uBe, uTy, uKp⟩
    have ST2 : SupTxt l.prog K mg C2 cc2 cda2 := ⟨⟨_, _, _, _, _, _, uD, uDf, uDp⟩, ⟨_, _, _, uCc⟩, ⟨_, uCl⟩, uMr, xOp, uMe, uVe, PySem.W.mg_none_of X G xS, xPt⟩
    have F2 := ok_nt (w := w) (base := base) ST2 O2 uNo uIl uIc
    have NT2 := NtTxt.mk O2 uI uIt F2 (Binds.all fun us hl => match us, hl with | [_, _], _ => rfl) (PySem.W.mg_of X G xX)
    have M1 : ErrOne K C CK CP CT CE CG C C2 true false := ⟨PySem.W.exm_ref xE1 xE2 xE3 xE4, ⟨xGa, xGg, xBe, xHd, xHa, xHn, xHt, xHm⟩, ⟨xGa, xGg, xBe, xHd⟩, xNo, xykP, xykT, xykK, xykG, xykL, xykX, xykV⟩
    have M2 : ErrOne K C2 CK CP CT CE CG C C2 false true := ⟨PySem.W.exm_ref xE1 xE2 xE3 uE4, ⟨uGa, uGg, uBe, uHd, uHa, xHn, xHt, uHm⟩, ⟨uGa, uGg, uBe, uHd⟩, uNo, uykP, uykT, uykK, uykG, uykL, uykX, uykV⟩
    have MT : ErrTwo K mg C C2 CK CP CT CE CG := ⟨PySem.W.mg_of X G xE, PySem.W.mg_of X G xL, PySem.W.mg_of X G xP, PySem.W.mg_of X G xT, PySem.W.mg_of X G xK, PySem.W.mg_of X G xG, PySem.W.mg_of X G xX, PySem.W.mg_none_of X G xV, M1, M2⟩
    have C_next := Cal.of (P := l.prog) (w := w) (base := base) F_law_next (ok_next F_law_next T) m_law_next b_law_next
    have C_pick := Cal.of (P := l.prog) (w := w) (base := base) F_law_pick (ok_pick F_law_pick T C_next) m_law_pick b_law_pick
    have C_begun := Cal.of (P := l.prog) (w := w) (base := base) F_law_begun (ok_begun F_law_begun T) m_law_begun b_law_begun
    have C_spots := Cal.of (P := l.prog) (w := w) (base := base) F_law_spots (ok_spots F_law_spots T C_next C_pick) m_law_spots b_law_spots
    have C_pairs := Cal.of (P := l.prog) (w := w) (base := base) F_law_pairs (ok_pairs F_law_pairs T C_next C_pick) m_law_pairs b_law_pairs
    have C_link := Cal.of (P := l.prog) (w := w) (base := base) F_law_link (ok_link F_law_link T C_next C_pick) m_law_link b_law_link
    have C_place := Cal.of (P := l.prog) (w := w) (base := base) F_is_place (ok_is_place F_is_place T) m_is_place b_is_place
    have C_number := Cal.of (P := l.prog) (w := w) (base := base) F_is_number (ok_is_number F_is_number T) m_is_number b_is_number
    have C_islink := Cal.of (P := l.prog) (w := w) (base := base) F_is_link (ok_is_link F_is_link T C_place C_number) m_is_link b_is_link
    have C_llink := Cal.of (P := l.prog) (w := w) (base := base) F_law_is_link (ok_law_is_link_g F_law_is_link T) m_law_is_link b_law_is_link
    have C_fig := Cal.of (P := l.prog) (w := w) (base := base) F_figured (ok_figured F_figured T) m_figured b_figured
    have C_lnum := Cal.of (P := l.prog) (w := w) (base := base) F_law_number (ok_lawnum F_law_number T) m_law_number b_law_number
    have C_worded := Cal.of (P := l.prog) (w := w) (base := base) F_worded_link (ok_worded F_worded_link T C_fig C_islink) m_worded_link b_worded_link
    have C_lread := Cal.of (P := l.prog) (w := w) (base := base) F_law_read (ok_lread F_law_read T C_lnum C_llink) m_law_read b_law_read
    have C_ltext := CalX.of (P := l.prog) (w := w) (base := base) F_link_text (ok_link_text F_link_text T NT C_islink) m_link_text b_link_text
    have C_read := CalX.of (P := l.prog) (w := w) (base := base) F_read_link (ok_read_link F_read_link T NT2 C_worded) m_read_link b_read_link
    have C_bent := Cal.of (P := l.prog) (w := w) (base := base) F_law_bent (ok_bent_x F_law_bent T C_next C_pick) m_law_bent b_law_bent
    have C_refusal := Cal.of (P := l.prog) (w := w) (base := base) F_law_refusal (ok_refusal F_law_refusal T MT C_read C_ltext) m_law_refusal b_law_refusal
    exact ok_law F_law T C_begun C_next C_pick C_spots C_pairs C_link C_ltext C_read C_bent C_lread C_refusal⟩
theorem walk {l : PySem.W.OpenLaw} {q : Program} {loose : List Str} {XP : (Str → Option Value) → Heap → Prop} {YP : World → Heap → Prop} {d : DefRec} {K : Params → PySem.W.Frag} (hn : l.most = some 63) (hdf : d.params.defaults = [])
    (hY : ∀ (w : World) (h : Heap), YP w h → (K w.params).In h)
    (F : ∀ (w : World) (mg : Str → Option Value) (fa : Addr) (h : Heap), (K w.params).In h → h.Ns mainGlobals mg → mg d.name = some (.ref fa) →
      ∃ fd : FuncData, (∀ (s : Shared) (u : Value), BindsTo s fd ⟨[u], []⟩ [("script", u)]) ∧ ∀ base : Heap, (K w.params).In base → base.Ns mainGlobals mg → FnOk l.prog w (K w.params) mg base CX0 6 fa fd ["script"] (spLaw (K w.params))) :
    PySem.W.WalkO q loose XP YP l.row.toRowW d [] (fun f vs => PySem.call f vs) :=
  L2.walk_of (n := 63) (k := 6) (x := "script") (CX := fun _ => CX0) (sp := fun w => spLaw (K w.params)) hn (by decide) hdf ⟨rfl, by decide, by decide⟩ hY F (fun _ _ a ns hl _ hS => ⟨a, ns, rfl, hS, hl, fun _ => rfl⟩) fun _ _ _ _ _ z => z
end Fk

open PySem PySem.W PyProof.Rows in
set_option maxRecDepth 100000 in
set_option maxHeartbeats 0 in
theorem PySem.Challenge.cw_fewkept_k53_texts_of_links_holds : PySem.Challenge.rw_fewkept_k53_texts_of_links.Holds := by
  w_on; o_law; k_head; (case hw => w_witness2)
  k_fill
  refine Fk.walk (l := PySem.Challenge.rw_fewkept_k53_texts_of_links) rfl rfl (fun w h Y => PySem.W.kIn_of Y) ?F
  case F =>
    intro w mg fa h KX G hmg
    refine' Fk.all_mk KX G hmg ?a0 ?l0 ?c0 ?k0 ?a1 ?l1 ?c1 ?k1 ?a2 ?l2 ?c2 ?k2 ?a3 ?l3 ?c3 ?k3 ?a4 ?l4 ?c4 ?k4 ?a5 ?l5 ?c5 ?k5 ?a6 ?l6 ?c6 ?k6 ?a7 ?l7 ?c7 ?k7 ?a8 ?l8 ?c8 ?k8 ?a9 ?l9 ?c9 ?k9 ?a10 ?l10 ?c10 ?k10 ?a11 ?l11 ?c11 ?k11 ?a12 ?l12 ?c12 ?k12 ?a13 ?l13 ?c13 ?k13 ?a14 ?l14 ?c14 ?k14 ?a15 ?l15 ?c15 ?k15 ?a16 ?l16 ?c16 ?k16 ?a17 ?l17 ?c17 ?k17 ?a18 ?l18 ?c18 ?k18 ?z0 ?z1 ?z2 ?z3 ?z4 ?z5 ?z6 ?z7 ?z8 ?z9 ?z10 ?z11 ?z12 ?z13 ?z14 ?z15 ?n0 ?n1 ?n2 ?xL ?xX ?xE ?xP ?xT ?xK ?xG ?xV ?xS ?xPt ?xOp ?xHn ?xHt ?xE1 ?xE2 ?xE3 ?xC ?xB ?xSa ?xBe ?xTy ?xKp ?xI ?xIt ?xIl ?xIc ?xNo ?xD ?xDf ?xDp ?xCc ?xCl ?xMr ?xMe ?xVe ?xGa ?xGg ?xHd ?xHa ?xHm ?xE4 ?xykP ?xykT ?xykK ?xykG ?xykL ?xykX ?xykV ?uC ?uB ?uSa ?uBe ?uTy ?uKp ?uI ?uIt ?uIl ?uIc ?uNo ?uD ?uDf ?uDp ?uCc ?uCl ?uMr ?uMe ?uVe ?uGa ?uGg ?uHd ?uHa ?uHm ?uE4 ?uykP ?uykT ?uykK ?uykG ?uykL ?uykX ?uykV
    (case a0 => k_is)
    (case l0 => k_is)
    (case c0 => k_is)
    (case k0 => k_is)
    (case a1 => k_is)
    (case l1 => k_is)
    (case c1 => k_is)
    (case k1 => k_is)
    (case a2 => k_is)
    (case l2 => k_is)
    (case c2 => k_is)
    (case k2 => k_is)
    (case a3 => k_is)
    (case l3 => k_is)
    (case c3 => k_is)
    (case k3 => k_is)
    (case a4 => k_is)
    (case l4 => k_is)
    (case c4 => k_is)
    (case k4 => k_is)
    (case a5 => k_is)
    (case l5 => k_is)
    (case c5 => k_is)
    (case k5 => k_is)
    (case a6 => k_is)
    (case l6 => k_is)
    (case c6 => k_is)
    (case k6 => k_is)
    (case a7 => k_is)
    (case l7 => k_is)
    (case c7 => k_is)
    (case k7 => k_is)
    (case a8 => k_is)
    (case l8 => k_is)
    (case c8 => k_is)
    (case k8 => k_is)
    (case a9 => k_is)
    (case l9 => k_is)
    (case c9 => k_is)
    (case k9 => k_is)
    (case a10 => k_is)
    (case l10 => k_is)
    (case c10 => k_is)
    (case k10 => k_is)
    (case a11 => k_is)
    (case l11 => k_is)
    (case c11 => k_is)
    (case k11 => k_is)
    (case a12 => k_is)
    (case l12 => k_is)
    (case c12 => k_is)
    (case k12 => k_is)
    (case a13 => k_is)
    (case l13 => k_is)
    (case c13 => k_is)
    (case k13 => k_is)
    (case a14 => k_is)
    (case l14 => k_is)
    (case c14 => k_is)
    (case k14 => k_is)
    (case a15 => k_is)
    (case l15 => k_is)
    (case c15 => k_is)
    (case k15 => k_is)
    (case a16 => k_is)
    (case l16 => k_is)
    (case c16 => k_is)
    (case k16 => k_is)
    (case a17 => k_is)
    (case l17 => k_is)
    (case c17 => k_is)
    (case k17 => k_is)
    (case a18 => k_is)
    (case l18 => k_is)
    (case c18 => k_is)
    (case k18 => k_is)
    (case z0 => k_is)
    (case z1 => k_is)
    (case z2 => k_is)
    (case z3 => k_is)
    (case z4 => k_is)
    (case z5 => k_is)
    (case z6 => k_is)
    (case z7 => k_is)
    (case z8 => k_is)
    (case z9 => k_is)
    (case z10 => k_is)
    (case z11 => k_is)
    (case z12 => k_is)
    (case z13 => k_is)
    (case z14 => k_is)
    (case z15 => k_is)
    (case n0 => k_is)
    (case n1 => k_is)
    (case n2 => k_is)
    (case xL => k_is)
    (case xX => k_is)
    (case xE => k_is)
    (case xP => k_is)
    (case xT => k_is)
    (case xK => k_is)
    (case xG => k_is)
    (case xV => k_is)
    (case xS => k_is)
    (case xPt => first | rfl | decide +kernel)
    (case xOp => k_is)
    (case xHn => k_is)
    (case xHt => k_is)
    (case xE1 => k_is)
    (case xE2 => k_is)
    (case xE3 => k_is)
    (case xC => k_is)
    (case xB => first | rfl | decide +kernel)
    (case xSa => k_is)
    (case xBe => k_is)
    (case xTy => k_is)
    (case xKp => k_is)
    (case xI => k_is)
    (case xIt => k_is)
    (case xIl => k_is)
    (case xIc => k_is)
    (case xNo => k_is)
    (case xD => k_is)
    (case xDf => rfl)
    (case xDp => first | rfl | decide +kernel)
    (case xCc => k_is)
    (case xCl => k_is)
    (case xMr => k_is)
    (case xMe => ks_is)
    (case xVe => k_is)
    (case xGa => k_is)
    (case xGg => k_is)
    (case xHd => k_is)
    (case xHa => k_is)
    (case xHm => k_is)
    (case xE4 => k_is)
    (case xykP => kit_is)
    (case xykT => kit_is)
    (case xykK => kit_is)
    (case xykG => kit_is)
    (case xykL => kit_is)
    (case xykX => kit_is)
    (case xykV => kit_is)
    (case uC => k_is)
    (case uB => first | rfl | decide +kernel)
    (case uSa => k_is)
    (case uBe => k_is)
    (case uTy => k_is)
    (case uKp => k_is)
    (case uI => k_is)
    (case uIt => k_is)
    (case uIl => k_is)
    (case uIc => k_is)
    (case uNo => k_is)
    (case uD => k_is)
    (case uDf => rfl)
    (case uDp => first | rfl | decide +kernel)
    (case uCc => k_is)
    (case uCl => k_is)
    (case uMr => k_is)
    (case uMe => ks_is)
    (case uVe => k_is)
    (case uGa => k_is)
    (case uGg => k_is)
    (case uHd => k_is)
    (case uHa => k_is)
    (case uHm => k_is)
    (case uE4 => k_is)
    (case uykP => kit_is)
    (case uykT => kit_is)
    (case uykK => kit_is)
    (case uykG => kit_is)
    (case uykL => kit_is)
    (case uykX => kit_is)
    (case uykV => kit_is)
