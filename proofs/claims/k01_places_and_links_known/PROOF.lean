import PyProof.Rows.All
import Wide.All
import OpenK.AllK
import Wide.FinOn
import HandS.ForMost
import HandS.Style
import HandS.Flow
import HandS.IsInst
import HandS.TupAny
import HandS.Evl
import HandS.Walk
import KE.KDictZip
import PyProof.Rows.IntBool
import PySem.Challenge.RW_fewkept_k01_places_and_links_known
set_option Elab.async false
set_option linter.all false
set_option maxRecDepth 100000
set_option maxHeartbeats 8000000
namespace Fk
open PySem PySem.Spec PyProof.Rows L2

/-- a def of the text as its callers see it -/
structure Cal (P : Program) (w : World) (K : PySem.W.Frag) (mg : Str → Option Value) (base : Heap) (k : Nat) (x : Str) (ps : List Str) (sp : Sp) : Prop where
  ex : ∃ (f : Addr) (fd : FuncData), FnOk P w K mg base CX0 k f fd ps sp ∧ mg x = some (.ref f) ∧ PySem.W.keepIn K (.ref f) = true ∧ Binds K fd ps []

section
variable {X : Cx} {k : Nat} {x : Str} {ps : List Str} {sp : Sp} {p pos : Pos} {e : Expr} {es : List Expr} {t : TA}
theorem pc (C : Cal X.prog X.w X.K X.mg X.base k x ps sp) (hr : Room k X.A) (hg : Gl X x) (ha : PA X (e :: es) t) (hdb : (x == ("__debug__" : Str)) = false := by decide)
    (he : starEach (e :: es) X.env = (false, eval e X.env) :: starEach es X.env := by rfl) (hpl : (backTo pos (starEach es X.env)).any (·.1) = false := by rfl) :
    PE X (.Call (.Name x p) (e :: es) [] pos) (tCall sp [] E0 t) := by
  obtain ⟨f, fd, F, hm, hk, hb⟩ := C.ex
  exact pe_call F hr hg hm hk hb .nil pass0 ha hdb he hpl
theorem Cal.mono {P : Program} {w : World} {K : PySem.W.Frag} {mg : Str → Option Value} {base : Heap} {k j : Nat} (C : Cal P w K mg base k x ps sp) (h : k ≤ j) : Cal P w K mg base j x ps sp := by
  obtain ⟨f, fd, F, r⟩ := C.ex
  exact ⟨f, fd, F.mono h, r⟩
theorem Cal.imp {P : Program} {w : World} {K : PySem.W.Frag} {mg : Str → Option Value} {base : Heap} {k : Nat} {sp' : Sp} (C : Cal P w K mg base k x ps sp) (h : ∀ vs H Q E, sp' vs H Q E → sp vs H Q E) : Cal P w K mg base k x ps sp' := by
  obtain ⟨f, fd, F, r⟩ := C.ex
  exact ⟨f, fd, F.imp h, r⟩
theorem Cal.of {P : Program} {w : World} {K : PySem.W.Frag} {mg : Str → Option Value} {base : Heap} {k : Nat} {f : Addr} {fd : FuncData} {st : Stmt} {qual : Str} (F : Fun K x qual st f fd) (ok : FnOk P w K mg base CX0 k f fd ps sp)
    (hm : mg x = some (.ref f)) (hb : Binds K fd ps []) : Cal P w K mg base k x ps sp := ⟨f, fd, ok, hm, F.kp, hb⟩

/-- powers of numbers of some hundred signs -/
def CPowN (i j : Int) : Prop := 0 ≤ j ∧ j ≤ 1000 ∧ i.natAbs < 2 ^ 2000
theorem op_powN : OpR X (binaryOp .Pow) (rI CPowN fun i j => .int (i ^ j.toNat)) := opI fun i j _ _ _ _ _ hc q => by
  obtain ⟨h0, h1, h2⟩ := hc
  refine pow_int h0 ?_ q
  have hb : Builtin.Int.intBits i ≤ 2000 := intBits_le h2
  have h3 : ((Builtin.Int.intBits i : Nat) : Int) * j ≤ 2000 * 1000 := Int.mul_le_mul (by omega) h1 h0 (by omega)
  have h4 : (2000 * 1000 : Int) ≤ 2 ^ 27 := by decide
  omega
end

theorem cpow_small {i j : Int} (h0 : 0 ≤ j) (h1 : j ≤ 1000) (h2 : i.natAbs < 2 ^ 64) : CPowN i j := ⟨h0, h1, Nat.lt_of_lt_of_le h2 (Nat.pow_le_pow_right (by omega) (by omega))⟩
def Drw (H : Hp) (d : Addr) (n : Nat) : Prop := ∃ a b c : Int, H d = some (.lst [.int a, .int b, .int c]) ∧ 0 ≤ a ∧ 0 ≤ c ∧ c ≤ (n : Int)
/-- nothing but what stands at d is otherwise -/
def Bt (d : Addr) (H H' : Hp) : Prop := ∀ a, a ≠ d → H' a = H a
theorem Bt.refl (d : Addr) (H : Hp) : Bt d H H := fun _ _ => rfl
theorem Bt.trans {d : Addr} {H H1 H2 : Hp} (x : Bt d H H1) (y : Bt d H1 H2) : Bt d H H2 := fun a h => (y a h).trans (x a h)
theorem Bt.upd {d : Addr} {H H1 : Hp} {o : HO} (x : Bt d H H1) : Bt d H (upd H1 d o) := fun a h => by rw [upd_ne h]; exact x a h

/-- what a drawing of a number below m promises -/
def spNext : Sp := fun vs H Q _ => ∃ (d : Addr) (n : Nat) (m : Int), vs = [.ref d, .int m] ∧ Drw H d n ∧ n ≤ 100000 ∧ 0 < m ∧ m < 1073741824 ∧
  ∀ (r : Int) (H' : Hp), 0 ≤ r → r < m → Bt d H H' → Drw H' d (n + 1) → Q (.int r) H'
theorem pow3_nn {x : Int} (h : 0 ≤ x) : 0 ≤ x ^ (3 : Int).toNat := Int.pow_nonneg h
theorem set0 {a b c x : V} : ([a, b, c] : List V).set 0 x = [x, b, c] := rfl
theorem set2 {a b c x : V} : ([a, b, c] : List V).set 2 x = [a, b, x] := rfl
theorem pow_bd {b c : Int} {n : Nat} (c0 : 0 ≤ c) (cn : c ≤ (n : Int)) (hn : n ≤ 100000) :
    CPowN ((b % 2147483629 + 104729 * (c + 1)) * (b % 2147483587 + 7919 * (c + 1) * (c + 1) + 11)) 3 := by
  refine ⟨by omega, by omega, ?_⟩
  have h1 : 0 ≤ b % 2147483629 := Int.emod_nonneg _ (by omega)
  have h2 : b % 2147483629 < 2147483629 := Int.emod_lt_of_pos _ (by omega)
  have h3 : 0 ≤ b % 2147483587 := Int.emod_nonneg _ (by omega)
  have h4 : b % 2147483587 < 2147483587 := Int.emod_lt_of_pos _ (by omega)
  have h5 : 7919 * (c + 1) * (c + 1) ≤ 7919 * 100001 * 100001 := Int.mul_le_mul (by omega) (by omega) (by omega) (by omega)
  have h6 : 0 ≤ 7919 * (c + 1) * (c + 1) := Int.mul_nonneg (by omega) (by omega)
  rw [Int.natAbs_mul]
  have e : (2 : Nat) ^ 2000 = 2 ^ 1000 * 2 ^ 1000 := by rw [← Nat.pow_add]
  rw [e]
  have big : (2 : Nat) ^ 100 ≤ 2 ^ 1000 := Nat.pow_le_pow_right (by omega) (by omega)
  have e1 : (2 : Nat) ^ 100 = 1267650600228229401496703205376 := by decide
  exact Nat.mul_lt_mul'' (by omega) (by omega)
theorem mod3_nn {x : Int} {m : Int} (m0 : 0 < m) : 0 ≤ x ^ (3 : Int).toNat % 2147483647 / 11 % m ∧ x ^ (3 : Int).toNat % 2147483647 / 11 % m < m := ⟨Int.emod_nonneg _ (by omega), Int.emod_lt_of_pos _ m0⟩
theorem Bt.rd {d : Addr} {H H' : Hp} {a : Addr} {u : HO} (b : Bt d H H') (n : a ≠ d) (h : Rd H a u) : Rd H' a u := by
  rcases h with h | ⟨o, h⟩
  · exact .inl (by rw [b a n]; exact h)
  · exact .inr ⟨o, by rw [b a n]; exact h⟩
theorem Bt.seqL {K : PySem.W.Frag} {d : Addr} {H H' : Hp} {a : Addr} {xs : List V} (b : Bt d H H') (n : a ≠ d) (h : SqL K H a xs) : SqL K H' a xs := by
  rcases h with h | h
  · exact .inl (b.rd n h)
  · exact .inr h
theorem Bt.seqT {K : PySem.W.Frag} {d : Addr} {H H' : Hp} {a : Addr} {xs : List V} (b : Bt d H H') (n : a ≠ d) (h : SqT K H a xs) : SqT K H' a xs := by
  rcases h with h | h
  · exact .inl (b.rd n h)
  · exact .inr h
theorem nat_of {r : Int} {m : Nat} (h0 : 0 ≤ r) (h1 : r < (m : Int)) : ∃ i : Nat, r = (i : Int) ∧ i < m := ⟨r.toNat, by omega, by omega⟩
theorem get_of {α : Type} {xs : List α} {i : Nat} (h : i < xs.length) : ∃ v, xs[i]? = some v := ⟨xs[i], List.getElem?_eq_getElem h⟩
theorem atI_of {α : Type} {xs : List α} {i : Nat} {v : α} (h : xs[i]? = some v) : atI xs (i : Int) = some v := atI_nat h
end Fk
namespace Fk
open PySem PySem.Spec PyProof.Rows L2
section
variable {σ : L2.St} {H : Hp} {Q : VK} {v x y : V} {ta tb te tc : TE} {t u : TS} {D : Ends} {K : PySem.W.Frag} {i j : Int} {b c : Bool} {QB : Bool → Hp → Prop} {t1 t2 : TT} {tr : TA} {QL : List V → Hp → Prop}
theorem w_from (σ : L2.St) (h : t D σ H) : t D σ H := h
theorem w_seq (h : t { D with nx := u D } σ H) : tSeq t u D σ H := h
theorem w_next (h : D.nx σ H) : tNext D σ H := h
theorem w_set {n : Nat} (h : te σ H fun x H1 => D.nx (σ.set n (some x)) H1) : tAsg te (gName n) D σ H := h
theorem w_asg {g : TG} (h : te σ H fun x H1 => g x σ H1 D.nx) : tAsg te g D σ H := h
theorem w_drop (h : te σ H fun _ H1 => D.nx σ H1) : tDrop te D σ H := h
theorem w_ret (h : te σ H D.rt) : tRet te D σ H := h
theorem w_retN (h : D.rt .non H) : tRetN D σ H := h
theorem w_if (h : t1 σ H fun b H1 => if b = true then t D σ H1 else u D σ H1) : tIfS t1 t u D σ H := h
theorem w_op {r : R2} (h : ta σ H fun x H1 => tb σ H1 fun y H2 => r x y H2 Q) : tOp r ta tb σ H Q := h
theorem w_un {r : V → Hp → VK → Prop} (h : ta σ H fun x H1 => r x H1 Q) : tUn r ta σ H Q := h
theorem w_c (h : Q v H) : tC v σ H Q := h
theorem w_var {n : Nat} (h : σ[n]? = some (some v)) (q : Q v H) : tVar n σ H Q := ⟨v, h, q⟩
theorem w_test (h : ta σ H fun x H1 => ∃ k, x = .bl k ∧ QB k H1) : tTest ta σ H QB := h
theorem w_B (h : ta σ H fun x H1 => ∃ k, x = .bl k ∧ QB k H1) : tB ta σ H QB := h
theorem w_exb {R : Bool → Prop} (h : R b) : ∃ k, V.bl b = .bl k ∧ R k := ⟨b, rfl, h⟩
theorem w_I0 {g : Int → Int → V} (q : Q (g i j) H) : rI0 g (.int i) (.int j) H Q := ⟨i, j, rfl, rfl, q⟩
theorem w_I {C : Int → Int → Prop} {g : Int → Int → V} (hc : C i j) (q : Q (g i j) H) : rI C g (.int i) (.int j) H Q := ⟨i, j, rfl, rfl, hc, q⟩
theorem w_U {g : Int → V} (q : Q (g i) H) : rU g (.int i) H Q := ⟨i, rfl, q⟩
theorem w_eq (h : scal x y = true) (q : Q (.bl (decide (x = y))) H) : rEq x y H Q := ⟨h, q⟩
theorem w_ne (h : scal x y = true) (q : Q (.bl (!decide (x = y))) H) : rNe x y H Q := ⟨h, q⟩
theorem w_nil (h : QL [] H) : tNil σ H QL := h
theorem w_cons (h : te σ H fun x H1 => tr σ H1 fun xs H2 => QL (x :: xs) H2) : tCons te tr σ H QL := h
theorem w_call {sp : Sp} {E : XK} (h : tr σ H fun vs H1 => sp (vs ++ []) H1 Q E) : tCall sp [] E tr σ H Q := h
theorem w_cb {r : List V → Hp → VK → Prop} (h : tr σ H fun vs H1 => r vs H1 Q) : tCB r tr σ H Q := h
theorem w_tup (h : tr σ H fun xs H1 => xs.length ≤ sizeLine ∧ ∀ p, H1 p = none → Q (.ref p) (upd H1 p (.tup xs))) : tTup tr σ H Q := h
theorem w_lst (h : tr σ H fun xs H1 => xs.length ≤ sizeLine ∧ ∀ p, H1 p = none → Q (.ref p) (upd H1 p (.lst xs))) : tLst tr σ H Q := h
theorem w_and (h : t1 σ H fun c H1 => if c = true then t2 σ H1 QB else QB false H1) : tAnd t1 t2 σ H QB := h
theorem w_or (h : t1 σ H fun c H1 => if c = true then QB true H1 else t2 σ H1 QB) : tOr t1 t2 σ H QB := h
theorem w_not (h : t1 σ H fun c H1 => QB (!c) H1) : tNot t1 σ H QB := h
theorem w_andV (h : ta σ H fun x H1 => ∃ c, x = .bl c ∧ if c = true then tb σ H1 Q else Q (.bl false) H1) : tAndV ta tb σ H Q := h
theorem w_orV (h : ta σ H fun x H1 => ∃ c, x = .bl c ∧ if c = true then Q (.bl true) H1 else tb σ H1 Q) : tOrV ta tb σ H Q := h
theorem w_notV (h : ta σ H fun x H1 => ∃ c, x = .bl c ∧ Q (.bl (!c)) H1) : tNotV ta σ H Q := h
theorem w_ifE (h : t1 σ H fun c H1 => if c = true then ta σ H1 Q else tb σ H1 Q) : tIf t1 ta tb σ H Q := h
theorem w_chain {r r' : R2} (h : ta σ H fun x H1 => tb σ H1 fun y H2 => r x y H2 fun z H3 => ∃ k, z = .bl k ∧ (if k = true then tc σ H3 fun w' H4 => r' y w' H4 Q else Q (.bl false) H3)) : tChain r r' ta tb tc σ H Q := h
theorem w_par {m n : Nat} (h : tr σ H fun vs H1 => ∃ v w, vs = [v, w] ∧ D.nx ((σ.set m (some v)).set n (some w)) H1) : tPar m n tr D σ H := h
theorem w_two {R : V → V → Prop} (h : R x y) : ∃ v w, ([x, y] : List V) = [v, w] ∧ R v w := ⟨x, y, rfl, h⟩
theorem w_gname {n : Nat} {R : L2.St → Hp → Prop} (h : R (σ.set n (some v)) H) : gName n v σ H R := h
theorem w_gsub {to ti : TE} {st : TSet} {R : L2.St → Hp → Prop} (h : to σ H fun o H1 => ti σ H1 fun i H2 => st o i v H2 fun H3 => R σ H3) : gSub to ti st v σ H R := h
theorem w_setL {p : Addr} {xs : List V} {k : Int} {j : Nat} {R : Hp → Prop} (h : H p = some (.lst xs)) (hj : ixN xs.length k = some j) (q : R (upd H p (.lst (xs.set j v)))) : rSetL (.ref p) (.int k) v H R := ⟨p, xs, k, j, rfl, rfl, h, hj, q⟩
theorem w_m1 {r : V → List V → Hp → VK → Prop} (h : ta σ H fun x H1 => (∃ a, x = .str a) ∧ tb σ H1 fun y H2 => r x [y] H2 Q) : tM1 r ta tb σ H Q := h
theorem w_m0 {r : V → List V → Hp → VK → Prop} (h : ta σ H fun x H1 => (∃ a, x = .str a) ∧ r x [] H1 Q) : tM0 r ta σ H Q := h
theorem w_estr {z : Str} {A : Prop} (h : A) : (∃ a, V.str z = .str a) ∧ A := ⟨⟨z, rfl⟩, h⟩
theorem w_slS {z : Str} {lo hi : Option Int} (hz : z.length ≤ sizeLine) (q : Q (.str (cutS z lo hi)) H) : rSlS (.str z) lo hi H Q := ⟨z, rfl, hz, q⟩
theorem w_gtup {n : Nat} {t : TGs} {a : Addr} {xs : List V} {R : L2.St → Hp → Prop} (h : SqT K H a xs) (hl : xs.length = n) (q : t xs σ H R) : gTup K n t (.ref a) σ H R := ⟨a, xs, rfl, h, hl, q⟩
theorem w_gcons {t : TG} {u : TGs} {v : V} {r : List V} {R : L2.St → Hp → Prop} (q : t v σ H fun σ' H' => u r σ' H' R) : gCons t u (v :: r) σ H R := ⟨v, r, rfl, q⟩
theorem w_gnil {R : L2.St → Hp → Prop} (q : R σ H) : gNil [] σ H R := ⟨rfl, q⟩
theorem w_exr {R : Addr → Prop} {a : Addr} (h : R a) : ∃ b, V.ref a = .ref b ∧ R b := ⟨a, rfl, h⟩
theorem small {n : Nat} (h : n ≤ 100000) : n ≤ sizeLine := Nat.le_trans h (by decide)
theorem smallS {n : Nat} (h : n < 100000) : n < sizeLine := Nat.lt_of_lt_of_le h (by decide)
theorem w_ixL {p : Addr} {xs : List V} {k : Int} (h : SqL K H p xs) (hv : atI xs k = some v) (q : Q v H) : rIxL K (.ref p) (.int k) H Q := ⟨p, xs, k, v, rfl, rfl, h, hv, q⟩
theorem w_ixT {p : Addr} {xs : List V} {k : Int} (h : SqT K H p xs) (hv : atI xs k = some v) (q : Q v H) : rIxT K (.ref p) (.int k) H Q := ⟨p, xs, k, v, rfl, rfl, h, hv, q⟩
theorem w_ixS {z : Str} {k : Int} {c : Nat} (hz : z.length ≤ sizeLine) (hv : atI z.cps.toList k = some c) (q : Q (.str ⟨#[c]⟩) H) : rIxS (.str z) (.int k) H Q := ⟨z, k, c, rfl, rfl, hz, hv, q⟩
theorem w_app {l : Addr} {xs : List V} (h : H l = some (.lst xs)) (hz : xs.length < sizeLine) (q : Q .non (upd H l (.lst (xs ++ [v])))) : rAppend (.ref l) [v] H Q := ⟨l, xs, v, rfl, rfl, h, hz, q⟩
theorem w_bm {T : String} {r : V → List V → Hp → VK → Prop} (h : ta σ H fun x H1 => tyV K T x H1 ∧ tr σ H1 fun xs H2 => r x xs H2 Q) : tBM K T r ta tr σ H Q := h
theorem w_sl {r : V → Option Int → Option Int → Hp → VK → Prop} {tl th : TO} (h : te σ H fun x H1 => tl σ H1 fun l H2 => th σ H2 fun u H3 => r x l u H3 Q) : tSl r te tl th σ H Q := h
theorem w_noP {R : Option Int → Hp → Prop} (h : R none H) : tNoPart σ H R := h
theorem w_part {R : Option Int → Hp → Prop} (h : te σ H fun x H1 => ∃ i, x = .int i ∧ R (some i) H1) : tPart te σ H R := h
theorem w_exi {R : Int → Prop} (h : R i) : ∃ k, V.int i = .int k ∧ R k := ⟨i, rfl, h⟩
theorem w_dec {p : Prop} [Decidable p] {A B : Prop} (h1 : p → A) (h2 : ¬ p → B) : if decide p = true then A else B := by
  by_cases h : p
  · rw [decide_eq_true h]; exact h1 h
  · rw [decide_eq_false h]; exact h2 h
theorem w_ndec {p : Prop} [Decidable p] {A B : Prop} (h1 : ¬ p → A) (h2 : p → B) : if (!decide p) = true then A else B := by
  by_cases h : p
  · rw [decide_eq_true h]; exact h2 h
  · rw [decide_eq_false h]; exact h1 h
theorem w_bool {A B : Prop} (h1 : b = true → A) (h2 : b = false → B) : if b = true then A else B := by
  cases b with
  | true => exact h1 rfl
  | false => exact h2 rfl
end
end Fk
namespace Fk
open PySem PySem.Spec PyProof.Rows L2

def SignOk (c : Nat) : Prop := 97 ≤ c ∧ c ≤ 122
/-- a place: one to six small letters -/
def Place (s : Str) : Prop := 1 ≤ s.length ∧ s.length ≤ 6 ∧ ∀ c ∈ s.cps.toList, SignOk c
instance (c : Nat) : Decidable (SignOk c) := by unfold SignOk; infer_instance
instance (s : Str) : Decidable (Place s) := by unfold Place; infer_instance
def cL (s : Str) : List Nat := s.cps.toList
theorem cL_len (s : Str) : s.length = (cL s).length := by simp [cL, Str.length]
theorem cL_ext {a b : Str} (h : cL a = cL b) : a = b := ext_toList h
theorem cL_mk (l : List Nat) : cL ⟨l.toArray⟩ = l := rfl
theorem cL_one (c : Nat) : cL ⟨#[c]⟩ = [c] := rfl
theorem cL_app (a b : Str) : cL (a ++ b) = cL a ++ cL b := by
  show (a ++ b).cps.toList = _
  rw [Str.cps_append, Array.toList_append]
  rfl
theorem place_iff {s : Str} : Place s ↔ 1 ≤ (cL s).length ∧ (cL s).length ≤ 6 ∧ ∀ c ∈ cL s, SignOk c := by
  unfold Place
  rw [cL_len]
  exact Iff.rfl

theorem nodup_len {α : Type} [DecidableEq α] : ∀ (l D : List α), l.Nodup → (∀ x ∈ l, x ∈ D) → l.length ≤ D.length
  | [], D, _, _ => Nat.zero_le _
  | x :: r, D, nd, h => by
    have hx : x ∈ D := h x (List.mem_cons_self ..)
    have ih := nodup_len r (D.erase x) (List.nodup_cons.mp nd).2 (fun y hy => by
      have hne : y ≠ x := fun e => (List.nodup_cons.mp nd).1 (e ▸ hy)
      exact (List.mem_erase_of_ne hne).mpr (h y (List.mem_cons_of_mem _ hy)))
    rw [List.length_erase_of_mem hx] at ih
    have h0 : 0 < D.length := List.length_pos_of_mem hx
    show r.length + 1 ≤ D.length
    omega

/-- the signs of texts put together without anything between -/
theorem join_cL : ∀ ys : List Str, cL (Str.join ⟨#[]⟩ ys) = (ys.map cL).flatten
  | [] => rfl
  | [x] => by show cL x = cL x ++ []; rw [List.append_nil]
  | x :: y :: r => by
    show cL (x ++ ⟨#[]⟩ ++ Str.join ⟨#[]⟩ (y :: r)) = cL x ++ (List.map cL (y :: r)).flatten
    rw [cL_app, cL_app, join_cL (y :: r)]
    show cL x ++ [] ++ _ = _
    rw [List.append_nil]
theorem join_ones : ∀ cs : List Nat, cL (Txt.join ⟨#[]⟩ (cs.map fun c => (⟨#[c]⟩ : Str))) = cs := by
  intro cs
  rw [TL.join_eq, join_cL, List.map_map]
  induction cs with
  | nil => rfl
  | cons c r ih =>
    show [c] ++ _ = c :: r
    rw [ih]
    rfl
theorem place_join {cs : List Nat} (h1 : 1 ≤ cs.length) (h6 : cs.length ≤ 6) (h : ∀ c ∈ cs, SignOk c) : Place (Txt.join ⟨#[]⟩ (cs.map fun c => (⟨#[c]⟩ : Str))) := by
  rw [place_iff, join_ones]
  exact ⟨h1, h6, h⟩
/-- the first five signs -/
theorem cut5 (z : Str) : cL (cutS z none (some 5)) = (cL z).take 5 := by
  unfold cutS
  rw [cL_mk]
  have e1 : HT.sIx z.length 0 none = 0 := HT.sIx_none _ _
  have e2 : HT.sIx z.length z.length (some 5) = min 5 z.length := HT.sIx_nat z.length _ 5
  rw [e1, e2, List.drop_zero, Nat.sub_zero, cL_len]
  show List.take (min 5 (cL z).length) (cL z) = _
  by_cases h : 5 ≤ (cL z).length
  · rw [Nat.min_eq_left h]
  · rw [Nat.min_eq_right (by omega), List.take_length, List.take_of_length_le (by omega)]
/-- another name: the first five signs and one more -/
def other (z : Str) (c : Nat) : Str := cutS z none (some 5) ++ ⟨#[c]⟩
theorem other_cL (z : Str) (c : Nat) : cL (other z c) = (cL z).take 5 ++ [c] := by
  unfold other
  rw [cL_app, cut5]
  rfl
theorem other_inj (z : Str) {c d : Nat} (h : other z c = other z d) : c = d := by
  have e := congrArg cL h
  rw [other_cL, other_cL] at e
  exact List.cons.inj (List.append_cancel_left e) |>.1
theorem other_place {z : Str} (h : Place z) {c : Nat} (hc : SignOk c) : Place (other z c) := by
  rw [place_iff] at h ⊢
  rw [other_cL]
  refine ⟨by rw [List.length_append]; simp, by rw [List.length_append, List.length_take]; simp; omega, fun x hx => ?_⟩
  rcases List.mem_append.mp hx with hx | hx
  · exact h.2.2 x (List.mem_of_mem_take hx)
  · rw [List.mem_singleton.mp hx]
    exact hc
def abc : List Nat := (List.range 26).map (97 + ·)
theorem abc_nodup : abc.Nodup := by decide
theorem abc_ok : ∀ c ∈ abc, SignOk c := by decide
theorem other_left (z : Str) {D : List Str} (h : D.length < 26) : ∃ c ∈ abc, other z c ∉ D := by
  by_cases hx : ∃ c ∈ abc, other z c ∉ D
  · exact hx
  · exfalso
    have h1 : ∀ x ∈ abc.map (other z), x ∈ D := fun x hm => by
      obtain ⟨c, hc, rfl⟩ := List.mem_map.mp hm
      by_cases q : other z c ∈ D
      · exact q
      · exact (hx ⟨c, hc, q⟩).elim
    have nd : (abc.map (other z)).Nodup := by
      rw [List.nodup_iff_pairwise_ne, List.pairwise_map]
      exact (List.nodup_iff_pairwise_ne.mp abc_nodup).imp fun hne e => hne (other_inj z e)
    have := nodup_len _ D nd h1
    rw [List.length_map] at this
    have e : abc.length = 26 := rfl
    omega
/-- rising texts -/
def Lts (a b : Str) : Prop := cL a < cL b
theorem rising_pw : ∀ (p : Str) (l : List Str), risingS p l = true → (∀ x ∈ l, cL p ≤ cL x) ∧ l.Pairwise (fun a b => cL a ≤ cL b)
  | p, [], _ => ⟨fun _ h => by simp at h, List.Pairwise.nil⟩
  | p, x :: r, h => by
    have h' : (!ltCps x.cps.toList p.cps.toList && risingS x r) = true := h
    rw [Bool.and_eq_true, Bool.not_eq_true', ltCps_eq, decide_eq_false_iff_not] at h'
    obtain ⟨i1, i2⟩ := rising_pw x r h'.2
    have hp : cL p ≤ cL x := List.not_lt.mp h'.1
    refine ⟨fun y hy => ?_, List.Pairwise.cons i1 i2⟩
    rcases List.mem_cons.mp hy with rfl | hy
    · exact hp
    · exact List.le_trans hp (i1 y hy)
theorem sortedS_pw {l : List Str} (h : sortedS l = true) : l.Pairwise (fun a b => cL a ≤ cL b) := by
  cases l with
  | nil => exact List.Pairwise.nil
  | cons x r =>
    obtain ⟨i1, i2⟩ := rising_pw x r h
    exact List.Pairwise.cons i1 i2
theorem sortedS_lt {l : List Str} (h : sortedS l = true) (nd : l.Nodup) : l.Pairwise Lts := by
  have a := sortedS_pw h
  have b := List.nodup_iff_pairwise_ne.mp nd
  refine (a.and b).imp fun {x y} q => ?_
  have : ¬ cL y < cL x := List.not_lt.mpr q.1
  rcases Decidable.em (cL x < cL y) with w | w
  · exact w
  · exact absurd (cL_ext (List.le_antisymm q.1 (List.not_lt.mp w))) q.2
/-- the places of a law's input: rising, each once -/
structure Names (l : List Str) : Prop where
  pl : ∀ s ∈ l, Place s
  up : l.Pairwise Lts

def Go (d : Addr) (H H' : Hp) : Prop := ∀ a o, a ≠ d → H a = some o → H' a = some o
theorem Go.refl (d : Addr) (H : Hp) : Go d H H := fun _ _ _ h => h
theorem Go.trans {d : Addr} {H H1 H2 : Hp} (x : Go d H H1) (y : Go d H1 H2) : Go d H H2 := fun a o n h => y a o n (x a o n h)
theorem Go.bt {d : Addr} {H H1 H2 : Hp} (x : Go d H H1) (y : Bt d H1 H2) : Go d H H2 := fun a o n h => (y a n).trans (x a o n h)
theorem Bt.go {d : Addr} {H H1 : Hp} (y : Bt d H H1) : Go d H H1 := fun a o n h => (y a n).trans h
/-- a place that stood free at the beginning may be written -/
theorem Go.put {d p : Addr} {H H1 : Hp} {o : HO} (x : Go d H H1) (h : H p = none) : Go d H (upd H1 p o) := fun a u n e => by
  rw [upd_ne (ne_of_none e h)]
  exact x a u n e
theorem Go.new {d p : Addr} {H H1 : Hp} {o : HO} (x : Go d H H1) (hd : ∃ u, H1 d = some u) (h : H1 p = none) : Go d H (upd H1 p o) := fun a u n e => by
  rw [upd_ne (ne_of_none (x a u n e) h)]
  exact x a u n e
theorem Go.rd {d : Addr} {H H' : Hp} {a : Addr} {u : HO} (b : Go d H H') (n : a ≠ d) (h : Rd H a u) : Rd H' a u := by
  rcases h with h | ⟨o, h⟩
  · exact .inl (b _ _ n h)
  · exact .inr ⟨o, b _ _ n h⟩
theorem Go.seqL {K : PySem.W.Frag} {d : Addr} {H H' : Hp} {a : Addr} {xs : List V} (b : Go d H H') (n : a ≠ d) (h : SqL K H a xs) : SqL K H' a xs := by
  rcases h with h | h
  · exact .inl (b.rd n h)
  · exact .inr h
theorem Go.seqT {K : PySem.W.Frag} {d : Addr} {H H' : Hp} {a : Addr} {xs : List V} (b : Go d H H') (n : a ≠ d) (h : SqT K H a xs) : SqT K H' a xs := by
  rcases h with h | h
  · exact .inl (b.rd n h)
  · exact .inr h
theorem Go.ex {d : Addr} {H H' : Hp} (g : Go d H H') (h : H d = none) : Evl.Ex H H' := fun a o e => g a o (ne_of_none e h) e
theorem Drw.ex {H H' : Hp} {d : Addr} {n : Nat} (h : Drw H d n) (e : Evl.Ex H H') : Drw H' d n := by
  obtain ⟨a, b, c, h, r⟩ := h
  exact ⟨a, b, c, e _ _ h, r⟩
theorem Drw.some {H : Hp} {d : Addr} {n : Nat} (h : Drw H d n) : ∃ o, H d = some o := by
  obtain ⟨a, b, c, h, _⟩ := h
  exact ⟨_, h⟩
theorem Drw.put {H : Hp} {d p : Addr} {n : Nat} {o : HO} (h : Drw H d n) (ne : d ≠ p) : Drw (upd H p o) d n := by
  obtain ⟨a, b, c, h, r⟩ := h
  exact ⟨a, b, c, by rw [upd_ne ne]; exact h, r⟩
theorem Drw.new {H : Hp} {d p : Addr} {n : Nat} {o : HO} (h : Drw H d n) (hp : H p = none) : Drw (upd H p o) d n := by
  obtain ⟨u, hu⟩ := h.some
  exact h.put (ne_of_none hu hp)
theorem Drw.le {H : Hp} {d : Addr} {n m : Nat} (h : Drw H d n) (hm : n ≤ m) : Drw H d m := by
  obtain ⟨a, b, c, h, a0, c0, cn⟩ := h
  exact ⟨a, b, c, h, a0, c0, by omega⟩
theorem Go.back {H H1 : Hp} {d C : Addr} {n : Nat} (g : Go d H H1) (hd : Drw H1 d n) (h : H1 C = none) : H C = none := by
  cases q : H C with
  | none => rfl
  | some u =>
    have cd : C ≠ d := fun e => by
      obtain ⟨u, hu⟩ := hd.some
      rw [e, hu] at h
      cases h
    rw [g C u cd q] at h
    cases h
theorem Drw.ne {H : Hp} {d p : Addr} {n : Nat} (h : Drw H d n) (hp : H p = none) : p ≠ d := by
  obtain ⟨u, hu⟩ := h.some
  exact fun e => by rw [e, hu] at hp; cases hp
end Fk
namespace Fk
open PySem PySem.Spec PyProof.Rows L2
section
variable {X : Cx}
def rAddT : R2 := fun x y H Q => ∃ i j, x = .str i ∧ y = .str j ∧ i.length + j.length ≤ sizeLine ∧ Q (.str (i ++ j)) H
theorem kAddS : OpR X (binaryOp .Add) rAddT := op_add_str
def rLeT : R2 := fun x y H Q => ∃ i j, x = .str i ∧ y = .str j ∧ Q (.bl (!decide (j.cps.toList < i.cps.toList))) H
theorem kLeS : OpR X (compareOp .LtE) rLeT := op_le_str
def rLtT : R2 := fun x y H Q => ∃ i j, x = .str i ∧ y = .str j ∧ Q (.bl (decide (i.cps.toList < j.cps.toList))) H
theorem kLtS : OpR X (compareOp .Lt) rLtT := op_lt_str
def rInSg : R2 := fun x y H Q => ∃ (c : Nat) (z : Str), x = .str ⟨#[c]⟩ ∧ y = .str z ∧ Q (.bl (decide (c ∈ z.cps.toList))) H
theorem kInS : OpR X (compareOp .In) rInSg := op_in_sign
def rNotInSg : R2 := fun x y H Q => ∃ (c : Nat) (z : Str), x = .str ⟨#[c]⟩ ∧ y = .str z ∧ Q (.bl (!decide (c ∈ z.cps.toList))) H
theorem kNotInS : OpR X (compareOp .NotIn) rNotInSg := op_notIn_sign
def rMaxT : List V → Hp → VK → Prop := fun xs H Q => ∃ i j, xs = [.int i, .int j] ∧ Q (.int (if j > i then j else i)) H
theorem kmax2 (hc : X.calm = true) : CallR X (.builtin "max") rMaxT := call_max2 hc
def rStrI : List V → Hp → VK → Prop := fun xs H Q => ∃ i : Int, xs = [.int i] ∧ i.natAbs.log2 < 1920 ∧ Q (.str (toString i)) H
theorem kstrI : CallR X (.type "str") rStrI := call_str_int
end
section
variable {X : Cx} (K : PySem.W.Frag)
theorem kixL (h : X.K = K := by rfl) : IxR X (rIxL K) := by subst h; exact ix_list
theorem kixT (h : X.K = K := by rfl) : IxR X (rIxT K) := by subst h; exact ix_tup
theorem kix (h : X.K = K := by rfl) : IxR X (rIx K) := by subst h; exact ix_seq
theorem kIn (h : X.K = K := by rfl) : OpR X (compareOp .In) (rIn K false) := by subst h; exact op_in_seq
theorem kNotIn (h : X.K = K := by rfl) : OpR X (compareOp .NotIn) (rIn K true) := by subst h; exact op_notIn_seq
theorem kEq (hu : X.A.units + 64 < cLine) (h : X.K = K := by rfl) : OpR X (compareOp .Eq) (rEqD K) := by subst h; exact op_eqD hu
theorem kNe (hu : X.A.units + 64 < cLine) (h : X.K = K := by rfl) : OpR X (compareOp .NotEq) (rNeD K) := by subst h; exact op_neD hu
theorem kslL (h : X.K = K := by rfl) : SlR X (rSlL K) := by subst h; exact sl_list
theorem kslT (h : X.K = K := by rfl) : SlR X (rSlA K) := by subst h; exact sl_tupA
theorem kcatT (h : X.K = K := by rfl) : OpR X (binaryOp .Add) (rCatA K) := by subst h; exact op_catA
def rLen (K : PySem.W.Frag) : List V → Hp → VK → Prop := fun xs H Q => ∃ x n, xs = [x] ∧ LenV K x H n ∧ Q (.int (n : Nat)) H
theorem klen (h : X.K = K := by rfl) : CallR X (.builtin "len") (rLen K) := by subst h; exact call_len
theorem kisi (h : X.K = K := by rfl) : CallR X (.builtin "isinstance") (rIsi K) := by subst h; exact call_isi
theorem kisiT (h : X.K = K := by rfl) : CallR X (.builtin "isinstance") (rIsiT K) := by subst h; exact call_isiT
theorem ksortedS (h : X.K = K := by rfl) : CallR X (.builtin "sorted") (rSortedS K) := by subst h; exact cr_sortedS
def rListOf (K : PySem.W.Frag) : List V → Hp → VK → Prop := fun xs H Q => ∃ p ys, xs = [.ref p] ∧ (SqL K H p ys ∨ SqT K H p ys) ∧ ∀ l, H l = none → Q (.ref l) (upd H l (.lst ys))
theorem klist (h : X.K = K := by rfl) : CallR X (.type "list") (rListOf K) := by subst h; exact call_list_of
theorem kall (hc : X.calm = true) (h : X.K = K := by rfl) : CallR X (.builtin "all") (rAll K) := by subst h; exact cr_all hc
def rJoin (K : PySem.W.Frag) : V → List V → Hp → VK → Prop := fun x xs H Q => ∃ a p, ∃ ys : List Str, x = .str a ∧ xs = [.ref p] ∧ (SqL K H p (ys.map V.str) ∨ SqT K H p (ys.map V.str)) ∧
  (ys.map (·.length)).sum + ys.length * a.length ≤ 16777216 ∧ Q (.str (Txt.join a ys)) H
variable {o e : Expr} {to te : TE} {ta : TA} {tg : Expr}
theorem kjoin {apos pos : Pos} (ho : PE X o to) (he : PE X e te) (hs : starEach [e] X.env = [(false, eval e X.env)] := by rfl) (hbase : attributeBase o "join" X.env (eval o X.env) = eval o X.env := by rfl) (hline : (apos.endLine == pos.line) = true := by rfl) (h : X.K = K := by rfl) :
    PE X (.Call (.Attribute o "join" apos) [e] [] pos) (tM1 (rJoin K) to te) := by subst h; exact pe_join ho he hs hbase hline
theorem klistI (he : PE X e te) (h : X.K = K := by rfl) : PI X tg e (iList K te) := by subst h; exact pi_list he
theorem ktupI (he : PE X e te) (h : X.K = K := by rfl) : PI X tg e (iTup K te) := by subst h; exact pi_tup he
theorem kenumI {e : Expr} {p pos tpos : Pos} {elts : List Expr} {kk : Nat} (hg : Gl X "enumerate") (hm : X.mg "enumerate" = none) (ha : PA X [e] ta) (hs : starEach [e] X.env = [(false, eval e X.env)] := by rfl) (h : X.K = K := by rfl) :
    PI X (.Tuple elts kk tpos) (.Call (.Name "enumerate" p) [e] [] pos) (iEnum K ta) := by subst h; exact pi_enum hg hm ha hs
theorem kzipI {e e2 : Expr} {p pos tpos : Pos} {elts : List Expr} {kk : Nat} (hg : Gl X "zip") (hm : X.mg "zip" = none) (ha : PA X [e, e2] ta)
    (hs : starEach [e, e2] X.env = (false, eval e X.env) :: starEach [e2] X.env := by rfl) (hpl : (backTo pos (starEach [e2] X.env)).any (·.1) = false := by rfl) (h : X.K = K := by rfl) :
    PI X (.Tuple elts kk tpos) (.Call (.Name "zip" p) [e, e2] [] pos) (iZip K ta) := by subst h; exact pi_zip hg hm ha hs hpl
theorem ktup {es : List Expr} {k : Nat} {t : TGs} {n : Nat} {pos : Pos} (hc : X.calm = true) (ht : PGs X es t)
    (hn : (assignEach es X.env).length = n := by rfl) (hst : (assignEach es X.env).findIdx? (·.1) = none := by rfl) (h : X.K = K := by rfl) : PG X (.Tuple es k pos) (gTup K n t) := by subst h; exact pg_tup hc ht hn hst
def tTruth (K : PySem.W.Frag) (te : TE) : TT := fun σ H Q => te σ H fun x H1 => ∃ k, TruV K x H1 k ∧ Q k H1
theorem ktruth {a : Expr} {te : TE} (ha : PE X a te) (he : ∀ whole, isTrue a X.env whole = (do let v ← whole; standAt a.pos; holding [v] (truthy v))) (h : X.K = K := by rfl) : PT X a (tTruth K te) := by subst h; exact pt_truth ha he
variable {name : Str} {id : String} {r : V → List V → Hp → VK → Prop} {es : List Expr}
theorem kapp {apos cpos : Pos} (ho : PE X o to) (ha : PA X (e :: es) ta)
    (hbase : attributeBase o "append" X.env (eval o X.env) = eval o X.env := by rfl)
    (hfew : ((backTo cpos (starEach (e :: es) X.env)).all (fun x => !x.1) && (backToKw cpos (keywordEach [] X.env)).all (fun x => x.1.isSome)
      && decide ((e :: es).length + ([] : List Keyword).length + (if ([] : List Keyword).isEmpty then 0 else 1) < 30)) = true := by rfl)
    (hline : (apos.endLine == cpos.line) = true := by rfl) (hs : starEach (e :: es) X.env = (false, eval e X.env) :: starEach es X.env := by rfl) (hplain : (backTo cpos (starEach es X.env)).any (·.1) = false := by rfl) (h : X.K = K := by rfl) :
    PE X (.Call (.Attribute o "append" apos) (e :: es) [] cpos) (tBM K "list" rAppend to ta) := by
  subst h
  exact pe_bm PySem.F.plainAttrs_list PySem.F.slot_list_append PySem.F.type_list_append mt_append ho ha hbase hfew hline hs hplain
end
end Fk
namespace Fk
open PySem PySem.Spec PyProof.Rows L2
section
variable {σ : L2.St} {H : Hp} {Q : VK} {K : PySem.W.Frag} {D : Ends} {ta : TA} {te tl : TE} {tu : TS} {j : Nat} {g : TG} {tt : TT} {vs : List Nat}
/-- what a for asks of the walked thing -/
def ForGo (g : TG) (tu : TS) (D : Ends) (σ : L2.St) (J : It) (H1 : Hp) : Prop := ∃ W : Nat → Nat → L2.St → Hp → Prop, (∃ m, W 0 m σ H1) ∧ ∀ i m σ H, W i m σ H →
  (J.stop i H ∧ D.nx σ H) ∨ (J.go i H ∧ ∃ N : L2.St → Hp → Prop, (∀ σ' H', N σ' H' → ∃ m', m' < m ∧ W (i + 1) m' σ' H') ∧ ∀ x H', J.yld i H x H' → g x σ H' fun σ2 H2 => tu { D with nx := N, ct := N, bk := D.nx } σ2 H2)
/-- what a comprehension asks -/
def LcGo (g : TG) (tt : TT) (te : TE) (vs : List Nat) (σ : L2.St) (Q : VK) (J : It) (H1 : Hp) : Prop := ∀ C, H1 C = none → ∃ W : Nat → Nat → Hp → Prop, (∃ m, W 0 m (upd H1 C (.lst []))) ∧ ∀ i m H, W i m H →
  (J.stop i H ∧ Q (.ref C) H) ∨ (J.go i H ∧ ∃ Nx : Hp → Prop, (∀ H', Nx H' → ∃ m', m' < m ∧ W (i + 1) m' H') ∧ ∀ x H', J.yld i H x H' → g x (wipe σ vs) H' fun σ2 H2 => wipe σ2 vs = wipe σ vs ∧ tt σ2 H2 fun b H3 =>
    if b = true then te σ2 H3 fun y H4 => ∃ acc, H4 C = some (.lst acc) ∧ acc.length < sizeLine ∧ Nx (upd H4 C (.lst (acc ++ [y]))) else Nx H3)
theorem w_for {wi : TI} (h : wi σ H fun J H1 => ForGo g tu D σ J H1) : tFor wi g tu D σ H := h
theorem w_lc {wi : TI} (h : wi σ H fun J H1 => LcGo g tt te vs σ Q J H1) : tLc wi g tt te vs σ H Q := h
theorem w_yes {QB : Bool → Hp → Prop} (h : QB true H) : tYes σ H QB := h
variable {R : It → Hp → Prop}
theorem w_iR1 (h : ta σ H fun us H1 => ∃ j : Int, us = [.int j] ∧ -(2 ^ 62) ≤ j ∧ j < 2 ^ 62 ∧ R (Itr 0 j.toNat) H1) : iRng1 ta σ H R := h
theorem w_iL (h : tl σ H fun x H1 => ∃ a, x = .ref a ∧ (∃ xs, SqL K H1 a xs) ∧ R (Itl K a) H1) : iList K tl σ H R := h
theorem w_iT (h : tl σ H fun x H1 => ∃ a, x = .ref a ∧ (∃ xs, SqT K H1 a xs) ∧ R (Itt K a) H1) : iTup K tl σ H R := h
theorem w_iE (h : ta σ H fun us H1 => ∃ a xs, us = [.ref a] ∧ SqL K H1 a xs ∧ R (Ite K a) H1) : iEnum K ta σ H R := h
theorem w_iZ (h : ta σ H fun us H1 => ∃ a b xs ys, us = [.ref a, .ref b] ∧ SqL K H1 a xs ∧ SqL K H1 b ys ∧ R (Itz K a b) H1) : iZip K ta σ H R := h
theorem w_iS (h : tl σ H fun x H1 => ∃ z, x = .str z ∧ R (Its z) H1) : iStr tl σ H R := h
theorem w_r1 {m : Nat} (hm : m ≤ 100000) (q : R (Itr 0 m) H) : ∃ j : Int, ([.int (m : Int)] : List V) = [.int j] ∧ -(2 ^ 62) ≤ j ∧ j < 2 ^ 62 ∧ R (Itr 0 j.toNat) H :=
  ⟨(m : Int), rfl, by omega, by omega, by rw [Int.toNat_natCast]; exact q⟩
theorem w_l1 {a : Addr} {xs : List V} (h : SqL K H a xs) (q : R (Itl K a) H) : ∃ b, V.ref a = .ref b ∧ (∃ xs, SqL K H b xs) ∧ R (Itl K b) H := ⟨a, rfl, ⟨xs, h⟩, q⟩
theorem w_t1 {a : Addr} {xs : List V} (h : SqT K H a xs) (q : R (Itt K a) H) : ∃ b, V.ref a = .ref b ∧ (∃ xs, SqT K H b xs) ∧ R (Itt K b) H := ⟨a, rfl, ⟨xs, h⟩, q⟩
theorem w_e1 {a : Addr} {xs : List V} (h : SqL K H a xs) (q : R (Ite K a) H) : ∃ b xs, ([.ref a] : List V) = [.ref b] ∧ SqL K H b xs ∧ R (Ite K b) H := ⟨a, xs, rfl, h, q⟩
theorem w_z1 {a b : Addr} {xs ys : List V} (h : SqL K H a xs) (h2 : SqL K H b ys) (q : R (Itz K a b) H) : ∃ c d xs ys, ([.ref a, .ref b] : List V) = [.ref c, .ref d] ∧ SqL K H c xs ∧ SqL K H d ys ∧ R (Itz K c d) H := ⟨a, b, xs, ys, rfl, h, h2, q⟩
theorem w_s1 {z : Str} (q : R (Its z) H) : ∃ y, V.str z = .str y ∧ R (Its y) H := ⟨z, rfl, q⟩

theorem forR {m : Nat} (Pv : Nat → L2.St → Hp → Prop) (h0 : Pv 0 σ H) (hs : ∀ i σ' H', i < m → Pv i σ' H' → g (.int (i : Int)) σ' H' fun σ2 H2 => tu { D with nx := Pv (i + 1), ct := Pv (i + 1), bk := D.nx } σ2 H2) (hd : ∀ σ' H', Pv m σ' H' → D.nx σ' H') : ForGo g tu D σ (Itr 0 m) H :=
  for_range (lo := 0) (n := m) Pv h0 (fun i σ' H' hi p => by
    have e0 : (0 : Int) + (i : Int) = (i : Int) := Int.zero_add _
    show g (.int ((0 : Int) + (i : Int))) σ' H' _
    rw [e0]
    exact hs i σ' H' hi p) hd
theorem forL {a : Addr} {xs : List V} (Pv : Nat → L2.St → Hp → Prop) (h0 : Pv 0 σ H) (hl : ∀ i σ' H', i ≤ xs.length → Pv i σ' H' → SqL K H' a xs)
    (hs : ∀ i x σ' H', xs[i]? = some x → Pv i σ' H' → g x σ' H' fun σ2 H2 => tu { D with nx := Pv (i + 1), ct := Pv (i + 1), bk := D.nx } σ2 H2) (hd : ∀ σ' H', Pv xs.length σ' H' → D.nx σ' H') : ForGo g tu D σ (Itl K a) H := for_list Pv h0 hl hs hd
theorem forT {a : Addr} {xs : List V} (Pv : Nat → L2.St → Hp → Prop) (h0 : Pv 0 σ H) (hl : ∀ i σ' H', i ≤ xs.length → Pv i σ' H' → SqT K H' a xs)
    (hs : ∀ i x σ' H', xs[i]? = some x → Pv i σ' H' → g x σ' H' fun σ2 H2 => tu { D with nx := Pv (i + 1), ct := Pv (i + 1), bk := D.nx } σ2 H2) (hd : ∀ σ' H', Pv xs.length σ' H' → D.nx σ' H') : ForGo g tu D σ (Itt K a) H := for_tup Pv h0 hl hs hd
/-- for i, x in enumerate(a list): a new pair each turn -/
theorem forE {a : Addr} {xs : List V} (Pv : Nat → L2.St → Hp → Prop) (h0 : Pv 0 σ H) (hl : ∀ i σ' H', i ≤ xs.length → Pv i σ' H' → SqL K H' a xs)
    (hs : ∀ i x T σ' H', xs[i]? = some x → Pv i σ' H' → H' T = none → g (.ref T) σ' (upd H' T (.tup [.int (i : Nat), x])) fun σ2 H2 => tu { D with nx := Pv (i + 1), ct := Pv (i + 1), bk := D.nx } σ2 H2) (hd : ∀ σ' H', Pv xs.length σ' H' → D.nx σ' H') : ForGo g tu D σ (Ite K a) H :=
  for_it (walk_enum (xs := xs)) Pv h0 hl (fun i x σ' H1 H2 hi p y => by
    obtain ⟨T, x1, x2, rfl, hT, rfl, e1, e2⟩ := y
    cases e1
    exact hs i x2 T σ' H1 e2 p hT) hd
/-- one turn: the new item x stands at the names, the list so far at C -/
def LcTurn (g : TG) (tt : TT) (te : TE) (vs : List Nat) (σ : L2.St) (C : Addr) (x : V) (H' : Hp) (Nx : Hp → Prop) : Prop := g x (wipe σ vs) H' fun σ2 H2 => wipe σ2 vs = wipe σ vs ∧ tt σ2 H2 fun b H3 =>
  if b = true then te σ2 H3 fun y H4 => ∃ acc, H4 C = some (.lst acc) ∧ acc.length < sizeLine ∧ Nx (upd H4 C (.lst (acc ++ [y]))) else Nx H3
theorem lcR {m : Nat} (Pv : Addr → Nat → Hp → Prop) (h0 : ∀ C, H C = none → Pv C 0 (upd H C (.lst []))) (hs : ∀ C i H', H C = none → i < m → Pv C i H' → LcTurn g tt te vs σ C (.int (i : Int)) H' (Pv C (i + 1))) (hd : ∀ C H', H C = none → Pv C m H' → Q (.ref C) H') : LcGo g tt te vs σ Q (Itr 0 m) H := fun C hC =>
  lc_it walk_range (Pv C) (h0 C hC) (fun _ _ _ _ => trivial) (fun i x H1 H2 hi p y => by
    obtain ⟨rfl, rfl⟩ := y
    have e0 : (0 : Int) + (i : Int) = (i : Int) := Int.zero_add _
    have q := hs C i H2 hC hi p
    show LcTurn g tt te vs σ C (.int ((0 : Int) + (i : Int))) H2 (Pv C (i + 1))
    rw [e0]
    exact q) (fun H' p => hd C H' hC p)
theorem lcL {a : Addr} {xs : List V} (Pv : Addr → Nat → Hp → Prop) (h0 : ∀ C, H C = none → Pv C 0 (upd H C (.lst []))) (hl : ∀ C i H', H C = none → i ≤ xs.length → Pv C i H' → SqL K H' a xs)
    (hs : ∀ C i x H', H C = none → xs[i]? = some x → Pv C i H' → LcTurn g tt te vs σ C x H' (Pv C (i + 1))) (hd : ∀ C H', H C = none → Pv C xs.length H' → Q (.ref C) H') : LcGo g tt te vs σ Q (Itl K a) H := fun C hC =>
  lc_it (walk_list (xs := xs)) (Pv C) (h0 C hC) (fun i H' hi p => hl C i H' hC hi p) (fun i x H1 H2 hi p y => by
    obtain ⟨rfl, e⟩ := y
    exact hs C i x H2 hC e p) (fun H' p => hd C H' hC p)
theorem lcT {a : Addr} {xs : List V} (Pv : Addr → Nat → Hp → Prop) (h0 : ∀ C, H C = none → Pv C 0 (upd H C (.lst []))) (hl : ∀ C i H', H C = none → i ≤ xs.length → Pv C i H' → SqT K H' a xs)
    (hs : ∀ C i x H', H C = none → xs[i]? = some x → Pv C i H' → LcTurn g tt te vs σ C x H' (Pv C (i + 1))) (hd : ∀ C H', H C = none → Pv C xs.length H' → Q (.ref C) H') : LcGo g tt te vs σ Q (Itt K a) H := fun C hC =>
  lc_it (walk_tup (xs := xs)) (Pv C) (h0 C hC) (fun i H' hi p => hl C i H' hC hi p) (fun i x H1 H2 hi p y => by
    obtain ⟨rfl, e⟩ := y
    exact hs C i x H2 hC e p) (fun H' p => hd C H' hC p)
theorem lcS {z : Str} (Pv : Addr → Nat → Hp → Prop) (h0 : ∀ C, H C = none → Pv C 0 (upd H C (.lst [])))
    (hs : ∀ C i c H', H C = none → (cL z)[i]? = some c → Pv C i H' → LcTurn g tt te vs σ C (.str ⟨#[c]⟩) H' (Pv C (i + 1))) (hd : ∀ C H', H C = none → Pv C (cL z).length H' → Q (.ref C) H') : LcGo g tt te vs σ Q (Its z) H := fun C hC =>
  lc_it walk_str (Pv C) (h0 C hC) (fun _ _ _ _ => trivial) (fun i x H1 H2 hi p y => by
    obtain ⟨rfl, c, e, rfl⟩ := y
    exact hs C i c H2 hC (by show z.cps.toList[i]? = some c; rw [Array.getElem?_toList]; exact e) p) (fun H' p => hd C H' hC (by rw [← cL_len]; exact p))
theorem w_turn {n : Nat} {x : V} {C : Addr} {H' : Hp} {Nx : Hp → Prop} (hw : wipe ((wipe σ vs).set n (some x)) vs = wipe σ vs) (h : tt ((wipe σ vs).set n (some x)) H' fun b H3 =>
    if b = true then te ((wipe σ vs).set n (some x)) H3 fun y H4 => ∃ acc, H4 C = some (.lst acc) ∧ acc.length < sizeLine ∧ Nx (upd H4 C (.lst (acc ++ [y]))) else Nx H3) : LcTurn (gName n) tt te vs σ C x H' Nx := ⟨hw, h⟩
end
end Fk
namespace Fk
open PySem L2
/-- H' is H with a new object o at p -/
structure New (H : Hp) (p : Addr) (o : HO) (H' : Hp) : Prop where
  free : H p = none
  here : H' p = some o
  ne : ∀ a, a ≠ p → H' a = H a
theorem New.of {H H' : Hp} {p : Addr} {o : HO} (h : H p = none) (e : upd H p o = H') : New H p o H' := by
  subst e
  exact ⟨h, upd_same, fun a n => upd_ne n⟩
/-- H' is H, at p another object -/
structure Put (H : Hp) (p : Addr) (o : HO) (H' : Hp) : Prop where
  here : H' p = some o
  ne : ∀ a, a ≠ p → H' a = H a
theorem Put.of {H H' : Hp} {p : Addr} {o : HO} (e : upd H p o = H') : Put H p o H' := by
  subst e
  exact ⟨upd_same, fun a n => upd_ne n⟩
section
variable {H H1 H2 : Hp} {p d a : Addr} {o u : HO} {n : Nat}
theorem New.keep (N : New H p o H1) (h : H a = some u) : H1 a = some u := (N.ne a (ne_of_none h N.free)).trans h
theorem New.ex (N : New H p o H1) : Evl.Ex H H1 := fun _ _ h => N.keep h
theorem New.go (N : New H p o H1) (g : Go d H2 H) : Go d H2 H1 := fun a u ne h => N.keep (g a u ne h)
theorem New.go1 (N : New H p o H1) : Go d H H1 := N.go (Go.refl d H)
theorem New.drw (N : New H p o H1) (h : Drw H d n) : Drw H1 d n := by
  obtain ⟨x, y, z, h, r⟩ := h
  exact ⟨x, y, z, N.keep h, r⟩
theorem New.apart (N : New H p o H1) (h : H a = some u) : a ≠ p := ne_of_none h N.free
theorem New.back (N : New H p o H1) (h : H1 a = none) : H a = none := by
  cases e : H a with
  | none => rfl
  | some u => rw [N.keep e] at h; cases h
theorem Put.keep (N : Put H p o H1) (h : H a = some u) (ne : a ≠ p) : H1 a = some u := (N.ne a ne).trans h
theorem Put.go (N : Put H p o H1) (g : Go d H2 H) (h : H2 p = none) : Go d H2 H1 := fun a u ne e => N.keep (g a u ne e) (ne_of_none e h)
theorem Put.drw (N : Put H p o H1) (h : Drw H d n) (ne : d ≠ p) : Drw H1 d n := by
  obtain ⟨x, y, z, h, r⟩ := h
  exact ⟨x, y, z, N.keep h ne, r⟩
theorem Put.same (N : Put H p o H1) : Bt p H H1 := N.ne
theorem Bt.keep {H H1 : Hp} (b : Bt d H H1) (h : H a = some u) (ne : a ≠ d) : H1 a = some u := (b a ne).trans h
theorem Bt.free {H H1 : Hp} (b : Bt d H H1) (h : H1 a = none) (ne : a ≠ d) : H a = none := (b a ne).symm.trans h
end
end Fk
namespace Fk
open PySem L2
/-- the things of which one is picked: a list, a tuple, or the signs of a text -/
inductive Lot (K : PySem.W.Frag) (H : Hp) : V → Nat → (Nat → V → Prop) → Prop where
  | lst {a : Addr} {xs : List V} (h : SqL K H a xs) : Lot K H (.ref a) xs.length fun i v => xs[i]? = some v
  | tup {a : Addr} {xs : List V} (h : SqT K H a xs) : Lot K H (.ref a) xs.length fun i v => xs[i]? = some v
  | str {z : Str} (h : z.length ≤ sizeLine) : Lot K H (.str z) z.length fun i v => ∃ c, z.cps.toList[i]? = some c ∧ v = .str ⟨#[c]⟩
theorem Lot.len {K : PySem.W.Frag} {H : Hp} {x : V} {m : Nat} {R : Nat → V → Prop} (h : Lot K H x m R) : LenV K x H m := by
  cases h with
  | lst h => exact .inl ⟨_, h, rfl⟩
  | tup h => exact .inr ⟨_, h, rfl⟩
  | str h => exact ⟨h, rfl⟩
def spPick (K : PySem.W.Frag) : Sp := fun vs H Q _ => ∃ (d : Addr) (n : Nat) (x : V) (m : Nat), vs = [.ref d, x] ∧ Drw H d n ∧ n ≤ 100000 ∧ (∃ R, Lot K H x m R ∧ x ≠ .ref d ∧
  0 < m ∧ m < 1073741824 ∧ ∀ (i : Nat) (v : V) (H' : Hp), i < m → R i v → Bt d H H' → Drw H' d (n + 1) → Q v H')
def spBegun : Sp := fun vs H Q _ => ∃ (x m : Int), vs = [.int x, .int m] ∧ ∀ (d : Addr) (H' : Hp), H d = none → Bt d H H' → Drw H' d 0 → Q (.ref d) H'
section
variable {K : PySem.W.Frag} {H : Hp} {Q : VK} {E : XK} {d p : Addr} {n : Nat} {xs : List V}
theorem pick_l (hd : Drw H d n) (hn : n ≤ 100000) (hq : SqL K H p xs) (ne : p ≠ d) (m0 : 0 < xs.length) (m1 : xs.length ≤ 100000)
    (q : ∀ v H', v ∈ xs → Bt d H H' → Drw H' d (n + 1) → Q v H') : spPick K ([.ref d, .ref p] ++ []) H Q E :=
  ⟨d, n, .ref p, xs.length, rfl, hd, hn, _, Lot.lst hq, fun e => ne (by cases e; rfl), m0, by omega, fun i v H' _ hv bt hd' => q v H' (List.mem_of_getElem? hv) bt hd'⟩
theorem pick_t (hd : Drw H d n) (hn : n ≤ 100000) (hq : SqT K H p xs) (ne : p ≠ d) (m0 : 0 < xs.length) (m1 : xs.length ≤ 100000)
    (q : ∀ v H', v ∈ xs → Bt d H H' → Drw H' d (n + 1) → Q v H') : spPick K ([.ref d, .ref p] ++ []) H Q E :=
  ⟨d, n, .ref p, xs.length, rfl, hd, hn, _, Lot.tup hq, fun e => ne (by cases e; rfl), m0, by omega, fun i v H' _ hv bt hd' => q v H' (List.mem_of_getElem? hv) bt hd'⟩
theorem pick_s {z : Str} (hd : Drw H d n) (hn : n ≤ 100000) (m0 : 0 < (cL z).length) (m1 : (cL z).length ≤ 100000)
    (q : ∀ c H', c ∈ cL z → Bt d H H' → Drw H' d (n + 1) → Q (.str ⟨#[c]⟩) H') : spPick K ([.ref d, .str z] ++ []) H Q E :=
  ⟨d, n, .str z, z.length, rfl, hd, hn, _, Lot.str (by rw [cL_len]; exact small m1), (fun e => nomatch e), by rw [cL_len]; exact m0, by rw [cL_len]; omega, fun i v H' _ ⟨c, hv, e⟩ bt hd' => by
    subst e
    exact q c H' (List.mem_of_getElem? hv) bt hd'⟩
theorem next_i {m : Int} (hd : Drw H d n) (hn : n ≤ 100000) (m0 : 0 < m) (m1 : m < 1073741824)
    (q : ∀ (r : Int) H', 0 ≤ r → r < m → Bt d H H' → Drw H' d (n + 1) → Q (.int r) H') : spNext ([.ref d, .int m] ++ []) H Q E := ⟨d, n, m, rfl, hd, hn, m0, m1, q⟩
end
end Fk
namespace Fk
open PySem PySem.Spec PyProof.Rows L2
theorem inV_str (z : Str) : ∀ l : List Str, inV (.str z) (l.map V.str) = decide (z ∈ l)
  | [] => by simp [inV]
  | x :: r => by
    have ih := inV_str z r
    unfold inV at ih ⊢
    rw [List.map_cons, List.any_cons, ih]
    show ((x == z) || decide (z ∈ r)) = decide (z ∈ x :: r)
    rw [Bool.eq_iff_iff]
    simp only [Bool.or_eq_true, beq_iff_eq, decide_eq_true_eq, List.mem_cons]
    exact or_congr_left ⟨fun h => h.symm, fun h => h.symm⟩
theorem flat_str (l : List Str) : (l.map V.str).all flatV = true := by
  rw [List.all_map, List.all_eq_true]
  intro x _
  rfl
section
variable {K : PySem.W.Frag} {H : Hp} {Q : VK} {p : Addr} {z : Str} {l : List Str}
theorem w_inS (h : SqL K H p (l.map V.str)) (q : Q (.bl (decide (z ∈ l))) H) : rIn K false (.str z) (.ref p) H Q :=
  ⟨p, _, rfl, .inl h, rfl, flat_str l, by
    show Q (.bl (inV (.str z) (l.map V.str))) H
    rw [inV_str]
    exact q⟩
theorem w_ninS (h : SqL K H p (l.map V.str)) (q : Q (.bl (!decide (z ∈ l))) H) : rIn K true (.str z) (.ref p) H Q :=
  ⟨p, _, rfl, .inl h, rfl, flat_str l, by
    show Q (.bl (!inV (.str z) (l.map V.str))) H
    rw [inV_str]
    exact q⟩
theorem w_addS {i j : Str} (hz : i.length + j.length ≤ sizeLine) (q : Q (.str (i ++ j)) H) : rAddT (.str i) (.str j) H Q := ⟨i, j, rfl, rfl, hz, q⟩
theorem cut5_len (z : Str) : (cutS z none (some 5)).length ≤ 5 := by
  rw [cL_len, cut5, List.length_take]
  exact Nat.min_le_left _ _
theorem ones_sum : ∀ cs : List Nat, ((cs.map fun c => (⟨#[c]⟩ : Str)).map (·.length)).sum = cs.length
  | [] => rfl
  | c :: r => by
    rw [List.map_cons, List.map_cons, List.sum_cons, ones_sum r, List.length_cons]
    show 1 + r.length = r.length + 1
    omega
/-- the names that are left, of those with one sign exchanged -/
def left (z : Str) (l : List Str) (cs : List Nat) : List Nat := cs.filter fun c => !decide (other z c ∈ l)
theorem left_take {z : Str} {l : List Str} {cs : List Nat} {i c : Nat} (h : cs[i]? = some c) : left z l (cs.take (i + 1)) = if other z c ∈ l then left z l (cs.take i) else left z l (cs.take i) ++ [c] := by
  unfold left
  rw [List.take_add_one, h, List.filter_append]
  by_cases q : other z c ∈ l
  · rw [if_pos q]
    simp [q]
  · rw [if_neg q]
    simp [q]
theorem left_ne {z : Str} {l : List Str} (h : l.length < 26) : ∃ c r, left z l abc = c :: r ∧ SignOk c ∧ other z c ∉ l := by
  obtain ⟨c, hc, hn⟩ := other_left z h
  have hm : c ∈ left z l abc := List.mem_filter.mpr ⟨hc, by simp [hn]⟩
  cases e : left z l abc with
  | nil => rw [e] at hm; cases hm
  | cons x r =>
    have hx : x ∈ left z l abc := by rw [e]; exact List.mem_cons_self ..
    obtain ⟨h1, h2⟩ := List.mem_filter.mp hx
    exact ⟨x, r, rfl, abc_ok x h1, by simpa using h2⟩
end
end Fk
namespace Fk
open PySem PySem.Spec PyProof.Rows L2
section
variable {K : PySem.W.Frag} {H : Hp} {Q : VK} {p a b : Addr} {xs ys : List V} {lo hi : Option Int}
theorem w_slL (h : SqL K H a xs) (q : ∀ p, H p = none → Q (.ref p) (upd H p (.lst (cutV xs lo hi)))) : rSlL K (.ref a) lo hi H Q := ⟨a, xs, rfl, h, q⟩
theorem w_cat (h : H a = some (.lst xs)) (h2 : H b = some (.lst ys)) (hz : xs.length + ys.length ≤ 100000) (q : ∀ p, H p = none → Q (.ref p) (upd H p (.lst (xs ++ ys)))) : rCat (.ref a) (.ref b) H Q := ⟨a, b, xs, ys, rfl, rfl, h, h2, small hz, q⟩
theorem w_len {x : V} {n : Nat} (h : LenV K x H n) (q : Q (.int (n : Nat)) H) : rLen K [x] H Q := ⟨x, n, rfl, h, q⟩
theorem cut_from {i : Nat} : cutV xs (some ((i : Int) + 1)) none = xs.drop (i + 1) := by
  have e : ((i : Int) + 1) = ((i + 1 : Nat) : Int) := by omega
  rw [e]
  unfold cutV
  rw [HT.sIx_nat, HT.sIx_none]
  by_cases h : i + 1 ≤ xs.length
  · rw [Nat.min_eq_left h, List.take_of_length_le (by rw [List.length_drop]; omega)]
  · rw [Nat.min_eq_right (by omega), List.drop_of_length_le (Nat.le_refl _), List.drop_of_length_le (by omega)]
    simp
theorem Names.lt {l : List Str} (h : Names l) {i j : Nat} {s t : Str} (hi : l[i]? = some s) (hj : l[j]? = some t) (ij : i < j) : Lts s t := by
  obtain ⟨h1, e1⟩ := List.getElem?_eq_some_iff.mp hi
  obtain ⟨h2, e2⟩ := List.getElem?_eq_some_iff.mp hj
  rw [← e1, ← e2]
  exact List.pairwise_iff_getElem.mp h.up i j h1 h2 ij
end
end Fk
namespace Fk
open PySem PySem.Spec PyProof.Rows L2
theorem cut_one {xs : List V} : cutV xs (some 1) none = xs.drop 1 := cut_from (i := 0)
end Fk
namespace Fk
open PySem PySem.Spec PySem.Calls PySem.W PyProof.Rows PyProof.V
/-- how a walk of two lists side by side stands after n turns -/
structure ZAt (z TI TO i1 i2 l1 l2 S : Addr) (xs ys : Array Value) (n : Nat) (h : Heap) : Prop where
  ti : IsPair h TI (.ref i1) (.ref i2)
  a1 : h.IsListIter i1 l1 n
  a2 : h.IsListIter i2 l2 n
  b1 : h.IsList l1 xs
  b2 : h.IsList l2 ys
  st : (IsZip h z TI TO .none ∧ ∃ a b, IsPair h TO a b) ∨ ∃ T f oT, IsZipHeld h z TI TO T f ∧ h.get? T = some oT ∧ T ≠ z ∧ T ≠ i1 ∧ T ≠ i2 ∧ T ≠ S
section
variable {z TI TO i1 i2 l1 l2 S : Addr} {xs ys : Array Value} {n : Nat} {h h' : Heap}
theorem ZAt.frame (st : ZAt z TI TO i1 i2 l1 l2 S xs ys n h) (k : ∀ b o, b ≠ S → h.get? b = some o → h'.get? b = some o) (d : S ∉ [z, TI, TO, i1, i2, l1, l2]) : ZAt z TI TO i1 i2 l1 l2 S xs ys n h' := by
  simp only [List.mem_cons, List.not_mem_nil, or_false, not_or] at d
  obtain ⟨d1, d2, d3, d4, d5, d6, d7⟩ := d
  refine ⟨k _ _ (Ne.symm d2) st.ti, st.a1.at fun o e => k _ o (Ne.symm d4) e, st.a2.at fun o e => k _ o (Ne.symm d5) e, st.b1.at fun o e => k _ o (Ne.symm d6) e, st.b2.at fun o e => k _ o (Ne.symm d7) e, ?_⟩
  rcases st.st with ⟨e, a, b, q⟩ | ⟨T, f, oT, e, q, r1, r2, r3, r4⟩
  · exact .inl ⟨k _ _ (Ne.symm d1) e, a, b, k _ _ (Ne.symm d3) q⟩
  · exact .inr ⟨T, f, oT, k _ _ (Ne.symm d1) e, k _ _ r4 q, r1, r2, r3, r4⟩
end
section
variable {prog : Program} {w : World} {A : Around} {E : Value → Shared → Prop} {s : Shared}
theorem zat_item {z TI TO i1 i2 l1 l2 S : Addr} {xs ys : Array Value} {n : Nat} {Q : Option Value → Shared → Prop} (D : ZipApart z TI TO i1 i2 l1 l2) (st : ZAt z TI TO i1 i2 l1 l2 S xs ys n s.heap) (hS : S < s.heap.objs.size) (hx : n < xs.size) (hy : n < ys.size)
    (q : ∀ h', ZAt z TI TO i1 i2 l1 l2 S xs ys (n + 1) h' → IsPair h' s.heap.objs.size xs[n] ys[n] → h'.objs.size = s.heap.objs.size + 1 → (∀ b o, b ∉ [z, TO, i1, i2] → s.heap.get? b = some o → h'.get? b = some o) → Q (some (.ref s.heap.objs.size)) { s with heap := h' }) :
    wpAny (model prog w) A (pyNext (.ref z)) Q E s := by
  have ex := Array.getElem?_eq_getElem hx
  have ey := Array.getElem?_eq_getElem hy
  have lt : ∀ {c o}, s.heap.get? c = some o → s.heap.objs.size ≠ c := fun e => Nat.ne_of_gt (Heap.lt_size e)
  have m1 : s.heap.objs.size ≠ i1 := let ⟨_, e, _⟩ := st.a1; lt e
  have m2 : s.heap.objs.size ≠ i2 := let ⟨_, e, _⟩ := st.a2; lt e
  have out : ∀ {b c : Addr}, b ∉ [z, TO, i1, i2] → b ≠ z ∧ b ≠ TO ∧ b ≠ i1 ∧ b ≠ i2 := fun hb => by
    simpa only [List.mem_cons, List.not_mem_nil, or_false, not_or] using hb
  rcases st.st with ⟨e, a, b, hTO⟩ | ⟨T, f, oT, e, hT, r1, r2, r3, r4⟩
  · refine wpAny_pyNext_zip_item D e st.ti hTO st.a1 st.a2 st.b1 st.b2 ex ey fun g c1 c2 c3 c4 c5 c6 k => q g ?_ c5 c6 ?_
    · exact ⟨k _ _ D.TIz D.TITO D.TIi1 D.TIi2 st.ti, c3, c4, st.b1.at fun o y => k _ o D.l1z D.l1TO D.l1i1 D.l1i2 y, st.b2.at fun o y => k _ o D.l2z D.l2TO D.l2i1 D.l2i2 y, .inr ⟨_, false, _, c1, c5, lt e, m1, m2, Nat.ne_of_gt hS⟩⟩
    · intro b o hb y
      obtain ⟨x1, x2, x3, x4⟩ := out (c := 0) hb
      exact k b o x1 x2 x3 x4 y
  · refine wpAny_pyNext_zip_item_held D e hT st.ti st.a1 st.a2 st.b1 st.b2 ex ey fun g c1 c3 c4 c5 c6 k => q g ?_ c5 c6 ?_
    · exact ⟨k _ _ D.TIz D.TIi1 D.TIi2 st.ti, c3, c4, st.b1.at fun o y => k _ o D.l1z D.l1i1 D.l1i2 y, st.b2.at fun o y => k _ o D.l2z D.l2i1 D.l2i2 y, .inr ⟨T, true, oT, c1, k _ _ r1 r2 r3 hT, r1, r2, r3, r4⟩⟩
    · intro b o hb y
      obtain ⟨x1, x2, x3, x4⟩ := out (c := 0) hb
      exact k b o x1 x3 x4 y
theorem zat_done {z TI TO i1 i2 l1 l2 S : Addr} {xs ys : Array Value} {n : Nat} {Q : Option Value → Shared → Prop} (hh : A.handled = none) (D : ZipApart z TI TO i1 i2 l1 l2) (st : ZAt z TI TO i1 i2 l1 l2 S xs ys n s.heap) (hn : min xs.size ys.size ≤ n)
    (q : ∀ h', (∀ b o, b ∉ [z, TO, i1, i2] → s.heap.get? b = some o → h'.get? b = some o) → Q none { s with heap := h' }) :
    wpAny (model prog w) A (pyNext (.ref z)) Q E s := by
  have out : ∀ {b : Addr}, b ∉ [z, TO, i1, i2] → b ≠ z ∧ b ≠ TO ∧ b ≠ i1 ∧ b ≠ i2 := fun hb => by
    simpa only [List.mem_cons, List.not_mem_nil, or_false, not_or] using hb
  have no : xs[n]? = none ∨ ys[n]? = none := by
    rcases Nat.le_total xs.size ys.size with y | y
    · left
      rw [Nat.min_eq_left y] at hn
      exact Array.getElem?_eq_none hn
    · right
      rw [Nat.min_eq_right y] at hn
      exact Array.getElem?_eq_none hn
  rcases st.st with ⟨e, a, b, hTO⟩ | ⟨T, f, oT, e, hT, r1, r2, r3, r4⟩
  · refine wpAny_pyNext_zip_end hh D e st.ti hTO st.a1 st.a2 st.b1 st.b2 no fun g k => q g fun b o hb y => ?_
    obtain ⟨x1, x2, x3, x4⟩ := out hb
    exact k b o x1 x2 x3 x4 y
  · refine wpAny_pyNext_zip_end_held hh D e hT st.ti st.a1 st.a2 st.b1 st.b2 no fun g k => q g fun b o hb y => ?_
    obtain ⟨x1, x2, x3, x4⟩ := out hb
    exact k b o x1 x3 x4 y
end
/-- the pairs gathered, at rising addresses above S -/
structure ZG (xs ys : Array Value) (S : Addr) (h : Heap) (as : List Addr) : Prop where
  up : as.Pairwise (· < ·)
  low : ∀ a ∈ as, S < a
  at_ : ∀ (j : Nat) (a : Addr), as[j]? = some a → ∃ x y, xs[j]? = some x ∧ ys[j]? = some y ∧ IsPair h a x y
theorem ZG.there {xs ys : Array Value} {S : Addr} {h : Heap} {as : List Addr} (g : ZG xs ys S h as) {a : Addr} (ha : a ∈ as) : a < h.objs.size := by
  obtain ⟨j, hj⟩ := List.mem_iff_getElem?.mp ha
  obtain ⟨_, _, _, _, e⟩ := g.at_ j a hj
  exact Heap.lt_size e
section
variable {prog : Program} {w : World} {A : Around} {s : Shared} {R : Result → Shared → Prop}
theorem zip_loop {z TI TO i1 i2 l1 l2 S : Addr} {xs ys : Array Value} (hh : A.handled = none) (D : ZipApart z TI TO i1 i2 l1 l2) (dS : S ∉ [z, TI, TO, i1, i2, l1, l2]) (hb : ∀ b ∈ [z, TO, i1, i2], b < S) (hn : xs.size ≤ sizeLine) (res : Value) {h₁ : Heap}
    (hR : ∀ h' tk acc c as, (∀ b o, b ≠ S → b ∉ [z, TO, i1, i2] → h₁.get? b = some o → h'.get? b = some o) → h'.get? S = some { cls := .type "list", dict := none, data := .seq acc c, slots := #[] } →
      as.length = min xs.size ys.size → ZG xs ys S h' as → acc.toList = as.map Value.ref → R (.ok (.ret res)) { s with heap := h', toks := tk }) :
    ∀ (k i : Nat) (h : Heap) (tk c : Nat) (acc : Array Value) (as : List Addr), min xs.size ys.size - i = k → i ≤ min xs.size ys.size → ZAt z TI TO i1 i2 l1 l2 S xs ys i h → (∀ b o, b ≠ S → b ∉ [z, TO, i1, i2] → h₁.get? b = some o → h.get? b = some o) →
      h.get? S = some { cls := .type "list", dict := none, data := .seq acc c, slots := #[] } → acc.toList = as.map Value.ref → as.length = i → ZG xs ys S h as →
      codeAny (model prog w) A (.builtin "list.extend.loop" ⟨[.ref S, .ref z, res], []⟩) R { s with heap := h, toks := tk } := by
  have hSw : S ∉ [z, TO, i1, i2] := fun hm => Nat.lt_irrefl _ (hb _ hm)
  intro k
  induction k with
  | zero =>
    intro i h tk c acc as hk hi st kp hS ha hl G
    refine codeAny_builtin PySem.F.entry_extend_loop ?_
    rw [Around.under_plainId PySem.F.plain_extend_loop _]
    show wpAny _ A.in1 (pyNext (.ref z) >>= _) _ _ _
    refine wpAny_bind (zat_done (s := { s with heap := h, toks := tk }) (A := A.in1) hh D st (by omega) fun g e => ?_)
    refine wpAny_pure (hR g tk acc c as (fun b o y1 y2 y => e b o y2 (kp b o y1 y2 y)) (e S _ hSw hS) (by omega) ⟨G.up, G.low, fun j a hj => ?_⟩ ha)
    obtain ⟨x, y, e1, e2, e3⟩ := G.at_ j a hj
    exact ⟨x, y, e1, e2, e a _ (fun hm => Nat.lt_irrefl _ (Nat.lt_trans (G.low a (List.mem_of_getElem? hj)) (hb a hm))) e3⟩
  | succ k ih =>
    intro i h tk c acc as hk hi st kp hS ha hl G
    have hlt : i < min xs.size ys.size := by omega
    have sz : acc.size = i := by rw [← Array.length_toList, ha, List.length_map, hl]
    have hx : i < xs.size := by omega
    have hy : i < ys.size := by omega
    refine codeAny_builtin PySem.F.entry_extend_loop ?_
    rw [Around.under_plainId PySem.F.plain_extend_loop _]
    show wpAny _ A.in1 (pyNext (.ref z) >>= _) _ _ _
    refine wpAny_bind (zat_item (s := { s with heap := h, toks := tk }) (S := S) D st (Heap.lt_size hS) hx hy fun g st' ht hz k1 => ?_)
    dsimp only at ht hz k1 ⊢
    have hS' := k1 S _ hSw hS
    have hSl : S < h.objs.size := Heap.lt_size hS
    have up : ∀ b o, b ≠ S → g.get? b = some o → (g.update S (Obj.mapSeq (·.push (Value.ref h.objs.size)))).get? b = some o := fun b o n e => (Heap.get?_update_other _ _ (Ne.symm n)).trans e
    show wpAny _ A.in1 (updateSeq S (·.push (Value.ref h.objs.size)) >>= _) _ _ _
    refine wpAny_bind ?_
    refine wpAny_updateSeq hS' rfl (wpAny_pure ⟨plainId_quiet PySem.F.plain_extend_loop _, ih (i + 1) _ tk _ (acc.push (Value.ref h.objs.size)) (as ++ [h.objs.size]) (by omega) hlt (st'.frame up dS)
      (fun b o y1 y2 e => up b o y1 (k1 b o y2 (kp b o y1 y2 e))) (Heap.get?_update_self _ hS' rfl) (by rw [Array.toList_push, ha, List.map_append]; rfl) (by rw [List.length_append, hl]; rfl) ⟨?_, ?_, ?_⟩⟩) (by rw [sz]; omega) (by show (acc.push (Value.ref h.objs.size)).size ≤ sizeLine + 1; rw [Array.size_push, sz]; omega)
    · refine List.pairwise_append.mpr ⟨G.up, List.pairwise_singleton _ _, fun a m b m' => ?_⟩
      rw [List.mem_singleton.mp m']
      exact G.there m
    · intro a m
      rcases List.mem_append.mp m with m | m
      · exact G.low a m
      · rw [List.mem_singleton.mp m]; exact hSl
    · intro j b hj
      rcases Nat.lt_trichotomy j as.length with y | y | y
      · rw [List.getElem?_append_left y] at hj
        obtain ⟨x, x', e1, e2, e3⟩ := G.at_ j b hj
        have lb := G.low b (List.mem_of_getElem? hj)
        exact ⟨x, x', e1, e2, up b _ (Nat.ne_of_gt lb) (k1 b _ (fun m => Nat.lt_irrefl _ (Nat.lt_trans lb (hb b m))) e3)⟩
      · subst y
        have e : h.objs.size = b := by simpa using hj
        subst e
        subst hl
        exact ⟨_, _, Array.getElem?_eq_getElem hx, Array.getElem?_eq_getElem hy, up _ _ (Nat.ne_of_gt hSl) ht⟩
      · have none' : (as ++ [h.objs.size])[j]? = none := List.getElem?_eq_none (by rw [List.length_append, List.length_singleton]; omega)
        rw [none'] at hj; cases hj
end
theorem zip_no_len : typeLookup (.type "zip") "__len__" = pure none := am_miss_of_fast (by decide +kernel)
theorem zip_no_hint : typeLookup (.type "zip") "__length_hint__" = pure none := am_miss_of_fast (by decide +kernel)
section
variable {prog : Program} {w : World} {A : Around} {E : Value → Shared → Prop} {s : Shared}
theorem zip_hint {z : Addr} (hT : s.TypeIs (.ref z) "zip") {Q : Bool → Shared → Prop} (q : Q true s) : wpAny (model prog w) A (Builtin.List.listLengthHint (.ref z)) Q E s := by
  unfold Builtin.List.listLengthHint
  refine wpAny_bind (wpAny_specialOf hT zip_no_len ?_)
  wp_delta
  refine wpAny_ite_split (fun y => absurd y (by decide)) (fun _ => ?_)
  refine wpAny_bind (wpAny_specialOf hT zip_no_hint ?_)
  exact wpAny_pure q
end
end Fk
namespace Fk
open PySem PySem.Spec PySem.Calls PySem.W PyProof.Rows PyProof.V
section
variable {prog : Program} {w : World} {A : Around} {E : Value → Shared → Prop} {s : Shared} {z TI TO i1 i2 l1 l2 S : Addr} {xs ys : Array Value}
theorem zip_extend {R : Result → Shared → Prop} (hh : A.handled = none) (D : ZipApart z TI TO i1 i2 l1 l2) (dS : S ∉ [z, TI, TO, i1, i2, l1, l2]) (hb : ∀ b ∈ [z, TO, i1, i2], b < S) (hn : xs.size ≤ sizeLine) (res : Value) (c₀ : Nat)
    (st : ZAt z TI TO i1 i2 l1 l2 S xs ys 0 s.heap) (zz : IsZip s.heap z TI TO .none) (hS : s.heap.get? S = some { cls := .type "list", data := .seq #[] c₀ })
    (hR : ∀ h' tk acc c as, (∀ b o, b ≠ S → b ∉ [z, TO, i1, i2] → s.heap.get? b = some o → h'.get? b = some o) → h'.get? S = some { cls := .type "list", dict := none, data := .seq acc c, slots := #[] } →
      as.length = min xs.size ys.size → ZG xs ys S h' as → acc.toList = as.map Value.ref → R (.ok (.ret res)) { s with heap := h', toks := tk }) :
    wpAny (model prog w) A.in1 (Builtin.List.listExtendWith (.ref S) (.ref z) res)
      (fun fin s' => match fin with | .done f => R (.ok f) s' | .again c' => c'.quiet = true ∧ codeAny (model prog w) A c' R s') (fun e s' => R (.error e) s') s := by
  have zS : S ≠ z := fun e => dS (by rw [e]; simp)
  obtain ⟨hz, hzt⟩ : ∃ o, s.heap.get? z = some o ∧ o.cls = .type "zip" := by
    rcases st.st with ⟨e, _⟩ | ⟨_, _, _, e, _⟩
    · exact ⟨_, e, rfl⟩
    · exact ⟨_, e, rfl⟩
  have key : ∀ (h : Heap) (c₁ tk : Nat), (∀ b o, b ≠ S → s.heap.get? b = some o → h.get? b = some o) → h.get? S = some { cls := .type "list", data := .seq #[] c₁ } →
      codeAny (model prog w) A (.builtin "list.extend.loop" ⟨[.ref S, .ref z, res], []⟩) R { s with heap := h, toks := tk } := by
    intro h c₁ tk k e
    exact zip_loop (s := s) (h₁ := s.heap) hh D dS hb hn res hR (min xs.size ys.size) 0 h tk c₁ #[] [] (Nat.sub_zero _) (Nat.zero_le _) (st.frame k dS) (fun b o y _ e => k b o y e) e rfl rfl
      ⟨List.Pairwise.nil, (fun _ m => nomatch m), (fun j a m => by simp at m)⟩
  unfold Builtin.List.listExtendWith
  refine wpAny_bind (wpAny_typeOf (T := "zip") ⟨_, hzt⟩ ?_)
  have n1 : Builtin.List.listSameRef (.ref S) (.ref z) = false := by simp [Builtin.List.listSameRef, zS]
  have n2 : (Value.type "zip" == Value.type "list") = false := by decide
  have n3 : (Value.type "zip" == Value.type "tuple") = false := by decide
  simp only [n1, n2, n3, Bool.or_false, Bool.false_eq_true, if_false]
  refine wpAny_bind (wpAny_pyIter_zip zz ?_)
  refine wpAny_bind (wpAny_holding (zip_hint ⟨_, hzt⟩ ?_))
  refine wpAny_ite_split (fun _ => ?_) (fun _ => wpAny_pure ⟨plainId_quiet PySem.F.plain_extend_loop _, key _ c₀ _ (fun b o _ e => e) hS⟩)
  refine wpAny_bind (wpAny_rule ?_)
  refine wpAny_bind ?_
  show wpAny _ _ (updateSeq S (·.push .none) >>= fun _ => updateSeq S (·.pop)) _ _ _
  refine wpAny_bind (wpAny_updateSeq hS rfl ?_)
  have e₂ := Heap.get?_update_self (Obj.mapSeq (·.push Value.none)) hS rfl
  refine wpAny_updateSeq (hz := by seq_fits) e₂ rfl ?_
  have e₃ := Heap.get?_update_self (Obj.mapSeq (·.pop)) e₂ rfl
  refine wpAny_pure ⟨plainId_quiet PySem.F.plain_extend_loop _, key _ _ _ (fun b o n e => ?_) e₃⟩
  exact (Heap.get?_update_other _ _ (Ne.symm n)).trans ((Heap.get?_update_other _ _ (Ne.symm n)).trans e)
theorem zip_init {R : Result → Shared → Prop} (hh : A.handled = none) (D : ZipApart z TI TO i1 i2 l1 l2) (dS : S ∉ [z, TI, TO, i1, i2, l1, l2]) (hb : ∀ b ∈ [z, TO, i1, i2], b < S) (hn : xs.size ≤ sizeLine)
    (st : ZAt z TI TO i1 i2 l1 l2 S xs ys 0 s.heap) (zz : IsZip s.heap z TI TO .none) (hS : s.heap.get? S = some { cls := .type "list", data := .seq #[] })
    (hR : ∀ h' tk acc c as, (∀ b o, b ≠ S → b ∉ [z, TO, i1, i2] → s.heap.get? b = some o → h'.get? b = some o) → h'.get? S = some { cls := .type "list", dict := none, data := .seq acc c, slots := #[] } →
      as.length = min xs.size ys.size → ZG xs ys S h' as → acc.toList = as.map Value.ref → R (.ok (.ret .none)) { s with heap := h', toks := tk }) :
    wpAny (model prog w) A.in1 (Builtin.«list.__init__» ⟨[.ref S, .ref z], []⟩)
      (fun fin s' => match fin with | .done f => R (.ok f) s' | .again c' => c'.quiet = true ∧ codeAny (model prog w) A c' R s') (fun e s' => R (.error e) s') s := by
  show wpAny _ _ (do let old ← Builtin.List.listItems (.ref S); Builtin.List.listUpdate (.ref S) (fun _ => #[]); letGo old.toList.reverse; Builtin.List.listExtendWith (.ref S) (.ref z) .none) _ _ s
  refine wpAny_bind ?_
  unfold Builtin.List.listItems
  refine wpAny_bind (wpAny_seqItems hS rfl (wpAny_pure ?_))
  show wpAny _ _ (updateSeq S (fun _ => #[]) >>= fun _ => letGo (#[] : Array Value).toList.reverse >>= fun _ => Builtin.List.listExtendWith (.ref S) (.ref z) .none) _ _ s
  refine wpAny_bind (wpAny_updateSeq hS rfl ?_)
  have e₂ := Heap.get?_update_self (Obj.mapSeq (fun _ => (#[] : Array Value))) hS rfl
  have oth : ∀ b o, b ≠ S → s.heap.get? b = some o → (s.heap.update S (Obj.mapSeq (fun _ => (#[] : Array Value)))).get? b = some o := fun b o n e => (Heap.get?_update_other _ _ (Ne.symm n)).trans e
  refine wpAny_bind (wpAny_letGo ?_)
  refine zip_extend hh D dS hb hn .none _ (st.frame oth dS) (oth _ _ (fun e => dS (by rw [← e]; simp)) zz) e₂ (fun h' tk acc c as k e l G a => ?_)
  exact hR h' tk acc c as (fun b o y1 y2 e => k b o y1 y2 (oth b o y1 e)) e l G a
theorem zip_list {Q : Value → Shared → Prop} (hh : A.handled = none) (D : ZipApart z TI TO i1 i2 l1 l2) (dS : ∀ b ∈ [z, TI, TO, i1, i2, l1, l2], b < s.heap.objs.size) (hn : xs.size ≤ sizeLine)
    (st : ∀ S h', (∀ b o, s.heap.get? b = some o → h'.get? b = some o) → ZAt z TI TO i1 i2 l1 l2 S xs ys 0 h') (zz : IsZip s.heap z TI TO .none)
    (q : ∀ h' tk acc c as, (∀ b o, b ∉ [z, TO, i1, i2] → s.heap.get? b = some o → h'.get? b = some o) → h'.get? s.heap.objs.size = some { cls := .type "list", dict := none, data := .seq acc c, slots := #[] } →
      as.length = min xs.size ys.size → ZG xs ys s.heap.objs.size h' as → acc.toList = as.map Value.ref → Q (.ref s.heap.objs.size) { s with heap := h', toks := tk }) :
    wpAny (model prog w) A (call (.type "list") [.ref z]) Q E s := by
  refine callType_codes (Q₁ := fun obj s₁ => obj = .ref s.heap.objs.size ∧ s₁ = { s with heap := s.heap.push { cls := .type "list", data := .seq #[] } }) PySem.F.called_list (PySem.F.typeCall_list_1 _) PySem.F.entry_list_init
    (code_list_new _ ⟨rfl, rfl⟩) fun obj s₁ e => ?_
  obtain ⟨rfl, rfl⟩ := e
  have hS : (s.heap.push { cls := .type "list", data := .seq #[] }).get? s.heap.objs.size = some { cls := .type "list", data := .seq #[] } := Heap.get?_push_size _ rfl
  refine ⟨⟨_, hS, rfl⟩, PySem.F.args_list_init_2 _ _, zip_init (A := A.in1) hh D (fun m => Nat.lt_irrefl _ (dS _ m)) (fun b m => dS b ?_) hn (st _ _ fun b o e => Heap.get?_push_of_some _ e) (Heap.get?_push_of_some _ zz) hS (fun h' tk acc c as k e l G a => ?_)⟩
  · simp only [List.mem_cons, List.not_mem_nil, or_false] at m ⊢
    rcases m with m | m | m | m
    · exact .inl m
    · exact .inr (.inr (.inl m))
    · exact .inr (.inr (.inr (.inl m)))
    · exact .inr (.inr (.inr (.inr (.inl m))))
  · exact ⟨rfl, q h' tk acc c as (fun b o n e => k b o (Nat.ne_of_lt (Heap.lt_size e)) n (Heap.get?_push_of_some _ e)) e l G a⟩
end
end Fk
namespace Fk
open PySem PySem.Spec PyProof.Rows L2
/-- the pairs told of at their addresses -/
def putZ : Hp → List Addr → List (V × V) → Hp
  | H, a :: as, p :: ps => putZ (upd H a (.tup [p.1, p.2])) as ps
  | H, [], _ => H
  | H, _ :: _, [] => H
theorem putZ_off {b : Addr} : ∀ (as : List Addr) (ps : List (V × V)) (H : Hp), b ∉ as → putZ H as ps b = H b
  | [], _, _, _ => rfl
  | _ :: _, [], _, _ => rfl
  | a :: as, p :: ps, H, n => by
    have n1 : b ≠ a := fun e => n (by simp [e])
    have n2 : b ∉ as := fun e => n (by simp [e])
    rw [putZ, putZ_off as ps _ n2, upd_ne n1]
theorem putZ_at : ∀ (as : List Addr) (ps : List (V × V)) (H : Hp), as.length = ps.length → as.Nodup → ∀ {j : Nat} {a : Addr}, as[j]? = some a → ∃ p, ps[j]? = some p ∧ putZ H as ps a = some (.tup [p.1, p.2])
  | [], _, _, _, _, j, a, e => by simp at e
  | _ :: _, [], _, l, _, _, _, _ => by simp at l
  | c :: as, p :: ps, H, l, nd, 0, a, e => by
    have q := List.nodup_cons.mp nd
    have e' : c = a := by simpa using e
    subst e'
    exact ⟨p, rfl, by rw [putZ, putZ_off as ps _ q.1, upd_same]⟩
  | c :: as, p :: ps, H, l, nd, j + 1, a, e => by
    have q := List.nodup_cons.mp nd
    obtain ⟨r, r1, r2⟩ := putZ_at as ps (upd H c (.tup [p.1, p.2])) (by simpa using l) q.2 (j := j) (a := a) (by simpa using e)
    exact ⟨r, by simpa using r1, r2⟩
theorem refs_vals : ∀ as : List Addr, Vals (as.map V.ref) (as.map Value.ref)
  | [] => .nil
  | _ :: as => .cons rfl (refs_vals as)
theorem zip_laid {X : Cx} {pins : List (Addr × Obj)} {σ : L2.St} {H : Hp} {s : Shared} {h' : Heap} {tk c : Nat} {acc : Array Value} {as : List Addr} {xs ys : List V} {us ws : List Value} {S : Addr} (I : Inv X pins σ H s) (rx : Vals xs us) (ry : Vals ys ws) (hz : xs.length ≤ sizeLine)
    (hS0 : s.heap.objs.size ≤ S) (k : ∀ b o, s.heap.get? b = some o → h'.get? b = some o) (hS : h'.get? S = some { cls := .type "list", dict := none, data := .seq acc c, slots := #[] }) (hl : as.length = min us.toArray.size ws.toArray.size) (G : ZG us.toArray ws.toArray S h' as) (ha : acc.toList = as.map Value.ref) :
    ∃ H' : Hp, Evl.Ex H H' ∧ H S = none ∧ H' S = some (.lst (as.map V.ref)) ∧ as.length = min xs.length ys.length ∧ (∀ (i : Nat) (t : Addr), as[i]? = some t → ∃ x y, xs[i]? = some x ∧ ys[i]? = some y ∧ H' t = some (.tup [x, y])) ∧ Inv X pins σ H' { s with heap := h', toks := tk } := by
  have lx := rx.length
  have ly := ry.length
  have hl' : as.length = min xs.length ys.length := by rw [hl, lx, ly]; simp
  have hSn : S ∉ as := fun m => Nat.lt_irrefl _ (G.low _ m)
  have nd : as.Nodup := List.Pairwise.imp (fun {a b} (h : a < b) => Nat.ne_of_lt h) G.up
  have new : ∀ t ∈ as, H t = none := fun t m => I.hok.fresh (Nat.le_trans hS0 (Nat.le_of_lt (G.low t m)))
  have newS : H S = none := I.hok.fresh hS0
  have lz : as.length = (xs.zip ys).length := by rw [hl', List.length_zip]
  have off : ∀ b, b ∉ as → b ≠ S → putZ (upd H S (.lst (as.map V.ref))) as (xs.zip ys) b = H b := fun b n1 n2 => by rw [putZ_off as _ _ n1, upd_ne n2]
  have low : ∀ b o, s.heap.get? b = some o → b ∉ as ∧ b ≠ S := fun b o e => ⟨fun m => absurd (Nat.lt_of_lt_of_le (Heap.lt_size e) hS0) (Nat.not_lt.mpr (Nat.le_of_lt (G.low b m))), Nat.ne_of_lt (Nat.lt_of_lt_of_le (Heap.lt_size e) hS0)⟩
  have kp : ∀ b u, H b = some u → putZ (upd H S (.lst (as.map V.ref))) as (xs.zip ys) b = some u := fun b u e => by
    rw [off b (fun m => by rw [new b m] at e; cases e) (fun z => by rw [z, newS] at e; cases e)]
    exact e
  have eS : putZ (upd H S (.lst (as.map V.ref))) as (xs.zip ys) S = some (.lst (as.map V.ref)) := by rw [putZ_off as _ _ hSn, upd_same]
  have at_ : ∀ {j : Nat} {a : Addr}, as[j]? = some a → ∃ x y, xs[j]? = some x ∧ ys[j]? = some y ∧ putZ (upd H S (.lst (as.map V.ref))) as (xs.zip ys) a = some (.tup [x, y]) := fun {j a} e => by
    obtain ⟨p, e1, e2⟩ := putZ_at as (xs.zip ys) (upd H S (.lst (as.map V.ref))) lz nd e
    have e3 := List.getElem?_zip_eq_some.mp e1
    exact ⟨p.1, p.2, e3.1, e3.2, e2⟩
  refine ⟨_, kp, newS, eS, hl', fun i t e => at_ e, ?_⟩
  refine I.call' (ch := []) rfl ⟨fun b o q _ _ _ => k b o q, fun b o q _ _ _ => ⟨o.slots, k b o q⟩, fun b o q n _ => ?_, fun b o q _ => ⟨o, k b o q⟩, fun b _ q => kp b _ q, fun b o u q => kp b _ q, fun b ps q => ⟨#[], by rw [kp b _ q]; simp⟩⟩ (fun b u q => ?_) I.bare fun b z => by simp at z
  · obtain ⟨z1, z2⟩ := low b o q
    rw [off b z1 z2]
    exact n
  · by_cases hb : b ∈ as
    · obtain ⟨j, hj⟩ := List.mem_iff_getElem?.mp hb
      obtain ⟨x, y, e1, e2, e3⟩ := at_ hj
      rw [e3] at q
      cases q
      obtain ⟨u, w', g1, g2, g3⟩ := G.at_ j b hj
      obtain ⟨u', f1, f2⟩ := rx.get e1
      obtain ⟨w'', f3, f4⟩ := ry.get e2
      have i1 : u' = u := by
        have g1' : us[j]? = some u := by simpa using g1
        rw [f1] at g1'; exact Option.some.inj g1'
      have i2 : w'' = w' := by
        have g2' : ws[j]? = some w' := by simpa using g2
        rw [f3] at g2'; exact Option.some.inj g2'
      subst i1
      subst i2
      exact ⟨by show 2 ≤ sizeLine; decide, [u', w''], .cons f2 (.cons f4 .nil), ⟨_, g3, rfl, _, rfl⟩⟩
    · by_cases hb2 : b = S
      · rw [hb2] at q ⊢
        rw [eS] at q
        cases q
        refine ⟨by rw [List.length_map]; omega, acc.toList, c, by rw [ha]; exact refs_vals as, ?_⟩
        rw [Array.toArray_toList]
        exact hS
      · rw [off b hb hb2] at q
        exact (I.hok b u q).stay (fun d v _ y => k d v y) (fun d y => kp d _ y) fun d _ y => kp d _ y
theorem z_lt5 {n a b c : Nat} (ha : a < n) (hb : b < n) (m : c = n + 4 ∨ c = n + 2 ∨ c = n + 3 ∨ c = n ∨ c = n + 1 ∨ c = a ∨ c = b) : c < n + 5 := by omega
theorem z_no5 {n c : Nat} (l : c < n) (m : c = n + 4 ∨ c = n + 3 ∨ c = n ∨ c = n + 1) : False := by omega
theorem z_le5 (n : Nat) : n ≤ n + 5 := by omega
/-- list(zip(xs, ys)): a new list of new pairs -/
def tListZip (K : PySem.W.Frag) (ta : TA) : TE := fun σ H Q => ta σ H fun vs H1 => ∃ a b xs ys, vs = [.ref a, .ref b] ∧ SqL K H1 a xs ∧ SqL K H1 b ys ∧ ∀ (p : Addr) (ts : List Addr) (H2 : Hp), Evl.Ex H1 H2 → H1 p = none → H2 p = some (.lst (ts.map V.ref)) →
  ts.length = min xs.length ys.length → (∀ (i : Nat) (t : Addr), ts[i]? = some t → ∃ x y, xs[i]? = some x ∧ ys[i]? = some y ∧ H2 t = some (.tup [x, y])) → Q (.ref p) H2
theorem w_lz {K : PySem.W.Frag} {ta : TA} {σ : L2.St} {H : Hp} {Q : VK} (h : ta σ H fun vs H1 => ∃ a b xs ys, vs = [.ref a, .ref b] ∧ SqL K H1 a xs ∧ SqL K H1 b ys ∧ ∀ (p : Addr) (ts : List Addr) (H2 : Hp), Evl.Ex H1 H2 → H1 p = none → H2 p = some (.lst (ts.map V.ref)) →
  ts.length = min xs.length ys.length → (∀ (i : Nat) (t : Addr), ts[i]? = some t → ∃ x y, xs[i]? = some x ∧ ys[i]? = some y ∧ H2 t = some (.tup [x, y])) → Q (.ref p) H2) : tListZip K ta σ H Q := h
theorem pe_listZip {X : Cx} (K : PySem.W.Frag) {e e2 : Expr} {ta : TA} {p p2 pos pos2 : Pos} (hc : X.calm = true) (hgl : Gl X "list") (ml : X.mg "list" = none) (hg : Gl X "zip") (hm : X.mg "zip" = none) (ha : PA X [e, e2] ta)
    (hs : starEach [e, e2] X.env = (false, eval e X.env) :: starEach [e2] X.env := by rfl) (hpl : (backTo pos2 (starEach [e2] X.env)).any (·.1) = false := by rfl)
    (hs1 : starEach [.Call (.Name "zip" p2) [e, e2] [] pos2] X.env = (false, eval (.Call (.Name "zip" p2) [e, e2] [] pos2) X.env) :: starEach [] X.env := by rfl) (h : X.K = K := by rfl) :
    PE X (.Call (.Name "list" p) [.Call (.Name "zip" p2) [e, e2] [] pos2] [] pos) (tListZip K ta) := by
  subst h
  refine ⟨fun pins s σ H Q I hq => ?_⟩
  refine Call_ (ld_blt I hgl ml (show bootBuiltins "list" = some (.type "list") by rfl) (PyProof.Rows.callWith_type1 ?_ hs1 rfl))
  rw [hs1]
  show wpAny _ _ (spliced ((false, eval (.Call (.Name "zip" p2) [e, e2] [] pos2) X.env) :: backTo pos (starEach [] X.env))) _ _ s
  refine Calls.spliced_cons ?_
  refine Call_ (ld_blt I hg hm PyProof.Rows.boot_zip (PyProof.Rows.callWith_type1 (thn (ha.run pos2 pins s σ H _ I hq) fun us s1 ⟨vs, H1, I1, r1, q1⟩ => ?_) hs hpl))
  obtain ⟨a, b, xs, ys, ex, sx, sy, q⟩ := q1
  subst ex
  obtain ⟨u, us', e1, r, rr⟩ : ∃ u us', us = u :: us' ∧ RelV (.ref a) u ∧ Vals [.ref b] us' := by
    cases r1 with | cons r rr => exact ⟨_, _, rfl, r, rr⟩
  obtain ⟨u2, e2', r2⟩ : ∃ u2, us' = [u2] ∧ RelV (.ref b) u2 := by
    cases rr with | cons r rr => cases rr; exact ⟨_, rfl, r⟩
  subst e1
  subst e2'
  obtain rfl : u = Value.ref a := r
  obtain rfl : u2 = Value.ref b := r2
  obtain ⟨us, rx, px, zx⟩ := I1.list sx
  obtain ⟨ws, ry, py, zy⟩ := I1.list sy
  have la : a < s1.heap.objs.size := px.lt
  have lb : b < s1.heap.objs.size := py.lt
  refine call_zip_2 px.isList py.isList fun g hz hTI hTO h1 h2 hsz hk => ?_
  refine Calls.spliced_nil ?_
  have D : ZipApart (s1.heap.objs.size + 4) (s1.heap.objs.size + 2) (s1.heap.objs.size + 3) s1.heap.objs.size (s1.heap.objs.size + 1) a b := PySem.W.ktu_apart s1.heap.objs.size a b la lb
  refine zip_list (s := { s1 with heap := g }) (xs := us.toArray) (ys := ws.toArray) (I1.ok.hd hc) D (fun c hm => ?_) (by simpa [← rx.length] using zx) (fun S h' k => ?_) hz fun h' tk acc c as k e l G a' => ?_
  · simp only [List.mem_cons, List.not_mem_nil, or_false] at hm
    show c < g.objs.size
    rw [hsz]
    exact z_lt5 la lb hm
  · exact ⟨k _ _ hTI, h1.at fun o e => k _ o e, h2.at fun o e => k _ o e, px.isList.at fun o e => k _ o (hk _ o e), py.isList.at fun o e => k _ o (hk _ o e), .inl ⟨k _ _ hz, _, _, k _ _ hTO⟩⟩
  · have kk : ∀ b o, s1.heap.get? b = some o → h'.get? b = some o := fun b o y => k b o (fun m => by
      have lt := Heap.lt_size y
      simp only [List.mem_cons, List.not_mem_nil, or_false] at m
      exact z_no5 lt m) (hk b o y)
    obtain ⟨H2, k1, k2, k3, k4, k5, J⟩ := zip_laid (tk := tk) (S := g.objs.size) I1 rx ry zx (by rw [hsz]; exact z_le5 _) kk e l G a'
    exact ⟨.ref g.objs.size, H2, J, rfl, q _ _ _ k1 k2 k3 k4 k5⟩
end Fk
namespace Fk
open PySem PySem.Spec PyProof.Rows L2

/-- a thing: a number, a text, a truth, None, a list, a tuple of things, an empty dict -/
inductive Kd (H : Hp) : V → Prop where
  | non : Kd H .non
  | bl (b : Bool) : Kd H (.bl b)
  | int (i : Int) : Kd H (.int i)
  | str (z : Str) (h : z.length ≤ 100000) (hc : ∀ c ∈ cL z, c < 128) : Kd H (.str z)
  | lst {a : Addr} {xs : List V} (h : H a = some (.lst xs)) : Kd H (.ref a)
  | tup {a : Addr} {xs : List V} (h : H a = some (.tup xs)) (hl : xs.length ≤ 1000) (hx : ∀ x ∈ xs, Kd H x) : Kd H (.ref a)
  | dct {a : Addr} {kvs : List (Key × V)} (h : H a = some (.dK kvs)) : Kd H (.ref a)
/-- the name of its type -/
def tyN (H : Hp) : V → String
  | .non => "NoneType"
  | .bl _ => "bool"
  | .int _ => "int"
  | .str _ => "str"
  | .ref a => match H a with
    | some (.lst _) => "list"
    | some (.tup _) => "tuple"
    | some (.dK _) => "dict"
    | _ => ""
  | _ => ""
theorem tyN_lst {H : Hp} {a : Addr} {xs : List V} (h : H a = some (.lst xs)) : tyN H (.ref a) = "list" := by
  show (match H a with | some (.lst _) => "list" | some (.tup _) => "tuple" | some (.dK _) => "dict" | _ => "") = "list"
  rw [h]
theorem tyN_tup {H : Hp} {a : Addr} {xs : List V} (h : H a = some (.tup xs)) : tyN H (.ref a) = "tuple" := by
  show (match H a with | some (.lst _) => "list" | some (.tup _) => "tuple" | some (.dK _) => "dict" | _ => "") = "tuple"
  rw [h]
theorem tyN_dK {H : Hp} {a : Addr} {kvs : List (Key × V)} (h : H a = some (.dK kvs)) : tyN H (.ref a) = "dict" := by
  show (match H a with | some (.lst _) => "list" | some (.tup _) => "tuple" | some (.dK _) => "dict" | _ => "") = "dict"
  rw [h]
theorem Kd.ty {K : PySem.W.Frag} {H : Hp} {x : V} (h : Kd H x) : TyX K H x (.type (tyN H x)) := by
  cases h with
  | non => exact .base .non
  | bl b => exact .base (.bl b)
  | int i => exact .base (.int i)
  | str z h hc => exact .base (.str z)
  | lst h => rw [tyN_lst h]; exact .base (.lst h)
  | tup h hl hx => rw [tyN_tup h]; exact .base (.tup h)
  | dct h => rw [tyN_dK h]; exact .base (.dK h)
def kinds : List String := ["NoneType", "bool", "int", "str", "list", "tuple", "dict"]
theorem Kd.mem {H : Hp} {x : V} (h : Kd H x) : tyN H x ∈ kinds := by
  cases h with
  | non => exact (by decide : "NoneType" ∈ kinds)
  | bl b => exact (by decide : "bool" ∈ kinds)
  | int i => exact (by decide : "int" ∈ kinds)
  | str z h hc => exact (by decide : "str" ∈ kinds)
  | lst h => rw [tyN_lst h]; exact (by decide : "list" ∈ kinds)
  | tup h hl hx => rw [tyN_tup h]; exact (by decide : "tuple" ∈ kinds)
  | dct h => rw [tyN_dK h]; exact (by decide : "dict" ∈ kinds)
def isB (A B : String) : Bool := A == B || (B == "int" && A == "bool")
theorem kit_all : ∀ A ∈ kinds, ∀ B ∈ ["int", "str", "tuple", "bool", "list"], kitB A B = some (isB A B) := by decide +kernel
section
variable {K : PySem.W.Frag} {H H' : Hp} {x : V} {Q : VK}
theorem w_isi {B : String} (h : Kd H x) (hB : B ∈ ["int", "str", "tuple", "bool", "list"]) (q : Q (.bl (isB (tyN H x) B)) H) : rIsi K [x, .ty B] H Q :=
  ⟨x, .ty B, _, .type B, _, rfl, .ty B, h.ty, kit_ty (kit_all _ h.mem B hB), q⟩
theorem Kd.ex (e : Evl.Ex H H') (h : Kd H x) : Kd H' x := by
  induction h with
  | non => exact .non
  | bl b => exact .bl b
  | int i => exact .int i
  | str z h hc => exact .str z h hc
  | lst h => exact .lst (e _ _ h)
  | tup h hl _ ih => exact .tup (e _ _ h) hl ih
  | dct h => exact .dct (e _ _ h)
theorem Kd.tyN_ex (e : Evl.Ex H H') (h : Kd H x) : tyN H' x = tyN H x := by
  cases h with
  | lst h => rw [tyN_lst h, tyN_lst (e _ _ h)]
  | tup h hl hx => rw [tyN_tup h, tyN_tup (e _ _ h)]
  | dct h => rw [tyN_dK h, tyN_dK (e _ _ h)]
  | _ => rfl
/-- whether a value is a place, a number up to m -/
def plV : V → Bool
  | .str z => decide (Place z)
  | _ => false
def numV (m : Int) : V → Bool
  | .int i => decide (0 ≤ i) && decide (i ≤ m)
  | _ => false
instance ltsDec (a b : Str) : Decidable (Lts a b) := inferInstanceAs (Decidable (cL a < cL b))
def ltV : V → V → Bool
  | .str a, .str b => decide (Lts a b)
  | _, _ => false
def fourV : List V → Bool
  | [c, m, a, b] => numV 1000000 c && numV 1000000 m && (plV a && plV b && ltV a b)
  | _ => false
/-- whether it is a link -/
def linkV (H : Hp) : V → Bool
  | .ref a => match H a with
    | some (.tup xs) => fourV xs
    | _ => false
  | _ => false
theorem linkV_eq (H : Hp) (a : Addr) : linkV H (.ref a) = match H a with | some (.tup xs) => fourV xs | _ => false := rfl
theorem linkV_tup {a : Addr} {xs : List V} (h : H a = some (.tup xs)) : linkV H (.ref a) = fourV xs := by
  rw [linkV_eq, h]
theorem linkV_lst {a : Addr} {xs : List V} (h : H a = some (.lst xs)) : linkV H (.ref a) = false := by
  rw [linkV_eq, h]
theorem linkV_dK {a : Addr} {xs : List (Key × V)} (h : H a = some (.dK xs)) : linkV H (.ref a) = false := by
  rw [linkV_eq, h]
theorem Kd.link_ex (e : Evl.Ex H H') (h : Kd H x) : linkV H' x = linkV H x := by
  cases h with
  | lst h => rw [linkV_lst h, linkV_lst (e _ _ h)]
  | tup h hl hx => rw [linkV_tup h, linkV_tup (e _ _ h)]
  | dct h => rw [linkV_dK h, linkV_dK (e _ _ h)]
  | _ => rfl
theorem Kd.str_of (h : Kd H x) (e : isB (tyN H x) "str" = true) : ∃ z, x = .str z ∧ z.length ≤ 100000 ∧ ∀ c ∈ cL z, c < 128 := by
  cases h with
  | str z hz hc => exact ⟨z, rfl, hz, hc⟩
  | non => exact absurd e (by show ¬ isB "NoneType" "str" = true; decide)
  | bl b => exact absurd e (by show ¬ isB "bool" "str" = true; decide)
  | int i => exact absurd e (by show ¬ isB "int" "str" = true; decide)
  | lst h => rw [tyN_lst h] at e; exact absurd e (by decide)
  | tup h hl hx => rw [tyN_tup h] at e; exact absurd e (by decide)
  | dct h => rw [tyN_dK h] at e; exact absurd e (by decide)
theorem Kd.str_no (h : Kd H x) (e : isB (tyN H x) "str" = false) : plV x = false := by
  cases h with
  | str z hz hc => exact absurd e (by show ¬ isB "str" "str" = false; decide)
  | _ => rfl
theorem Kd.tup_of (h : Kd H x) (e : isB (tyN H x) "tuple" = true) : ∃ a xs, x = .ref a ∧ H a = some (.tup xs) ∧ xs.length ≤ 1000 ∧ ∀ y ∈ xs, Kd H y := by
  cases h with
  | tup h hl hx => exact ⟨_, _, rfl, h, hl, hx⟩
  | non => exact absurd e (by show ¬ isB "NoneType" "tuple" = true; decide)
  | bl b => exact absurd e (by show ¬ isB "bool" "tuple" = true; decide)
  | int i => exact absurd e (by show ¬ isB "int" "tuple" = true; decide)
  | str z h hc => exact absurd e (by show ¬ isB "str" "tuple" = true; decide)
  | lst h => rw [tyN_lst h] at e; exact absurd e (by decide)
  | dct h => rw [tyN_dK h] at e; exact absurd e (by decide)
theorem Kd.tup_no (h : Kd H x) (e : isB (tyN H x) "tuple" = false) : linkV H x = false := by
  cases h with
  | tup h hl hx => rw [tyN_tup h] at e; exact absurd e (by decide)
  | lst h => exact linkV_lst h
  | dct h => exact linkV_dK h
  | _ => rfl
theorem Kd.int_of (h : Kd H x) (e : isB (tyN H x) "int" = true) (e2 : isB (tyN H x) "bool" = false) : ∃ i, x = .int i := by
  cases h with
  | int i => exact ⟨i, rfl⟩
  | non => exact absurd e (by show ¬ isB "NoneType" "int" = true; decide)
  | bl b => exact absurd e2 (by show ¬ isB "bool" "bool" = false; decide)
  | str z h hc => exact absurd e (by show ¬ isB "str" "int" = true; decide)
  | tup h hl hx => rw [tyN_tup h] at e; exact absurd e (by decide)
  | lst h => rw [tyN_lst h] at e; exact absurd e (by decide)
  | dct h => rw [tyN_dK h] at e; exact absurd e (by decide)
theorem Kd.int_no {m : Int} (h : Kd H x) (e : isB (tyN H x) "int" = false) : numV m x = false := by
  cases h with
  | int i => exact absurd e (by show ¬ isB "int" "int" = false; decide)
  | _ => rfl
theorem Kd.bool_no {m : Int} (h : Kd H x) (e : isB (tyN H x) "bool" = true) : numV m x = false := by
  cases h with
  | int i => exact absurd e (by show ¬ isB "int" "bool" = true; decide)
  | _ => rfl
theorem w_leS {i j : Str} (q : Q (.bl (!decide (cL j < cL i))) H) : rLeT (.str i) (.str j) H Q := ⟨i, j, rfl, rfl, q⟩
theorem w_ltS {i j : Str} (q : Q (.bl (decide (cL i < cL j))) H) : rLtT (.str i) (.str j) H Q := ⟨i, j, rfl, rfl, q⟩
theorem w_inSg {c : Nat} {z : Str} (q : Q (.bl (decide (c ∈ cL z))) H) : rInSg (.str ⟨#[c]⟩) (.str z) H Q := ⟨c, z, rfl, rfl, q⟩
theorem w_notInSg {c : Nat} {z : Str} (q : Q (.bl (!decide (c ∈ cL z))) H) : rNotInSg (.str ⟨#[c]⟩) (.str z) H Q := ⟨c, z, rfl, rfl, q⟩
theorem w_all {a : Addr} {bs : List Bool} (h : SqL K H a (bs.map V.bl)) (q : Q (.bl (bs.all id)) H) : rAll K [.ref a] H Q := ⟨a, bs, rfl, h, q⟩
theorem le_a (c : Nat) : (!decide (cL ⟨#[c]⟩ < cL "a")) = decide (97 ≤ c) := by
  have e : cL "a" = [97] := by decide +kernel
  rw [cL_one, e, Bool.eq_iff_iff]
  simp [List.cons_lt_cons_iff]
theorem le_z (c : Nat) : (!decide (cL "z" < cL ⟨#[c]⟩)) = decide (c ≤ 122) := by
  have e : cL "z" = [122] := by decide +kernel
  rw [cL_one, e, Bool.eq_iff_iff]
  simp [List.cons_lt_cons_iff]
def signB (c : Nat) : Bool := decide (97 ≤ c) && decide (c ≤ 122)
theorem all_signs (l : List Nat) : (l.map signB).all id = decide (∀ c ∈ l, SignOk c) := by
  rw [Bool.eq_iff_iff]
  rw [decide_eq_true_eq, List.all_map, List.all_eq_true]
  simp [signB, SignOk]
end
end Fk
namespace Fk
open PySem PySem.Spec PyProof.Rows L2
theorem inV_int (z : Int) : ∀ l : List Int, inV (.int z) (l.map V.int) = decide (z ∈ l)
  | [] => by simp [inV]
  | x :: r => by
    have ih := inV_int z r
    unfold inV at ih ⊢
    rw [List.map_cons, List.any_cons, ih]
    show ((x == z) || decide (z ∈ r)) = decide (z ∈ x :: r)
    rw [Bool.eq_iff_iff]
    simp only [Bool.or_eq_true, beq_iff_eq, decide_eq_true_eq, List.mem_cons]
    exact or_congr_left ⟨fun h => h.symm, fun h => h.symm⟩
theorem flat_int (l : List Int) : (l.map V.int).all flatV = true := by
  rw [List.all_map, List.all_eq_true]
  intro x _
  rfl
theorem abc_iff {c : Nat} : c ∈ abc ↔ SignOk c := by
  constructor
  · exact abc_ok c
  · rintro ⟨h1, h2⟩
    refine List.mem_map.mpr ⟨c - 97, List.mem_range.mpr (by omega), ?_⟩
    show 97 + (c - 97) = c
    omega
section
variable {K : PySem.W.Frag} {H : Hp} {Q : VK} {p : Addr} {z : Int} {ns : List Int}
theorem w_ninI (h : SqL K H p (ns.map V.int) ∨ SqT K H p (ns.map V.int)) (q : Q (.bl (!decide (z ∈ ns))) H) : rIn K true (.int z) (.ref p) H Q :=
  ⟨p, _, rfl, h, rfl, flat_int ns, by
    show Q (.bl (!inV (.int z) (ns.map V.int))) H
    rw [inV_int]
    exact q⟩
theorem w_eqD {x y : V} {d e : PyData} (hx : Dp K H x d) (hy : Dp K H y e) (sd : SeqAt.shaped d = true) (se : SeqAt.shaped e = true) (q : Q (.bl (PyData.eqv d e)) H) : rEqD K x y H Q := ⟨d, e, hx, hy, sd, se, q⟩
theorem w_neD {x y : V} {d e : PyData} (hx : Dp K H x d) (hy : Dp K H y e) (sd : SeqAt.shaped d = true) (se : SeqAt.shaped e = true) (q : Q (.bl (!PyData.eqv d e)) H) : rNeD K x y H Q := ⟨d, e, hx, hy, sd, se, q⟩
theorem dp_strs : ∀ cs : List Nat, DpAll K H (cs.map (V.str ∘ fun c => (⟨#[c]⟩ : Str))) (cs.map fun c => PyData.str ⟨#[c]⟩)
  | [] => .nil
  | c :: r => .cons (.str _) (dp_strs r)
theorem lay_strs : ∀ cs : List Nat, (∀ c ∈ cs, c < 128) → PyData.canLayAll0 (cs.map fun c => PyData.str ⟨#[c]⟩) = true
  | [], _ => rfl
  | c :: r, h => by
    have h1 : c < 128 := h c (List.mem_cons_self ..)
    show (PyData.canLay0 (.str ⟨#[c]⟩) && PyData.canLayAll0 (r.map fun c => PyData.str ⟨#[c]⟩)) = true
    rw [lay_strs r fun d hd => h d (List.mem_cons_of_mem _ hd)]
    have h2 : c < 1114112 := by omega
    simp [PyData.canLay0, PyData.strOk, h2]
theorem depth_strs : ∀ cs : List Nat, PyData.depthAll (cs.map fun c => PyData.str ⟨#[c]⟩) = 0
  | [] => rfl
  | c :: r => by
    show max 0 (PyData.depthAll (r.map fun c => PyData.str ⟨#[c]⟩)) = 0
    rw [depth_strs r]
    rfl
theorem shaped_strs {cs : List Nat} (h : ∀ c ∈ cs, c < 128) : SeqAt.shaped (.list (cs.map fun c => .str ⟨#[c]⟩)) = true := by
  unfold SeqAt.shaped
  rw [Bool.and_eq_true]
  refine ⟨lay_strs cs h, ?_⟩
  show decide (PyData.depthAll (cs.map fun c => PyData.str ⟨#[c]⟩) + 1 ≤ 64) = true
  rw [depth_strs]
  rfl
end
end Fk
namespace Fk
open PySem PySem.Spec PyProof.Rows L2
section
variable {prog : Program} {w : World} {A : Around} {E : Value → Shared → Prop} {s : Shared}
/-- what a slice of step -1 without bounds tells of n items -/
theorem rev_parts {sl : Addr} {v1 v2 v3 : Value} {n : Nat} {R : Int × Int × Nat → Shared → Prop} (hs : s.heap.IsSliceOf sl v1 v2 v3) (p1 : IsPart v1 none) (p2 : IsPart v2 none) (p3 : IsPart v3 (some (-1)))
    (q : R ((n : Int) - 1, -1, n) s) : wpAny (model prog w) A (Builtin.Slice.sliceApplied (.ref sl) (pure (n : Int))) R E s := by
  obtain ⟨ob, h1, h2, h3⟩ := id hs
  unfold Builtin.Slice.sliceApplied Builtin.Slice.sliceFields
  refine wpAny_bind (wpAny_bind (wpAny_field h1 h3 (x := v1) rfl (wpAny_bind (wpAny_field h1 h3 (x := v2) rfl (wpAny_bind (wpAny_field h1 h3 (x := v3) rfl (wpAny_pure ?_)))))))
  refine wpAny_bind (HT.slicePart_ p3 ?_)
  show wpAny _ _ (if ((-1 : Int) == 0) = true then _ else _) _ _ s
  rw [if_neg (show ¬ ((-1 : Int) == 0) = true by decide)]
  refine wpAny_bind (HT.slicePart_ p1 (wpAny_bind (HT.slicePart_ p2 (wpAny_bind (wpAny_pure ?_)))))
  have e1 : Builtin.Slice.sliceAdjust none none (-1) (n : Int) = ((n : Int) - 1, -1) := rfl
  show wpAny _ _ (match Builtin.Slice.sliceAdjust none none (-1) (n : Int) with | (lo, hi) => pure (lo, (-1 : Int), Builtin.Slice.slicePlaces lo hi (-1))) _ _ s
  rw [e1]
  have e2 : Builtin.Slice.slicePlaces ((n : Int) - 1) (-1) (-1) = n := by
    unfold Builtin.Slice.slicePlaces
    rw [if_neg (by decide)]
    by_cases h0 : n = 0
    · subst h0
      rfl
    · rw [if_pos (by omega)]
      show (((n : Int) - 1 - (-1) - 1) / (- -1) + 1).toNat = n
      rw [Int.neg_neg, Int.ediv_one]
      omega
  show wpAny _ _ (pure ((n : Int) - 1, (-1 : Int), Builtin.Slice.slicePlaces ((n : Int) - 1) (-1) (-1))) _ _ s
  rw [e2]
  exact wpAny_pure q
theorem rev_pick (its : Array Value) : ((List.range its.size).filterMap fun (k : Nat) => its[((its.size : Int) - 1 + (k : Int) * (-1)).toNat]?).toArray = its.toList.reverse.toArray := by
  congr 1
  apply List.ext_getElem?
  have g : (List.range its.size).filterMap (fun (k : Nat) => its[((its.size : Int) - 1 + (k : Int) * (-1)).toNat]?) = (List.range its.size).map fun k => its.getD (its.size - 1 - k) .none := by
    have : ∀ l : List Nat, (∀ k ∈ l, k < its.size) → l.filterMap (fun (k : Nat) => its[((its.size : Int) - 1 + (k : Int) * (-1)).toNat]?) = l.map fun k => its.getD (its.size - 1 - k) .none := by
      intro l
      induction l with
      | nil => intro _; rfl
      | cons x r ih =>
        intro h
        have hx := h x (List.mem_cons_self ..)
        have e : ((its.size : Int) - 1 + (x : Int) * (-1)).toNat = its.size - 1 - x := by omega
        rw [List.filterMap_cons, e, List.map_cons, ih fun k hk => h k (List.mem_cons_of_mem _ hk)]
        have hl : its.size - 1 - x < its.size := by omega
        simp [Array.getD, hl]
    exact this _ fun k hk => List.mem_range.mp hk
  rw [g]
  intro i
  by_cases hi : i < its.size
  · rw [List.getElem?_map, List.getElem?_range hi, List.getElem?_reverse (by simpa using hi)]
    have hl : its.size - 1 - i < its.size := by omega
    simp [Array.getD, hl]
  · rw [List.getElem?_eq_none (by simpa using hi), List.getElem?_eq_none (by simpa using hi)]
theorem tup_rev {t sl : Addr} {its : Array Value} {v1 v2 v3 : Value} {R : Value → Shared → Prop} (tp : IsTup s.heap t its) (hs : s.heap.IsSliceOf sl v1 v2 v3) (p1 : IsPart v1 none) (p2 : IsPart v2 none) (p3 : IsPart v3 (some (-1)))
    (q : R (.ref s.heap.objs.size) { s with heap := s.heap.push { cls := .type "tuple", data := .seq its.toList.reverse.toArray } }) (lz : its.size ≤ sizeLine) : wpAny (model prog w) A (getItem (.ref t) (.ref sl)) R E s := by
  have fits : sizeOk (.seq its.toList.reverse.toArray) := by
    show its.toList.reverse.toArray.size ≤ sizeLine
    rw [List.size_toArray, List.length_reverse, Array.length_toList]
    exact lz
  obtain ⟨ob, h1, h2, h3⟩ := id hs
  have tySl : s.TypeIs (.ref sl) "slice" := ⟨ob, h1, h2⟩
  unfold getItem
  try (with_reducible refine wpAny_holding ?_)
  first | (refine wpAny_bind (wpAny_pure ?_)) | skip
  refine wpAny_bind (wpAny_sequenceKey tp.typeIs (by decide) (wpAny_bind (wpAny_callSpecial?_slot (name := Str.ofString "__getitem__") tp.typeIs PyProof.Rows.slot_tuple_getitem
    (wpAny_call_entry PyProof.Rows.slot_tuple_getitem tp.typeIs PyProof.Rows.entry_tuple_getitem ?_ (PyProof.Rows.args_tuple_getitem _ _)))))
  show wpAny _ _ (Builtin.Tuple.tupleItemsOf (.ref t) >>= fun _ => _) _ _ s
  refine wpAny_bind (tupleItemsOf_ tp (wpAny_bind (wpAny_typeOf tySl ?_)))
  rw [if_pos (show (Value.type "slice" == .type "slice") = true by decide)]
  refine wpAny_bind (rev_parts hs p1 p2 p3 ?_)
  show wpAny _ _ (if (((its.size : Int) - 1) == 0 && (-1 : Int) == 1 && its.size == its.size) = true then _ else _) _ _ s
  rw [if_neg (by rw [show ((-1 : Int) == 1) = false from rfl, Bool.and_false, Bool.false_and]; decide), rev_pick]
  first
    | exact wpAny_bind (m := Builtin.Tuple.tupleExact _) (wpAny_newObj_type (wpAny_pure ⟨_, rfl, wpAny_pure q⟩) fits)
    | exact wpAny_bind (m := Builtin.Tuple.tupleExact _) (wpAny_newObj_type (wpAny_bind (wpAny_pure (wpAny_pure ⟨_, rfl, wpAny_pure q⟩))) fits)
    | exact wpAny_bind (wpAny_bind (m := Builtin.Tuple.tupleExact _) (wpAny_newObj_type (wpAny_pure (wpAny_pure ⟨_, rfl, wpAny_pure q⟩)) fits))
    | exact wpAny_bind (wpAny_bind (m := Builtin.Tuple.tupleExact _) (wpAny_newObj_type (wpAny_pure ⟨_, rfl, wpAny_pure q⟩) fits))
end
section
variable {K : PySem.W.Frag} {H : Hp} {Q : VK} {a b : Addr} {xs ys : List V} {lo hi : Option Int}
/-- t[lo:hi], the tuple itself or a new one -/
theorem w_slT (h : H a = some (.tup xs)) (q : ∀ p H', Evl.Ex H H' → H' p = some (.tup (cutV xs lo hi)) → Q (.ref p) H') : rSlA K (.ref a) lo hi H Q := by
  refine ⟨a, xs, rfl, SqT.of h, fun hw => q a H (Evl.Ex.refl H) ?_, fun _ p hp => q p _ (Evl.Ex.new hp) upd_same⟩
  rw [h]
  unfold cutV
  rw [hw.1, hw.2, List.drop_zero, Nat.sub_zero, List.take_length]
/-- t + u -/
theorem w_catT (h : H a = some (.tup xs)) (h2 : H b = some (.tup ys)) (hz : xs.length + ys.length ≤ 100000) (q : ∀ p H', Evl.Ex H H' → H' p = some (.tup (xs ++ ys)) → Q (.ref p) H') : rCatA K (.ref a) (.ref b) H Q := by
  refine ⟨a, b, xs, ys, rfl, rfl, SqT.of h, SqT.of h2, small hz, fun e => q b H (Evl.Ex.refl H) ?_, fun _ e => q a H (Evl.Ex.refl H) ?_, fun _ _ p hp => q p _ (Evl.Ex.new hp) upd_same⟩
  · rw [h2, e, List.nil_append]
  · rw [h, e, List.append_nil]
theorem cutV_mem {y : V} (h : y ∈ cutV xs lo hi) : y ∈ xs := List.mem_of_mem_drop (List.mem_of_mem_take h)
/-- t[::-1] -/
def tRevT (K : PySem.W.Frag) (te : TE) : TE := fun σ H Q => te σ H fun x H1 => ∃ a xs, x = .ref a ∧ SqT K H1 a xs ∧ ∀ p, H1 p = none → Q (.ref p) (upd H1 p (.tup xs.reverse))
theorem pe_revT {X : Cx} (K : PySem.W.Frag) {e : Expr} {te : TE} {k : Nat} {p1 p2 p3 pos : Pos} (he : PE X e te) (h : X.K = K := by rfl) : PE X (.Subscript e (.Slice none none (some (.UnaryOp .USub (.Constant (.int 1) k p1) p2)) p3) pos) (tRevT K te) := by
  subst h
  refine ⟨fun ps s0 σ0 H0 R0 I0 w0 => Subscript_ (thn (he.run ps s0 σ0 H0 _ I0 w0) fun v s1 ⟨x, H1, I1, r1, a, xs, ex, hx, q⟩ => ?_)⟩
  subst ex
  cases r1
  have minus : PO X (some (.UnaryOp .USub (.Constant (.int 1) k p1) p2)) (tPart (tUn (rU fun i => .int (-i)) (tC (.int 1)))) := po_some (pe_un un_neg pe_int)
  refine wpAny_Slice (thn (po_none.run ps s1 σ0 H1 (fun o H2 => o = none ∧ H2 = H1) I1 ⟨rfl, rfl⟩) fun l0 s2 ⟨o2, H2, I2, pl, eo2, eh2⟩ => ?_)
  subst eo2 eh2
  refine thn (po_none.run ps s2 σ0 H2 (fun o H3 => o = none ∧ H3 = H2) I2 ⟨rfl, rfl⟩) fun u0 s3 ⟨o3, H3, I3, pu, eo3, eh3⟩ => ?_
  subst eo3 eh3
  refine thn (minus.run ps s3 σ0 H3 (fun o H4 => o = some (-1) ∧ H4 = H3) I3 ⟨1, rfl, -1, rfl, rfl, rfl⟩) fun t0 s4 ⟨o4, H4, I4, pt, eo4, eh4⟩ => ?_
  subst eo4 eh4
  have I5 : Inv X ps σ0 H4 { s4 with heap := s4.heap.push { cls := .type "slice", data := .fields #[l0, u0, t0] } } := I4.kept (t' := s4.toks) fun b ob hb => Heap.get?_push_of_some _ hb
  obtain ⟨its, rv, tp, lz⟩ := I5.tuple hx
  have same := rv.length
  show wpAny (model X.prog X.w) X.A (subscriptTail e (.Slice none none (some (.UnaryOp .USub (.Constant (.int 1) k p1) p2)) p3) (.ref a) (.ref s4.heap.objs.size)) (EP X ps σ0 R0) X.xe { s4 with heap := s4.heap.push { cls := .type "slice", data := .fields #[l0, u0, t0] } }
  refine tail_any (ops := [.ref a, .ref s4.heap.objs.size]) tp.typeIs PyProof.Rows.slot_tuple_getitem.lookup (tup_rev tp (Heap.IsSliceOf.new _ l0 u0 t0) pl pu pt ?_ (by rw [List.size_toArray]; omega)) (by with_unfolding_all rfl)
  refine ⟨.ref _, _, I5.laid (t' := s4.toks) (o := .tup xs.reverse) (fun b ob hb => Heap.get?_push_of_some _ hb) (Nat.le_refl _) ⟨by rw [List.length_reverse]; exact lz, its.reverse, rv.reverse, ?_⟩, rfl, q _ (I5.hok.fresh (Nat.le_refl _))⟩
  exact IsTup.new _ _
theorem w_revT {te : TE} {σ : L2.St} (h : te σ H fun x H1 => ∃ a xs, x = .ref a ∧ SqT K H1 a xs ∧ ∀ p, H1 p = none → Q (.ref p) (upd H1 p (.tup xs.reverse))) : tRevT K te σ H Q := h
end
/-- text * number -/
def rMulS : R2 := fun x y H Q => ∃ (z : Str) (n : Int), x = .str z ∧ y = .int n ∧ MulOk z n ∧ Q (.str (Txt.mul z n)) H
theorem kmulS {X : Cx} : OpR X (binaryOp .Mult) rMulS := by
  intro pins s σ H x y v u Q I rx ry h
  obtain ⟨z, n, rfl, rfl, hc, q⟩ := h
  obtain ⟨t, rfl⟩ := rx
  obtain ⟨t', rfl⟩ := ry
  exact PySem.SB.mul hc fun t2 k => ⟨.str _, H, I.tok _, ⟨_, rfl⟩, q⟩
theorem fold_cps : ∀ (n : Nat) (x : Array Nat) (acc : Array Nat), ((List.replicate n x).foldl (· ++ ·) acc).toList = acc.toList ++ (List.replicate n x.toList).flatten
  | 0, x, acc => by simp
  | n + 1, x, acc => by
    rw [List.replicate_succ, List.foldl_cons, fold_cps n x (acc ++ x), List.replicate_succ, List.flatten_cons, Array.toList_append, List.append_assoc]
theorem mul_cL {z : Str} {n : Nat} (hn : 1 ≤ n) : cL (Txt.mul z (n : Int)) = (List.replicate n (cL z)).flatten := by
  unfold Txt.mul
  rw [if_neg (by omega)]
  split
  next h =>
    rw [Bool.or_eq_true] at h
    rcases h with h | h
    · have e : n = 1 := by
        have := eq_of_beq h
        omega
      subst e
      simp
    · have e : cL z = [] := List.length_eq_zero_iff.mp (by rw [← cL_len]; exact eq_of_beq h)
      rw [e]
      simp
  next h =>
    show (List.foldl _ _ _ : Array Nat).toList = _
    rw [Int.toNat_natCast, fold_cps]
    rfl
theorem mulOk_small {z : Str} {n : Nat} (h1 : 1 ≤ n) (h : n ≤ 1000) (hz : z.length ≤ 1000) : MulOk z (n : Int) := by
  refine ⟨?_, fun _ _ => ?_, fun _ _ => ?_⟩
  · rw [Bool.or_eq_false_iff, decide_eq_false_iff_not, decide_eq_false_iff_not]
    omega
  · have h2 : (1000 : Int) * 1000 ≤ 2 ^ 63 - 1 := by decide
    have h3 : (1000 : Int) ≤ (2 ^ 63 - 1) / (n : Int) := by
      rw [Int.le_ediv_iff_mul_le (by omega)]
      have : (1000 : Int) * (n : Int) ≤ 1000 * 1000 := by omega
      omega
    omega
  · rw [Int.toNat_natCast]
    show decide (z.length * n > sizeLine) = false
    rw [decide_eq_false_iff_not]
    have : z.length * n ≤ 1000 * 1000 := Nat.mul_le_mul hz h
    have e : sizeLine = 16777216 := sizeLine_eq
    rw [e]
    omega
def rUpper : V → List V → Hp → VK → Prop := fun x xs H Q => ∃ a, x = .str a ∧ xs = [] ∧ a.length ≤ 5592405 ∧ Q (.str (Txt.upper a)) H
theorem kupper {X : Cx} {o : Expr} {to : TE} {apos pos : Pos} (ho : PE X o to) (hbase : attributeBase o "upper" X.env (eval o X.env) = eval o X.env := by rfl) (hline : (apos.endLine == pos.line) = true := by rfl) :
    PE X (.Call (.Attribute o "upper" apos) [] [] pos) (tM0 rUpper to) := pe_upper ho hbase hline
theorem upper_one : ∀ c, c < 128 → ∃ d, Unicode.upperOf c = [d] ∧ d < 128 := by
  have h : ((List.range 128).all fun c => match Unicode.upperOf c with | [d] => decide (d < 128) | _ => false) = true := by decide +kernel
  intro c hc
  have := List.all_eq_true.mp h c (List.mem_range.mpr hc)
  revert this
  cases e : Unicode.upperOf c with
  | nil => intro h; cases h
  | cons d r =>
    cases r with
    | nil => intro h; exact ⟨d, rfl, of_decide_eq_true h⟩
    | cons _ _ => intro h; cases h
theorem upper_cL {z : Str} (h : ∀ c ∈ cL z, c < 128) : (Txt.upper z).length = z.length ∧ ∀ c ∈ cL (Txt.upper z), c < 128 := by
  have e : cL (Txt.upper z) = ((cL z).map Unicode.upperOf).flatten := by
    show (placed z fun _ c => Unicode.upperOf c).toList = _
    unfold placed
    have e1 : (z.cps.mapIdx fun i c => (Unicode.upperOf c).toArray) = z.cps.map fun c => (Unicode.upperOf c).toArray := by
      apply Array.ext
      · simp
      · intro i h1 h2
        simp
    rw [e1]
    show (Array.map _ z.cps).flatten.toList = _
    rw [Array.toList_flatten]
    simp [cL, List.map_map]
    rfl
  have gen : ∀ l : List Nat, (∀ c ∈ l, c < 128) → ((l.map Unicode.upperOf).flatten).length = l.length ∧ ∀ c ∈ (l.map Unicode.upperOf).flatten, c < 128 := by
    intro l
    induction l with
    | nil => intro _; exact ⟨rfl, fun c h => absurd h (by simp)⟩
    | cons x r ih =>
      intro hl
      obtain ⟨d, hd, d8⟩ := upper_one x (hl x (List.mem_cons_self ..))
      obtain ⟨i1, i2⟩ := ih fun c hc => hl c (List.mem_cons_of_mem _ hc)
      rw [List.map_cons, List.flatten_cons, hd]
      refine ⟨by rw [List.length_append, i1, List.length_cons]; simp; omega, fun c hc => ?_⟩
      rcases List.mem_append.mp hc with hc | hc
      · rw [List.mem_singleton.mp hc]
        exact d8
      · exact i2 c hc
  rw [cL_len, cL_len, e]
  exact gen (cL z) h
theorem int_signs (i : Int) : ∀ c ∈ cL (toString i : String), c < 128 := by
  intro c hc
  have h : ¬ (c ≠ 45 ∧ (c < 48 ∨ 57 < c)) := fun hk => int_text_free' c hk i hc
  omega
theorem int_len {i : Int} {k : Nat} (hk : 0 < k) (h : i.natAbs < 10 ^ k) : (Str.ofString (toString i)).length ≤ k + 1 := by
  have e := int_text_length_le10 hk h
  rw [PySem.ofString_length]
  exact e
end Fk
namespace Fk
open PySem PySem.Spec PyProof.Rows L2
def bI (b : Bool) : Int := if b = true then 1 else 0
/-- a number, or a truth as one -/
inductive Num : V → Int → Prop where
  | int (i : Int) : Num (.int i) i
  | bl (b : Bool) : Num (.bl b) (bI b)
def rAddN : R2 := fun x y H Q => ∃ i j, Num x i ∧ y = .int j ∧ Q (.int (i + j)) H
def rSubN : R2 := fun x y H Q => ∃ i j, Num x i ∧ y = .int j ∧ Q (.int (i - j)) H
def rSubM : R2 := fun x y H Q => ∃ i j, x = .int i ∧ Num y j ∧ Q (.int (i - j)) H
section
variable {X : Cx}
theorem kAddN : OpR X (binaryOp .Add) rAddN := by
  intro pins s σ H x y v u Q I rx ry h
  obtain ⟨i, j, hn, rfl, q⟩ := h
  obtain ⟨t', rfl⟩ := ry
  cases hn with
  | int =>
    obtain ⟨t, rfl⟩ := rx
    exact add_int ⟨.int (i + j), H, I.tok _, ⟨_, rfl⟩, q⟩
  | bl b =>
    cases rx
    exact PySem.IntBool.add_bool_int ⟨.int (bI b + j), H, I.tok _, ⟨_, rfl⟩, q⟩
theorem kSubN : OpR X (binaryOp .Sub) rSubN := by
  intro pins s σ H x y v u Q I rx ry h
  obtain ⟨i, j, hn, rfl, q⟩ := h
  obtain ⟨t', rfl⟩ := ry
  cases hn with
  | int =>
    obtain ⟨t, rfl⟩ := rx
    exact sub_int ⟨.int (i - j), H, I.tok _, ⟨_, rfl⟩, q⟩
  | bl b =>
    cases rx
    exact PySem.IntBool.sub_bool_int ⟨.int (bI b - j), H, I.tok _, ⟨_, rfl⟩, q⟩
theorem kSubM : OpR X (binaryOp .Sub) rSubM := by
  intro pins s σ H x y v u Q I rx ry h
  obtain ⟨i, j, rfl, hn, q⟩ := h
  obtain ⟨t', rfl⟩ := rx
  cases hn with
  | int =>
    obtain ⟨t, rfl⟩ := ry
    exact sub_int ⟨.int (i - j), H, I.tok _, ⟨_, rfl⟩, q⟩
  | bl b =>
    cases ry
    exact PySem.IntBool.sub_int_bool ⟨.int (i - bI b), H, I.tok _, ⟨_, rfl⟩, q⟩
def rStrN : List V → Hp → VK → Prop := fun xs H Q => ∃ x, xs = [x] ∧ ((∃ i : Int, x = .int i ∧ i.natAbs.log2 < 1920 ∧ Q (.str (toString i)) H) ∨ ∃ b : Bool, x = .bl b ∧ Q (.str (if b then "True" else "False")) H)
theorem kstrN : CallR X (.type "str") rStrN := by
  intro pins s σ H xs us Q I r h
  obtain ⟨x, rfl, h⟩ := h
  obtain ⟨u, rfl, rx⟩ := vals1 r
  rcases h with ⟨i, rfl, hz, q⟩ | ⟨b, rfl, q⟩
  · obtain ⟨t, rfl⟩ := rx
    exact PySem.P.str_of_int hz ⟨.str _, H, I.tok _, ⟨_, rfl⟩, q⟩
  · cases rx
    exact PySem.P.str_of_bool ⟨.str _, H, I.tok _, ⟨_, rfl⟩, q⟩
/-- t != (): told by its length, whatever stands in it -/
def rNeT0 (K : PySem.W.Frag) : R2 := fun x y H Q => ∃ a b xs, x = .ref a ∧ y = .ref b ∧ SqT K H a xs ∧ SqT K H b [] ∧ Q (.bl (!xs.isEmpty)) H
theorem kNeT0 (K : PySem.W.Frag) (hu : X.A.units + 64 < cLine) (h : X.K = K := by rfl) : OpR X (compareOp .NotEq) (rNeT0 K) := by
  subst h
  intro pins s σ H x y v u Q I rx ry h
  obtain ⟨a, b, xs, rfl, rfl, ha, hb, q⟩ := h
  cases rx
  cases ry
  obtain ⟨its, r1, p1, _⟩ := I.tuple ha
  obtain ⟨its2, r2, p2, _⟩ := I.tuple hb
  cases r2
  have len := r1.length
  have out : EP X pins σ Q (.bool (!((List.range (min its.toArray.size ([] : List Value).toArray.size)).all (fun _ => true) && its.toArray.size == ([] : List Value).toArray.size))) s := by
    refine ⟨.bl (!xs.isEmpty), H, I, ?_, q⟩
    cases r1 with
    | nil => rfl
    | cons _ _ => rfl
  exact SeqAt.RcNeAt.tuples (A := X.A) (s := s) (e := fun _ => true) p1 p2 (by omega) (fun j h1 h2 => absurd h2 (by simp)) X.prog X.w X.xe _ out
end
end Fk
namespace Fk
open PySem PySem.Spec PyProof.Rows L2
/-- a text of signs below 128, not longer than L -/
def Asc (L : Nat) (z : Str) : Prop := z.length ≤ L ∧ ∀ c ∈ cL z, c < 128
theorem Asc.le {L M : Nat} {z : Str} (h : Asc L z) (e : L ≤ M) : Asc M z := ⟨Nat.le_trans h.1 e, h.2⟩
theorem Asc.cut {L : Nat} {z : Str} {lo hi : Option Int} (h : Asc L z) : Asc L (cutS z lo hi) := by
  have e : cL (cutS z lo hi) = ((cL z).drop (HT.sIx z.length 0 lo)).take (HT.sIx z.length z.length hi - HT.sIx z.length 0 lo) := rfl
  refine ⟨?_, fun c hc => ?_⟩
  · rw [cL_len, e, List.length_take, List.length_drop]
    have := h.1
    rw [cL_len] at this
    omega
  · rw [e] at hc
    exact h.2 c (List.mem_of_mem_drop (List.mem_of_mem_take hc))
theorem Asc.app {L M : Nat} {x y : Str} (h : Asc L x) (h2 : Asc M y) : Asc (L + M) (x ++ y) := by
  refine ⟨?_, fun c hc => ?_⟩
  · rw [cL_len, cL_app, List.length_append, ← cL_len, ← cL_len]
    have := h.1
    have := h2.1
    omega
  · rw [cL_app] at hc
    rcases List.mem_append.mp hc with hc | hc
    · exact h.2 c hc
    · exact h2.2 c hc
theorem Asc.mul {L n : Nat} {z : Str} (h : Asc L z) (hn : 1 ≤ n) : Asc (n * L) (Txt.mul z (n : Int)) := by
  refine ⟨?_, fun c hc => ?_⟩
  · rw [cL_len, mul_cL hn]
    have e : ∀ (m : Nat) (l : List Nat), (List.replicate m l).flatten.length = m * l.length := by
      intro m l
      induction m with
      | zero => simp
      | succ m ih =>
        rw [List.replicate_succ, List.flatten_cons, List.length_append, ih, Nat.add_mul, Nat.one_mul]
        omega
    rw [e, ← cL_len]
    exact Nat.mul_le_mul_left _ h.1
  · rw [mul_cL hn] at hc
    obtain ⟨l, hl, hc⟩ := List.mem_flatten.mp hc
    rw [(List.mem_replicate.mp hl).2] at hc
    exact h.2 c hc
theorem Asc.up {L : Nat} {z : Str} (h : Asc L z) : Asc L (Txt.upper z) := by
  obtain ⟨h1, h2⟩ := upper_cL h.2
  exact ⟨by rw [h1]; exact h.1, h2⟩
theorem Asc.one {c : Nat} (h : c < 128) : Asc 1 ⟨#[c]⟩ := ⟨Nat.le_refl _, fun d hd => by rw [cL_one, List.mem_singleton] at hd; rw [hd]; exact h⟩

/-- a thing after b bends: how long its texts and tuples may be, how great its numbers, n levels within one another; the draw is none of it -/
inductive Kb (d : Addr) (H : Hp) (b : Nat) : Nat → V → Prop where
  | non {n : Nat} : Kb d H b n .non
  | bl {n : Nat} (k : Bool) : Kb d H b n (.bl k)
  | int {n : Nat} (i : Int) (h : i.natAbs ≤ 1000000000000000000000000000000 + b) : Kb d H b n (.int i)
  | str {n : Nat} (z : Str) (h : Asc (40 * 4 ^ b) z) : Kb d H b n (.str z)
  | lst {n : Nat} {a : Addr} {xs : List V} (h : H a = some (.lst xs)) (ne : a ≠ d) : Kb d H b n (.ref a)
  | dct {n : Nat} {a : Addr} {kvs : List (Key × V)} (h : H a = some (.dK kvs)) : Kb d H b n (.ref a)
  | tup {n : Nat} {a : Addr} {xs : List V} (h : H a = some (.tup xs)) (hl : xs.length ≤ 4 * 4 ^ b) (hx : ∀ x ∈ xs, Kb d H b n x) : Kb d H b (n + 1) (.ref a)
theorem pow4 {b c : Nat} (h : b ≤ c) : 4 ^ b ≤ 4 ^ c := Nat.pow_le_pow_right (by omega) h
section
variable {d : Addr} {H H' : Hp} {b c m n k : Nat} {x : V}
theorem Kb.kd (hb : b ≤ 3) (h : Kb d H b n x) : Kd H x := by
  have e4 : (4 : Nat) ^ b ≤ 64 := pow4 (c := 3) hb
  induction h with
  | non => exact .non
  | bl k => exact .bl k
  | int i h => exact .int i
  | str z h => exact .str z (by have := h.1; omega) h.2
  | lst h ne => exact .lst h
  | dct h => exact .dct h
  | tup h hl hx ih => exact .tup h (by omega) ih
theorem Kb.mono (h : Kb d H b n x) (hb : b ≤ c) : ∀ {m : Nat}, n ≤ m → Kb d H c m x := by
  have e4 := pow4 hb
  induction h with
  | non => intro m _; exact .non
  | bl k => intro m _; exact .bl k
  | int i h => intro m _; exact .int i (by omega)
  | str z h => intro m _; exact .str z (h.le (by omega))
  | lst h ne => intro m _; exact .lst h ne
  | dct h => intro m _; exact .dct h
  | tup h hl hx ih =>
    intro m hm
    cases m with
    | zero => omega
    | succ m => exact .tup h (by omega) fun y hy => ih y hy (by omega)
theorem Kb.go (g : Go d H H') (hd : Drw H d k) (h : Kb d H b n x) : Kb d H' b n x := by
  have ned : ∀ {a : Addr} {o : HO}, H a = some o → (∀ xs, o ≠ .lst xs) → a ≠ d := fun {a o} h hn e => by
    obtain ⟨x, y, z, hd, _⟩ := hd
    rw [e, hd] at h
    exact hn _ (Option.some.inj h).symm
  induction h with
  | non => exact .non
  | bl k => exact .bl k
  | int i h => exact .int i h
  | str z h => exact .str z h
  | lst h ne => exact .lst (g _ _ ne h) ne
  | dct h => exact .dct (g _ _ (ned h fun _ e => by cases e) h)
  | tup h hl hx ih => exact .tup (g _ _ (ned h fun _ e => by cases e) h) hl ih
end
end Fk
namespace Fk
open PySem PySem.Spec PyProof.Rows L2
section
variable {d a : Addr} {H H' H1 H2 : Hp} {b c m n k : Nat} {x : V} {xs : List V}
theorem Kb.tup_of (h : Kb d H b n x) (e : isB (tyN H x) "tuple" = true) : ∃ m a xs, n = m + 1 ∧ x = .ref a ∧ H a = some (.tup xs) ∧ xs.length ≤ 4 * 4 ^ b ∧ ∀ y ∈ xs, Kb d H b m y := by
  cases h with
  | tup h hl hx => exact ⟨_, _, _, rfl, rfl, h, hl, hx⟩
  | non => exact absurd e (by show ¬ isB "NoneType" "tuple" = true; decide)
  | bl b => exact absurd e (by show ¬ isB "bool" "tuple" = true; decide)
  | int i => exact absurd e (by show ¬ isB "int" "tuple" = true; decide)
  | str z h => exact absurd e (by show ¬ isB "str" "tuple" = true; decide)
  | lst h ne => rw [tyN_lst h] at e; exact absurd e (by decide)
  | dct h => rw [tyN_dK h] at e; exact absurd e (by decide)
theorem Kb.str_of (h : Kb d H b n x) (e : isB (tyN H x) "str" = true) : ∃ z, x = .str z ∧ Asc (40 * 4 ^ b) z := by
  cases h with
  | str z h => exact ⟨z, rfl, h⟩
  | non => exact absurd e (by show ¬ isB "NoneType" "str" = true; decide)
  | bl b => exact absurd e (by show ¬ isB "bool" "str" = true; decide)
  | int i => exact absurd e (by show ¬ isB "int" "str" = true; decide)
  | tup h hl hx => rw [tyN_tup h] at e; exact absurd e (by decide)
  | lst h ne => rw [tyN_lst h] at e; exact absurd e (by decide)
  | dct h => rw [tyN_dK h] at e; exact absurd e (by decide)
theorem Kb.int_of (h : Kb d H b n x) (e : isB (tyN H x) "int" = true) : ∃ i, Num x i ∧ i.natAbs ≤ 1000000000000000000000000000000 + b := by
  cases h with
  | int i h => exact ⟨i, .int i, h⟩
  | bl b => exact ⟨_, .bl b, by unfold bI; split <;> omega⟩
  | non => exact absurd e (by show ¬ isB "NoneType" "int" = true; decide)
  | str z h => exact absurd e (by show ¬ isB "str" "int" = true; decide)
  | tup h hl hx => rw [tyN_tup h] at e; exact absurd e (by decide)
  | lst h ne => rw [tyN_lst h] at e; exact absurd e (by decide)
  | dct h => rw [tyN_dK h] at e; exact absurd e (by decide)
theorem Go.exx (g : Go d H H1) (e : Evl.Ex H1 H2) : Go d H H2 := fun a o ne h => e a o (g a o ne h)
theorem nd_tup (hd : Drw H d n) (h : H a = some (.tup xs)) : a ≠ d := fun e => by
  obtain ⟨x, y, z, hd, _⟩ := hd
  rw [e, hd] at h
  cases h
theorem Kb.up (h : Kb d H b n x) : Kb d H (b + 1) n x := h.mono (by omega) (Nat.le_refl _)
theorem four_pow (b : Nat) : 4 ^ (b + 1) = 4 * 4 ^ b := by rw [Nat.pow_succ]; omega
theorem str_num {i : Int} {b : Nat} (hb : b ≤ 2) (h : i.natAbs ≤ 1000000000000000000000000000000 + b) : i.natAbs.log2 < 1920 ∧ Asc 40 (toString i : String) := by
  have h31 : i.natAbs < 10 ^ 31 := by omega
  refine ⟨?_, ?_, int_signs i⟩
  · by_cases h0 : i.natAbs = 0
    · rw [h0]
      decide
    · rw [Nat.log2_lt h0]
      have : (10 : Nat) ^ 31 ≤ 2 ^ 128 := by decide
      have : (2 : Nat) ^ 128 ≤ 2 ^ 1920 := Nat.pow_le_pow_right (by omega) (by omega)
      omega
  · have := int_len (k := 31) (by omega) h31
    omega
end
end Fk
namespace Fk
open PySem PySem.Spec PyProof.Rows L2
section
variable {K : PySem.W.Frag} {H : Hp} {Q : VK} {x y z : Str} {L M n : Nat}
theorem w_addA (hx : Asc L x) (hy : Asc M y) (hb : L + M ≤ 100000) (q : Q (.str (x ++ y)) H) : rAddT (.str x) (.str y) H Q := w_addS (small (by have := hx.1; have := hy.1; omega)) q
theorem w_slA {lo hi : Option Int} (hz : Asc L z) (hb : L ≤ 100000) (q : Q (.str (cutS z lo hi)) H) : rSlS (.str z) lo hi H Q := w_slS (small (by have := hz.1; omega)) q
theorem Asc.first (h : Asc L z) : Asc n (cutS z none (some (n : Int))) := by
  refine ⟨?_, h.cut.2⟩
  have e : cL (cutS z none (some (n : Int))) = ((cL z).drop (HT.sIx z.length 0 none)).take (HT.sIx z.length z.length (some (n : Int)) - HT.sIx z.length 0 none) := rfl
  rw [cL_len, e, HT.sIx_nat, HT.sIx_none, List.length_take]
  omega
theorem w_strN {v : V} {j : Int} (nj : Num v j) {b : Nat} (hb : b ≤ 2) (h : j.natAbs ≤ 1000000000000000000000000000000 + b) (q : ∀ z, Asc 40 z → Q (.str z) H) : rStrN [v] H Q := by
  refine ⟨v, rfl, ?_⟩
  cases nj with
  | int =>
    obtain ⟨h1, h2⟩ := str_num hb h
    exact .inl ⟨j, rfl, h1, q _ h2⟩
  | bl b =>
    refine .inr ⟨b, rfl, q _ ?_⟩
    cases b
    · exact ⟨by decide +kernel, by decide +kernel⟩
    · exact ⟨by decide +kernel, by decide +kernel⟩
theorem w_dnew {σ : L2.St} (h : ∀ p, H p = none → Q (.ref p) (upd H p (.dK []))) : tDNewK σ H Q := h
theorem cL_none : ∀ c ∈ cL "", c < 128 := by decide +kernel
theorem bent_signs : ∀ c ∈ cL "abcxyzAZ09 _-{`~\x40[.\n", c < 128 := by decide +kernel
end
end Fk
namespace Fk
open PySem PySem.Spec PyProof.Rows L2
section
variable {K : PySem.W.Frag} {H : Hp} {Q : VK} {σ : L2.St} {ta tb : TE} {a b : Bool}
theorem w_isB (q : Q (.bl (decide (a = b))) H) : rIsB (.bl a) (.bl b) H Q := ⟨a, b, rfl, rfl, q⟩
theorem w_orT (h : ta σ H fun x H1 => ∃ k, TruV K x H1 k ∧ if k = true then Q x H1 else tb σ H1 Q) : tOrT K ta tb σ H Q := h
theorem korT {X : Cx} {a b : Expr} {rest : List Expr} {ta tb : TE} {pos : Pos} (K : PySem.W.Frag) (ha : PE X a ta) (hb : PE X (.BoolOp .Or (b :: rest) pos) tb) (h : X.K = K := by rfl) : PE X (.BoolOp .Or (a :: b :: rest) pos) (tOrT K ta tb) := by subst h; exact pe_orT ha hb
theorem Place.asc {z : Str} (h : Place z) {L : Nat} (hL : 6 ≤ L) : Asc L z := ⟨Nat.le_trans h.2.1 hL, fun c hc => by have := (h.2.2 c hc).2; omega⟩
end
end Fk
namespace Fk
open PySem PySem.Spec PyProof.Rows L2
section
variable {K : PySem.W.Frag} {H : Hp} {Q : VK} {σ : L2.St} {a : Addr} {ns : List Int} {i : Nat}
/-- script or [5]: some list of numbers, never an empty one -/
theorem w_orL (hv : σ[i]? = some (some (.ref a))) (hS : SqL K H a (ns.map V.int)) (hl : ns.length ≤ 63) (q : ∀ (s : Addr) (ms : List Int) (H1 : Hp), Evl.Ex H H1 → SqL K H1 s (ms.map V.int) → ms.length ≤ 63 → ms ≠ [] → Q (.ref s) H1) :
    tOrT K (tVar i) (tLst (tCons (tC (.int 5)) tNil)) σ H Q := by
  refine ⟨.ref a, hv, !(ns.map V.int).isEmpty, .inl ⟨_, hS, rfl⟩, ?_⟩
  cases ns with
  | nil =>
    refine iteF ?_
    show _ ∧ _
    refine ⟨small (by show 1 ≤ 100000; omega), fun p hp => ?_⟩
    exact q p [5] _ (Evl.Ex.new hp) (SqL.of upd_same) (by show 1 ≤ 63; omega) (by simp)
  | cons x r => exact iteT (q a (x :: r) H (Evl.Ex.refl H) hS hl (by simp))
end
end Fk
namespace Fk
open PySem PySem.Spec PyProof.Rows L2
local macro_rules | `(tactic| walk_at "fk") => `(tactic| first
  | with_reducible refine w_seq ?_ | with_reducible refine w_set ?_ | with_reducible refine w_asg ?_ | with_reducible refine w_drop ?_ | with_reducible refine w_ret ?_ | with_reducible refine w_if ?_
  | with_reducible refine w_op ?_ | with_reducible refine w_un ?_ | with_reducible refine w_c ?_ | ((with_reducible apply w_var); rfl)
  | with_reducible refine w_test ?_ | with_reducible refine w_B ?_ | with_reducible refine w_exb ?_ | with_reducible refine w_exi ?_ | with_reducible refine w_I0 ?_ | with_reducible refine w_U ?_
  | with_reducible refine w_nil ?_ | with_reducible refine w_cons ?_ | with_reducible refine w_call ?_ | with_reducible refine w_cb ?_ | with_reducible refine w_tup ?_ | with_reducible refine w_lst ?_
  | with_reducible refine w_and ?_ | with_reducible refine w_or ?_ | with_reducible refine w_not ?_ | with_reducible refine w_andV ?_ | with_reducible refine w_orV ?_ | with_reducible refine w_notV ?_
  | with_reducible refine w_ifE ?_ | with_reducible refine w_chain ?_ | with_reducible refine w_for ?_ | with_reducible refine w_lc ?_ | with_reducible refine w_yes ?_ | with_reducible refine w_iR1 ?_ | with_reducible refine w_iL ?_ | with_reducible refine w_iT ?_ | with_reducible refine w_iE ?_ | with_reducible refine w_iZ ?_ | with_reducible refine w_iS ?_ | with_reducible refine w_s1 ?_ | with_reducible refine w_m1 ?_ | with_reducible refine w_m0 ?_ | with_reducible refine w_estr ?_ | with_reducible refine w_lz ?_ | with_reducible refine w_dnew ?_ | with_reducible refine w_revT ?_ | with_reducible refine w_leS ?_ | with_reducible refine w_ltS ?_ | with_reducible refine w_inSg ?_ | with_reducible refine w_notInSg ?_ | with_reducible refine iteT ?_ | with_reducible refine iteF ?_ | with_reducible refine w_par ?_ | with_reducible refine w_two ?_ | with_reducible refine w_gname ?_ | with_reducible refine w_gcons ?_ | with_reducible refine w_gnil ?_ | ((with_reducible apply w_gtup); (with_reducible assumption); rfl) | with_reducible refine w_gsub ?_
  | with_reducible refine w_bm ?_ | with_reducible refine w_sl ?_ | with_reducible refine w_noP ?_ | with_reducible refine w_part ?_ | with_reducible refine w_next ?_ | with_reducible refine w_retN ?_
  | ((with_reducible refine w_I ?hk ?_); (case hk => (first | (show (0 : Int) < _; omega) | exact ⟨by omega, by omega⟩ | exact .inl ⟨by omega, by omega⟩ | exact .inr ⟨by omega, by omega⟩ | exact cpow_small (by decide) (by decide) (by decide))))
  | ((with_reducible apply w_eq); rfl) | ((with_reducible apply w_ne); rfl)
  | ((with_reducible apply w_ixL); (with_reducible assumption); rfl)
  | ((with_reducible apply w_setL); (with_reducible assumption); rfl))
local macro_rules | `(tactic| walk_at "go") => `(tactic| repeat walk_at "fk")

def top (i : Nat) : Stmt := PySem.Challenge.pw_fewkept_k01_places_and_links_known.main.body.getD i (.Pass ⟨0, 0, 0, 0⟩)
abbrev s_is_place : Stmt := top 3
abbrev s_is_number : Stmt := top 4
abbrev s_is_link : Stmt := top 5
abbrev s_law_begun : Stmt := top 7
abbrev s_law_next : Stmt := top 8
abbrev s_law_pick : Stmt := top 9
abbrev s_law_spots : Stmt := top 10
abbrev s_law_pairs : Stmt := top 11
abbrev s_law_link : Stmt := top 12
abbrev s_law_bent : Stmt := top 13
abbrev s_law_is_place : Stmt := top 14
abbrev s_law_is_four : Stmt := top 15
abbrev s_law_told_right : Stmt := top 16
abbrev s_law : Stmt := top 17
theorem sc_is_place : FnScope ["thing", "sign"] ["thing"] (defScope s_is_place) := ⟨rfl, rfl, rfl, by decide +kernel, rfl, by decide +kernel, by decide +kernel⟩
theorem sc_is_number : FnScope ["thing", "most"] ["thing", "most"] (defScope s_is_number) := ⟨rfl, rfl, rfl, by decide +kernel, rfl, by decide +kernel, by decide +kernel⟩
theorem sc_is_link : FnScope ["thing", "cost", "mark", "one", "other"] ["thing"] (defScope s_is_link) := ⟨rfl, rfl, rfl, by decide +kernel, rfl, by decide +kernel, by decide +kernel⟩
theorem sc_law_begun : FnScope ["cell", "k"] ["cell", "k"] (defScope s_law_begun) := ⟨rfl, rfl, rfl, by decide +kernel, rfl, by decide +kernel, by decide +kernel⟩
theorem sc_law_next : FnScope ["draw", "size", "found"] ["draw", "size"] (defScope s_law_next) := ⟨rfl, rfl, rfl, by decide +kernel, rfl, by decide +kernel, by decide +kernel⟩
theorem sc_law_pick : FnScope ["draw", "some"] ["draw", "some"] (defScope s_law_pick) := ⟨rfl, rfl, rfl, by decide +kernel, rfl, by decide +kernel, by decide +kernel⟩
theorem sc_law_spots : FnScope ["draw", "many", "own", "found", "k", "name", "sign"] ["draw", "many"] (defScope s_law_spots) := ⟨rfl, rfl, rfl, by decide +kernel, rfl, by decide +kernel, by decide +kernel⟩
theorem sc_law_pairs : FnScope ["draw", "spots", "every", "way", "at", "one", "poles", "other", "turn", "pair"] ["draw", "spots"] (defScope s_law_pairs) := ⟨rfl, rfl, rfl, by decide +kernel, rfl, by decide +kernel, by decide +kernel⟩
theorem sc_law_link : FnScope ["draw", "pairs", "one", "other", "cost"] ["draw", "pairs"] (defScope s_law_link) := ⟨rfl, rfl, rfl, by decide +kernel, rfl, by decide +kernel, by decide +kernel⟩
theorem sc_law_bent : FnScope ["draw", "thing", "at", "some", "sign"] ["draw", "thing"] (defScope s_law_bent) := ⟨rfl, rfl, rfl, by decide +kernel, rfl, by decide +kernel, by decide +kernel⟩
theorem sc_law_is_place : FnScope ["thing", "sign"] ["thing"] (defScope s_law_is_place) := ⟨rfl, rfl, rfl, by decide +kernel, rfl, by decide +kernel, by decide +kernel⟩
theorem sc_law_is_four : FnScope ["thing", "number"] ["thing"] (defScope s_law_is_four) := ⟨rfl, rfl, rfl, by decide +kernel, rfl, by decide +kernel, by decide +kernel⟩
theorem sc_law_told_right : FnScope ["thing", "told", "due"] ["thing"] (defScope s_law_told_right) := ⟨rfl, rfl, rfl, by decide +kernel, rfl, by decide +kernel, by decide +kernel⟩
theorem sc_law : FnScope ["script", "k", "cell", "draw", "spots", "link", "turn", "thing", "bend"] ["script"] (defScope s_law) := ⟨rfl, rfl, rfl, by decide +kernel, rfl, by decide +kernel, by decide +kernel⟩
structure Txt (mg : Str → Option Value) : Prop where
  len_ : mg "len" = none
  max_ : mg "max" = none
  range_ : mg "range" = none
  sorted_ : mg "sorted" = none
  enumerate_ : mg "enumerate" = none
  list_ : mg "list" = none
  zip_ : mg "zip" = none
  isinstance_ : mg "isinstance" = none
  tuple_ : mg "tuple" = none
  str_ : mg "str" = none
  int_ : mg "int" = none
  bool_ : mg "bool" = none
  all_ : mg "all" = none
  MOST_SIGNS_ : ∃ t, mg "MOST_SIGNS" = some (.int 6 t)
  MOST_COST_ : ∃ t, mg "MOST_COST" = some (.int 1000000 t)
section
variable {P : Program} {w : World} {K : PySem.W.Frag} {mg : Str → Option Value} {base : Heap}
theorem ok_next {f : Addr} {fd : FuncData} (F : Fun K "_law_next" "_law_next" s_law_next f fd) (T : Txt mg) : FnOk P w K mg base CX0 1 f fd ["draw", "size"] spNext := by
  refine F.ok sc_law_next (fun vs H Q E h => ?_) (fun cdv A outer s H vs Q E hr h => ?_)
  · obtain ⟨d, n, m, rfl, _⟩ := h
    rfl
  · obtain ⟨d, n, m, rfl, ⟨a, b, c, hd, a0, c0, cn⟩, hn, m0, m1, q⟩ := h
    have hq : SqL K H d [.int a, .int b, .int c] := SqL.of hd
    refine ⟨_, (pss_cons (ps_if (pt_cmpR op_gt (pe_ix (kixL K) (pv 0) pe_int (fun _ _ => rfl)) pe_int (nomark _)) (pss_cons (ps_set (i := 2) sc_law_next.nd rfl (.inl rfl) (pe_op op_mod (pe_ix (kixL K) (pv 0) pe_int (fun _ _ => rfl)) (pv 1)))
      (pss_cons (ps_asg (pe_op op_fdiv (pe_ix (kixL K) (pv 0) pe_int (fun _ _ => rfl)) (pv 1)) (pg_sub (pv 0) pe_int set_list))
      (pss_one (ps_ret (pv 2))))) pss_nil)
      (pss_cons (ps_asg (pe_op op_add (pe_ix (kixL K) (pv 0) pe_int (fun _ _ => rfl)) pe_int) (pg_sub (pv 0) pe_int set_list))
      (pss_cons (ps_set (i := 2) sc_law_next.nd rfl (.inl rfl) (pe_op op_add (pe_op op_mod (pe_ix (kixL K) (pv 0) pe_int (fun _ _ => rfl)) pe_int) (pe_op op_mul pe_int (pe_ix (kixL K) (pv 0) pe_int (fun _ _ => rfl)))))
      (pss_cons (ps_set (i := 2) sc_law_next.nd rfl (.inl rfl) (pe_op op_mul (pv 2) (pe_op op_add (pe_op op_add (pe_op op_mod (pe_ix (kixL K) (pv 0) pe_int (fun _ _ => rfl)) pe_int) (pe_op op_mul (pe_op op_mul pe_int (pe_ix (kixL K) (pv 0) pe_int (fun _ _ => rfl))) (pe_ix (kixL K) (pv 0) pe_int (fun _ _ => rfl)))) pe_int)))
      (pss_one (ps_ret (pe_op op_mod (pe_op op_fdiv (pe_op op_mod (pe_op op_powN (pv 2) pe_int) pe_int) pe_int) (pv 1)))))))), ?_⟩
    refine w_from [some (.ref d), some (.int m), none] ?_
    try dsimp only [cxOf]
    walk_at "go"
    with_reducible refine w_dec ?_ ?_ <;> intro h
    · walk_at "go"
      refine q _ _ (Int.emod_nonneg _ (by omega)) (Int.emod_lt_of_pos _ m0) (Bt.refl d H).upd ⟨a / m, b, c, upd_same, Int.ediv_nonneg a0 (by omega), c0, by omega⟩
    · walk_at "go"
      have hq1 : SqL K (upd H d (HO.lst ([V.int a, V.int b, V.int c].set (Int.toNat 2) (V.int (c + 1))))) d [.int a, .int b, .int (c + 1)] := SqL.of upd_same
      walk_at "go"
      refine w_I (pow_bd c0 cn hn) ?_
      walk_at "go"
      exact q _ _ (mod3_nn m0).1 (mod3_nn m0).2 (Bt.refl d H).upd ⟨a, b, c + 1, upd_same, a0, by omega, by omega⟩

theorem ok_pick {f : Addr} {fd : FuncData} (F : Fun K "_law_pick" "_law_pick" s_law_pick f fd) (T : Txt mg) (C_law_next : Cal P w K mg base 1 "_law_next" ["draw", "size"] spNext) : FnOk P w K mg base CX0 2 f fd ["draw", "some"] (spPick K) := by
  refine F.ok sc_law_pick (fun vs H Q E h => ?_) (fun cdv A outer s H vs Q E hr h => ?_)
  · obtain ⟨d, n, x, m, rfl, _⟩ := h
    rfl
  · obtain ⟨d, n, x, m, rfl, hd, hn, R, hp, nx, m0, m1, q⟩ := h
    refine ⟨_, (pss_one (ps_ret (pe_ix (kix K) (pv 1) (pc C_law_next hr (by rfl) (pa_cons (pv 0) (pa_cons (pe_callB (klen K) (by rfl) T.len_ PySem.boot_len (pa_cons (pv 1) pa_nil)) pa_nil))) (fun _ _ => rfl)))), ?_⟩
    refine w_from [some (.ref d), some x] ?_
    try dsimp only [cxOf]
    walk_at "go"
    refine ⟨x, m, rfl, hp.len, ?_⟩
    walk_at "go"
    refine ⟨d, n, m, rfl, hd, hn, by omega, by omega, fun r H1 r0 r1 bt hd1 => ?_⟩
    obtain ⟨i, rfl, im⟩ := nat_of r0 r1
    cases hp with
    | @lst a xs hq =>
      obtain ⟨v, hv⟩ := get_of im
      exact .inl ⟨a, xs, i, v, rfl, rfl, bt.seqL (fun e => nx (by rw [e])) hq, atI_of hv, q i v H1 im hv bt hd1⟩
    | @tup a xs hq =>
      obtain ⟨v, hv⟩ := get_of im
      exact .inr (.inl ⟨a, xs, i, v, rfl, rfl, bt.seqT (fun e => nx (by rw [e])) hq, atI_of hv, q i v H1 im hv bt hd1⟩)
    | @str z hz =>
      obtain ⟨c, hv⟩ := get_of (xs := z.cps.toList) (i := i) im
      exact .inr (.inr ⟨z, i, c, rfl, rfl, hz, atI_of hv, q i _ H1 im ⟨c, hv, rfl⟩ bt hd1⟩)
theorem ok_begun {f : Addr} {fd : FuncData} (F : Fun K "_law_begun" "_law_begun" s_law_begun f fd) (T : Txt mg) : FnOk P w K mg base CX0 1 f fd ["cell", "k"] spBegun := by
  refine F.ok sc_law_begun (fun vs H Q E h => ?_) (fun cdv A outer s H vs Q E hr h => ?_)
  · obtain ⟨x, m, rfl, _⟩ := h
    rfl
  · obtain ⟨x, m, rfl, q⟩ := h
    refine ⟨_, (pss_one (ps_ret (pe_lst (pa_cons (pe_callB (kmax2 rfl) (by rfl) T.max_ (by decide +kernel) (pa_cons pe_int (pa_cons (pe_op op_sub (pv 0) (pe_op op_powN pe_int pe_int)) pa_nil))) (pa_cons (pe_op op_add (pv 0) (pe_op op_mul pe_int (pv 1))) (pa_cons pe_int pa_nil)))))), ?_⟩
    refine w_from [some (.int x), some (.int m)] ?_
    try dsimp only [cxOf]
    walk_at "go"
    refine ⟨0, _, rfl, ?_⟩
    walk_at "go"
    refine ⟨by show 3 ≤ sizeLine; decide, fun p hp => ?_⟩
    refine q p _ hp (Bt.refl p H).upd ⟨_, _, _, upd_same, ?_, by omega, by omega⟩
    split <;> omega
end
end Fk
namespace Fk
open PySem PySem.Spec PyProof.Rows L2
local macro_rules | `(tactic| walk_at "fk") => `(tactic| first
  | with_reducible refine w_seq ?_ | with_reducible refine w_set ?_ | with_reducible refine w_asg ?_ | with_reducible refine w_drop ?_ | with_reducible refine w_ret ?_ | with_reducible refine w_if ?_
  | with_reducible refine w_op ?_ | with_reducible refine w_un ?_ | with_reducible refine w_c ?_ | ((with_reducible apply w_var); rfl)
  | with_reducible refine w_test ?_ | with_reducible refine w_B ?_ | with_reducible refine w_exb ?_ | with_reducible refine w_exi ?_ | with_reducible refine w_I0 ?_ | with_reducible refine w_U ?_
  | with_reducible refine w_nil ?_ | with_reducible refine w_cons ?_ | with_reducible refine w_call ?_ | with_reducible refine w_cb ?_ | with_reducible refine w_tup ?_ | with_reducible refine w_lst ?_
  | with_reducible refine w_and ?_ | with_reducible refine w_or ?_ | with_reducible refine w_not ?_ | with_reducible refine w_andV ?_ | with_reducible refine w_orV ?_ | with_reducible refine w_notV ?_
  | with_reducible refine w_ifE ?_ | with_reducible refine w_chain ?_ | with_reducible refine w_for ?_ | with_reducible refine w_lc ?_ | with_reducible refine w_yes ?_ | with_reducible refine w_iR1 ?_ | with_reducible refine w_iL ?_ | with_reducible refine w_iT ?_ | with_reducible refine w_iE ?_ | with_reducible refine w_iZ ?_ | with_reducible refine w_iS ?_ | with_reducible refine w_s1 ?_ | with_reducible refine w_m1 ?_ | with_reducible refine w_m0 ?_ | with_reducible refine w_estr ?_ | with_reducible refine w_lz ?_ | with_reducible refine w_dnew ?_ | with_reducible refine w_revT ?_ | with_reducible refine w_leS ?_ | with_reducible refine w_ltS ?_ | with_reducible refine w_inSg ?_ | with_reducible refine w_notInSg ?_ | with_reducible refine iteT ?_ | with_reducible refine iteF ?_ | with_reducible refine w_par ?_ | with_reducible refine w_two ?_ | with_reducible refine w_gname ?_ | with_reducible refine w_gcons ?_ | with_reducible refine w_gnil ?_ | ((with_reducible apply w_gtup); (with_reducible assumption); rfl) | with_reducible refine w_gsub ?_
  | with_reducible refine w_bm ?_ | with_reducible refine w_sl ?_ | with_reducible refine w_noP ?_ | with_reducible refine w_part ?_ | with_reducible refine w_next ?_ | with_reducible refine w_retN ?_
  | ((with_reducible refine w_I ?hk ?_); (case hk => (first | (show (0 : Int) < _; omega) | exact ⟨by omega, by omega⟩ | exact .inl ⟨by omega, by omega⟩ | exact .inr ⟨by omega, by omega⟩ | exact cpow_small (by decide) (by decide) (by decide))))
  | ((with_reducible apply w_eq); rfl) | ((with_reducible apply w_ne); rfl)
  | ((with_reducible apply w_ixL); (with_reducible assumption); rfl)
  | ((with_reducible apply w_setL); (with_reducible assumption); rfl))
local macro_rules | `(tactic| walk_at "go") => `(tactic| repeat walk_at "fk")

section
variable {P : Program} {w : World} {K : PySem.W.Frag} {mg : Str → Option Value} {base : Heap}
def owns : List Str := ["link", "strike", "net", "sure", "why", "wide", "keeps", "struck", "left", "known", "new", "in"]
theorem owns_pl : ∀ s ∈ owns, Place s := by decide +kernel
theorem letters_ok : ∀ c ∈ cL "etaoinshrdlcumwfgypbvkjxqz", SignOk c := by decide +kernel
def spSpots : Sp := fun vs H Q _ => ∃ (d : Addr) (n : Nat) (m : Nat), vs = [.ref d, .int (m : Int)] ∧ Drw H d n ∧ n + 9 * m ≤ 100000 ∧ m ≤ 12 ∧
  ∀ (p : Addr) (l : List Str) (H' : Hp), H p = none → Names l → l.length = m → Go d H H' → Drw H' d (n + 9 * m) → H' p = some (.lst (l.map V.str)) → Q (.ref p) H'
theorem ok_spots {f : Addr} {fd : FuncData} (F : Fun K "_law_spots" "_law_spots" s_law_spots f fd) (T : Txt mg) (C_law_next : Cal P w K mg base 1 "_law_next" ["draw", "size"] spNext)
    (C_law_pick : Cal P w K mg base 2 "_law_pick" ["draw", "some"] (spPick K)) : FnOk P w K mg base CX0 3 f fd ["draw", "many"] spSpots := by
  refine F.ok sc_law_spots (fun vs H Q E h => ?_) (fun cdv A outer s H vs Q E hr h => ?_)
  · obtain ⟨d, n, m, rfl, _⟩ := h
    rfl
  · obtain ⟨d, n, m, rfl, hd, hn, m12, q⟩ := h
    refine ⟨_, (pss_cons (ps_asg (pe_tup (pa_cons (pe_lst (pa_cons pe_str (pa_cons pe_str (pa_cons pe_str (pa_cons pe_str (pa_cons pe_str (pa_cons pe_str (pa_cons pe_str (pa_cons pe_str (pa_cons pe_str (pa_cons pe_str (pa_cons pe_str (pa_cons pe_str pa_nil))))))))))))) (pa_cons (pe_lst pa_nil) pa_nil))) (ktup K rfl (pgs_cons (pg_name (i := 2) sc_law_spots.nd rfl (.inl rfl)) (pgs_cons (pg_name (i := 3) sc_law_spots.nd rfl (.inr rfl)) pgs_nil))))
      (pss_cons (ps_for PassesOwn.never rfl (pi_range1 (by rfl) T.range_ (pa_cons (pv 1) pa_nil)) (pg_name (i := 4) sc_law_spots.nd rfl (.inl rfl)) (pss_cons (ps_set (i := 5) sc_law_spots.nd rfl (.inr rfl) (pc C_law_pick (hr.mono (by decide)) (by rfl) (pa_cons (pv 0) (pa_cons (pv 2) pa_nil))))
      (Evl.pss_cut (ps_if (pt_cmpR op_gt (pc C_law_next (hr.mono (by decide)) (by rfl) (pa_cons (pv 0) (pa_cons pe_int pa_nil))) pe_int (nomark _)) (pss_one (ps_set (i := 5) sc_law_spots.nd rfl (.inr rfl) (kjoin K pe_str (pe_lc (own := [("sign", 6)]) (g := gName 6) (by rfl) sc_law_spots.nd (pi_range1 (by rfl) T.range_ (pa_cons (pe_op op_add pe_int (pc C_law_next (hr.mono (by decide)) (by rfl) (pa_cons (pv 0) (pa_cons pe_int pa_nil)))) pa_nil)) (blkOk_by (own := [("sign", 6)]) (N := ["draw", "many", "own", "found", "k", "name", "sign"]) (sc := defScope s_law_spots) (by decide +kernel)) (fun _ _ _ _ _ => (pg_name (i := 6) sc_law_spots.nd rfl (Or.inl rfl))) (fun _ _ _ _ _ => pts_nil) (fun _ _ _ _ _ => (pc C_law_pick (hr.mono (by decide)) (by rfl) (pa_cons (pv 0) (pa_cons pe_str pa_nil)))))))) pss_nil)
      (Evl.pss_cut (ps_if (pt_cmpR (kIn K) (pv 5) (pv 3) rfl) (pss_one (ps_set (i := 5) sc_law_spots.nd rfl (.inr rfl) (pe_ix (kixL K) (pe_lc (own := [("sign", 6)]) (g := gName 6) (by rfl) sc_law_spots.nd (pi_str pe_str) (blkOk_by (own := [("sign", 6)]) (N := ["draw", "many", "own", "found", "k", "name", "sign"]) (sc := defScope s_law_spots) (by decide +kernel)) (fun _ _ _ _ _ => (pg_name (i := 6) sc_law_spots.nd rfl (Or.inl rfl))) (fun _ _ _ _ _ => (pts_one (pt_cmpR (kNotIn K) (pe_op kAddS (pe_slice sl_str (pv 5) po_none (po_some pe_int)) (pv 6)) (pv 3) rfl))) (fun _ _ _ _ _ => (pe_op kAddS (pe_slice sl_str (pv 5) po_none (po_some pe_int)) (pv 6)))) pe_int (fun _ _ => rfl)))) pss_nil)
      (pss_one (ps_expr (kapp K (pv 3) (pa_cons (pv 5) pa_nil))))))))
      (pss_one (ps_ret (pe_callB (ksortedS K) (by rfl) T.sorted_ (by decide +kernel) (pa_cons (pv 3) pa_nil)))))), ?_⟩
    refine w_from [some (.ref d), some (.int m), none, none, none, none, none] ?_
    try dsimp only [cxOf]
    walk_at "go"
    refine ⟨small (by show 12 ≤ 100000; omega), ?_⟩
    intro o ho
    generalize hE : upd _ o _ = H1
    have nH1 : New _ o (.lst (owns.map V.str)) H1 := New.of ho hE
    clear hE
    walk_at "go"
    refine ⟨small (by show 0 ≤ 100000; omega), ?_⟩
    intro p hp
    generalize hE : upd _ p _ = H2
    have nH2 := New.of hp hE
    clear hE
    walk_at "go"
    refine ⟨small (by show 2 ≤ 100000; omega), ?_⟩
    intro t ht
    generalize hE : upd _ t _ = H3
    have nH3 := New.of ht hE
    clear hE
    have hT := SqT.of (K := K) nH3.here
    walk_at "go"
    refine w_r1 (by omega) ?_
    have g3 : Go d H H3 := nH3.go (nH2.go nH1.go1)
    have ho3 := nH3.keep (nH2.keep nH1.here)
    have hp3 := nH3.keep nH2.here
    have pd : p ≠ d := (nH1.drw hd).ne nH2.free
    have hp0 : H p = none := nH1.back nH2.free
    have po : p ≠ o := (nH2.apart nH1.here).symm
    have od : o ≠ d := hd.ne nH1.free
    have ho0 : H o = none := nH1.free
    have hd3 := nH3.drw (nH2.drw (nH1.drw hd))
    refine forR (fun i σ H' => ∃ (l : List Str) (x4 x5 x6 : Option V), l.length = i ∧ l.Nodup ∧ (∀ s ∈ l, Place s) ∧ Drw H' d (n + 9 * i) ∧ H' p = some (.lst (l.map V.str)) ∧ H' o = some (.lst (owns.map V.str)) ∧ Go d H H' ∧
      σ = [some (.ref d), some (.int m), some (.ref o), some (.ref p), x4, x5, x6]) ?_ ?_ ?_
    · exact ⟨[], none, none, none, rfl, List.nodup_nil, fun s h => absurd h (by simp), hd3, hp3, ho3, g3, rfl⟩
    · rintro i σ' H4 im ⟨l, x4, x5, x6, rfl, nd, pl, hd4, hp4, ho4, g4, rfl⟩
      walk_at "go"
      refine pick_l hd4 (by omega) (SqL.of ho4) od (by show 0 < 12; omega) (by show 12 ≤ 100000; omega) fun v H5 hv b5 hd5 => ?_
      obtain ⟨z, hz, rfl⟩ := List.mem_map.mp hv
      have pz := owns_pl z hz
      have g5 := g4.bt b5
      have hp5 := b5.keep hp4 pd
      have ho5 := b5.keep ho4 od
      walk_at "go"
      refine ⟨fun σ' H' => ∃ (z : Str) (y6 : Option V), Place z ∧ Drw H' d (n + 9 * l.length + 9) ∧ Go d H5 H' ∧ σ' = [some (.ref d), some (.int m), some (.ref o), some (.ref p), some (.int (l.length : Int)), some (.str z), y6], ?_, ?_⟩
      · walk_at "go"
        refine next_i hd5 (by omega) (by omega) (by omega) fun r H6 r0 r1 b6 hd6 => ?_
        walk_at "go"
        refine w_bool (fun _ => ?_) (fun _ => ?_)
        · walk_at "go"
          refine next_i hd6 (by omega) (by omega) (by omega) fun u H7 u0 u1 b7 hd7 => ?_
          walk_at "go"
          obtain ⟨k, rfl, hk⟩ := nat_of (m := 6) u0 (by omega)
          have e1 : (1 : Int) + (k : Int) = ((1 + k : Nat) : Int) := by omega
          rw [e1]
          refine w_r1 (by omega) ?_
          refine lcR (fun C i H' => ∃ cs : List Nat, cs.length = i ∧ (∀ c ∈ cs, SignOk c) ∧ Drw H' d (n + 9 * l.length + 3 + i) ∧ Go d H7 H' ∧ H' C = some (.lst (cs.map fun c => .str ⟨#[c]⟩))) ?_ ?_ ?_
          · intro C hC
            exact ⟨[], rfl, fun c h => absurd h (by simp), hd7.new hC, (Go.refl d H7).put hC, upd_same⟩
          · rintro C j H8 hC hj ⟨cs, rfl, ok, hd8, g8, hC8⟩
            refine w_turn rfl ?_
            walk_at "go"
            refine pick_s hd8 (by omega) (by decide +kernel) (by decide +kernel) fun c H9 hc b9 hd9 => ?_
            have hCd : C ≠ d := hd7.ne hC
            refine ⟨cs.map fun c => .str ⟨#[c]⟩, b9.keep hC8 hCd, smallS (by rw [List.length_map]; omega), cs ++ [c], by simp, fun x hx => ?_, hd9.put hCd.symm, (g8.bt b9).put hC, ?_⟩
            · rcases List.mem_append.mp hx with hx | hx
              · exact ok x hx
              · rw [List.mem_singleton.mp hx]
                exact letters_ok c hc
            · rw [upd_same, List.map_append]
              rfl
          · rintro C H8 hC ⟨cs, hl, ok, hd8, g8, hC8⟩
            refine ⟨⟨#[]⟩, C, cs.map fun c => ⟨#[c]⟩, rfl, rfl, .inl (SqL.of (by rw [hC8, List.map_map]; rfl)), ?_, ?_⟩
            · rw [ones_sum]
              show cs.length + _ * 0 ≤ _
              omega
            · walk_at "go"
              exact ⟨_, _, place_join (by omega) (by omega) ok, hd8.le (by omega), (b6.go.trans b7.go).trans g8, rfl⟩
        · walk_at "go"
          exact ⟨z, _, pz, hd6.le (by omega), b6.go, rfl⟩
      · rintro σ' H6 ⟨z, y6, pz, hd6, g6, rfl⟩
        have hp6 := g6 _ _ pd hp5
        have ho6 := g6 _ _ od ho5
        refine ⟨fun σ' H' => ∃ (z : Str) (y6 : Option V), Place z ∧ z ∉ l ∧ Drw H' d (n + 9 * l.length + 9) ∧ Go d H6 H' ∧ σ' = [some (.ref d), some (.int m), some (.ref o), some (.ref p), some (.int (l.length : Int)), some (.str z), y6], ?_, ?_⟩
        · walk_at "go"
          refine w_inS (SqL.of hp6) ?_
          walk_at "go"
          refine w_bool (fun _ => ?_) (fun hz => ?_)
          · walk_at "go"
            have habc : cL "abcdefghijklmnopqrstuvwxyz" = abc := by decide +kernel
            refine lcS (fun C i H' => Drw H' d (n + 9 * l.length + 9) ∧ Go d H6 H' ∧ H' C = some (.lst ((left z l (abc.take i)).map fun c => .str (other z c)))) ?_ ?_ ?_
            · intro C hC
              exact ⟨hd6.new hC, (Go.refl d H6).put hC, upd_same⟩
            · rintro C i c H7 hC hc ⟨hd7, g7, hC7⟩
              rw [habc] at hc
              have hz5 := cut5_len z
              have hz6 : z.length ≤ 6 := pz.2.1
              refine w_turn rfl ?_
              walk_at "go"
              refine w_slS (small (by omega)) ?_
              walk_at "go"
              refine w_addS (i := cutS z none (some 5)) (j := ⟨#[c]⟩) (small (by show _ + 1 ≤ _; omega)) ?_
              walk_at "go"
              refine w_ninS (SqL.of (g7 _ _ pd hp6)) ?_
              walk_at "go"
              have ht := left_take (z := z) (l := l) hc
              refine w_ndec (fun h => ?_) (fun h => ?_)
              · walk_at "go"
                refine w_slS (small (by omega)) ?_
                walk_at "go"
                refine w_addS (i := cutS z none (some 5)) (j := ⟨#[c]⟩) (small (by show _ + 1 ≤ _; omega)) ?_
                rw [if_neg (show ¬ other z c ∈ l from h)] at ht
                refine ⟨_, hC7, smallS ?_, hd7.put (hd6.ne hC).symm, g7.put hC, ?_⟩
                · rw [List.length_map]
                  have : (left z l (abc.take i)).length ≤ 26 := Nat.le_trans (List.length_filter_le _ _) (by rw [List.length_take]; exact Nat.min_le_right _ _)
                  omega
                · rw [upd_same, ht, List.map_append]
                  rfl
              · rw [if_pos (show other z c ∈ l from h)] at ht
                refine ⟨hd7, g7, ?_⟩
                rw [ht]
                exact hC7
            · rintro C H7 hC ⟨hd7, g7, hC7⟩
              rw [habc, List.take_length] at hC7
              obtain ⟨c, r, e, hc, hn⟩ := left_ne (z := z) (l := l) (by omega)
              rw [e] at hC7
              walk_at "go"
              refine w_ixL (SqL.of hC7) (atI_of (i := 0) rfl) ?_
              exact ⟨_, _, other_place pz hc, hn, hd7, g7, rfl⟩
          · walk_at "go"
            exact ⟨z, _, pz, of_decide_eq_false hz, hd6, Go.refl d H6, rfl⟩
        · rintro σ' H7 ⟨z, y6, pz, hz, hd7, g7, rfl⟩
          have hp7 := g7 _ _ pd hp6
          have ho7 := g7 _ _ od ho6
          walk_at "go"
          refine ⟨.inl ⟨rfl, _, SqL.of hp7⟩, ?_⟩
          walk_at "go"
          refine w_app hp7 (smallS (by rw [List.length_map]; omega)) ?_
          refine ⟨l ++ [z], _, _, _, by simp, ?_, ?_, hd7.put pd.symm, ?_, ?_, ((g5.trans g6).trans g7).put hp0, rfl⟩
          · rw [List.nodup_append]
            exact ⟨nd, by simp, fun a ha b hb e => hz (by rw [← List.mem_singleton.mp hb, ← e]; exact ha)⟩
          · intro s hs
            rcases List.mem_append.mp hs with hs | hs
            · exact pl s hs
            · rw [List.mem_singleton.mp hs]
              exact pz
          · rw [upd_same, List.map_append]
            rfl
          · rw [upd_ne po.symm]
            exact ho7
    · rintro σ' H4 ⟨l, x4, x5, x6, rfl, nd, pl, hd4, hp4, ho4, g4, rfl⟩
      walk_at "go"
      refine ⟨p, l, rfl, SqL.of hp4, by omega, fun ys r perm srt hr0 => ?_⟩
      have nr : r ≠ d := hd4.ne hr0
      have ndy : ys.Nodup := perm.nodup_iff.mpr nd
      refine q r ys _ ?_ ⟨fun s hs => pl s (perm.mem_iff.mp hs), sortedS_lt srt ndy⟩ perm.length_eq (fun a u na e => ?_) (hd4.new hr0) upd_same
      · cases e : H r with
        | none => rfl
        | some u => rw [g4 r u nr e] at hr0; cases hr0
      · rw [upd_ne (ne_of_none (g4 a u na e) hr0)]
        exact g4 a u na e
end
end Fk
namespace Fk
open PySem PySem.Spec PyProof.Rows L2
local macro_rules | `(tactic| walk_at "fk") => `(tactic| first
  | with_reducible refine w_seq ?_ | with_reducible refine w_set ?_ | with_reducible refine w_asg ?_ | with_reducible refine w_drop ?_ | with_reducible refine w_ret ?_ | with_reducible refine w_if ?_
  | with_reducible refine w_op ?_ | with_reducible refine w_un ?_ | with_reducible refine w_c ?_ | ((with_reducible apply w_var); rfl)
  | with_reducible refine w_test ?_ | with_reducible refine w_B ?_ | with_reducible refine w_exb ?_ | with_reducible refine w_exi ?_ | with_reducible refine w_I0 ?_ | with_reducible refine w_U ?_
  | with_reducible refine w_nil ?_ | with_reducible refine w_cons ?_ | with_reducible refine w_call ?_ | with_reducible refine w_cb ?_ | with_reducible refine w_tup ?_ | with_reducible refine w_lst ?_
  | with_reducible refine w_and ?_ | with_reducible refine w_or ?_ | with_reducible refine w_not ?_ | with_reducible refine w_andV ?_ | with_reducible refine w_orV ?_ | with_reducible refine w_notV ?_
  | with_reducible refine w_ifE ?_ | with_reducible refine w_chain ?_ | with_reducible refine w_for ?_ | with_reducible refine w_lc ?_ | with_reducible refine w_yes ?_ | with_reducible refine w_iR1 ?_ | with_reducible refine w_iL ?_ | with_reducible refine w_iT ?_ | with_reducible refine w_iE ?_ | with_reducible refine w_iZ ?_ | with_reducible refine w_iS ?_ | with_reducible refine w_s1 ?_ | with_reducible refine w_m1 ?_ | with_reducible refine w_m0 ?_ | with_reducible refine w_estr ?_ | with_reducible refine w_lz ?_ | with_reducible refine w_dnew ?_ | with_reducible refine w_revT ?_ | with_reducible refine w_leS ?_ | with_reducible refine w_ltS ?_ | with_reducible refine w_inSg ?_ | with_reducible refine w_notInSg ?_ | with_reducible refine iteT ?_ | with_reducible refine iteF ?_ | with_reducible refine w_par ?_ | with_reducible refine w_two ?_ | with_reducible refine w_gname ?_ | with_reducible refine w_gcons ?_ | with_reducible refine w_gnil ?_ | ((with_reducible apply w_gtup); (with_reducible assumption); rfl) | with_reducible refine w_gsub ?_
  | with_reducible refine w_bm ?_ | with_reducible refine w_sl ?_ | with_reducible refine w_noP ?_ | with_reducible refine w_part ?_ | with_reducible refine w_next ?_ | with_reducible refine w_retN ?_
  | ((with_reducible refine w_I ?hk ?_); (case hk => (first | (show (0 : Int) < _; omega) | exact ⟨by omega, by omega⟩ | exact .inl ⟨by omega, by omega⟩ | exact .inr ⟨by omega, by omega⟩ | exact cpow_small (by decide) (by decide) (by decide))))
  | ((with_reducible apply w_eq); rfl) | ((with_reducible apply w_ne); rfl)
  | ((with_reducible apply w_ixL); (with_reducible assumption); rfl)
  | ((with_reducible apply w_setL); (with_reducible assumption); rfl))
local macro_rules | `(tactic| walk_at "go") => `(tactic| repeat walk_at "fk")

/-- a pair of places of l, rising, as it stands at x -/
def PairAt (K : PySem.W.Frag) (H : Hp) (l : List Str) (x : V) (a b : Str) : Prop := ∃ t : Addr, x = .ref t ∧ H t = some (.tup [.str a, .str b]) ∧ a ∈ l ∧ b ∈ l ∧ Lts a b
section
variable {P : Program} {w : World} {K : PySem.W.Frag} {mg : Str → Option Value} {base : Heap}
theorem PairAt.go {H H' : Hp} {l : List Str} {x : V} {a b : Str} {d : Addr} {n : Nat} (g : Go d H H') (hd : Drw H d n) (h : PairAt K H l x a b) : PairAt K H' l x a b := by
  obtain ⟨t, rfl, ht, r⟩ := h
  refine ⟨t, rfl, g t _ (fun e => ?_) ht, r⟩
  obtain ⟨a, b, c, hd, _⟩ := hd
  rw [e, hd] at ht
  cases ht
def spPairs (K : PySem.W.Frag) : Sp := fun vs H Q _ => ∃ (d a : Addr) (n : Nat) (l : List Str), vs = [.ref d, .ref a] ∧ H a = some (.lst (l.map V.str)) ∧ Drw H d n ∧ n + 4 ≤ 100000 ∧ Names l ∧ 2 ≤ l.length ∧ l.length ≤ 12 ∧
  ∀ (p : Addr) (xs : List V) (H' : Hp), Go d H H' → Drw H' d (n + 4) → H' p = some (.lst xs) → H p = none → xs ≠ [] → xs.length ≤ 1000 → (∀ x ∈ xs, ∃ a b, PairAt K H' l x a b) → Q (.ref p) H'
theorem ok_pairs {f : Addr} {fd : FuncData} (F : Fun K "_law_pairs" "_law_pairs" s_law_pairs f fd) (T : Txt mg) (C_law_next : Cal P w K mg base 1 "_law_next" ["draw", "size"] spNext)
    (C_law_pick : Cal P w K mg base 2 "_law_pick" ["draw", "some"] (spPick K)) : FnOk P w K mg base CX0 3 f fd ["draw", "spots"] (spPairs K) := by
  refine F.ok sc_law_pairs (fun vs H Q E h => ?_) (fun cdv A outer s H vs Q E hr h => ?_)
  · obtain ⟨d, a, n, l, rfl, _⟩ := h
    rfl
  · obtain ⟨d, a, n, l, rfl, ha, hd, hn, nm, l2, l12, q⟩ := h
    have ad : a ≠ d := fun e => by
      obtain ⟨x, y, z, h, _⟩ := hd
      rw [e, h] at ha
      have := HO.lst.inj (Option.some.inj ha)
      cases l with
      | nil => cases this
      | cons s r => cases (List.cons.inj this).1
    refine ⟨_, (pss_cons (ps_asg (pe_tup (pa_cons (pe_lst pa_nil) (pa_cons (pc C_law_next (hr.mono (by decide)) (by rfl) (pa_cons (pv 0) (pa_cons pe_int pa_nil))) pa_nil))) (ktup K rfl (pgs_cons (pg_name (i := 2) sc_law_pairs.nd rfl (.inr rfl)) (pgs_cons (pg_name (i := 3) sc_law_pairs.nd rfl (.inl rfl)) pgs_nil))))
      (pss_cons (ps_for PassesOwn.never rfl (kenumI K (by rfl) T.enumerate_ (pa_cons (pv 1) pa_nil)) (ktup K rfl (pgs_cons (pg_name (i := 4) sc_law_pairs.nd rfl (.inl rfl)) (pgs_cons (pg_name (i := 5) sc_law_pairs.nd rfl (.inr rfl)) pgs_nil))) (pss_one (ps_set (i := 2) sc_law_pairs.nd rfl (.inr rfl) (pe_op op_cat (pv 2) (pe_lc (own := [("other", 7)]) (g := gName 7) (by rfl) sc_law_pairs.nd (klistI K (pe_slice (kslL K) (pv 1) (po_some (pe_op op_add (pv 4) pe_int)) po_none)) (blkOk_by (own := [("other", 7)]) (N := ["draw", "spots", "every", "way", "at", "one", "poles", "other", "turn", "pair"]) (sc := defScope s_law_pairs) (by decide +kernel)) (fun _ _ _ _ _ => (pg_name (i := 7) sc_law_pairs.nd rfl (Or.inl rfl))) (fun _ _ _ _ _ => pts_nil) (fun _ _ _ _ _ => (pe_tup (pa_cons (pv 5) (pa_cons (pv 7) pa_nil)))))))))
      (pss_cons (ps_if (PW.pt (pw_or (pt_cmpR op_eq (pv 3) pe_int (nomark _)) (pw_or1 (pt_cmpR op_eq (pe_callB (klen K) (by rfl) T.len_ PySem.boot_len (pa_cons (pv 1) pa_nil)) pe_int (nomark _))))) (pss_one (ps_ret (pv 2))) pss_nil)
      (pss_cons (ps_if (pt_cmpR op_eq (pv 3) pe_int (nomark _)) (pss_one (ps_ret (pe_lc (own := [("turn", 8)]) (g := gName 8) (by rfl) sc_law_pairs.nd (pi_range1 (by rfl) T.range_ (pa_cons pe_int pa_nil)) (blkOk_by (own := [("turn", 8)]) (N := ["draw", "spots", "every", "way", "at", "one", "poles", "other", "turn", "pair"]) (sc := defScope s_law_pairs) (by decide +kernel)) (fun _ _ _ _ _ => (pg_name (i := 8) sc_law_pairs.nd rfl (Or.inl rfl))) (fun _ _ _ _ _ => pts_nil) (fun _ _ _ _ _ => (pc C_law_pick (hr.mono (by decide)) (by rfl) (pa_cons (pv 0) (pa_cons (pv 2) pa_nil))))))) pss_nil)
      (pss_cons (ps_if (pt_cmpR op_eq (pv 3) pe_int (nomark _)) (pss_cons (ps_set (i := 6) sc_law_pairs.nd rfl (.inr rfl) (pe_lst (pa_cons (pc C_law_pick (hr.mono (by decide)) (by rfl) (pa_cons (pv 0) (pa_cons (pv 1) pa_nil))) (pa_cons (pc C_law_pick (hr.mono (by decide)) (by rfl) (pa_cons (pv 0) (pa_cons (pv 1) pa_nil))) pa_nil))))
      (pss_one (ps_ret (pe_lc (own := [("pair", 9)]) (g := gName 9) (by rfl) sc_law_pairs.nd (klistI K (pv 2)) (blkOk_by (own := [("pair", 9)]) (N := ["draw", "spots", "every", "way", "at", "one", "poles", "other", "turn", "pair"]) (sc := defScope s_law_pairs) (by decide +kernel)) (fun _ _ _ _ _ => (pg_name (i := 9) sc_law_pairs.nd rfl (Or.inl rfl))) (fun _ _ _ _ _ => (pts_one (PW.pt (pw_or (pt_cmpR (kIn K) (pe_ix (kixT K) (pv 9) pe_int (fun _ _ => rfl)) (pv 6) rfl) (pw_or1 (pt_cmpR (kIn K) (pe_ix (kixT K) (pv 9) pe_int (fun _ _ => rfl)) (pv 6) rfl)))))) (fun _ _ _ _ _ => (pv 9)))))) pss_nil)
      (pss_one (ps_ret (pe_listZip K rfl (by rfl) T.list_ (by rfl) T.zip_ (pa_cons (pv 1) (pa_cons (pe_slice (kslL K) (pv 1) (po_some pe_int) po_none) pa_nil)))))))))), ?_⟩
    refine w_from [some (.ref d), some (.ref a), none, none, none, none, none, none, none, none] ?_
    try dsimp only [cxOf]
    walk_at "go"
    refine ⟨small (by show 0 ≤ 100000; omega), ?_⟩
    intro e he
    generalize hE : upd _ e _ = H1
    have nH1 : New _ e (.lst []) H1 := New.of he hE
    clear hE
    walk_at "go"
    refine next_i (nH1.drw hd) (by omega) (by omega) (by omega) fun r H2 r0 r1 b2 hd2 => ?_
    walk_at "go"
    refine ⟨small (by show 2 ≤ 100000; omega), ?_⟩
    intro t ht
    generalize hE : upd _ t _ = H3
    have nH3 := New.of ht hE
    clear hE
    have hT := SqT.of (K := K) nH3.here
    have g3 : Go d H H3 := nH3.go (nH1.go1.bt b2)
    have ed : e ≠ d := hd.ne nH1.free
    have he3 : H3 e = some (.lst []) := nH3.keep (b2.keep nH1.here ed)
    have hd3 := nH3.drw hd2
    walk_at "go"
    refine w_e1 (xs := l.map V.str) (SqL.of (g3 a _ ad ha)) ?_
    refine forE (xs := l.map V.str) (fun i σ' H' => ∃ (e' : Addr) (xs : List V) (x4 x5 x7 : Option V), e' ≠ d ∧ H e' = none ∧ H' e' = some (.lst xs) ∧ xs.length ≤ 12 * i ∧ (∀ x ∈ xs, ∃ a b, PairAt K H' l x a b) ∧
      (∀ j k a b, j < i → j < k → l[j]? = some a → l[k]? = some b → ∃ x ∈ xs, PairAt K H' l x a b) ∧ Go d H H' ∧ Drw H' d (n + 1) ∧
      σ' = [some (.ref d), some (.ref a), some (.ref e'), some (.int r), x4, x5, none, x7, none, none]) ?_ ?_ ?_ ?_
    · exact ⟨e, [], none, none, none, ed, nH1.free, he3, Nat.le_refl _, fun x h => absurd h (by simp), fun j k a b h => absurd h (by omega), g3, hd3, rfl⟩
    · rintro i σ' H' _ ⟨e', xs, x4, x5, x7, ed', he0, he', hl', hx', hc', g', hd', rfl⟩
      exact SqL.of (g' a _ ad ha)
    · rintro i x T σ' H4 hx ⟨e', xs, x4, x5, x7, ed', he0, he4, hl4, hx4, hc4, g4, hd4, rfl⟩ hTn
      obtain ⟨s, hs, rfl⟩ : ∃ s, l[i]? = some s ∧ x = .str s := by
        rw [List.getElem?_map] at hx
        cases e : l[i]? with
        | none => rw [e] at hx; cases hx
        | some s => rw [e] at hx; exact ⟨s, rfl, (Option.some.inj hx).symm⟩
      have il : i < l.length := (List.getElem?_eq_some_iff.mp hs).1
      generalize hE : upd _ T _ = H5
      have nH5 := New.of hTn hE
      clear hE
      have hT5 := SqT.of (K := K) nH5.here
      walk_at "go"
      refine w_slL (SqL.of (nH5.keep (g4 a _ ad ha))) ?_
      rw [cut_from, ← List.map_drop]
      intro c hc
      generalize hE : upd _ c _ = H6
      have nH6 := New.of hc hE
      clear hE
      walk_at "go"
      refine w_l1 (SqL.of nH6.here) ?_
      have hd6 := nH6.drw (nH5.drw hd4)
      have cd : c ≠ d := (nH5.drw hd4).ne nH6.free
      refine lcL (xs := (l.drop (i + 1)).map V.str) (fun C j H' => ∃ ys : List V, H' C = some (.lst ys) ∧ ys.length = j ∧ Go d H6 H' ∧ Drw H' d (n + 1) ∧ (∀ k b, k < j → (l.drop (i + 1))[k]? = some b → ∃ x ∈ ys, PairAt K H' l x s b) ∧ (∀ x ∈ ys, ∃ b, PairAt K H' l x s b)) ?_ ?_ ?_ ?_
      · intro C hC
        exact ⟨[], upd_same, rfl, (Go.refl d H6).put hC, hd6.new hC, fun k b h => absurd h (by omega), fun x h => absurd h (by simp)⟩
      · rintro C j H7 hC _ ⟨ys, _, _, g7, _⟩
        exact SqL.of (g7 c _ cd nH6.here)
      · rintro C j x H7 hC hx ⟨ys, hC7, rfl, g7, hd7, hc7, hy7⟩
        obtain ⟨b, hb, rfl⟩ : ∃ s, (l.drop (i + 1))[ys.length]? = some s ∧ x = .str s := by
          rw [List.getElem?_map] at hx
          cases e : (l.drop (i + 1))[ys.length]? with
          | none => rw [e] at hx; cases hx
          | some s => rw [e] at hx; exact ⟨s, rfl, (Option.some.inj hx).symm⟩
        have hb' : l[i + 1 + ys.length]? = some b := by rw [List.getElem?_drop] at hb; exact hb
        have jl : i + 1 + ys.length < l.length := (List.getElem?_eq_some_iff.mp hb').1
        refine w_turn rfl ?_
        walk_at "go"
        refine ⟨small (by show 2 ≤ 100000; omega), ?_⟩
        intro u hu
        generalize hE : upd _ u _ = H8
        have nH8 := New.of hu hE
        clear hE
        have uC : u ≠ C := (nH8.apart hC7).symm
        have Cd : C ≠ d := hd6.ne hC
        have P8 : ∀ {x : V} {b : Str}, PairAt K H7 l x s b → PairAt K (upd H8 C (.lst (ys ++ [.ref u]))) l x s b := by
          rintro x b ⟨t, rfl, ht, r⟩
          refine ⟨t, rfl, ?_, r⟩
          rw [upd_ne (fun e => by rw [e, hC7] at ht; cases ht)]
          exact nH8.keep ht
        have new8 : PairAt K (upd H8 C (.lst (ys ++ [.ref u]))) l (.ref u) s b :=
          ⟨u, rfl, by rw [upd_ne uC]; exact nH8.here, List.mem_of_getElem? hs, List.mem_of_getElem? hb', nm.lt hs hb' (by omega)⟩
        refine ⟨ys, nH8.keep hC7, smallS (by omega), ys ++ [.ref u], upd_same, by simp, (nH8.go g7).put hC, (nH8.drw hd7).put Cd.symm, ?_, ?_⟩
        · intro k b2 hk hb2
          by_cases e : k = ys.length
          · subst e
            rw [hb] at hb2
            cases hb2
            exact ⟨_, by simp, new8⟩
          · obtain ⟨x, hx, hp⟩ := hc7 k b2 (by omega) hb2
            exact ⟨x, List.mem_append_left _ hx, P8 hp⟩
        · intro x hx
          rcases List.mem_append.mp hx with hx | hx
          · obtain ⟨b, hb⟩ := hy7 x hx
            exact ⟨b, P8 hb⟩
          · rw [List.mem_singleton.mp hx]
            exact ⟨b, new8⟩
      · rintro C H7 hC ⟨ys, hC7, hl7, g7, hd7, hc7, hy7⟩
        have ly : ys.length ≤ 12 := by rw [hl7, List.length_map, List.length_drop]; omega
        walk_at "go"
        have g47 : Go d H4 H7 := (nH6.go nH5.go1).trans g7
        refine w_cat (g47 e' _ ed' he4) hC7 (by omega) ?_
        intro e2 he2
        generalize hE : upd _ e2 _ = H8
        have nH8 := New.of he2 hE
        clear hE
        walk_at "go"
        refine ⟨e2, xs ++ ys, _, _, _, hd7.ne nH8.free, ?_, nH8.here, by rw [List.length_append]; omega, ?_, ?_, nH8.go (g4.trans g47), nH8.drw hd7, rfl⟩
        · cases q : H e2 with
          | none => rfl
          | some u =>
            have := (g4.trans g47) e2 u (hd7.ne nH8.free) q
            rw [nH8.free] at this
            cases this
        · intro x hx
          rcases List.mem_append.mp hx with hx | hx
          · obtain ⟨a, b, h⟩ := hx4 x hx
            exact ⟨a, b, (h.go g47 hd4).go nH8.go1 hd7⟩
          · obtain ⟨b, h⟩ := hy7 x hx
            exact ⟨s, b, h.go nH8.go1 hd7⟩
        · intro j k a b hj hjk ha hb
          by_cases e : j = i
          · subst e
            rw [hs] at ha
            cases ha
            have kl : k < l.length := (List.getElem?_eq_some_iff.mp hb).1
            obtain ⟨x, hx, hp⟩ := hc7 (k - (j + 1)) b (by rw [List.length_map, List.length_drop]; omega) (by rw [List.getElem?_drop, show j + 1 + (k - (j + 1)) = k by omega]; exact hb)
            exact ⟨x, List.mem_append_right _ hx, hp.go nH8.go1 hd7⟩
          · obtain ⟨x, hx, hp⟩ := hc4 j k a b (by omega) hjk ha hb
            exact ⟨x, List.mem_append_left _ hx, (hp.go g47 hd4).go nH8.go1 hd7⟩
    · rintro σ' H4 ⟨e', xs, x4, x5, x7, ed', he0, he4, hl4, hx4, hc4, g4, hd4, rfl⟩
      rw [List.length_map] at hl4 hc4
      walk_at "go"
      have l0 : l[0]? = some (l[0]'(by omega)) := List.getElem?_eq_getElem (by omega)
      have l1 : l[1]? = some (l[1]'(by omega)) := List.getElem?_eq_getElem (by omega)
      have xne : xs ≠ [] := by
        obtain ⟨x, hx, _⟩ := hc4 0 1 _ _ (by omega) (by omega) l0 l1
        exact fun e => by rw [e] at hx; cases hx
      have xlen : xs.length ≤ 1000 := by omega
      refine w_bool (fun _ => ?_) (fun _ => ?_)
      · walk_at "go"
        exact q e' xs H4 g4 (hd4.le (by omega)) he4 he0 xne xlen hx4
      · walk_at "go"
        refine w_len (.inl ⟨_, SqL.of (g4 a _ ad ha), rfl⟩) ?_
        walk_at "go"
        refine w_bool (fun _ => ?_) (fun _ => ?_)
        · walk_at "go"
          exact q e' xs H4 g4 (hd4.le (by omega)) he4 he0 xne xlen hx4
        · walk_at "go"
          refine w_bool (fun _ => ?_) (fun _ => ?_)
          · walk_at "go"
            refine w_r1 (m := 3) (by omega) ?_
            refine lcR (fun C i H' => ∃ ys : List V, H' C = some (.lst ys) ∧ ys.length = i ∧ (∀ y ∈ ys, y ∈ xs) ∧ Go d H4 H' ∧ Drw H' d (n + 1 + i)) ?_ ?_ ?_
            · intro C hC
              exact ⟨[], upd_same, rfl, fun y h => absurd h (by simp), (Go.refl d H4).put hC, hd4.new hC⟩
            · rintro C i H5 hC hi ⟨ys, hC5, rfl, hy5, g5, hd5⟩
              refine w_turn rfl ?_
              walk_at "go"
              refine pick_l hd5 (by omega) (SqL.of (g5 e' _ ed' he4)) ed' (List.length_pos_iff.mpr xne) (by omega) fun v H6 hv b6 hd6 => ?_
              have Cd : C ≠ d := hd4.ne hC
              refine ⟨ys, b6.keep hC5 Cd, smallS (by omega), ys ++ [v], upd_same, by simp, fun y hy => ?_, (g5.bt b6).put hC, hd6.put Cd.symm⟩
              rcases List.mem_append.mp hy with hy | hy
              · exact hy5 y hy
              · rw [List.mem_singleton.mp hy]
                exact hv
            · rintro C H5 hC ⟨ys, hC5, hl5, hy5, g5, hd5⟩
              refine q C ys H5 (g4.trans g5) (hd5.le (by omega)) hC5 (g4.back hd4 hC) (fun e => by rw [e] at hl5; cases hl5) (by omega) fun x hx => ?_
              obtain ⟨a, b, h⟩ := hx4 x (hy5 x hx)
              exact ⟨a, b, h.go g5 hd4⟩
          · walk_at "go"
            refine w_bool (fun _ => ?_) (fun _ => ?_)
            · walk_at "go"
              refine pick_l hd4 (by omega) (SqL.of (g4 a _ ad ha)) ad (by rw [List.length_map]; omega) (by rw [List.length_map]; omega) fun v H5 hv b5 hd5 => ?_
              obtain ⟨s1, hs1, rfl⟩ := List.mem_map.mp hv
              walk_at "go"
              refine pick_l hd5 (by omega) (SqL.of (b5.keep (g4 a _ ad ha) ad)) ad (by rw [List.length_map]; omega) (by rw [List.length_map]; omega) fun v H6 hv b6 hd6 => ?_
              obtain ⟨s2, hs2, rfl⟩ := List.mem_map.mp hv
              walk_at "go"
              refine ⟨small (by show 2 ≤ 100000; omega), ?_⟩
              intro o ho
              generalize hE : upd _ o _ = H7
              have nH7 : New _ o (.lst ([s1, s2].map V.str)) H7 := New.of ho hE
              clear hE
              have hd7 := nH7.drw hd6
              have od : o ≠ d := hd6.ne nH7.free
              have g7 : Go d H4 H7 := nH7.go (b5.go.trans b6.go)
              have he7 := g7 e' _ ed' he4
              walk_at "go"
              refine w_l1 (SqL.of he7) ?_
              refine lcL (xs := xs) (fun C i H' => Go d H7 H' ∧ Drw H' d (n + 3) ∧ ∃ ys : List V, H' C = some (.lst ys) ∧ ys.length ≤ i ∧ (∀ y ∈ ys, y ∈ xs) ∧
                ∀ j x, j < i → xs[j]? = some x → (∃ b, PairAt K H4 l x s1 b ∨ PairAt K H4 l x b s1) → x ∈ ys) ?_ ?_ ?_ ?_
              · intro C hC
                exact ⟨(Go.refl d H7).put hC, hd7.new hC, [], upd_same, Nat.le_refl _, fun y h => absurd h (by simp), fun j x h => absurd h (by omega)⟩
              · rintro C i H8 hC _ ⟨g8, _⟩
                exact SqL.of (g8 e' _ ed' he7)
              · rintro C i x H8 hC hx ⟨g8, hd8, ys, hC8, hl8, hy8, hc8⟩
                have il : i < xs.length := (List.getElem?_eq_some_iff.mp hx).1
                obtain ⟨u1, u2, hp⟩ := hx4 x (List.mem_of_getElem? hx)
                obtain ⟨t, rfl, ht, ru⟩ := hp
                have td : t ≠ d := fun e => by
                  obtain ⟨x, y, z, h, _⟩ := hd4
                  rw [e, h] at ht
                  cases ht
                have ht8 := SqT.of (K := K) (g8 t _ td (g7 t _ td ht))
                have ho8 := SqL.of (K := K) (g8 o _ od nH7.here)
                have Cd : C ≠ d := hd7.ne hC
                have only : ∀ {b : Str}, PairAt K H4 l (.ref t) s1 b ∨ PairAt K H4 l (.ref t) b s1 → u1 ∈ [s1, s2] ∨ u2 ∈ [s1, s2] := by
                  rintro b (⟨t', e, ht', _⟩ | ⟨t', e, ht', _⟩)
                  · cases e
                    rw [ht] at ht'
                    cases ht'
                    exact .inl (by simp)
                  · cases e
                    rw [ht] at ht'
                    cases ht'
                    exact .inr (by simp)
                have yes : ∀ H9, H9 = H8 → (∃ acc, H9 C = some (.lst acc) ∧ acc.length < sizeLine ∧ (Go d H7 (upd H9 C (.lst (acc ++ [.ref t]))) ∧ Drw (upd H9 C (.lst (acc ++ [.ref t]))) d (n + 3) ∧ ∃ ys : List V, (upd H9 C (.lst (acc ++ [.ref t]))) C = some (.lst ys) ∧ ys.length ≤ i + 1 ∧ (∀ y ∈ ys, y ∈ xs) ∧
                    ∀ j x, j < i + 1 → xs[j]? = some x → (∃ b, PairAt K H4 l x s1 b ∨ PairAt K H4 l x b s1) → x ∈ ys)) := by
                  rintro H9 rfl
                  refine ⟨ys, hC8, smallS (by omega), g8.put hC, hd8.put Cd.symm, ys ++ [.ref t], upd_same, by simp; omega, fun y hy => ?_, fun j x hj hxj hb => ?_⟩
                  · rcases List.mem_append.mp hy with hy | hy
                    · exact hy8 y hy
                    · rw [List.mem_singleton.mp hy]
                      exact List.mem_of_getElem? hx
                  · by_cases e : j = i
                    · subst e
                      rw [hx] at hxj
                      cases hxj
                      simp
                    · exact List.mem_append_left _ (hc8 j x (by omega) hxj hb)
                refine w_turn rfl ?_
                walk_at "go"
                refine w_ixT ht8 (atI_of (i := 0) rfl) ?_
                walk_at "go"
                refine w_inS ho8 ?_
                walk_at "go"
                refine w_dec (fun h1 => ?_) (fun h1 => ?_)
                · walk_at "go"
                  exact yes H8 rfl
                · walk_at "go"
                  refine w_ixT ht8 (atI_of (i := 1) rfl) ?_
                  walk_at "go"
                  refine w_inS ho8 ?_
                  walk_at "go"
                  refine w_dec (fun h2 => ?_) (fun h2 => ?_)
                  · walk_at "go"
                    exact yes H8 rfl
                  · refine ⟨g8, hd8, ys, hC8, by omega, hy8, fun j x hj hxj hb => ?_⟩
                    by_cases e : j = i
                    · subst e
                      rw [hx] at hxj
                      cases hxj
                      obtain ⟨b, hb⟩ := hb
                      rcases only hb with h | h
                      · exact (h1 h).elim
                      · exact (h2 h).elim
                    · exact hc8 j x (by omega) hxj hb
              · rintro C H8 hC ⟨g8, hd8, ys, hC8, hl8, hy8, hc8⟩
                have g48 : Go d H4 H8 := g7.trans g8
                refine q C ys H8 (g4.trans g48) (hd8.le (by omega)) hC8 (g4.back hd4 (g7.back hd7 hC)) ?_ (by omega) fun x hx => ?_
                · have some1 : ∃ x ∈ xs, ∃ b, PairAt K H4 l x s1 b ∨ PairAt K H4 l x b s1 := by
                    obtain ⟨j, hj, ej⟩ := List.mem_iff_getElem.mp hs1
                    have hj' : l[j]? = some s1 := by rw [List.getElem?_eq_getElem hj, ej]
                    by_cases h0 : j = 0
                    · subst h0
                      obtain ⟨x, hx, hp⟩ := hc4 0 1 _ _ (by omega) (by omega) hj' l1
                      exact ⟨x, hx, _, .inl hp⟩
                    · obtain ⟨x, hx, hp⟩ := hc4 0 j _ _ (by omega) (by omega) l0 hj'
                      exact ⟨x, hx, _, .inr hp⟩
                  obtain ⟨x, hx, hb⟩ := some1
                  obtain ⟨j, hj, ej⟩ := List.mem_iff_getElem.mp hx
                  have := hc8 j x hj (by rw [List.getElem?_eq_getElem hj, ej]) hb
                  exact fun e => by rw [e] at this; cases this
                · obtain ⟨a, b, h⟩ := hx4 x (hy8 x hx)
                  exact ⟨a, b, h.go g48 hd4⟩
            · walk_at "go"
              refine w_slL (SqL.of (g4 a _ ad ha)) ?_
              rw [cut_one, ← List.map_drop]
              intro c hc
              generalize hE : upd _ c _ = H5
              have nH5 := New.of hc hE
              clear hE
              walk_at "go"
              refine ⟨a, c, _, _, rfl, SqL.of (nH5.keep (g4 a _ ad ha)), SqL.of nH5.here, fun p ts H6 e6 hp hp6 hl6 ht6 => ?_⟩
              have g6 : Go d H4 H6 := fun a o _ h => e6 a o (nH5.keep h)
              rw [List.length_map, List.length_map, List.length_drop] at hl6
              refine q p _ H6 (g4.trans g6) ((hd4.ex nH5.ex).ex e6 |>.le (by omega)) hp6 (g4.back hd4 (nH5.back hp)) ?_ (by rw [List.length_map]; omega) fun x hx => ?_
              · intro e
                have := congrArg List.length e
                rw [List.length_map] at this
                simp at this
                rw [this] at hl6
                simp at hl6
                omega
              · obtain ⟨t, ht, rfl⟩ := List.mem_map.mp hx
                obtain ⟨i, hi, ei⟩ := List.mem_iff_getElem.mp ht
                obtain ⟨x, y, hx, hy, h6⟩ := ht6 i t (by rw [List.getElem?_eq_getElem hi, ei])
                rw [List.getElem?_map] at hx hy
                rw [List.getElem?_drop] at hy
                cases e1 : l[i]? with
                | none => rw [e1] at hx; cases hx
                | some s =>
                  cases e2 : l[1 + i]? with
                  | none => rw [e2] at hy; cases hy
                  | some u =>
                    rw [e1] at hx
                    rw [e2] at hy
                    cases hx
                    cases hy
                    exact ⟨s, u, t, rfl, h6, List.mem_of_getElem? e1, List.mem_of_getElem? e2, nm.lt e1 e2 (by omega)⟩
end
end Fk
namespace Fk
open PySem PySem.Spec PyProof.Rows L2
local macro_rules | `(tactic| walk_at "fk") => `(tactic| first
  | with_reducible refine w_seq ?_ | with_reducible refine w_set ?_ | with_reducible refine w_asg ?_ | with_reducible refine w_drop ?_ | with_reducible refine w_ret ?_ | with_reducible refine w_if ?_
  | with_reducible refine w_op ?_ | with_reducible refine w_un ?_ | with_reducible refine w_c ?_ | ((with_reducible apply w_var); rfl)
  | with_reducible refine w_test ?_ | with_reducible refine w_B ?_ | with_reducible refine w_exb ?_ | with_reducible refine w_exi ?_ | with_reducible refine w_I0 ?_ | with_reducible refine w_U ?_
  | with_reducible refine w_nil ?_ | with_reducible refine w_cons ?_ | with_reducible refine w_call ?_ | with_reducible refine w_cb ?_ | with_reducible refine w_tup ?_ | with_reducible refine w_lst ?_
  | with_reducible refine w_and ?_ | with_reducible refine w_or ?_ | with_reducible refine w_not ?_ | with_reducible refine w_andV ?_ | with_reducible refine w_orV ?_ | with_reducible refine w_notV ?_
  | with_reducible refine w_ifE ?_ | with_reducible refine w_chain ?_ | with_reducible refine w_for ?_ | with_reducible refine w_lc ?_ | with_reducible refine w_yes ?_ | with_reducible refine w_iR1 ?_ | with_reducible refine w_iL ?_ | with_reducible refine w_iT ?_ | with_reducible refine w_iE ?_ | with_reducible refine w_iZ ?_ | with_reducible refine w_iS ?_ | with_reducible refine w_s1 ?_ | with_reducible refine w_m1 ?_ | with_reducible refine w_m0 ?_ | with_reducible refine w_estr ?_ | with_reducible refine w_lz ?_ | with_reducible refine w_dnew ?_ | with_reducible refine w_revT ?_ | with_reducible refine w_leS ?_ | with_reducible refine w_ltS ?_ | with_reducible refine w_inSg ?_ | with_reducible refine w_notInSg ?_ | with_reducible refine iteT ?_ | with_reducible refine iteF ?_ | with_reducible refine w_par ?_ | with_reducible refine w_two ?_ | with_reducible refine w_gname ?_ | with_reducible refine w_gcons ?_ | with_reducible refine w_gnil ?_ | ((with_reducible apply w_gtup); (with_reducible assumption); rfl) | with_reducible refine w_gsub ?_
  | with_reducible refine w_bm ?_ | with_reducible refine w_sl ?_ | with_reducible refine w_noP ?_ | with_reducible refine w_part ?_ | with_reducible refine w_next ?_ | with_reducible refine w_retN ?_
  | ((with_reducible refine w_I ?hk ?_); (case hk => (first | (show (0 : Int) < _; omega) | exact ⟨by omega, by omega⟩ | exact .inl ⟨by omega, by omega⟩ | exact .inr ⟨by omega, by omega⟩ | exact cpow_small (by decide) (by decide) (by decide))))
  | ((with_reducible apply w_eq); rfl) | ((with_reducible apply w_ne); rfl)
  | ((with_reducible apply w_ixL); (with_reducible assumption); rfl)
  | ((with_reducible apply w_setL); (with_reducible assumption); rfl))
local macro_rules | `(tactic| walk_at "go") => `(tactic| repeat walk_at "fk")

/-- a link between places of l -/
structure LinkAt (H : Hp) (l : List Str) (t : Addr) (c m : Int) (a b : Str) : Prop where
  here : H t = some (.tup [.int c, .int m, .str a, .str b])
  c0 : 0 ≤ c
  c1 : c ≤ 1000000
  m0 : 0 ≤ m
  m1 : m ≤ 1000000
  ia : a ∈ l
  ib : b ∈ l
  lt : Lts a b
theorem cost_of {r : Int} {v : V} (r0 : 0 ≤ r) (r1 : r < 10 ^ Int.toNat 6 + 1) (h : v ∈ [V.int 0, .int 1, .int 2, .int 3, .int (10 ^ Int.toNat 6), .int r]) : ∃ c, v = .int c ∧ 0 ≤ c ∧ c ≤ 1000000 := by
  have e : (10 : Int) ^ Int.toNat 6 = 1000000 := by decide
  rw [e] at h r1
  simp only [List.mem_cons, List.not_mem_nil, or_false] at h
  rcases h with rfl | rfl | rfl | rfl | rfl | rfl
  all_goals exact ⟨_, rfl, by omega, by omega⟩
theorem mark_of {r : Int} {v : V} (r0 : 0 ≤ r) (r1 : r < 10 ^ Int.toNat 6 + 1) (h : v ∈ [V.int 0, .int 1, .int 2, .int r]) : ∃ c, v = .int c ∧ 0 ≤ c ∧ c ≤ 1000000 := by
  have e : (10 : Int) ^ Int.toNat 6 = 1000000 := by decide
  rw [e] at r1
  simp only [List.mem_cons, List.not_mem_nil, or_false] at h
  rcases h with rfl | rfl | rfl | rfl
  all_goals exact ⟨_, rfl, by omega, by omega⟩
section
variable {P : Program} {w : World} {K : PySem.W.Frag} {mg : Str → Option Value} {base : Heap}
def spLink (K : PySem.W.Frag) : Sp := fun vs H Q _ => ∃ (d a : Addr) (n : Nat) (l : List Str) (xs : List V), vs = [.ref d, .ref a] ∧ H a = some (.lst xs) ∧ a ≠ d ∧ xs ≠ [] ∧ xs.length ≤ 1000 ∧ (∀ x ∈ xs, ∃ a b, PairAt K H l x a b) ∧ Drw H d n ∧ n + 5 ≤ 100000 ∧
  ∀ (t : Addr) (c m : Int) (a b : Str) (H' : Hp), Go d H H' → Drw H' d (n + 5) → H t = none → LinkAt H' l t c m a b → Q (.ref t) H'
theorem ok_link {f : Addr} {fd : FuncData} (F : Fun K "_law_link" "_law_link" s_law_link f fd) (T : Txt mg) (C_law_next : Cal P w K mg base 1 "_law_next" ["draw", "size"] spNext)
    (C_law_pick : Cal P w K mg base 2 "_law_pick" ["draw", "some"] (spPick K)) : FnOk P w K mg base CX0 3 f fd ["draw", "pairs"] (spLink K) := by
  refine F.ok sc_law_link (fun vs H Q E h => ?_) (fun cdv A outer s H vs Q E hr h => ?_)
  · obtain ⟨d, a, n, l, xs, rfl, _⟩ := h
    rfl
  · obtain ⟨d, a, n, l, xs, rfl, ha, ad, xne, xl, hx, hd, hn, q⟩ := h
    refine ⟨_, (pss_cons (ps_asg (pc C_law_pick (hr.mono (by decide)) (by rfl) (pa_cons (pv 0) (pa_cons (pv 1) pa_nil))) (ktup K rfl (pgs_cons (pg_name (i := 2) sc_law_link.nd rfl (.inl rfl)) (pgs_cons (pg_name (i := 3) sc_law_link.nd rfl (.inl rfl)) pgs_nil))))
      (pss_cons (ps_set (i := 4) sc_law_link.nd rfl (.inl rfl) (pc C_law_pick (hr.mono (by decide)) (by rfl) (pa_cons (pv 0) (pa_cons (pe_lst (pa_cons pe_int (pa_cons pe_int (pa_cons pe_int (pa_cons pe_int (pa_cons (pe_op op_powN pe_int pe_int) (pa_cons (pc C_law_next (hr.mono (by decide)) (by rfl) (pa_cons (pv 0) (pa_cons (pe_op op_add (pe_op op_powN pe_int pe_int) pe_int) pa_nil))) pa_nil))))))) pa_nil))))
      (pss_one (ps_ret (pe_tup (pa_cons (pv 4) (pa_cons (pc C_law_pick (hr.mono (by decide)) (by rfl) (pa_cons (pv 0) (pa_cons (pe_lst (pa_cons pe_int (pa_cons pe_int (pa_cons pe_int (pa_cons (pc C_law_next (hr.mono (by decide)) (by rfl) (pa_cons (pv 0) (pa_cons (pe_op op_add (pe_op op_powN pe_int pe_int) pe_int) pa_nil))) pa_nil))))) pa_nil))) (pa_cons (pv 2) (pa_cons (pv 3) pa_nil))))))))), ?_⟩
    refine w_from [some (.ref d), some (.ref a), none, none, none] ?_
    try dsimp only [cxOf]
    walk_at "go"
    refine pick_l hd (by omega) (SqL.of ha) ad (List.length_pos_iff.mpr xne) (by omega) fun v H1 hv b1 hd1 => ?_
    obtain ⟨pa, pb, t, rfl, ht, ia, ib, lt⟩ := hx v hv
    have td : t ≠ d := fun e => by
      obtain ⟨x, y, z, h, _⟩ := hd
      rw [e, h] at ht
      cases ht
    have ht1 := SqT.of (K := K) (b1.keep ht td)
    walk_at "go"
    refine next_i hd1 (by omega) (by decide) (by decide) fun r H2 r0 r1 b2 hd2 => ?_
    walk_at "go"
    refine ⟨small (by show 6 ≤ 100000; omega), ?_⟩
    intro o ho
    generalize hE : upd _ o _ = H3
    have nH3 := New.of ho hE
    clear hE
    walk_at "go"
    have g3 : Go d H H3 := nH3.go ((b1.go.bt b2))
    have hd3 := nH3.drw hd2
    refine pick_l hd3 (by omega) (SqL.of nH3.here) (hd2.ne nH3.free) (by show 0 < 6; omega) (by show 6 ≤ 100000; omega) fun v H4 hv b4 hd4 => ?_
    obtain ⟨c, rfl, c0, c1⟩ := cost_of r0 r1 hv
    walk_at "go"
    refine next_i hd4 (by omega) (by decide) (by decide) fun r2 H5 r20 r21 b5 hd5 => ?_
    walk_at "go"
    refine ⟨small (by show 4 ≤ 100000; omega), ?_⟩
    intro o2 ho2
    generalize hE : upd _ o2 _ = H6
    have nH6 := New.of ho2 hE
    clear hE
    walk_at "go"
    have hd6 := nH6.drw hd5
    refine pick_l hd6 (by omega) (SqL.of nH6.here) (hd5.ne nH6.free) (by show 0 < 4; omega) (by show 4 ≤ 100000; omega) fun v H7 hv b7 hd7 => ?_
    obtain ⟨m, rfl, m0, m1⟩ := mark_of r20 r21 hv
    walk_at "go"
    refine ⟨small (by show 4 ≤ 100000; omega), ?_⟩
    intro u hu
    generalize hE : upd _ u _ = H8
    have nH8 := New.of hu hE
    clear hE
    have g7 : Go d H H7 := (nH6.go ((g3.bt b4).bt b5)).bt b7
    exact q u c m pa pb H8 (nH8.go g7) (nH8.drw hd7) (g7.back hd7 nH8.free) ⟨nH8.here, c0, c1, m0, m1, ia, ib, lt⟩
end
end Fk
namespace Fk
open PySem PySem.Spec PyProof.Rows L2
local macro_rules | `(tactic| walk_at "fk") => `(tactic| first
  | with_reducible refine w_seq ?_ | with_reducible refine w_set ?_ | with_reducible refine w_asg ?_ | with_reducible refine w_drop ?_ | with_reducible refine w_ret ?_ | with_reducible refine w_if ?_
  | with_reducible refine w_op ?_ | with_reducible refine w_un ?_ | with_reducible refine w_c ?_ | ((with_reducible apply w_var); rfl)
  | with_reducible refine w_test ?_ | with_reducible refine w_B ?_ | with_reducible refine w_exb ?_ | with_reducible refine w_exi ?_ | with_reducible refine w_I0 ?_ | with_reducible refine w_U ?_
  | with_reducible refine w_nil ?_ | with_reducible refine w_cons ?_ | with_reducible refine w_call ?_ | with_reducible refine w_cb ?_ | with_reducible refine w_tup ?_ | with_reducible refine w_lst ?_
  | with_reducible refine w_and ?_ | with_reducible refine w_or ?_ | with_reducible refine w_not ?_ | with_reducible refine w_andV ?_ | with_reducible refine w_orV ?_ | with_reducible refine w_notV ?_
  | with_reducible refine w_ifE ?_ | with_reducible refine w_chain ?_ | with_reducible refine w_for ?_ | with_reducible refine w_lc ?_ | with_reducible refine w_yes ?_ | with_reducible refine w_iR1 ?_ | with_reducible refine w_iL ?_ | with_reducible refine w_iT ?_ | with_reducible refine w_iE ?_ | with_reducible refine w_iZ ?_ | with_reducible refine w_iS ?_ | with_reducible refine w_s1 ?_ | with_reducible refine w_m1 ?_ | with_reducible refine w_m0 ?_ | with_reducible refine w_estr ?_ | with_reducible refine w_lz ?_ | with_reducible refine w_dnew ?_ | with_reducible refine w_revT ?_ | with_reducible refine w_leS ?_ | with_reducible refine w_ltS ?_ | with_reducible refine w_inSg ?_ | with_reducible refine w_notInSg ?_ | with_reducible refine iteT ?_ | with_reducible refine iteF ?_ | with_reducible refine w_par ?_ | with_reducible refine w_two ?_ | with_reducible refine w_gname ?_ | with_reducible refine w_gcons ?_ | with_reducible refine w_gnil ?_ | ((with_reducible apply w_gtup); (with_reducible assumption); rfl) | with_reducible refine w_gsub ?_
  | with_reducible refine w_bm ?_ | with_reducible refine w_sl ?_ | with_reducible refine w_noP ?_ | with_reducible refine w_part ?_ | with_reducible refine w_next ?_ | with_reducible refine w_retN ?_
  | ((with_reducible refine w_I ?hk ?_); (case hk => (first | (show (0 : Int) < _; omega) | exact ⟨by omega, by omega⟩ | exact .inl ⟨by omega, by omega⟩ | exact .inr ⟨by omega, by omega⟩ | exact cpow_small (by decide) (by decide) (by decide))))
  | ((with_reducible apply w_eq); rfl) | ((with_reducible apply w_ne); rfl)
  | ((with_reducible apply w_ixL); (with_reducible assumption); rfl)
  | ((with_reducible apply w_setL); (with_reducible assumption); rfl))
local macro_rules | `(tactic| walk_at "go") => `(tactic| repeat walk_at "fk")

section
variable {P : Program} {w : World} {K : PySem.W.Frag} {mg : Str → Option Value} {base : Heap}
def spPlace : Sp := fun vs H Q _ => ∃ x : V, vs = [x] ∧ Kd H x ∧ ∀ H', Evl.Ex H H' → Q (.bl (plV x)) H'
def spNumber : Sp := fun vs H Q _ => ∃ (x : V) (m : Int), vs = [x, .int m] ∧ Kd H x ∧ ∀ H', Evl.Ex H H' → Q (.bl (numV m x)) H'
def spIsLink : Sp := fun vs H Q _ => ∃ x : V, vs = [x] ∧ Kd H x ∧ ∀ H', Evl.Ex H H' → Q (.bl (linkV H x)) H'
theorem ok_is_place {f : Addr} {fd : FuncData} (F : Fun K "is_place" "is_place" s_is_place f fd) (T : Txt mg) : FnOk P w K mg base CX0 1 f fd ["thing"] spPlace := by
  obtain ⟨_, gMOST_SIGNS⟩ := T.MOST_SIGNS_
  refine F.ok sc_is_place (fun vs H Q E h => ?_) (fun cdv A outer s H vs Q E hr h => ?_)
  · obtain ⟨x, rfl, _⟩ := h
    rfl
  · obtain ⟨x, rfl, hx, q⟩ := h
    refine ⟨_, (pss_cons (ps_if (PW.pt (pw_or (pt_not (pt_val (pe_callB (kisi K) (by rfl) T.isinstance_ (by decide +kernel) (pa_cons (pv 0) (pa_cons (pe_bltn (v := .ty "str") (by rfl) T.str_ (by decide +kernel) rfl) pa_nil))))) (pw_or1 (pt_not (pt_chain op_le op_le pe_int (pe_callB (klen K) (by rfl) T.len_ PySem.boot_len (pa_cons (pv 0) pa_nil)) (pe_glob (v := .int 6) rfl gMOST_SIGNS ⟨_, rfl⟩)))))) (pss_one (ps_ret pe_bl)) pss_nil)
      (pss_one (ps_ret (pe_callB (kall K rfl) (by rfl) T.all_ (by decide +kernel) (pa_cons (pe_lc (own := [("sign", 1)]) (g := gName 1) (by rfl) sc_is_place.nd (pi_str (pv 0)) (blkOk_by (own := [("sign", 1)]) (N := ["thing", "sign"]) (sc := defScope s_is_place) (by decide +kernel)) (fun _ _ _ _ _ => (pg_name (i := 1) sc_is_place.nd rfl (Or.inl rfl))) (fun _ _ _ _ _ => pts_nil) (fun _ _ _ _ _ => (pe_chain kLeS kLeS pe_str (pv 1) pe_str))) pa_nil))))), ?_⟩
    refine w_from [some x, none] ?_
    try dsimp only [cxOf]
    walk_at "go"
    refine w_isi hx (by decide) ?_
    walk_at "go"
    refine w_bool (fun h => ?_) (fun h => ?_)
    · walk_at "go"
      rw [Bool.not_eq_true'] at h
      have := q H (Evl.Ex.refl H)
      rw [hx.str_no h] at this
      exact this
    · rw [Bool.not_eq_false'] at h
      obtain ⟨z, rfl, hz, hz8⟩ := hx.str_of h
      walk_at "go"
      refine w_len ⟨small hz, rfl⟩ ?_
      walk_at "go"
      refine w_dec (fun h1 => ?_) (fun h1 => ?_)
      · walk_at "go"
        refine w_bool (fun h2 => ?_) (fun h2 => ?_)
        · walk_at "go"
          have e : plV (.str z) = false := by
            show decide (Place z) = false
            rw [decide_eq_false_iff_not]
            simp at h2
            exact fun hp => by have := hp.2.1; omega
          have := q H (Evl.Ex.refl H)
          rw [e] at this
          exact this
        · walk_at "go"
          simp at h2
          refine lcS (fun C i H' => Evl.Ex H H' ∧ H' C = some (.lst (((cL z).take i).map fun c => .bl (signB c)))) ?_ ?_ ?_
          · intro C hC
            exact ⟨Evl.Ex.new hC, upd_same⟩
          · rintro C i c H1 hC hc ⟨e1, hC1⟩
            refine w_turn rfl ?_
            walk_at "go"
            rw [le_a]
            refine w_dec (fun h3 => ?_) (fun h3 => ?_)
            · walk_at "go"
              rw [le_z]
              refine ⟨_, hC1, smallS (by rw [List.length_map, List.length_take, ← cL_len]; omega), Evl.Ex.mut e1 hC, ?_⟩
              rw [upd_same, List.take_add_one, hc, List.map_append]
              simp [signB, h3]
            · refine ⟨_, hC1, smallS (by rw [List.length_map, List.length_take, ← cL_len]; omega), Evl.Ex.mut e1 hC, ?_⟩
              rw [upd_same, List.take_add_one, hc, List.map_append]
              simp [signB, h3]
          · rintro C H1 hC ⟨e1, hC1⟩
            rw [List.take_length] at hC1
            walk_at "go"
            refine w_all (bs := (cL z).map signB) (SqL.of (by rw [hC1, List.map_map]; rfl)) ?_
            rw [all_signs]
            have e : plV (.str z) = decide (∀ c ∈ cL z, SignOk c) := by
              show decide (Place z) = _
              rw [decide_eq_decide]
              refine ⟨fun hp => hp.2.2, fun hp => ⟨by omega, by omega, hp⟩⟩
            have := q H1 e1
            rw [e] at this
            exact this
      · walk_at "go"
        have e : plV (.str z) = false := by
          show decide (Place z) = false
          rw [decide_eq_false_iff_not]
          exact fun hp => h1 (by have := hp.1; omega)
        have := q H (Evl.Ex.refl H)
        rw [e] at this
        exact this
theorem ok_is_number {f : Addr} {fd : FuncData} (F : Fun K "is_number" "is_number" s_is_number f fd) (T : Txt mg) : FnOk P w K mg base CX0 1 f fd ["thing", "most"] spNumber := by
  refine F.ok sc_is_number (fun vs H Q E h => ?_) (fun cdv A outer s H vs Q E hr h => ?_)
  · obtain ⟨x, m, rfl, _⟩ := h
    rfl
  · obtain ⟨x, m, rfl, hx, q⟩ := h
    refine ⟨_, (pss_one (ps_ret (pe_and (pe_callB (kisi K) (by rfl) T.isinstance_ (by decide +kernel) (pa_cons (pv 0) (pa_cons (pe_bltn (v := .ty "int") (by rfl) T.int_ (by decide +kernel) rfl) pa_nil))) (pe_and (pe_not (pe_callB (kisi K) (by rfl) T.isinstance_ (by decide +kernel) (pa_cons (pv 0) (pa_cons (pe_bltn (v := .ty "bool") (by rfl) T.bool_ (by decide +kernel) rfl) pa_nil)))) (pe_one (pe_chain op_le op_le pe_int (pv 0) (pv 1))))))), ?_⟩
    refine w_from [some x, some (.int m)] ?_
    try dsimp only [cxOf]
    walk_at "go"
    refine w_isi hx (by decide) ?_
    walk_at "go"
    refine w_bool (fun h => ?_) (fun h => ?_)
    · walk_at "go"
      refine w_isi hx (by decide) ?_
      walk_at "go"
      refine w_bool (fun h2 => ?_) (fun h2 => ?_)
      · rw [Bool.not_eq_true'] at h2
        obtain ⟨i, rfl⟩ := hx.int_of h h2
        walk_at "go"
        refine w_dec (fun h3 => ?_) (fun h3 => ?_)
        · walk_at "go"
          have := q H (Evl.Ex.refl H)
          rw [show numV m (.int i) = decide (i ≤ m) by simp [numV, h3]] at this
          exact this
        · have := q H (Evl.Ex.refl H)
          rw [show numV m (.int i) = false by simp [numV, h3]] at this
          exact this
      · rw [Bool.not_eq_false'] at h2
        have := q H (Evl.Ex.refl H)
        rw [hx.bool_no h2] at this
        exact this
    · have := q H (Evl.Ex.refl H)
      rw [hx.int_no h] at this
      exact this
end
end Fk
namespace Fk
open PySem PySem.Spec PyProof.Rows L2
local macro_rules | `(tactic| walk_at "fk") => `(tactic| first
  | with_reducible refine w_seq ?_ | with_reducible refine w_set ?_ | with_reducible refine w_asg ?_ | with_reducible refine w_drop ?_ | with_reducible refine w_ret ?_ | with_reducible refine w_if ?_
  | with_reducible refine w_op ?_ | with_reducible refine w_un ?_ | with_reducible refine w_c ?_ | ((with_reducible apply w_var); rfl)
  | with_reducible refine w_test ?_ | with_reducible refine w_B ?_ | with_reducible refine w_exb ?_ | with_reducible refine w_exi ?_ | with_reducible refine w_I0 ?_ | with_reducible refine w_U ?_
  | with_reducible refine w_nil ?_ | with_reducible refine w_cons ?_ | with_reducible refine w_call ?_ | with_reducible refine w_cb ?_ | with_reducible refine w_tup ?_ | with_reducible refine w_lst ?_
  | with_reducible refine w_and ?_ | with_reducible refine w_or ?_ | with_reducible refine w_not ?_ | with_reducible refine w_andV ?_ | with_reducible refine w_orV ?_ | with_reducible refine w_notV ?_
  | with_reducible refine w_ifE ?_ | with_reducible refine w_chain ?_ | with_reducible refine w_for ?_ | with_reducible refine w_lc ?_ | with_reducible refine w_yes ?_ | with_reducible refine w_iR1 ?_ | with_reducible refine w_iL ?_ | with_reducible refine w_iT ?_ | with_reducible refine w_iE ?_ | with_reducible refine w_iZ ?_ | with_reducible refine w_iS ?_ | with_reducible refine w_s1 ?_ | with_reducible refine w_m1 ?_ | with_reducible refine w_m0 ?_ | with_reducible refine w_estr ?_ | with_reducible refine w_lz ?_ | with_reducible refine w_dnew ?_ | with_reducible refine w_revT ?_ | with_reducible refine w_leS ?_ | with_reducible refine w_ltS ?_ | with_reducible refine w_inSg ?_ | with_reducible refine w_notInSg ?_ | with_reducible refine iteT ?_ | with_reducible refine iteF ?_ | with_reducible refine w_par ?_ | with_reducible refine w_two ?_ | with_reducible refine w_gname ?_ | with_reducible refine w_gcons ?_ | with_reducible refine w_gnil ?_ | ((with_reducible apply w_gtup); (with_reducible assumption); rfl) | with_reducible refine w_gsub ?_
  | with_reducible refine w_bm ?_ | with_reducible refine w_sl ?_ | with_reducible refine w_noP ?_ | with_reducible refine w_part ?_ | with_reducible refine w_next ?_ | with_reducible refine w_retN ?_
  | ((with_reducible refine w_I ?hk ?_); (case hk => (first | (show (0 : Int) < _; omega) | exact ⟨by omega, by omega⟩ | exact .inl ⟨by omega, by omega⟩ | exact .inr ⟨by omega, by omega⟩ | exact cpow_small (by decide) (by decide) (by decide))))
  | ((with_reducible apply w_eq); rfl) | ((with_reducible apply w_ne); rfl)
  | ((with_reducible apply w_ixL); (with_reducible assumption); rfl)
  | ((with_reducible apply w_setL); (with_reducible assumption); rfl))
local macro_rules | `(tactic| walk_at "go") => `(tactic| repeat walk_at "fk")

theorem plV_str {x : V} (h : plV x = true) : ∃ z, x = .str z ∧ Place z := by
  cases x with
  | str z => exact ⟨z, rfl, of_decide_eq_true h⟩
  | _ => exact absurd (show false = true from h) (by decide)
theorem fourV_len {xs : List V} (h : xs.length ≠ 4) : fourV xs = false := by
  match xs, h with
  | [], _ => rfl
  | [_], _ => rfl
  | [_, _], _ => rfl
  | [_, _, _], _ => rfl
  | [_, _, _, _], h => exact absurd rfl h
  | _ :: _ :: _ :: _ :: _ :: _, _ => rfl
theorem four_of {xs : List V} (h : xs.length = 4) : ∃ a b c d, xs = [a, b, c, d] := by
  match xs, h with
  | [a, b, c, d], _ => exact ⟨a, b, c, d, rfl⟩
section
variable {P : Program} {w : World} {K : PySem.W.Frag} {mg : Str → Option Value} {base : Heap}
theorem ok_is_link {f : Addr} {fd : FuncData} (F : Fun K "is_link" "is_link" s_is_link f fd) (T : Txt mg) (C_is_place : Cal P w K mg base 1 "is_place" ["thing"] spPlace)
    (C_is_number : Cal P w K mg base 1 "is_number" ["thing", "most"] spNumber) : FnOk P w K mg base CX0 2 f fd ["thing"] spIsLink := by
  obtain ⟨_, gMOST_COST⟩ := T.MOST_COST_
  refine F.ok sc_is_link (fun vs H Q E h => ?_) (fun cdv A outer s H vs Q E hr h => ?_)
  · obtain ⟨x, rfl, _⟩ := h
    rfl
  · obtain ⟨x, rfl, hx, q⟩ := h
    refine ⟨_, (pss_cons (ps_if (PW.pt (pw_or (pt_not (pt_val (pe_callB (kisi K) (by rfl) T.isinstance_ (by decide +kernel) (pa_cons (pv 0) (pa_cons (pe_bltn (v := .ty "tuple") (by rfl) T.tuple_ (by decide +kernel) rfl) pa_nil))))) (pw_or1 (pt_cmpR op_ne (pe_callB (klen K) (by rfl) T.len_ PySem.boot_len (pa_cons (pv 0) pa_nil)) pe_int (nomark _))))) (pss_one (ps_ret pe_bl)) pss_nil)
      (pss_cons (ps_asg (pv 0) (ktup K rfl (pgs_cons (pg_name (i := 1) sc_is_link.nd rfl (.inl rfl)) (pgs_cons (pg_name (i := 2) sc_is_link.nd rfl (.inl rfl)) (pgs_cons (pg_name (i := 3) sc_is_link.nd rfl (.inl rfl)) (pgs_cons (pg_name (i := 4) sc_is_link.nd rfl (.inl rfl)) pgs_nil))))))
      (pss_cons (ps_if (PW.pt (pw_or (pt_not (pt_val (pc C_is_number hr (by rfl) (pa_cons (pv 1) (pa_cons (pe_glob (v := .int 1000000) rfl gMOST_COST ⟨_, rfl⟩) pa_nil))))) (pw_or1 (pt_not (pt_val (pc C_is_number hr (by rfl) (pa_cons (pv 2) (pa_cons (pe_glob (v := .int 1000000) rfl gMOST_COST ⟨_, rfl⟩) pa_nil)))))))) (pss_one (ps_ret pe_bl)) pss_nil)
      (pss_one (ps_ret (pe_and (pc C_is_place hr (by rfl) (pa_cons (pv 3) pa_nil)) (pe_and (pc C_is_place hr (by rfl) (pa_cons (pv 4) pa_nil)) (pe_one (pe_cmpR kLtS (pv 3) (pv 4) (nomark _)))))))))), ?_⟩
    refine w_from [some x, none, none, none, none] ?_
    try dsimp only [cxOf]
    walk_at "go"
    refine w_isi hx (by decide) ?_
    walk_at "go"
    refine w_bool (fun h => ?_) (fun h => ?_)
    · walk_at "go"
      rw [Bool.not_eq_true'] at h
      have := q H (Evl.Ex.refl H)
      rw [hx.tup_no h] at this
      exact this
    · rw [Bool.not_eq_false'] at h
      obtain ⟨a, xs, rfl, ha, hl, hy⟩ := hx.tup_of h
      have el := linkV_tup ha
      walk_at "go"
      refine w_len (.inr ⟨xs, SqT.of ha, rfl⟩) ?_
      walk_at "go"
      refine w_ndec (fun h1 => ?_) (fun h1 => ?_)
      · walk_at "go"
        have := q H (Evl.Ex.refl H)
        rw [el, fourV_len (fun e => h1 (by rw [e]; rfl))] at this
        exact this
      · have hx4 : xs.length = 4 := by
          have := V.int.inj h1
          omega
        obtain ⟨c, m, o, t, rfl⟩ := four_of hx4
        have hT := SqT.of (K := K) ha
        have hc : Kd H c := hy c (by simp)
        have hm : Kd H m := hy m (by simp)
        have ho : Kd H o := hy o (by simp)
        have ht : Kd H t := hy t (by simp)
        walk_at "go"
        refine ⟨c, 1000000, rfl, hc, fun H1 e1 => ?_⟩
        walk_at "go"
        refine w_bool (fun h2 => ?_) (fun h2 => ?_)
        · walk_at "go"
          rw [Bool.not_eq_true'] at h2
          have := q H1 e1
          rw [el, show fourV [c, m, o, t] = false by simp [fourV, h2]] at this
          exact this
        · rw [Bool.not_eq_false'] at h2
          walk_at "go"
          refine ⟨m, 1000000, rfl, hm.ex e1, fun H2 e2 => ?_⟩
          walk_at "go"
          have e12 := e1.trans e2
          refine w_bool (fun h3 => ?_) (fun h3 => ?_)
          · walk_at "go"
            rw [Bool.not_eq_true'] at h3
            have := q H2 e12
            rw [el, show fourV [c, m, o, t] = false by simp [fourV, h3]] at this
            exact this
          · rw [Bool.not_eq_false'] at h3
            walk_at "go"
            refine ⟨o, rfl, ho.ex e12, fun H3 e3 => ?_⟩
            walk_at "go"
            have e13 := e12.trans e3
            refine w_bool (fun h6 => ?_) (fun h6 => ?_)
            · walk_at "go"
              refine ⟨t, rfl, ht.ex e13, fun H4 e4 => ?_⟩
              walk_at "go"
              have e14 := e13.trans e4
              refine w_bool (fun h5 => ?_) (fun h5 => ?_)
              · obtain ⟨z1, rfl, _⟩ := plV_str h6
                obtain ⟨z2, rfl, _⟩ := plV_str h5
                walk_at "go"
                have := q H4 e14
                rw [el, show fourV [c, m, .str z1, .str z2] = decide (cL z1 < cL z2) by simp [fourV, h2, h3, h6, h5, ltV, Lts]; exact decide_eq_decide.mpr Iff.rfl] at this
                exact this
              · have := q H4 e14
                rw [el, show fourV [c, m, o, t] = false by simp [fourV, h5]] at this
                exact this
            · have := q H3 e13
              rw [el, show fourV [c, m, o, t] = false by simp [fourV, h6]] at this
              exact this
theorem ok_law_is_place {f : Addr} {fd : FuncData} (F : Fun K "_law_is_place" "_law_is_place" s_law_is_place f fd) (T : Txt mg) : FnOk P w K mg base CX0 1 f fd ["thing"] spPlace := by
  refine F.ok sc_law_is_place (fun vs H Q E h => ?_) (fun cdv A outer s H vs Q E hr h => ?_)
  · obtain ⟨x, rfl, _⟩ := h
    rfl
  · obtain ⟨x, rfl, hx, q⟩ := h
    refine ⟨_, (pss_cons (ps_if (PW.pt (pw_or (pt_not (pt_val (pe_callB (kisi K) (by rfl) T.isinstance_ (by decide +kernel) (pa_cons (pv 0) (pa_cons (pe_bltn (v := .ty "str") (by rfl) T.str_ (by decide +kernel) rfl) pa_nil))))) (pw_or1 (pt_cmpR (kNotIn K) (pe_callB (klen K) (by rfl) T.len_ PySem.boot_len (pa_cons (pv 0) pa_nil)) (pe_tup (pa_cons pe_int (pa_cons pe_int (pa_cons pe_int (pa_cons pe_int (pa_cons pe_int (pa_cons pe_int pa_nil))))))) rfl)))) (pss_one (ps_ret pe_bl)) pss_nil)
      (pss_one (ps_ret (pe_cmpR (kEq K hr.units) (pe_lc (own := [("sign", 1)]) (g := gName 1) (by rfl) sc_law_is_place.nd (pi_str (pv 0)) (blkOk_by (own := [("sign", 1)]) (N := ["thing", "sign"]) (sc := defScope s_law_is_place) (by decide +kernel)) (fun _ _ _ _ _ => (pg_name (i := 1) sc_law_is_place.nd rfl (Or.inl rfl))) (fun _ _ _ _ _ => (pts_one (pt_cmpR kNotInS (pv 1) pe_str rfl))) (fun _ _ _ _ _ => (pv 1))) (pe_lst pa_nil) (nomark _))))), ?_⟩
    refine w_from [some x, none] ?_
    try dsimp only [cxOf]
    walk_at "go"
    refine w_isi hx (by decide) ?_
    walk_at "go"
    refine w_bool (fun h => ?_) (fun h => ?_)
    · walk_at "go"
      rw [Bool.not_eq_true'] at h
      have := q H (Evl.Ex.refl H)
      rw [hx.str_no h] at this
      exact this
    · rw [Bool.not_eq_false'] at h
      obtain ⟨z, rfl, hz, hz8⟩ := hx.str_of h
      walk_at "go"
      refine w_len ⟨small hz, rfl⟩ ?_
      walk_at "go"
      refine ⟨small (by show 6 ≤ 100000; omega), ?_⟩
      intro t ht
      generalize hE : upd _ t _ = H1
      have nH1 := New.of ht hE
      clear hE
      walk_at "go"
      refine w_ninI (ns := [1, 2, 3, 4, 5, 6]) (.inr (SqT.of nH1.here)) ?_
      walk_at "go"
      refine w_ndec (fun h1 => ?_) (fun h1 => ?_)
      · walk_at "go"
        have e : plV (.str z) = false := by
          show decide (Place z) = false
          rw [decide_eq_false_iff_not]
          intro hp
          apply h1
          have := hp.1
          have := hp.2.1
          simp
          omega
        have := q H1 nH1.ex
        rw [e] at this
        exact this
      · simp at h1
        walk_at "go"
        have habc : cL "abcdefghijklmnopqrstuvwxyz" = abc := by decide +kernel
        refine lcS (fun C i H' => Evl.Ex H1 H' ∧ ∃ cs : List Nat, cs.length ≤ i ∧ (∀ c ∈ cs, c < 128) ∧ H' C = some (.lst ((cs.map fun c => (⟨#[c]⟩ : Str)).map V.str)) ∧ (cs = [] ↔ ∀ c ∈ (cL z).take i, SignOk c)) ?_ ?_ ?_
        · intro C hC
          exact ⟨Evl.Ex.new hC, [], Nat.le_refl _, fun c h => absurd h (by simp), upd_same, by simp⟩
        · rintro C i c H2 hC hc ⟨e2, cs, hl, hc8, hC2, hcs⟩
          have il : i < (cL z).length := (List.getElem?_eq_some_iff.mp hc).1
          rw [← cL_len] at il
          refine w_turn rfl ?_
          walk_at "go"
          rw [habc]
          refine w_ndec (fun h3 => ?_) (fun h3 => ?_)
          · walk_at "go"
            refine ⟨_, hC2, smallS (by rw [List.length_map, List.length_map]; omega), Evl.Ex.mut e2 hC, cs ++ [c], by simp; omega, fun d hd => ?_, ?_, ?_⟩
            · rcases List.mem_append.mp hd with hd | hd
              · exact hc8 d hd
              · rw [List.mem_singleton.mp hd]
                exact hz8 c (List.mem_of_getElem? hc)
            · rw [upd_same, List.map_append, List.map_append]
              rfl
            · rw [List.take_add_one, hc]
              constructor
              · intro e
                simp at e
              · intro h
                exact absurd (abc_iff.mpr (h c (by simp))) h3
          · refine ⟨e2, cs, by omega, hc8, hC2, ?_⟩
            rw [hcs, List.take_add_one, hc]
            constructor
            · intro h d hd
              rcases List.mem_append.mp hd with hd | hd
              · exact h d hd
              · rw [Option.toList_some, List.mem_singleton] at hd
                rw [hd]
                exact abc_iff.mp h3
            · intro h d hd
              exact h d (List.mem_append_left _ hd)
        · rintro C H2 hC ⟨e2, cs, hl, hc8, hC2, hcs⟩
          rw [List.take_length] at hcs
          walk_at "go"
          refine ⟨small (by show 0 ≤ 100000; omega), ?_⟩
          intro o ho
          generalize hE : upd _ o _ = H3
          have nH3 := New.of ho hE
          clear hE
          walk_at "go"
          refine w_eqD (d := .list (cs.map fun c => .str ⟨#[c]⟩)) (e := .list []) (.lst (SqL.of (nH3.keep hC2)) (by rw [List.map_map]; exact dp_strs cs)) (.lst (SqL.of nH3.here) .nil) (shaped_strs hc8) rfl ?_
          have e : plV (.str z) = PyData.eqv (.list (cs.map fun c => .str ⟨#[c]⟩)) (.list []) := by
            have e1 : PyData.eqv (.list (cs.map fun c => .str ⟨#[c]⟩)) (.list []) = decide (cs = []) := by
              cases cs with
              | nil => rfl
              | cons c r => rfl
            rw [e1]
            show decide (Place z) = _
            rw [decide_eq_decide, hcs]
            exact ⟨fun hp => hp.2.2, fun hp => ⟨by omega, by omega, hp⟩⟩
          have := q H3 ((nH1.ex.trans e2).trans nH3.ex)
          rw [e] at this
          exact this
end
end Fk
namespace Fk
open PySem PySem.Spec PyProof.Rows L2
local macro_rules | `(tactic| walk_at "fk") => `(tactic| first
  | with_reducible refine w_seq ?_ | with_reducible refine w_set ?_ | with_reducible refine w_asg ?_ | with_reducible refine w_drop ?_ | with_reducible refine w_ret ?_ | with_reducible refine w_if ?_
  | with_reducible refine w_op ?_ | with_reducible refine w_un ?_ | with_reducible refine w_c ?_ | ((with_reducible apply w_var); rfl)
  | with_reducible refine w_test ?_ | with_reducible refine w_B ?_ | with_reducible refine w_exb ?_ | with_reducible refine w_exi ?_ | with_reducible refine w_I0 ?_ | with_reducible refine w_U ?_
  | with_reducible refine w_nil ?_ | with_reducible refine w_cons ?_ | with_reducible refine w_call ?_ | with_reducible refine w_cb ?_ | with_reducible refine w_tup ?_ | with_reducible refine w_lst ?_
  | with_reducible refine w_and ?_ | with_reducible refine w_or ?_ | with_reducible refine w_not ?_ | with_reducible refine w_andV ?_ | with_reducible refine w_orV ?_ | with_reducible refine w_notV ?_
  | with_reducible refine w_ifE ?_ | with_reducible refine w_chain ?_ | with_reducible refine w_for ?_ | with_reducible refine w_lc ?_ | with_reducible refine w_yes ?_ | with_reducible refine w_iR1 ?_ | with_reducible refine w_iL ?_ | with_reducible refine w_iT ?_ | with_reducible refine w_iE ?_ | with_reducible refine w_iZ ?_ | with_reducible refine w_iS ?_ | with_reducible refine w_s1 ?_ | with_reducible refine w_m1 ?_ | with_reducible refine w_m0 ?_ | with_reducible refine w_estr ?_ | with_reducible refine w_lz ?_ | with_reducible refine w_dnew ?_ | with_reducible refine w_revT ?_ | with_reducible refine w_leS ?_ | with_reducible refine w_ltS ?_ | with_reducible refine w_inSg ?_ | with_reducible refine w_notInSg ?_ | with_reducible refine iteT ?_ | with_reducible refine iteF ?_ | with_reducible refine w_par ?_ | with_reducible refine w_two ?_ | with_reducible refine w_gname ?_ | with_reducible refine w_gcons ?_ | with_reducible refine w_gnil ?_ | ((with_reducible apply w_gtup); (with_reducible assumption); rfl) | with_reducible refine w_gsub ?_
  | with_reducible refine w_bm ?_ | with_reducible refine w_sl ?_ | with_reducible refine w_noP ?_ | with_reducible refine w_part ?_ | with_reducible refine w_next ?_ | with_reducible refine w_retN ?_
  | ((with_reducible refine w_I ?hk ?_); (case hk => (first | (show (0 : Int) < _; omega) | exact ⟨by omega, by omega⟩ | exact .inl ⟨by omega, by omega⟩ | exact .inr ⟨by omega, by omega⟩ | exact cpow_small (by decide) (by decide) (by decide))))
  | ((with_reducible apply w_eq); rfl) | ((with_reducible apply w_ne); rfl)
  | ((with_reducible apply w_ixL); (with_reducible assumption); rfl)
  | ((with_reducible apply w_setL); (with_reducible assumption); rfl))
local macro_rules | `(tactic| walk_at "go") => `(tactic| repeat walk_at "fk")

section
variable {P : Program} {w : World} {K : PySem.W.Frag} {mg : Str → Option Value} {base : Heap}
theorem ok_law_is_four {f : Addr} {fd : FuncData} (F : Fun K "_law_is_four" "_law_is_four" s_law_is_four f fd) (T : Txt mg) (C_law_is_place : Cal P w K mg base 1 "_law_is_place" ["thing"] spPlace) : FnOk P w K mg base CX0 2 f fd ["thing"] spIsLink := by
  refine F.ok sc_law_is_four (fun vs H Q E h => ?_) (fun cdv A outer s H vs Q E hr h => ?_)
  · obtain ⟨x, rfl, _⟩ := h
    rfl
  · obtain ⟨x, rfl, hx, q⟩ := h
    refine ⟨_, (pss_cons (ps_if (PW.pt (pw_or (pt_not (pt_val (pe_callB (kisi K) (by rfl) T.isinstance_ (by decide +kernel) (pa_cons (pv 0) (pa_cons (pe_bltn (v := .ty "tuple") (by rfl) T.tuple_ (by decide +kernel) rfl) pa_nil))))) (pw_or1 (pt_cmpR op_ne (pe_callB (klen K) (by rfl) T.len_ PySem.boot_len (pa_cons (pv 0) pa_nil)) pe_int (nomark _))))) (pss_one (ps_ret pe_bl)) pss_nil)
      (pss_cons (ps_for PassesOwn.never rfl (ktupI K (pe_slice (kslT K) (pv 0) po_none (po_some pe_int))) (pg_name (i := 1) sc_law_is_four.nd rfl (.inl rfl)) (pss_one (ps_if (PW.pt (pw_or (pt_not (pt_val (pe_callB (kisi K) (by rfl) T.isinstance_ (by decide +kernel) (pa_cons (pv 1) (pa_cons (pe_bltn (v := .ty "int") (by rfl) T.int_ (by decide +kernel) rfl) pa_nil))))) (pw_or (pt_val (pe_callB (kisi K) (by rfl) T.isinstance_ (by decide +kernel) (pa_cons (pv 1) (pa_cons (pe_bltn (v := .ty "bool") (by rfl) T.bool_ (by decide +kernel) rfl) pa_nil)))) (pw_or (pt_cmpR op_lt (pv 1) pe_int (nomark _)) (pw_or1 (pt_cmpR op_gt (pv 1) (pe_op op_powN pe_int pe_int) (nomark _))))))) (pss_one (ps_ret pe_bl)) pss_nil)))
      (pss_one (ps_ret (pe_and (pc C_law_is_place hr (by rfl) (pa_cons (pe_ix (kixT K) (pv 0) pe_int (fun _ _ => rfl)) pa_nil)) (pe_and (pc C_law_is_place hr (by rfl) (pa_cons (pe_ix (kixT K) (pv 0) pe_int (fun _ _ => rfl)) pa_nil)) (pe_one (pe_cmpR kLtS (pe_ix (kixT K) (pv 0) pe_int (fun _ _ => rfl)) (pe_ix (kixT K) (pv 0) pe_int (fun _ _ => rfl)) (nomark _))))))))), ?_⟩
    refine w_from [some x, none] ?_
    try dsimp only [cxOf]
    walk_at "go"
    refine w_isi hx (by decide) ?_
    walk_at "go"
    refine w_bool (fun h => ?_) (fun h => ?_)
    · walk_at "go"
      rw [Bool.not_eq_true'] at h
      have := q H (Evl.Ex.refl H)
      rw [hx.tup_no h] at this
      exact this
    · rw [Bool.not_eq_false'] at h
      obtain ⟨a, xs, rfl, ha, hl, hy⟩ := hx.tup_of h
      have el := linkV_tup ha
      walk_at "go"
      refine w_len (.inr ⟨xs, SqT.of ha, rfl⟩) ?_
      walk_at "go"
      refine w_ndec (fun h1 => ?_) (fun h1 => ?_)
      · walk_at "go"
        have := q H (Evl.Ex.refl H)
        rw [el, fourV_len (fun e => h1 (by rw [e]; rfl))] at this
        exact this
      · have hx4 : xs.length = 4 := by
          have := V.int.inj h1
          omega
        obtain ⟨c, m, o, t, rfl⟩ := four_of hx4
        have hT := SqT.of (K := K) ha
        have hc : Kd H c := hy c (by simp)
        have hm : Kd H m := hy m (by simp)
        have ho : Kd H o := hy o (by simp)
        have ht : Kd H t := hy t (by simp)
        walk_at "go"
        refine w_slT ha fun p H1 e1 hp => ?_
        rw [show cutV [c, m, o, t] none (some 2) = [c, m] from rfl] at hp
        walk_at "go"
        refine w_t1 (xs := [c, m]) (SqT.of hp) ?_
        refine forT (xs := [c, m]) (fun i σ' H' => Evl.Ex H1 H' ∧ (∃ x1, σ' = [some (.ref a), x1]) ∧ ∀ j y, j < i → ([c, m] : List V)[j]? = some y → numV 1000000 y = true) ?_ ?_ ?_ ?_
        · exact ⟨Evl.Ex.refl H1, ⟨none, rfl⟩, fun j y h => absurd h (by omega)⟩
        · rintro i σ' H2 _ ⟨e2, _⟩
          exact SqT.of (e2 _ _ hp)
        · rintro i y σ' H2 hy2 ⟨e2, ⟨x1, rfl⟩, hn⟩
          have ky : Kd H2 y := by
            have : y ∈ ([c, m] : List V) := List.mem_of_getElem? hy2
            simp only [List.mem_cons, List.not_mem_nil, or_false] at this
            rcases this with rfl | rfl
            · exact (hc.ex e1).ex e2
            · exact (hm.ex e1).ex e2
          have e12 := e1.trans e2
          have no : numV 1000000 y = false → Q (.bl false) H2 := fun hf => by
            have := q H2 e12
            rw [el] at this
            have h4 : fourV [c, m, o, t] = false := by
              have : y ∈ ([c, m] : List V) := List.mem_of_getElem? hy2
              simp only [List.mem_cons, List.not_mem_nil, or_false] at this
              rcases this with rfl | rfl
              · simp [fourV, hf]
              · simp [fourV, hf]
            rw [h4] at this
            exact this
          walk_at "go"
          refine w_isi ky (by decide) ?_
          walk_at "go"
          refine w_bool (fun h2 => ?_) (fun h2 => ?_)
          · walk_at "go"
            rw [Bool.not_eq_true'] at h2
            exact no (ky.int_no h2)
          · rw [Bool.not_eq_false'] at h2
            walk_at "go"
            refine w_isi ky (by decide) ?_
            walk_at "go"
            refine w_bool (fun h3 => ?_) (fun h3 => ?_)
            · walk_at "go"
              exact no (ky.bool_no h3)
            · walk_at "go"
              obtain ⟨n, rfl⟩ := ky.int_of h2 h3
              walk_at "go"
              refine w_dec (fun h4 => ?_) (fun h4 => ?_)
              · walk_at "go"
                refine no ?_
                show (decide (0 ≤ n) && decide (n ≤ 1000000)) = false
                rw [show decide (0 ≤ n) = false from decide_eq_false (by omega)]
                rfl
              · walk_at "go"
                have e6 : (10 : Int) ^ Int.toNat 6 = 1000000 := by decide
                rw [e6]
                refine w_dec (fun h5 => ?_) (fun h5 => ?_)
                · walk_at "go"
                  refine no ?_
                  show (decide (0 ≤ n) && decide (n ≤ 1000000)) = false
                  rw [show decide (n ≤ 1000000) = false from decide_eq_false (by omega), Bool.and_false]
                · walk_at "go"
                  refine ⟨e2, ⟨_, rfl⟩, fun j z hj hz => ?_⟩
                  by_cases e : j = i
                  · subst e
                    rw [hy2] at hz
                    cases hz
                    show (decide (0 ≤ n) && decide (n ≤ 1000000)) = true
                    rw [decide_eq_true (by omega : 0 ≤ n), decide_eq_true (by omega : n ≤ 1000000)]
                    rfl
                  · exact hn j z (by omega) hz
        · rintro σ' H2 ⟨e2, ⟨x1, rfl⟩, hn⟩
          have n1 := hn 0 c (by show 0 < 2; omega) rfl
          have n2 := hn 1 m (by show 1 < 2; omega) rfl
          have e12 := e1.trans e2
          have hT2 := SqT.of (K := K) (e12 _ _ ha)
          walk_at "go"
          refine w_ixT hT2 (atI_of (i := 2) rfl) ?_
          walk_at "go"
          refine ⟨o, rfl, ho.ex e12, fun H3 e3 => ?_⟩
          walk_at "go"
          have e13 := e12.trans e3
          have hT3 := SqT.of (K := K) (e13 _ _ ha)
          refine w_bool (fun h6 => ?_) (fun h6 => ?_)
          · walk_at "go"
            refine w_ixT hT3 (atI_of (i := 3) rfl) ?_
            walk_at "go"
            refine ⟨t, rfl, ht.ex e13, fun H4 e4 => ?_⟩
            walk_at "go"
            have e14 := e13.trans e4
            have hT4 := SqT.of (K := K) (e14 _ _ ha)
            refine w_bool (fun h5 => ?_) (fun h5 => ?_)
            · obtain ⟨z1, rfl, _⟩ := plV_str h6
              obtain ⟨z2, rfl, _⟩ := plV_str h5
              walk_at "go"
              refine w_ixT hT4 (atI_of (i := 2) rfl) ?_
              walk_at "go"
              refine w_ixT hT4 (atI_of (i := 3) rfl) ?_
              walk_at "go"
              have := q H4 e14
              rw [el, show fourV [c, m, .str z1, .str z2] = decide (cL z1 < cL z2) by simp [fourV, n1, n2, h6, h5, ltV, Lts]; exact decide_eq_decide.mpr Iff.rfl] at this
              exact this
            · have := q H4 e14
              rw [el, show fourV [c, m, o, t] = false by simp [fourV, h5]] at this
              exact this
          · have := q H3 e13
            rw [el, show fourV [c, m, o, t] = false by simp [fourV, h6]] at this
            exact this
def spTold : Sp := fun vs H Q _ => ∃ x : V, vs = [x] ∧ Kd H x ∧ ∀ H', Evl.Ex H H' → Q (.bl true) H'
theorem ok_law_told_right {f : Addr} {fd : FuncData} (F : Fun K "_law_told_right" "_law_told_right" s_law_told_right f fd) (T : Txt mg) (C_is_place : Cal P w K mg base 2 "is_place" ["thing"] spPlace) (C_law_is_place : Cal P w K mg base 2 "_law_is_place" ["thing"] spPlace)
    (C_is_link : Cal P w K mg base 2 "is_link" ["thing"] spIsLink) (C_law_is_four : Cal P w K mg base 2 "_law_is_four" ["thing"] spIsLink) : FnOk P w K mg base CX0 3 f fd ["thing"] spTold := by
  refine F.ok sc_law_told_right (fun vs H Q E h => ?_) (fun cdv A outer s H vs Q E hr h => ?_)
  · obtain ⟨x, rfl, _⟩ := h
    rfl
  · obtain ⟨x, rfl, hx, q⟩ := h
    refine ⟨_, (pss_cons (ps_for PassesOwn.never rfl (klistI K (pe_lst (pa_cons (pe_tup (pa_cons (pc C_is_place hr (by rfl) (pa_cons (pv 0) pa_nil)) (pa_cons (pc C_law_is_place hr (by rfl) (pa_cons (pv 0) pa_nil)) pa_nil))) (pa_cons (pe_tup (pa_cons (pc C_is_link hr (by rfl) (pa_cons (pv 0) pa_nil)) (pa_cons (pc C_law_is_four hr (by rfl) (pa_cons (pv 0) pa_nil)) pa_nil))) pa_nil)))) (ktup K rfl (pgs_cons (pg_name (i := 1) sc_law_told_right.nd rfl (.inl rfl)) (pgs_cons (pg_name (i := 2) sc_law_told_right.nd rfl (.inl rfl)) pgs_nil))) (pss_one (ps_if (PW.pt (pw_or (pt_not (pt_val (pe_callB (kisi K) (by rfl) T.isinstance_ (by decide +kernel) (pa_cons (pv 1) (pa_cons (pe_bltn (v := .ty "bool") (by rfl) T.bool_ (by decide +kernel) rfl) pa_nil))))) (pw_or1 (pt_cmpR op_ne (pv 1) (pv 2) (nomark _))))) (pss_one (ps_ret pe_bl)) pss_nil)))
      (pss_one (ps_ret pe_bl))), ?_⟩
    refine w_from [some x, none, none] ?_
    try dsimp only [cxOf]
    walk_at "go"
    refine ⟨x, rfl, hx, fun H1 e1 => ?_⟩
    walk_at "go"
    refine ⟨x, rfl, hx.ex e1, fun H2 e2 => ?_⟩
    walk_at "go"
    refine ⟨small (by show 2 ≤ 100000; omega), ?_⟩
    intro p hp
    generalize hE : upd _ p _ = H3
    have nH3 := New.of hp hE
    clear hE
    have e13 := (e1.trans e2).trans nH3.ex
    walk_at "go"
    refine ⟨x, rfl, hx.ex e13, fun H4 e4 => ?_⟩
    have e14 := e13.trans e4
    walk_at "go"
    refine ⟨x, rfl, hx.ex e14, fun H5 e5 => ?_⟩
    walk_at "go"
    refine ⟨small (by show 2 ≤ 100000; omega), ?_⟩
    intro p2 hp2
    generalize hE : upd _ p2 _ = H6
    have nH6 := New.of hp2 hE
    clear hE
    walk_at "go"
    refine ⟨small (by show 2 ≤ 100000; omega), ?_⟩
    intro l hl
    generalize hE : upd _ l _ = H7
    have nH7 := New.of hl hE
    clear hE
    walk_at "go"
    rw [hx.link_ex e13, hx.link_ex e14] at nH6
    have e57 := e5.trans (nH6.ex.trans nH7.ex)
    have hp : H7 p = some (.tup [.bl (plV x), .bl (plV x)]) := e57 _ _ (e4 _ _ nH3.here)
    have hp2 : H7 p2 = some (.tup [.bl (linkV H x), .bl (linkV H x)]) := nH7.keep nH6.here
    refine w_l1 (xs := [.ref p, .ref p2]) (SqL.of nH7.here) ?_
    refine forL (xs := [.ref p, .ref p2]) (fun i σ' H' => Evl.Ex H7 H' ∧ ∃ x1 x2, σ' = [some x, x1, x2]) ?_ ?_ ?_ ?_
    · exact ⟨Evl.Ex.refl H7, none, none, rfl⟩
    · rintro i σ' H8 _ ⟨e8, _⟩
      exact SqL.of (e8 _ _ nH7.here)
    · rintro i y σ' H8 hy ⟨e8, x1, x2, rfl⟩
      have : ∃ t b, y = .ref t ∧ H8 t = some (.tup [.bl b, .bl b]) := by
        have : y ∈ ([.ref p, .ref p2] : List V) := List.mem_of_getElem? hy
        simp only [List.mem_cons, List.not_mem_nil, or_false] at this
        rcases this with rfl | rfl
        · exact ⟨p, _, rfl, e8 _ _ hp⟩
        · exact ⟨p2, _, rfl, e8 _ _ hp2⟩
      obtain ⟨t, b, rfl, ht⟩ := this
      have hT := SqT.of (K := K) ht
      walk_at "go"
      refine w_isi (.bl b) (by decide) ?_
      walk_at "go"
      refine w_bool (fun h => ?_) (fun h => ?_)
      · exact absurd h (by show ¬ (!isB "bool" "bool") = true; decide)
      · walk_at "go"
        refine w_ndec (fun h2 => absurd rfl h2) (fun _ => ?_)
        walk_at "go"
        exact ⟨e8, _, _, rfl⟩
    · rintro σ' H8 ⟨e8, x1, x2, rfl⟩
      walk_at "go"
      exact q H8 ((e14.trans e57).trans e8)
end
end Fk
namespace Fk
open PySem PySem.Spec PyProof.Rows L2
local macro_rules | `(tactic| walk_at "fk") => `(tactic| first
  | with_reducible refine w_seq ?_ | with_reducible refine w_set ?_ | with_reducible refine w_asg ?_ | with_reducible refine w_drop ?_ | with_reducible refine w_ret ?_ | with_reducible refine w_if ?_
  | with_reducible refine w_op ?_ | with_reducible refine w_un ?_ | with_reducible refine w_c ?_ | ((with_reducible apply w_var); rfl)
  | with_reducible refine w_test ?_ | with_reducible refine w_B ?_ | with_reducible refine w_exb ?_ | with_reducible refine w_exi ?_ | with_reducible refine w_I0 ?_ | with_reducible refine w_U ?_
  | with_reducible refine w_nil ?_ | with_reducible refine w_cons ?_ | with_reducible refine w_call ?_ | with_reducible refine w_cb ?_ | with_reducible refine w_tup ?_ | with_reducible refine w_lst ?_
  | with_reducible refine w_and ?_ | with_reducible refine w_or ?_ | with_reducible refine w_not ?_ | with_reducible refine w_andV ?_ | with_reducible refine w_orV ?_ | with_reducible refine w_notV ?_
  | with_reducible refine w_ifE ?_ | with_reducible refine w_chain ?_ | with_reducible refine w_for ?_ | with_reducible refine w_lc ?_ | with_reducible refine w_yes ?_ | with_reducible refine w_iR1 ?_ | with_reducible refine w_iL ?_ | with_reducible refine w_iT ?_ | with_reducible refine w_iE ?_ | with_reducible refine w_iZ ?_ | with_reducible refine w_iS ?_ | with_reducible refine w_s1 ?_ | with_reducible refine w_m1 ?_ | with_reducible refine w_m0 ?_ | with_reducible refine w_estr ?_ | with_reducible refine w_lz ?_ | with_reducible refine w_dnew ?_ | with_reducible refine w_revT ?_ | with_reducible refine w_leS ?_ | with_reducible refine w_ltS ?_ | with_reducible refine w_inSg ?_ | with_reducible refine w_notInSg ?_ | with_reducible refine iteT ?_ | with_reducible refine iteF ?_ | with_reducible refine w_par ?_ | with_reducible refine w_two ?_ | with_reducible refine w_gname ?_ | with_reducible refine w_gcons ?_ | with_reducible refine w_gnil ?_ | ((with_reducible apply w_gtup); (with_reducible assumption); rfl) | with_reducible refine w_gsub ?_
  | with_reducible refine w_bm ?_ | with_reducible refine w_sl ?_ | with_reducible refine w_noP ?_ | with_reducible refine w_part ?_ | with_reducible refine w_next ?_ | with_reducible refine w_retN ?_
  | ((with_reducible refine w_I ?hk ?_); (case hk => (first | (show (0 : Int) < _; omega) | exact ⟨by omega, by omega⟩ | exact .inl ⟨by omega, by omega⟩ | exact .inr ⟨by omega, by omega⟩ | exact cpow_small (by decide) (by decide) (by decide))))
  | ((with_reducible apply w_eq); rfl) | ((with_reducible apply w_ne); rfl)
  | ((with_reducible apply w_ixL); (with_reducible assumption); rfl)
  | ((with_reducible apply w_setL); (with_reducible assumption); rfl))
local macro_rules | `(tactic| walk_at "go") => `(tactic| repeat walk_at "fk")

section
variable {P : Program} {w : World} {K : PySem.W.Frag} {mg : Str → Option Value} {base : Heap}
def spBent (m : Nat) : Sp := fun vs H Q _ => ∃ (d : Addr) (x : V) (b n : Nat), vs = [.ref d, x] ∧ Kb d H b m x ∧ b ≤ 2 ∧ Drw H d n ∧ n + 3 * m + 10 ≤ 100000 ∧
  ∀ (y : V) (H' : Hp), Go d H H' → Drw H' d (n + 3 * m + 5) → Kb d H' (b + 1) (m + 1) y → Q y H'
/-- one level less; at the lowest nothing is asked -/
def spBentR (m : Nat) : Sp := match m with
  | 0 => fun _ _ _ _ => False
  | m + 1 => spBent m
theorem ok_bent1 {m : Nat} {f : Addr} {fd : FuncData} (F : Fun K "_law_bent" "_law_bent" s_law_bent f fd) (T : Txt mg) (C_law_next : Cal P w K mg base 1 "_law_next" ["draw", "size"] spNext)
    (C_law_pick : Cal P w K mg base 2 "_law_pick" ["draw", "some"] (spPick K)) (C_law_bent : Cal P w K mg base (m + 2) "_law_bent" ["draw", "thing"] (spBentR m)) : FnOk P w K mg base CX0 (m + 3) f fd ["draw", "thing"] (spBent m) := by
  refine F.ok sc_law_bent (fun vs H Q E h => ?_) (fun cdv A outer s H vs Q E hr h => ?_)
  · obtain ⟨d, x, b, n, rfl, _⟩ := h
    rfl
  · obtain ⟨d, x, b, n, rfl, hx, hb, hd, hn, q⟩ := h
    refine ⟨_, (Evl.pss_cut (ps_if (PW.pt (pw_and (pt_val (pe_callB (kisi K) (by rfl) T.isinstance_ (by decide +kernel) (pa_cons (pv 1) (pa_cons (pe_bltn (v := .ty "tuple") (by rfl) T.tuple_ (by decide +kernel) rfl) pa_nil)))) (pw_and (pt_cmpR (kNeT0 K hr.units) (pv 1) (pe_tup pa_nil) (nomark _)) (pw_and1 (pt_cmpR op_gt (pc C_law_next (hr.mono (by omega)) (by rfl) (pa_cons (pv 0) (pa_cons pe_int pa_nil))) pe_int (nomark _)))))) (pss_cons (ps_set (i := 2) sc_law_bent.nd rfl (.inl rfl) (pc C_law_next (hr.mono (by omega)) (by rfl) (pa_cons (pv 0) (pa_cons (pe_callB (klen K) (by rfl) T.len_ PySem.boot_len (pa_cons (pv 1) pa_nil)) pa_nil))))
      (pss_one (ps_ret (pe_op (kcatT K) (pe_op (kcatT K) (pe_slice (kslT K) (pv 1) po_none (po_some (pv 2))) (pe_tup (pa_cons (pc C_law_bent hr (by rfl) (pa_cons (pv 0) (pa_cons (pe_ix (kixT K) (pv 1) (pv 2) (fun _ _ => rfl)) pa_nil))) pa_nil))) (pe_slice (kslT K) (pv 1) (po_some (pe_op op_add (pv 2) pe_int)) po_none))))) pss_nil)
      (pss_cons (ps_if (pt_val (pe_callB (kisi K) (by rfl) T.isinstance_ (by decide +kernel) (pa_cons (pv 1) (pa_cons (pe_bltn (v := .ty "tuple") (by rfl) T.tuple_ (by decide +kernel) rfl) pa_nil)))) (pss_cons (ps_set (i := 2) sc_law_bent.nd rfl (.inl rfl) (pc C_law_next (hr.mono (by omega)) (by rfl) (pa_cons (pv 0) (pa_cons (pe_op op_add (pe_callB (klen K) (by rfl) T.len_ PySem.boot_len (pa_cons (pv 1) pa_nil)) pe_int) pa_nil))))
      (pss_cons (ps_set (i := 3) sc_law_bent.nd rfl (.inl rfl) (pe_lst (pa_cons (pe_op (kcatT K) (pe_slice (kslT K) (pv 1) po_none (po_some (pv 2))) (pe_slice (kslT K) (pv 1) (po_some (pe_op op_add (pv 2) pe_int)) po_none)) (pa_cons (pe_op (kcatT K) (pe_op (kcatT K) (pe_slice (kslT K) (pv 1) po_none (po_some (pv 2))) (pe_slice (kslT K) (pv 1) (po_some (pv 2)) (po_some (pe_op op_add (pv 2) pe_int)))) (pe_slice (kslT K) (pv 1) (po_some (pv 2)) po_none)) (pa_cons (pe_revT K (pv 1)) (pa_cons (pe_callTy (klist K) (by rfl) T.list_ (by decide +kernel) (pa_cons (pv 1) pa_nil)) pa_nil))))))
      (pss_one (ps_ret (pc C_law_pick (hr.mono (by omega)) (by rfl) (pa_cons (pv 0) (pa_cons (pe_op op_cat (pv 3) (pe_lst (pa_cons (pe_tup (pa_cons (pv 1) pa_nil)) (pa_cons (pe_op (kcatT K) (pv 1) (pe_tup (pa_cons pe_int pa_nil))) (pa_cons pe_non (pa_cons (pe_tup pa_nil) pa_nil)))))) pa_nil))))))) pss_nil)
      (pss_cons (ps_if (pt_val (pe_callB (kisi K) (by rfl) T.isinstance_ (by decide +kernel) (pa_cons (pv 1) (pa_cons (pe_bltn (v := .ty "str") (by rfl) T.str_ (by decide +kernel) rfl) pa_nil)))) (pss_cons (ps_par (i := 2) (j := 4) rfl sc_law_bent.nd rfl rfl (by decide) rfl rfl (pa_cons (pc C_law_next (hr.mono (by omega)) (by rfl) (pa_cons (pv 0) (pa_cons (pe_op op_add (pe_callB (klen K) (by rfl) T.len_ PySem.boot_len (pa_cons (pv 1) pa_nil)) pe_int) pa_nil))) (pa_cons (pc C_law_pick (hr.mono (by omega)) (by rfl) (pa_cons (pv 0) (pa_cons pe_str pa_nil))) pa_nil)) (by rfl))
      (pss_cons (ps_set (i := 3) sc_law_bent.nd rfl (.inl rfl) (pe_lst (pa_cons (pe_op kAddS (pe_slice sl_str (pv 1) po_none (po_some (pv 2))) (pe_slice sl_str (pv 1) (po_some (pe_op op_add (pv 2) pe_int)) po_none)) (pa_cons (pe_op kAddS (pe_op kAddS (pe_slice sl_str (pv 1) po_none (po_some (pv 2))) (pv 4)) (pe_slice sl_str (pv 1) (po_some (pv 2)) po_none)) (pa_cons (pe_op kAddS (pe_op kAddS (pe_slice sl_str (pv 1) po_none (po_some (pv 2))) (pv 4)) (pe_slice sl_str (pv 1) (po_some (pe_op op_add (pv 2) pe_int)) po_none)) pa_nil)))))
      (pss_one (ps_ret (pc C_law_pick (hr.mono (by omega)) (by rfl) (pa_cons (pv 0) (pa_cons (pe_op op_cat (pv 3) (pe_lst (pa_cons (kupper (pv 1)) (pa_cons (pe_slice sl_str (pe_op kmulS (pv 1) pe_int) po_none (po_some pe_int)) (pa_cons (pe_slice sl_str (pe_op kmulS (pv 1) pe_int) po_none (po_some pe_int)) (pa_cons (pe_tup (pa_cons (pv 1) pa_nil)) (pa_cons pe_non (pa_cons pe_int (pa_cons pe_str pa_nil))))))))) pa_nil))))))) pss_nil)
      (pss_cons (ps_if (pt_val (pe_callB (kisi K) (by rfl) T.isinstance_ (by decide +kernel) (pa_cons (pv 1) (pa_cons (pe_bltn (v := .ty "int") (by rfl) T.int_ (by decide +kernel) rfl) pa_nil)))) (pss_cons (ps_set (i := 3) sc_law_bent.nd rfl (.inl rfl) (pe_lst (pa_cons (pe_op kAddN (pv 1) pe_int) (pa_cons (pe_op kSubN (pv 1) pe_int) (pa_cons (pe_op kSubM pe_int (pv 1)) (pa_cons pe_int (pa_cons (pe_op op_powN pe_int pe_int) (pa_cons (pe_op op_add (pe_op op_powN pe_int pe_int) pe_int) (pa_cons pe_bl (pa_cons pe_bl (pa_cons (pe_callTy kstrN (by rfl) T.str_ (by decide +kernel) (pa_cons (pv 1) pa_nil)) (pa_cons pe_non (pa_cons (pe_tup (pa_cons (pv 1) pa_nil)) pa_nil)))))))))))))
      (pss_one (ps_ret (pc C_law_pick (hr.mono (by omega)) (by rfl) (pa_cons (pv 0) (pa_cons (pe_op op_cat (pv 3) (pe_lst (pa_cons (pe_op op_powN pe_int pe_int) (pa_cons pe_str (pa_cons (pe_un un_neg pe_int) pa_nil))))) pa_nil)))))) pss_nil)
      (pss_one (ps_ret (pc C_law_pick (hr.mono (by omega)) (by rfl) (pa_cons (pv 0) (pa_cons (pe_lst (pa_cons pe_non (pa_cons pe_int (pa_cons pe_str (pa_cons (pe_tup pa_nil) (pa_cons (pe_lst pa_nil) (pa_cons pe_dnewK (pa_cons pe_bl (pa_cons (pe_lst (pa_cons pe_str pa_nil)) pa_nil))))))))) pa_nil))))))))), ?_⟩
    refine w_from [some (.ref d), some x, none, none, none] ?_
    try dsimp only [cxOf]
    have kx := hx.kd (by omega)
    refine ⟨fun σ' H' => Go d H H' ∧ Drw H' d (n + 1) ∧ σ' = [some (.ref d), some x, none, none, none], ?_, ?_⟩
    · walk_at "go"
      refine w_isi kx (by decide) ?_
      walk_at "go"
      refine w_bool (fun h1 => ?_) (fun h1 => ?_)
      · walk_at "go"
        obtain ⟨m', a, xs, rfl, rfl, ha, hl, hxs⟩ := hx.tup_of h1
        have p4 : 4 ^ b ≤ 16 := pow4 (c := 2) hb
        have p1 : 1 ≤ 4 ^ b := Nat.one_le_pow _ _ (by omega)
        have ps := four_pow b
        have ad := nd_tup hd ha
        refine ⟨small (by show 0 ≤ 100000; omega), ?_⟩
        intro e he
        generalize hE : upd _ e _ = H2
        have nH2 : New _ e (.tup []) H2 := New.of he hE
        clear hE
        refine ⟨a, e, xs, rfl, rfl, SqT.of (nH2.keep ha), SqT.of nH2.here, ?_⟩
        walk_at "go"
        refine w_bool (fun h2 => ?_) (fun h2 => ?_)
        · have xpos : 0 < xs.length := by
            cases xs with
            | nil => exact absurd h2 (by decide)
            | cons _ _ => exact Nat.zero_lt_succ _
          walk_at "go"
          refine next_i (nH2.drw hd) (by omega) (by omega) (by omega) fun r H3 r0 r1 b3 hd3 => ?_
          have g3 : Go d H H3 := nH2.go1.bt b3
          walk_at "go"
          refine w_bool (fun h3 => ?_) (fun h3 => ?_)
          · walk_at "go"
            refine w_len (.inr ⟨xs, SqT.of (g3 a _ ad ha), rfl⟩) ?_
            walk_at "go"
            refine next_i hd3 (by omega) (by omega) (by omega) fun u H4 u0 u1 b4 hd4 => ?_
            obtain ⟨i, rfl, hi⟩ := nat_of u0 u1
            have g4 := g3.bt b4
            obtain ⟨y, hy⟩ := get_of hi
            walk_at "go"
            refine w_slT (g4 a _ ad ha) fun q1 H5 e5 hq1 => ?_
            have g5 := g4.exx e5
            have hd5 := hd4.ex e5
            walk_at "go"
            refine w_ixT (SqT.of (g5 a _ ad ha)) (atI_of hy) ?_
            walk_at "go"
            show spBent m' ([.ref d, y] ++ []) H5 _ E0
            refine ⟨d, y, b, _, rfl, (hxs y (List.mem_of_getElem? hy)).go g5 hd, hb, hd5, by omega, fun z H6 g6 hd6 hz => ?_⟩
            have g06 := g5.trans g6
            have hq6 := g6 q1 _ (nd_tup hd5 hq1) hq1
            walk_at "go"
            refine ⟨small (by show 1 ≤ 100000; omega), ?_⟩
            intro q2 hq2
            generalize hE : upd _ q2 _ = H7
            have nH7 : New _ q2 (.tup [z]) H7 := New.of hq2 hE
            clear hE
            walk_at "go"
            have l1 := cutV_length xs none (some (i : Int))
            have l2 := cutV_length xs (some ((i : Int) + 1)) none
            refine w_catT (nH7.keep hq6) nH7.here (by show _ + 1 ≤ _; omega) fun q3 H8 e8 hq3 => ?_
            have g68 : Go d H6 H8 := nH7.go1.exx e8
            walk_at "go"
            refine w_slT ((g06.trans g68) a _ ad ha) fun q4 H9 e9 hq4 => ?_
            walk_at "go"
            refine w_catT (e9 _ _ hq3) hq4 (by rw [List.length_append]; show _ + 1 + _ ≤ _; omega) fun q5 H10 e10 hq5 => ?_
            have g610 : Go d H6 H10 := (g68.exx e9).exx e10
            refine q (.ref q5) H10 (g06.trans g610) ((((nH7.drw hd6).ex e8).ex e9).ex e10 |>.le (by omega)) (.tup hq5 (by rw [List.length_append, List.length_append, ps]; show _ + 1 + _ ≤ _; omega) fun w hw => ?_)
            have old : ∀ {w}, w ∈ xs → Kb d H10 (b + 1) (m' + 1) w := fun hw => ((hxs _ hw).go (g06.trans g610) hd).mono (by omega) (by omega)
            rcases List.mem_append.mp hw with hw | hw
            · rcases List.mem_append.mp hw with hw | hw
              · exact old (cutV_mem hw)
              · rw [List.mem_singleton.mp hw]
                exact hz.go g610 hd6
            · exact old (cutV_mem hw)
          · walk_at "go"
            exact ⟨g3, hd3, rfl⟩
        · walk_at "go"
          exact ⟨nH2.go1, (nH2.drw hd).le (by omega), rfl⟩
      · walk_at "go"
        exact ⟨Go.refl d H, hd.le (by omega), rfl⟩
    · rintro σ' H1 ⟨g1, hd1, rfl⟩
      have hx1 := hx.go g1 hd
      have kx1 := hx1.kd (by omega)
      walk_at "go"
      refine w_isi kx1 (by decide) ?_
      walk_at "go"
      refine w_bool (fun h1 => ?_) (fun h1 => ?_)
      · obtain ⟨m', a, xs, rfl, rfl, ha, hl, hxs⟩ := hx1.tup_of h1
        have p4 : 4 ^ b ≤ 16 := pow4 (c := 2) hb
        have p1 : 1 ≤ 4 ^ b := Nat.one_le_pow _ _ (by omega)
        have ps := four_pow b
        have ad := nd_tup hd1 ha
        walk_at "go"
        refine w_len (.inr ⟨xs, SqT.of ha, rfl⟩) ?_
        walk_at "go"
        refine next_i hd1 (by omega) (by omega) (by omega) fun u H2 u0 u1 b2 hd2 => ?_
        have e1 : ((xs.length : Nat) : Int) + 1 = ((xs.length + 1 : Nat) : Int) := by omega
        rw [e1] at u1
        obtain ⟨i, rfl, hi⟩ := nat_of u0 u1
        have ha2 := b2.keep ha ad
        have l1 := cutV_length xs none (some (i : Int))
        have l2 := cutV_length xs (some ((i : Int) + 1)) none
        have l3 := cutV_length xs (some (i : Int)) (some ((i : Int) + 1))
        have l4 := cutV_length xs (some (i : Int)) none
        walk_at "go"
        refine w_slT ha2 fun q1 H3 e3 hq1 => ?_
        walk_at "go"
        refine w_slT (e3 _ _ ha2) fun q2 H4 e4 hq2 => ?_
        walk_at "go"
        refine w_catT (e4 _ _ hq1) hq2 (by omega) fun c1 H5 e5 hc1 => ?_
        have ha5 := e5 _ _ (e4 _ _ (e3 _ _ ha2))
        walk_at "go"
        refine w_slT ha5 fun q3 H6 e6 hq3 => ?_
        walk_at "go"
        refine w_slT (e6 _ _ ha5) fun q4 H7 e7 hq4 => ?_
        walk_at "go"
        refine w_catT (e7 _ _ hq3) hq4 (by omega) fun q5 H8 e8 hq5 => ?_
        have ha8 := e8 _ _ (e7 _ _ (e6 _ _ ha5))
        walk_at "go"
        refine w_slT ha8 fun q6 H9 e9 hq6 => ?_
        walk_at "go"
        refine w_catT (e9 _ _ hq5) hq6 (by rw [List.length_append]; omega) fun c2 H10 e10 hc2 => ?_
        have ha10 := e10 _ _ (e9 _ _ ha8)
        walk_at "go"
        refine ⟨a, xs, rfl, SqT.of ha10, ?_⟩
        intro c3 hc3
        generalize hE : upd _ c3 _ = H11
        have nH11 : New _ c3 (.tup xs.reverse) H11 := New.of hc3 hE
        clear hE
        walk_at "go"
        refine ⟨a, xs, rfl, .inr (SqT.of (nH11.keep ha10)), ?_⟩
        intro c4 hc4
        generalize hE : upd _ c4 _ = H12
        have nH12 : New _ c4 (.lst xs) H12 := New.of hc4 hE
        clear hE
        walk_at "go"
        refine ⟨small (by show 4 ≤ 100000; omega), ?_⟩
        intro s1 hs1
        generalize hE : upd _ s1 _ = H13
        have nH13 : New _ s1 (.lst [.ref c1, .ref c2, .ref c3, .ref c4]) H13 := New.of hs1 hE
        clear hE
        walk_at "go"
        refine ⟨small (by show 1 ≤ 100000; omega), ?_⟩
        intro c5 hc5
        generalize hE : upd _ c5 _ = H14
        have nH14 : New _ c5 (.tup [.ref a]) H14 := New.of hc5 hE
        clear hE
        walk_at "go"
        refine ⟨small (by show 1 ≤ 100000; omega), ?_⟩
        intro q7 hq7
        generalize hE : upd _ q7 _ = H15
        have nH15 : New _ q7 (.tup [.int 0]) H15 := New.of hq7 hE
        clear hE
        have ha15 := nH15.keep (nH14.keep (nH13.keep (nH12.keep (nH11.keep ha10))))
        walk_at "go"
        refine w_catT ha15 nH15.here (by show _ + 1 ≤ _; omega) fun c6 H16 e16 hc6 => ?_
        walk_at "go"
        refine ⟨small (by show 0 ≤ 100000; omega), ?_⟩
        intro c7 hc7
        generalize hE : upd _ c7 _ = H17
        have nH17 : New _ c7 (.tup []) H17 := New.of hc7 hE
        clear hE
        walk_at "go"
        refine ⟨small (by show 4 ≤ 100000; omega), ?_⟩
        intro s2 hs2
        generalize hE : upd _ s2 _ = H18
        have nH18 : New _ s2 (.lst [.ref c5, .ref c6, .non, .ref c7]) H18 := New.of hs2 hE
        clear hE
        have x18 := nH18.ex
        have x17 := nH17.ex.trans x18
        have x16 := e16.trans x17
        have x15 := nH15.ex.trans x16
        have x14 := nH14.ex.trans x15
        have x13 := nH13.ex.trans x14
        have x12 := nH12.ex.trans x13
        have x11 := nH11.ex.trans x12
        have x10 := e10.trans x11
        have x5 := ((e6.trans e7).trans (e8.trans e9)).trans x10
        have x2 := (e3.trans (e4.trans e5)).trans x5
        have hd18 := hd2.ex x2
        refine w_cat (x14 _ _ nH13.here) nH18.here (by show 4 + 4 ≤ _; omega) ?_
        intro s3 hs3
        generalize hE : upd _ s3 _ = H19
        have nH19 : New _ s3 (.lst [.ref c1, .ref c2, .ref c3, .ref c4, .ref c5, .ref c6, .non, .ref c7]) H19 := New.of hs3 hE
        clear hE
        walk_at "go"
        refine pick_l (nH19.drw hd18) (by omega) (SqL.of nH19.here) (hd18.ne nH19.free) (by show 0 < 8; omega) (by show 8 ≤ 100000; omega) fun v H20 hv b20 hd20 => ?_
        have x19 := nH19.ex
        have g219 : Go d H1 H20 := ((b2.go.exx x2).exx x19).bt b20
        have tp : ∀ {c : Addr} {ys : List V}, H18 c = some (.tup ys) → H20 c = some (.tup ys) := fun h => b20.keep (x19 _ _ h) (nd_tup hd18 h)
        have old : ∀ {w}, w ∈ xs → Kb d H20 (b + 1) (m' + 1) w := fun hw => ((hxs _ hw).go g219 hd1).mono (by omega) (by omega)
        refine q v H20 (g1.trans g219) (hd20.le (by omega)) ?_
        simp only [List.mem_cons, List.not_mem_nil, or_false] at hv
        rcases hv with rfl | rfl | rfl | rfl | rfl | rfl | rfl | rfl
        · refine .tup (tp (x5 _ _ hc1)) (by rw [List.length_append, ps]; omega) fun w hw => ?_
          rcases List.mem_append.mp hw with hw | hw
          · exact old (cutV_mem hw)
          · exact old (cutV_mem hw)
        · refine .tup (tp (x11 _ _ hc2)) (by rw [List.length_append, List.length_append, ps]; omega) fun w hw => ?_
          rcases List.mem_append.mp hw with hw | hw
          · rcases List.mem_append.mp hw with hw | hw
            · exact old (cutV_mem hw)
            · exact old (cutV_mem hw)
          · exact old (cutV_mem hw)
        · exact .tup (tp (x12 _ _ nH11.here)) (by rw [List.length_reverse, ps]; omega) fun w hw => old (List.mem_reverse.mp hw)
        · have c4d : c4 ≠ d := by
            have hd11 : Drw H11 d (n + 1 + 1) := nH11.drw (hd2.ex ((e3.trans (e4.trans e5)).trans (((e6.trans e7).trans (e8.trans e9)).trans e10)))
            exact hd11.ne nH12.free
          exact .lst (b20.keep (x19 _ _ (x13 _ _ nH12.here)) c4d) c4d
        · refine .tup (tp (x15 _ _ nH14.here)) (by show 1 ≤ _; omega) fun w hw => ?_
          rw [List.mem_singleton.mp hw]
          exact ((hx1.go g219 hd1).mono (by omega) (Nat.le_refl _))
        · refine .tup (tp (x17 _ _ hc6)) (by rw [List.length_append, ps]; show _ + 1 ≤ _; omega) fun w hw => ?_
          rcases List.mem_append.mp hw with hw | hw
          · exact old hw
          · rw [List.mem_singleton.mp hw]
            exact .int 0 (by omega)
        · exact .non
        · exact .tup (tp (x18 _ _ nH17.here)) (Nat.zero_le _) fun w hw => absurd hw (by simp)
      · walk_at "go"
        refine w_isi kx1 (by decide) ?_
        walk_at "go"
        refine w_bool (fun h2 => ?_) (fun h2 => ?_)
        · obtain ⟨z, rfl, hz⟩ := hx1.str_of h2
          have p4 : 4 ^ b ≤ 16 := pow4 (c := 2) hb
          have p1 : 1 ≤ 4 ^ b := Nat.one_le_pow _ _ (by omega)
          have ps := four_pow b
          have zl := hz.1
          walk_at "go"
          refine w_len ⟨small (by omega), rfl⟩ ?_
          walk_at "go"
          refine next_i hd1 (by omega) (by omega) (by omega) fun u H2 u0 u1 b2 hd2 => ?_
          walk_at "go"
          refine pick_s hd2 (by omega) (by decide +kernel) (by decide +kernel) fun c H3 hc b3 hd3 => ?_
          have hc1 := Asc.one (bent_signs c hc)
          walk_at "go"
          refine w_slA hz (by omega) ?_
          walk_at "go"
          refine w_slA hz (by omega) ?_
          walk_at "go"
          refine w_addA hz.cut hz.cut (by omega) ?_
          walk_at "go"
          refine w_slA hz (by omega) ?_
          walk_at "go"
          refine w_addA hz.cut hc1 (by omega) ?_
          walk_at "go"
          refine w_slA hz (by omega) ?_
          walk_at "go"
          refine w_addA (hz.cut.app hc1) hz.cut (by omega) ?_
          walk_at "go"
          refine w_slA hz (by omega) ?_
          walk_at "go"
          refine w_addA hz.cut hc1 (by omega) ?_
          walk_at "go"
          refine w_slA hz (by omega) ?_
          walk_at "go"
          refine w_addA (hz.cut.app hc1) hz.cut (by omega) ?_
          walk_at "go"
          refine ⟨small (by show 3 ≤ 100000; omega), ?_⟩
          intro s1 hs1
          generalize hE : upd _ s1 _ = H4
          have nH4 := New.of hs1 hE
          clear hE
          walk_at "go"
          refine ⟨z, rfl, rfl, by omega, ?_⟩
          walk_at "go"
          refine ⟨z, 7, rfl, rfl, mulOk_small (n := 7) (by omega) (by omega) (by omega), ?_⟩
          walk_at "go"
          refine w_slA (hz.mul (n := 7) (by omega)) (by omega) ?_
          walk_at "go"
          refine ⟨z, 6, rfl, rfl, mulOk_small (n := 6) (by omega) (by omega) (by omega), ?_⟩
          walk_at "go"
          refine w_slA (hz.mul (n := 6) (by omega)) (by omega) ?_
          walk_at "go"
          refine ⟨small (by show 1 ≤ 100000; omega), ?_⟩
          intro c5 hc5
          generalize hE : upd _ c5 _ = H5
          have nH5 : New _ c5 (.tup [.str z]) H5 := New.of hc5 hE
          clear hE
          walk_at "go"
          refine ⟨small (by show 7 ≤ 100000; omega), ?_⟩
          intro s2 hs2
          generalize hE : upd _ s2 _ = H6
          have nH6 := New.of hs2 hE
          clear hE
          have hd6 := nH6.drw (nH5.drw (nH4.drw hd3))
          refine w_cat (nH6.keep (nH5.keep nH4.here)) nH6.here (by show 3 + 7 ≤ _; omega) ?_
          intro s3 hs3
          generalize hE : upd _ s3 _ = H7
          have nH7 := New.of hs3 hE
          clear hE
          walk_at "go"
          refine pick_l (nH7.drw hd6) (by omega) (SqL.of nH7.here) (hd6.ne nH7.free) (by show 0 < 10; omega) (by show 10 ≤ 100000; omega) fun v H8 hv b8 hd8 => ?_
          have g38 : Go d H3 H8 := (nH7.go (nH6.go (nH5.go nH4.go1))).bt b8
          have g18 : Go d H1 H8 := ((b2.go).bt b3).trans g38
          refine q v H8 (g1.trans g18) (hd8.le (by omega)) ?_
          have hv : v ∈ [V.str _, .str _, .str _, .str _, .str _, .str _, .ref c5, .non, .int 5, .str _] := hv
          simp only [List.mem_cons, List.not_mem_nil, or_false] at hv
          rcases hv with rfl | rfl | rfl | rfl | rfl | rfl | rfl | rfl | rfl | rfl
          · exact .str _ ((hz.cut.app hz.cut).le (by omega))
          · exact .str _ (((hz.cut.app hc1).app hz.cut).le (by omega))
          · exact .str _ (((hz.cut.app hc1).app hz.cut).le (by omega))
          · exact .str _ (hz.up.le (by omega))
          · exact .str _ (((hz.mul (n := 7) (by omega)).first (n := 7)).le (by omega))
          · exact .str _ (((hz.mul (n := 6) (by omega)).first (n := 6)).le (by omega))
          · refine .tup (b8.keep (nH7.keep (nH6.keep nH5.here)) (nd_tup (nH5.drw (nH4.drw hd3)) nH5.here)) (by show 1 ≤ _; omega) fun w hw => ?_
            rw [List.mem_singleton.mp hw]
            exact .str _ (hz.le (by omega))
          · exact .non
          · exact .int 5 (by show 5 ≤ _; omega)
          · exact .str _ ⟨Nat.zero_le _, cL_none⟩
        · walk_at "go"
          refine w_isi kx1 (by decide) ?_
          walk_at "go"
          refine w_bool (fun h3 => ?_) (fun h3 => ?_)
          · obtain ⟨j, nj, hj⟩ := hx1.int_of h3
            walk_at "go"
            refine ⟨j, 1, nj, rfl, ?_⟩
            walk_at "go"
            refine ⟨j, 1, nj, rfl, ?_⟩
            walk_at "go"
            refine ⟨0, j, rfl, nj, ?_⟩
            walk_at "go"
            refine w_strN nj hb hj fun z hz => ?_
            walk_at "go"
            refine ⟨small (by show 1 ≤ 100000; omega), ?_⟩
            intro c5 hc5
            generalize hE : upd _ c5 _ = H2
            have nH2 : New _ c5 (.tup [x]) H2 := New.of hc5 hE
            clear hE
            walk_at "go"
            refine ⟨small (by show 11 ≤ 100000; omega), ?_⟩
            intro s1 hs1
            generalize hE : upd _ s1 _ = H3
            have nH3 := New.of hs1 hE
            clear hE
            walk_at "go"
            refine ⟨small (by show 3 ≤ 100000; omega), ?_⟩
            intro s2 hs2
            generalize hE : upd _ s2 _ = H4
            have nH4 := New.of hs2 hE
            clear hE
            have hd4 := nH4.drw (nH3.drw (nH2.drw hd1))
            refine w_cat (nH4.keep nH3.here) nH4.here (by show 11 + 3 ≤ _; omega) ?_
            intro s3 hs3
            generalize hE : upd _ s3 _ = H5
            have nH5 := New.of hs3 hE
            clear hE
            walk_at "go"
            refine pick_l (nH5.drw hd4) (by omega) (SqL.of nH5.here) (hd4.ne nH5.free) (by show 0 < 14; omega) (by show 14 ≤ 100000; omega) fun v H6 hv b6 hd6 => ?_
            have g16 : Go d H1 H6 := (nH5.go (nH4.go (nH3.go nH2.go1))).bt b6
            have p1 : 1 ≤ 4 ^ b := Nat.one_le_pow _ _ (by omega)
            have ps := four_pow b
            refine q v H6 (g1.trans g16) (hd6.le (by omega)) ?_
            have hv : v ∈ [V.int _, .int _, .int _, .int 0, .int _, .int _, .bl true, .bl false, .str z, .non, .ref c5, .int _, .str _, .int _] := hv
            simp only [List.mem_cons, List.not_mem_nil, or_false] at hv
            rcases hv with rfl | rfl | rfl | rfl | rfl | rfl | rfl | rfl | rfl | rfl | rfl | rfl | rfl | rfl
            · exact .int _ (by omega)
            · exact .int _ (by omega)
            · exact .int _ (by omega)
            · exact .int 0 (by omega)
            · exact .int _ (Nat.le_trans (by decide) (Nat.le_add_right _ _))
            · exact .int _ (Nat.le_trans (by decide) (Nat.le_add_right _ _))
            · exact .bl _
            · exact .bl _
            · exact .str _ (hz.le (by omega))
            · exact .non
            · refine .tup (b6.keep (nH5.keep (nH4.keep (nH3.keep nH2.here))) (nd_tup (nH2.drw hd1) nH2.here)) (by show 1 ≤ _; omega) fun w hw => ?_
              rw [List.mem_singleton.mp hw]
              exact ((hx1.go g16 hd1).mono (by omega) (Nat.le_refl _))
            · exact .int _ (Nat.le_trans (by decide) (Nat.le_add_right _ _))
            · exact .str _ ⟨Nat.zero_le _, cL_none⟩
            · exact .int _ (by omega)
          · walk_at "go"
            refine ⟨small (by show 0 ≤ 100000; omega), ?_⟩
            intro c1 hc1
            generalize hE : upd _ c1 _ = H2
            have nH2 : New _ c1 (.tup []) H2 := New.of hc1 hE
            clear hE
            walk_at "go"
            refine ⟨small (by show 0 ≤ 100000; omega), ?_⟩
            intro c2 hc2
            generalize hE : upd _ c2 _ = H3
            have nH3 : New _ c2 (.lst []) H3 := New.of hc2 hE
            clear hE
            walk_at "go"
            intro c3 hc3
            generalize hE : upd _ c3 _ = H4
            have nH4 : New _ c3 (.dK []) H4 := New.of hc3 hE
            clear hE
            walk_at "go"
            refine ⟨small (by show 1 ≤ 100000; omega), ?_⟩
            intro c4 hc4
            generalize hE : upd _ c4 _ = H5
            have nH5 : New _ c4 (.lst [.str "a"]) H5 := New.of hc4 hE
            clear hE
            walk_at "go"
            refine ⟨small (by show 8 ≤ 100000; omega), ?_⟩
            intro s1 hs1
            generalize hE : upd _ s1 _ = H6
            have nH6 : New _ s1 (.lst [.non, .int 5, .str "a", .ref c1, .ref c2, .ref c3, .bl true, .ref c4]) H6 := New.of hs1 hE
            clear hE
            walk_at "go"
            have hd2 := nH2.drw hd1
            have hd3 := nH3.drw hd2
            have hd4 := nH4.drw hd3
            have hd5 := nH5.drw hd4
            refine pick_l (nH6.drw hd5) (by omega) (SqL.of nH6.here) (hd5.ne nH6.free) (by show 0 < 8; omega) (by show 8 ≤ 100000; omega) fun v H7 hv b7 hd7 => ?_
            have g17 : Go d H1 H7 := (nH6.go (nH5.go (nH4.go (nH3.go nH2.go1)))).bt b7
            have p1 : 1 ≤ 4 ^ b := Nat.one_le_pow _ _ (by omega)
            have ps := four_pow b
            have x5 := nH6.ex
            have x4 := nH5.ex.trans x5
            have x3 := nH4.ex.trans x4
            have x2 := nH3.ex.trans x3
            refine q v H7 (g1.trans g17) (hd7.le (by omega)) ?_
            simp only [List.mem_cons, List.not_mem_nil, or_false] at hv
            rcases hv with rfl | rfl | rfl | rfl | rfl | rfl | rfl | rfl
            · exact .non
            · exact .int 5 (by show 5 ≤ _; omega)
            · exact .str _ ⟨by show 1 ≤ _; omega, by decide +kernel⟩
            · exact .tup (b7.keep (x2 _ _ nH2.here) (hd1.ne nH2.free)) (Nat.zero_le _) fun w hw => absurd hw (by simp)
            · exact .lst (b7.keep (x3 _ _ nH3.here) (hd2.ne nH3.free)) (hd2.ne nH3.free)
            · exact .dct (b7.keep (x4 _ _ nH4.here) (hd3.ne nH4.free))
            · exact .bl _
            · exact .lst (b7.keep (x5 _ _ nH5.here) (hd4.ne nH5.free)) (hd4.ne nH5.free)
end
end Fk
namespace Fk
open PySem PySem.Spec PyProof.Rows L2
local macro_rules | `(tactic| walk_at "fk") => `(tactic| first
  | with_reducible refine w_seq ?_ | with_reducible refine w_set ?_ | with_reducible refine w_asg ?_ | with_reducible refine w_drop ?_ | with_reducible refine w_ret ?_ | with_reducible refine w_if ?_
  | with_reducible refine w_op ?_ | with_reducible refine w_un ?_ | with_reducible refine w_c ?_ | ((with_reducible apply w_var); rfl)
  | with_reducible refine w_test ?_ | with_reducible refine w_B ?_ | with_reducible refine w_exb ?_ | with_reducible refine w_exi ?_ | with_reducible refine w_I0 ?_ | with_reducible refine w_U ?_
  | with_reducible refine w_nil ?_ | with_reducible refine w_cons ?_ | with_reducible refine w_call ?_ | with_reducible refine w_cb ?_ | with_reducible refine w_tup ?_ | with_reducible refine w_lst ?_
  | with_reducible refine w_and ?_ | with_reducible refine w_or ?_ | with_reducible refine w_not ?_ | with_reducible refine w_andV ?_ | with_reducible refine w_orV ?_ | with_reducible refine w_notV ?_
  | with_reducible refine w_ifE ?_ | with_reducible refine w_chain ?_ | with_reducible refine w_for ?_ | with_reducible refine w_lc ?_ | with_reducible refine w_yes ?_ | with_reducible refine w_iR1 ?_ | with_reducible refine w_iL ?_ | with_reducible refine w_iT ?_ | with_reducible refine w_iE ?_ | with_reducible refine w_iZ ?_ | with_reducible refine w_iS ?_ | with_reducible refine w_s1 ?_ | with_reducible refine w_m1 ?_ | with_reducible refine w_m0 ?_ | with_reducible refine w_estr ?_ | with_reducible refine w_lz ?_ | with_reducible refine w_dnew ?_ | with_reducible refine w_revT ?_ | with_reducible refine w_leS ?_ | with_reducible refine w_ltS ?_ | with_reducible refine w_inSg ?_ | with_reducible refine w_notInSg ?_ | with_reducible refine iteT ?_ | with_reducible refine iteF ?_ | with_reducible refine w_par ?_ | with_reducible refine w_two ?_ | with_reducible refine w_gname ?_ | with_reducible refine w_gcons ?_ | with_reducible refine w_gnil ?_ | ((with_reducible apply w_gtup); (with_reducible assumption); rfl) | with_reducible refine w_gsub ?_
  | with_reducible refine w_bm ?_ | with_reducible refine w_sl ?_ | with_reducible refine w_noP ?_ | with_reducible refine w_part ?_ | with_reducible refine w_next ?_ | with_reducible refine w_retN ?_
  | ((with_reducible refine w_I ?hk ?_); (case hk => (first | (show (0 : Int) < _; omega) | exact ⟨by omega, by omega⟩ | exact .inl ⟨by omega, by omega⟩ | exact .inr ⟨by omega, by omega⟩ | exact cpow_small (by decide) (by decide) (by decide))))
  | ((with_reducible apply w_eq); rfl) | ((with_reducible apply w_ne); rfl)
  | ((with_reducible apply w_ixL); (with_reducible assumption); rfl)
  | ((with_reducible apply w_setL); (with_reducible assumption); rfl))
local macro_rules | `(tactic| walk_at "go") => `(tactic| repeat walk_at "fk")

section
variable {P : Program} {w : World} {K : PySem.W.Frag} {mg : Str → Option Value} {base : Heap}
def spBentA : Sp := fun vs H Q E => ∃ m, m ≤ 3 ∧ spBent m vs H Q E
theorem ok_bent {f : Addr} {fd : FuncData} (F : Fun K "_law_bent" "_law_bent" s_law_bent f fd) (T : Txt mg) (C_law_next : Cal P w K mg base 1 "_law_next" ["draw", "size"] spNext)
    (C_law_pick : Cal P w K mg base 2 "_law_pick" ["draw", "some"] (spPick K)) (hm : mg "_law_bent" = some (.ref f)) (hb : Binds K fd ["draw", "thing"] []) : ∀ m, FnOk P w K mg base CX0 (m + 3) f fd ["draw", "thing"] (spBent m)
  | 0 => ok_bent1 F T C_law_next C_law_pick (.of F ⟨fun _ _ _ _ h => h.elim, fun _ _ _ _ _ _ _ _ _ _ _ _ _ h => h.elim⟩ hm hb)
  | m + 1 => ok_bent1 F T C_law_next C_law_pick (.of F (ok_bent F T C_law_next C_law_pick hm hb m) hm hb)
theorem ok_bentA {f : Addr} {fd : FuncData} (F : Fun K "_law_bent" "_law_bent" s_law_bent f fd) (T : Txt mg) (C_law_next : Cal P w K mg base 1 "_law_next" ["draw", "size"] spNext)
    (C_law_pick : Cal P w K mg base 2 "_law_pick" ["draw", "some"] (spPick K)) (hm : mg "_law_bent" = some (.ref f)) (hb : Binds K fd ["draw", "thing"] []) : FnOk P w K mg base CX0 6 f fd ["draw", "thing"] spBentA :=
  ⟨fun vs H Q E ⟨m, _, h⟩ => (ok_bent F T C_law_next C_law_pick hm hb m).len vs H Q E h,
   fun A outer s H args us vs Q E hr e0 hbn hv ⟨m, h3, h⟩ => (ok_bent F T C_law_next C_law_pick hm hb m).run A outer s H args us vs Q E (hr.mono (by omega)) e0 hbn hv h⟩
def spLaw (K : PySem.W.Frag) : Sp := fun vs H Q _ => ∃ (a : Addr) (ns : List Int), vs = [.ref a] ∧ SqL K H a (ns.map V.int) ∧ ns.length ≤ 63 ∧ ∀ H', Q (.bl true) H'
theorem ok_law {f : Addr} {fd : FuncData} (F : Fun K "law" "law" s_law f fd) (T : Txt mg) (C_law_begun : Cal P w K mg base 1 "_law_begun" ["cell", "k"] spBegun) (C_law_next : Cal P w K mg base 1 "_law_next" ["draw", "size"] spNext)
    (C_law_pick : Cal P w K mg base 2 "_law_pick" ["draw", "some"] (spPick K)) (C_law_spots : Cal P w K mg base 3 "_law_spots" ["draw", "many"] spSpots) (C_law_pairs : Cal P w K mg base 3 "_law_pairs" ["draw", "spots"] (spPairs K))
    (C_law_link : Cal P w K mg base 3 "_law_link" ["draw", "pairs"] (spLink K)) (C_law_bent : Cal P w K mg base 6 "_law_bent" ["draw", "thing"] spBentA) (C_law_told_right : Cal P w K mg base 3 "_law_told_right" ["thing"] spTold)
    (C_is_link : Cal P w K mg base 2 "is_link" ["thing"] spIsLink) : FnOk P w K mg base CX0 7 f fd ["script"] (spLaw K) := by
  refine F.ok sc_law (fun vs H Q E h => ?_) (fun cdv A outer s H vs Q E hr h => ?_)
  · obtain ⟨a, ns, rfl, _⟩ := h
    rfl
  · obtain ⟨a, ns, rfl, hS, hlen, q⟩ := h
    refine ⟨_, (pss_cons (ps_for PassesOwn.never rfl (kenumI K (by rfl) T.enumerate_ (pa_cons (pe_slice (kslL K) (korT K (pv 0) (pe_one (pe_lst (pa_cons pe_int pa_nil)))) po_none (po_some pe_int)) pa_nil)) (ktup K rfl (pgs_cons (pg_name (i := 1) sc_law.nd rfl (.inl rfl)) (pgs_cons (pg_name (i := 2) sc_law.nd rfl (.inl rfl)) pgs_nil))) (pss_cons (ps_set (i := 3) sc_law.nd rfl (.inl rfl) (pc C_law_begun (hr.mono (by decide)) (by rfl) (pa_cons (pv 2) (pa_cons (pv 1) pa_nil))))
      (pss_cons (ps_set (i := 4) sc_law.nd rfl (.inl rfl) (pc C_law_spots (hr.mono (by decide)) (by rfl) (pa_cons (pv 3) (pa_cons (pe_op op_add pe_int (pc C_law_next (hr.mono (by decide)) (by rfl) (pa_cons (pv 3) (pa_cons pe_int pa_nil)))) pa_nil))))
      (pss_cons (ps_set (i := 5) sc_law.nd rfl (.inl rfl) (pc C_law_link (hr.mono (by decide)) (by rfl) (pa_cons (pv 3) (pa_cons (pc C_law_pairs (hr.mono (by decide)) (by rfl) (pa_cons (pv 3) (pa_cons (pv 4) pa_nil))) pa_nil))))
      (pss_one (ps_for PassesOwn.never rfl (pi_range1 (by rfl) T.range_ (pa_cons pe_int pa_nil)) (pg_name (i := 6) sc_law.nd rfl (.inl rfl)) (pss_cons (ps_set (i := 7) sc_law.nd rfl (.inl rfl) (pc C_law_pick (hr.mono (by decide)) (by rfl) (pa_cons (pv 3) (pa_cons (pe_lst (pa_cons (pv 5) (pa_cons (pv 5) (pa_cons (pe_ix (kixT K) (pv 5) pe_int (fun _ _ => rfl)) (pa_cons (pe_ix (kixT K) (pv 5) pe_int (fun _ _ => rfl)) (pa_cons (pe_slice (kslT K) (pv 5) (po_some pe_int) po_none) pa_nil)))))) pa_nil))))
      (pss_cons (ps_for PassesOwn.never rfl (pi_range1 (by rfl) T.range_ (pa_cons (pc C_law_next (hr.mono (by decide)) (by rfl) (pa_cons (pv 3) (pa_cons pe_int pa_nil))) pa_nil)) (pg_name (i := 8) sc_law.nd rfl (.inl rfl)) (pss_one (ps_set (i := 7) sc_law.nd rfl (.inl rfl) (pc C_law_bent (hr.mono (by decide)) (by rfl) (pa_cons (pv 3) (pa_cons (pv 7) pa_nil))))))
      (pss_one (ps_if (PW.pt (pw_or (pt_not (pt_val (pc C_law_told_right (hr.mono (by decide)) (by rfl) (pa_cons (pv 7) pa_nil)))) (pw_or (pt_not (pt_val (pc C_law_told_right (hr.mono (by decide)) (by rfl) (pa_cons (pv 5) pa_nil)))) (pw_or1 (pt_not (pt_val (pc C_law_told_right (hr.mono (by decide)) (by rfl) (pa_cons (pe_ix (kixT K) (pv 5) pe_int (fun _ _ => rfl)) pa_nil)))))))) (pss_one (ps_ret pe_bl)) pss_nil))))))))))
      (pss_one (ps_ret (pe_and (pe_cmpR op_isBl (pc C_is_link (hr.mono (by decide)) (by rfl) (pa_cons (pe_tup (pa_cons pe_int (pa_cons pe_int (pa_cons pe_str (pa_cons pe_str pa_nil))))) pa_nil)) pe_bl (nomark _)) (pe_one (pe_cmpR op_isBl (pc C_is_link (hr.mono (by decide)) (by rfl) (pa_cons (pe_tup (pa_cons pe_int (pa_cons pe_int (pa_cons pe_str (pa_cons pe_str pa_nil))))) pa_nil)) pe_bl (nomark _))))))), ?_⟩
    refine w_from [some (.ref a), none, none, none, none, none, none, none, none] ?_
    try dsimp only [cxOf]
    walk_at "go"
    refine w_orL rfl hS hlen fun s0 ms H1 e1 hs0 hm1 _ => ?_
    walk_at "go"
    refine w_slL hs0 ?_
    intro c hc
    generalize hE : upd _ c _ = H2
    have nH2 := New.of hc hE
    clear hE
    have hc2 : H2 c = some (.lst (cutV (ms.map V.int) none (some 12))) := nH2.here
    have allI : ∀ y ∈ cutV (ms.map V.int) none (some 12), ∃ z, y = V.int z := fun y hy => by
      obtain ⟨z, _, rfl⟩ := List.mem_map.mp (cutV_mem hy)
      exact ⟨z, rfl⟩
    generalize hxs : cutV (ms.map V.int) none (some 12) = xs at hc2 allI
    walk_at "go"
    refine w_e1 (xs := xs) (SqL.of hc2) ?_
    refine forE (xs := xs) (fun i σ' H' => Evl.Ex H2 H' ∧ ∃ x1 x2 x3 x4 x5 x6 x7 x8, σ' = [some (.ref a), x1, x2, x3, x4, x5, x6, x7, x8]) ?_ ?_ ?_ ?_
    · exact ⟨Evl.Ex.refl H2, _, _, _, _, _, _, _, _, rfl⟩
    · rintro i σ' H3 _ ⟨e3, _⟩
      exact SqL.of (e3 _ _ hc2)
    · rintro i y T σ' H3 hy ⟨e3, x1, x2, x3, x4, x5, x6, x7, x8, rfl⟩ hTn
      obtain ⟨z, rfl⟩ := allI y (List.mem_of_getElem? hy)
      generalize hE : upd _ T _ = H4
      have nH4 := New.of hTn hE
      clear hE
      have hT4 := SqT.of (K := K) nH4.here
      walk_at "go"
      refine ⟨z, (i : Int), rfl, fun d H5 hdn b5 hd5 => ?_⟩
      have base : ∀ {Hx}, Go d H4 Hx → Evl.Ex H2 Hx := fun g => (e3.trans nH4.ex).trans (g.ex hdn)
      have g5 : Go d H4 H5 := b5.go
      walk_at "go"
      refine next_i hd5 (by omega) (by omega) (by omega) fun r H6 r0 r1 b6 hd6 => ?_
      have g6 := g5.bt b6
      walk_at "go"
      obtain ⟨k, rfl, hk⟩ := nat_of (m := 3) r0 (by omega)
      rw [show (2 : Int) + (k : Int) = ((2 + k : Nat) : Int) by omega]
      refine ⟨d, _, 2 + k, rfl, hd6, by omega, by omega, fun p l H7 hp0 nm ll g67 hd7 hp7 => ?_⟩
      have g7 := g6.trans g67
      walk_at "go"
      have pd : p ≠ d := hd6.ne hp0
      refine ⟨d, p, _, l, rfl, hp7, hd7, by omega, nm, by omega, by omega, fun e ps H8 g78 hd8 he8 he0 hne hle hps => ?_⟩
      have g8 := g7.trans g78
      walk_at "go"
      refine ⟨d, e, _, l, ps, rfl, he8, hd7.ne he0, hne, hle, hps, hd8, by omega, fun t cc mm sa sb H9 g89 hd9 ht0 hL => ?_⟩
      have g9 := g8.trans g89
      have td : t ≠ d := hd8.ne ht0
      have pa := nm.pl sa hL.ia
      have pb := nm.pl sb hL.ib
      have hi8 := hL.c0
      have hi9 := hL.c1
      have hi10 := hL.m0
      have hi11 := hL.m1
      walk_at "go"
      refine w_r1 (m := 4) (by omega) ?_
      refine forR (fun j σ' H' => Go d H9 H' ∧ Drw H' d (1 + 9 * (2 + k) + 9 + 1 + 50 * j) ∧ ∃ y6 y7 y8, σ' = [some (.ref a), some (.int (i : Int)), some (.int z), some (.ref d), some (.ref p), some (.ref t), y6, y7, y8]) ?_ ?_ ?_
      · exact ⟨Go.refl d H9, hd9.le (by omega), _, _, _, rfl⟩
      · rintro j σ' H10 j4 ⟨g10, hd10, y6, y7, y8, rfl⟩
        have ht10 := g10 t _ td hL.here
        have hT10 := SqT.of (K := K) ht10
        have kbi : ∀ {Hx : Hp} {n : Nat} {v : V}, v ∈ [V.int cc, .int mm, .str sa, .str sb] → Kb d Hx 0 n v := by
          intro Hx n v hv
          simp only [List.mem_cons, List.not_mem_nil, or_false] at hv
          rcases hv with rfl | rfl | rfl | rfl
          · exact .int _ (by omega)
          · exact .int _ (by omega)
          · exact .str _ (pa.asc (by show 6 ≤ 40 * 1; omega))
          · exact .str _ (pb.asc (by show 6 ≤ 40 * 1; omega))
        walk_at "go"
        refine w_ixT hT10 (atI_of (i := 2) rfl) ?_
        walk_at "go"
        refine w_ixT hT10 (atI_of (i := 0) rfl) ?_
        walk_at "go"
        refine w_slT ht10 fun q1 H11 e11 hq1 => ?_
        walk_at "go"
        refine ⟨small (by show 5 ≤ 100000; omega), ?_⟩
        intro s1 hs1
        generalize hE : upd _ s1 _ = H12
        have nH12 : New _ s1 (.lst [.ref t, .ref t, .str sa, .int cc, .ref q1]) H12 := New.of hs1 hE
        clear hE
        walk_at "go"
        have hd11 := hd10.ex e11
        refine pick_l (nH12.drw hd11) (by omega) (SqL.of nH12.here) (hd11.ne nH12.free) (by show 0 < 5; omega) (by show 5 ≤ 100000; omega) fun v H13 hv b13 hd13 => ?_
        have g1013 : Go d H10 H13 := ((Go.refl d H10).exx (e11.trans nH12.ex)).bt b13
        have kv : Kb d H13 0 1 v := by
          simp only [List.mem_cons, List.not_mem_nil, or_false] at hv
          have kt : Kb d H13 0 1 (.ref t) := .tup (g1013 t _ td ht10) (by show 4 ≤ 4; omega) fun w hw => kbi hw
          rcases hv with rfl | rfl | rfl | rfl | rfl
          · exact kt
          · exact kt
          · exact kbi (by simp)
          · exact kbi (by simp)
          · exact .tup (b13.keep (nH12.keep hq1) (nd_tup hd11 hq1)) (by have := cutV_length [V.int cc, .int mm, .str sa, .str sb] (some 2) none; show _ ≤ 4; exact this) fun w hw => kbi (cutV_mem hw)
        walk_at "go"
        refine next_i hd13 (by omega) (by omega) (by omega) fun u H14 u0 u1 b14 hd14 => ?_
        obtain ⟨bn, rfl, hbn⟩ := nat_of (m := 4) u0 (by omega)
        walk_at "go"
        refine w_r1 (by omega) ?_
        have g914 : Go d H9 H14 := (g10.trans g1013).bt b14
        refine forR (fun i2 σ' H' => Go d H14 H' ∧ Drw H' d (1 + 9 * (2 + k) + 9 + 1 + 50 * j + 2 + 14 * i2) ∧ ∃ y w8, Kb d H' i2 (i2 + 1) y ∧ σ' = [some (.ref a), some (.int (i : Int)), some (.int z), some (.ref d), some (.ref p), some (.ref t), some (.int (j : Int)), some y, w8]) ?_ ?_ ?_
        · exact ⟨Go.refl d H14, hd14.le (by omega), v, _, kv.go b14.go hd13, rfl⟩
        · rintro i2 σ' H15 hi2 ⟨g15, hd15, y, w8, ky, rfl⟩
          walk_at "go"
          refine ⟨i2 + 1, by omega, d, y, i2, _, rfl, ky, by omega, hd15, by omega, fun y2 H16 g16 hd16 ky2 => ?_⟩
          walk_at "go"
          exact ⟨g15.trans g16, hd16.le (by omega), y2, _, ky2, rfl⟩
        · rintro σ' H15 ⟨g15, hd15, y, w8, ky, rfl⟩
          have g915 := g914.trans g15
          have ht15 := g915 t _ td hL.here
          walk_at "go"
          refine ⟨y, rfl, ky.kd (by omega), fun H16 e16 => ?_⟩
          walk_at "go"
          refine w_bool (fun h => absurd h (by decide)) (fun _ => ?_)
          walk_at "go"
          refine ⟨.ref t, rfl, .tup (e16 _ _ ht15) (by show 4 ≤ 1000; omega) fun w hw => (kbi hw : Kb d H16 0 0 w).kd (by omega), fun H17 e17 => ?_⟩
          walk_at "go"
          refine w_bool (fun h => absurd h (by decide)) (fun _ => ?_)
          walk_at "go"
          refine w_ixT (SqT.of (e17 _ _ (e16 _ _ ht15))) (atI_of (i := 3) rfl) ?_
          walk_at "go"
          refine ⟨.str sb, rfl, (kbi (by simp) : Kb d H17 0 0 (.str sb)).kd (by omega), fun H18 e18 => ?_⟩
          walk_at "go"
          refine w_bool (fun h => absurd h (by decide)) (fun _ => ?_)
          walk_at "go"
          exact ⟨((g915.exx e16).exx e17).exx e18, ((hd15.ex e16).ex e17).ex e18 |>.le (by omega), _, _, _, rfl⟩
      · rintro σ' H10 ⟨g10, hd10, y6, y7, y8, rfl⟩
        walk_at "go"
        exact ⟨base (g9.trans g10), _, _, _, _, _, _, _, _, rfl⟩
    · rintro σ' H3 ⟨e3, x1, x2, x3, x4, x5, x6, x7, x8, rfl⟩
      walk_at "go"
      refine ⟨small (by show 4 ≤ 100000; omega), ?_⟩
      intro u hu
      generalize hE : upd _ u _ = H4
      have nH4 : New _ u (.tup [.int 0, .int 0, .str "a", .str "aa"]) H4 := New.of hu hE
      clear hE
      walk_at "go"
      refine ⟨.ref u, rfl, .tup nH4.here (by show 4 ≤ 1000; omega) fun w hw => ?_, fun H5 e5 => ?_⟩
      · simp only [List.mem_cons, List.not_mem_nil, or_false] at hw
        rcases hw with rfl | rfl | rfl | rfl
        · exact .int 0
        · exact .int 0
        · exact .str _ (by show 1 ≤ _; omega) (by decide +kernel)
        · exact .str _ (by show 2 ≤ _; omega) (by decide +kernel)
      · rw [linkV_tup nH4.here, show fourV [.int 0, .int 0, .str "a", .str "aa"] = true by decide +kernel]
        walk_at "go"
        refine w_isB ?_
        walk_at "go"
        refine ⟨small (by show 4 ≤ 100000; omega), ?_⟩
        intro u2 hu2
        generalize hE : upd _ u2 _ = H6
        have nH6 : New _ u2 (.tup [.int 0, .int 0, .str "aa", .str "a"]) H6 := New.of hu2 hE
        clear hE
        walk_at "go"
        refine ⟨.ref u2, rfl, .tup nH6.here (by show 4 ≤ 1000; omega) fun w hw => ?_, fun H7 e7 => ?_⟩
        · simp only [List.mem_cons, List.not_mem_nil, or_false] at hw
          rcases hw with rfl | rfl | rfl | rfl
          · exact .int 0
          · exact .int 0
          · exact .str _ (by show 2 ≤ _; omega) (by decide +kernel)
          · exact .str _ (by show 1 ≤ _; omega) (by decide +kernel)
        · rw [linkV_tup nH6.here, show fourV [.int 0, .int 0, .str "aa", .str "a"] = false by decide +kernel]
          walk_at "go"
          refine w_isB ?_
          walk_at "go"
          exact q H7
end
end Fk
namespace Fk
open PySem PySem.Spec PyProof.Rows L2
theorem all_mk {l : PySem.W.OpenLaw} {w : World} {K : PySem.W.Frag} {h : Heap} {mg : Str → Option Value} {fa : Addr} (X : K.In h) (G : h.Ns mainGlobals mg) (hfa : mg "law" = some (.ref fa))
    {f0 : Addr} {od0 an0 : Option Addr} {sl0 : Array (Option Value)} {oc0 kV0 dc0 pm0 cd0 ct0 : Value} (a0 : PySem.W.nsIn K mainGlobals "is_place" = some (some (.ref f0)))
    (l0 : K.lookup f0 = some ⟨oc0, od0, .func (PySem.W.fnOf "is_place" "is_place" (defArgs s_is_place) (defBody s_is_place) (defScope s_is_place) .none kV0 dc0 pm0 an0 cd0 ct0), sl0⟩) (c0 : PySem.W.codeIn K cd0 "is_place" = true) (k0 : PySem.W.keepIn K (.ref f0) = true)
    {f1 : Addr} {od1 an1 : Option Addr} {sl1 : Array (Option Value)} {oc1 kV1 dc1 pm1 cd1 ct1 : Value} (a1 : PySem.W.nsIn K mainGlobals "is_number" = some (some (.ref f1)))
    (l1 : K.lookup f1 = some ⟨oc1, od1, .func (PySem.W.fnOf "is_number" "is_number" (defArgs s_is_number) (defBody s_is_number) (defScope s_is_number) .none kV1 dc1 pm1 an1 cd1 ct1), sl1⟩) (c1 : PySem.W.codeIn K cd1 "is_number" = true) (k1 : PySem.W.keepIn K (.ref f1) = true)
    {f2 : Addr} {od2 an2 : Option Addr} {sl2 : Array (Option Value)} {oc2 kV2 dc2 pm2 cd2 ct2 : Value} (a2 : PySem.W.nsIn K mainGlobals "is_link" = some (some (.ref f2)))
    (l2 : K.lookup f2 = some ⟨oc2, od2, .func (PySem.W.fnOf "is_link" "is_link" (defArgs s_is_link) (defBody s_is_link) (defScope s_is_link) .none kV2 dc2 pm2 an2 cd2 ct2), sl2⟩) (c2 : PySem.W.codeIn K cd2 "is_link" = true) (k2 : PySem.W.keepIn K (.ref f2) = true)
    {f3 : Addr} {od3 an3 : Option Addr} {sl3 : Array (Option Value)} {oc3 kV3 dc3 pm3 cd3 ct3 : Value} (a3 : PySem.W.nsIn K mainGlobals "_law_begun" = some (some (.ref f3)))
    (l3 : K.lookup f3 = some ⟨oc3, od3, .func (PySem.W.fnOf "_law_begun" "_law_begun" (defArgs s_law_begun) (defBody s_law_begun) (defScope s_law_begun) .none kV3 dc3 pm3 an3 cd3 ct3), sl3⟩) (c3 : PySem.W.codeIn K cd3 "_law_begun" = true) (k3 : PySem.W.keepIn K (.ref f3) = true)
    {f4 : Addr} {od4 an4 : Option Addr} {sl4 : Array (Option Value)} {oc4 kV4 dc4 pm4 cd4 ct4 : Value} (a4 : PySem.W.nsIn K mainGlobals "_law_next" = some (some (.ref f4)))
    (l4 : K.lookup f4 = some ⟨oc4, od4, .func (PySem.W.fnOf "_law_next" "_law_next" (defArgs s_law_next) (defBody s_law_next) (defScope s_law_next) .none kV4 dc4 pm4 an4 cd4 ct4), sl4⟩) (c4 : PySem.W.codeIn K cd4 "_law_next" = true) (k4 : PySem.W.keepIn K (.ref f4) = true)
    {f5 : Addr} {od5 an5 : Option Addr} {sl5 : Array (Option Value)} {oc5 kV5 dc5 pm5 cd5 ct5 : Value} (a5 : PySem.W.nsIn K mainGlobals "_law_pick" = some (some (.ref f5)))
    (l5 : K.lookup f5 = some ⟨oc5, od5, .func (PySem.W.fnOf "_law_pick" "_law_pick" (defArgs s_law_pick) (defBody s_law_pick) (defScope s_law_pick) .none kV5 dc5 pm5 an5 cd5 ct5), sl5⟩) (c5 : PySem.W.codeIn K cd5 "_law_pick" = true) (k5 : PySem.W.keepIn K (.ref f5) = true)
    {f6 : Addr} {od6 an6 : Option Addr} {sl6 : Array (Option Value)} {oc6 kV6 dc6 pm6 cd6 ct6 : Value} (a6 : PySem.W.nsIn K mainGlobals "_law_spots" = some (some (.ref f6)))
    (l6 : K.lookup f6 = some ⟨oc6, od6, .func (PySem.W.fnOf "_law_spots" "_law_spots" (defArgs s_law_spots) (defBody s_law_spots) (defScope s_law_spots) .none kV6 dc6 pm6 an6 cd6 ct6), sl6⟩) (c6 : PySem.W.codeIn K cd6 "_law_spots" = true) (k6 : PySem.W.keepIn K (.ref f6) = true)
    {f7 : Addr} {od7 an7 : Option Addr} {sl7 : Array (Option Value)} {oc7 kV7 dc7 pm7 cd7 ct7 : Value} (a7 : PySem.W.nsIn K mainGlobals "_law_pairs" = some (some (.ref f7)))
    (l7 : K.lookup f7 = some ⟨oc7, od7, .func (PySem.W.fnOf "_law_pairs" "_law_pairs" (defArgs s_law_pairs) (defBody s_law_pairs) (defScope s_law_pairs) .none kV7 dc7 pm7 an7 cd7 ct7), sl7⟩) (c7 : PySem.W.codeIn K cd7 "_law_pairs" = true) (k7 : PySem.W.keepIn K (.ref f7) = true)
    {f8 : Addr} {od8 an8 : Option Addr} {sl8 : Array (Option Value)} {oc8 kV8 dc8 pm8 cd8 ct8 : Value} (a8 : PySem.W.nsIn K mainGlobals "_law_link" = some (some (.ref f8)))
    (l8 : K.lookup f8 = some ⟨oc8, od8, .func (PySem.W.fnOf "_law_link" "_law_link" (defArgs s_law_link) (defBody s_law_link) (defScope s_law_link) .none kV8 dc8 pm8 an8 cd8 ct8), sl8⟩) (c8 : PySem.W.codeIn K cd8 "_law_link" = true) (k8 : PySem.W.keepIn K (.ref f8) = true)
    {f9 : Addr} {od9 an9 : Option Addr} {sl9 : Array (Option Value)} {oc9 kV9 dc9 pm9 cd9 ct9 : Value} (a9 : PySem.W.nsIn K mainGlobals "_law_bent" = some (some (.ref f9)))
    (l9 : K.lookup f9 = some ⟨oc9, od9, .func (PySem.W.fnOf "_law_bent" "_law_bent" (defArgs s_law_bent) (defBody s_law_bent) (defScope s_law_bent) .none kV9 dc9 pm9 an9 cd9 ct9), sl9⟩) (c9 : PySem.W.codeIn K cd9 "_law_bent" = true) (k9 : PySem.W.keepIn K (.ref f9) = true)
    {f10 : Addr} {od10 an10 : Option Addr} {sl10 : Array (Option Value)} {oc10 kV10 dc10 pm10 cd10 ct10 : Value} (a10 : PySem.W.nsIn K mainGlobals "_law_is_place" = some (some (.ref f10)))
    (l10 : K.lookup f10 = some ⟨oc10, od10, .func (PySem.W.fnOf "_law_is_place" "_law_is_place" (defArgs s_law_is_place) (defBody s_law_is_place) (defScope s_law_is_place) .none kV10 dc10 pm10 an10 cd10 ct10), sl10⟩) (c10 : PySem.W.codeIn K cd10 "_law_is_place" = true) (k10 : PySem.W.keepIn K (.ref f10) = true)
    {f11 : Addr} {od11 an11 : Option Addr} {sl11 : Array (Option Value)} {oc11 kV11 dc11 pm11 cd11 ct11 : Value} (a11 : PySem.W.nsIn K mainGlobals "_law_is_four" = some (some (.ref f11)))
    (l11 : K.lookup f11 = some ⟨oc11, od11, .func (PySem.W.fnOf "_law_is_four" "_law_is_four" (defArgs s_law_is_four) (defBody s_law_is_four) (defScope s_law_is_four) .none kV11 dc11 pm11 an11 cd11 ct11), sl11⟩) (c11 : PySem.W.codeIn K cd11 "_law_is_four" = true) (k11 : PySem.W.keepIn K (.ref f11) = true)
    {f12 : Addr} {od12 an12 : Option Addr} {sl12 : Array (Option Value)} {oc12 kV12 dc12 pm12 cd12 ct12 : Value} (a12 : PySem.W.nsIn K mainGlobals "_law_told_right" = some (some (.ref f12)))
    (l12 : K.lookup f12 = some ⟨oc12, od12, .func (PySem.W.fnOf "_law_told_right" "_law_told_right" (defArgs s_law_told_right) (defBody s_law_told_right) (defScope s_law_told_right) .none kV12 dc12 pm12 an12 cd12 ct12), sl12⟩) (c12 : PySem.W.codeIn K cd12 "_law_told_right" = true) (k12 : PySem.W.keepIn K (.ref f12) = true)
    {f13 : Addr} {od13 an13 : Option Addr} {sl13 : Array (Option Value)} {oc13 kV13 dc13 pm13 cd13 ct13 : Value} (a13 : PySem.W.nsIn K mainGlobals "law" = some (some (.ref f13)))
    (l13 : K.lookup f13 = some ⟨oc13, od13, .func (PySem.W.fnOf "law" "law" (defArgs s_law) (defBody s_law) (defScope s_law) .none kV13 dc13 pm13 an13 cd13 ct13), sl13⟩) (c13 : PySem.W.codeIn K cd13 "law" = true) (k13 : PySem.W.keepIn K (.ref f13) = true)
    (z0 : PySem.W.nsIn K mainGlobals "len" = some none)
    (z1 : PySem.W.nsIn K mainGlobals "max" = some none)
    (z2 : PySem.W.nsIn K mainGlobals "range" = some none)
    (z3 : PySem.W.nsIn K mainGlobals "sorted" = some none)
    (z4 : PySem.W.nsIn K mainGlobals "enumerate" = some none)
    (z5 : PySem.W.nsIn K mainGlobals "list" = some none)
    (z6 : PySem.W.nsIn K mainGlobals "zip" = some none)
    (z7 : PySem.W.nsIn K mainGlobals "isinstance" = some none)
    (z8 : PySem.W.nsIn K mainGlobals "tuple" = some none)
    (z9 : PySem.W.nsIn K mainGlobals "str" = some none)
    (z10 : PySem.W.nsIn K mainGlobals "int" = some none)
    (z11 : PySem.W.nsIn K mainGlobals "bool" = some none)
    (z12 : PySem.W.nsIn K mainGlobals "all" = some none)
    {t0 : Tok} (n0 : PySem.W.nsIn K mainGlobals "MOST_SIGNS" = some (some (.int 6 t0)))
    {t1 : Tok} (n1 : PySem.W.nsIn K mainGlobals "MOST_COST" = some (some (.int 1000000 t1)))
    : ∃ fd : FuncData, (∀ (s : Shared) (v : Value), BindsTo s fd ⟨[v], []⟩ [("script", v)]) ∧ ∀ base : Heap, K.In base → base.Ns mainGlobals mg → FnOk l.prog w K mg base CX0 7 fa fd ["script"] (spLaw K) := by
  have e := hfa.symm.trans (PySem.W.mg_of X G a13)
  cases e
  have T : Txt mg := ⟨PySem.W.mg_none_of X G z0, PySem.W.mg_none_of X G z1, PySem.W.mg_none_of X G z2, PySem.W.mg_none_of X G z3, PySem.W.mg_none_of X G z4, PySem.W.mg_none_of X G z5, PySem.W.mg_none_of X G z6, PySem.W.mg_none_of X G z7, PySem.W.mg_none_of X G z8, PySem.W.mg_none_of X G z9, PySem.W.mg_none_of X G z10, PySem.W.mg_none_of X G z11, PySem.W.mg_none_of X G z12, ⟨_, PySem.W.mg_of X G n0⟩, ⟨_, PySem.W.mg_of X G n1⟩⟩
  have F_is_place := fun_mk (st := s_is_place) l0 c0 k0
  have m_is_place := PySem.W.mg_of X G a0
  have b_is_place := F_is_place.binds (ps := ["thing"]) fun _ _ _ _ _ _ us hl => match us, hl with | [_], _ => rfl
  have F_is_number := fun_mk (st := s_is_number) l1 c1 k1
  have m_is_number := PySem.W.mg_of X G a1
  have b_is_number := F_is_number.binds (ps := ["thing", "most"]) fun _ _ _ _ _ _ us hl => match us, hl with | [_, _], _ => rfl
  have F_is_link := fun_mk (st := s_is_link) l2 c2 k2
  have m_is_link := PySem.W.mg_of X G a2
  have b_is_link := F_is_link.binds (ps := ["thing"]) fun _ _ _ _ _ _ us hl => match us, hl with | [_], _ => rfl
  have F_law_begun := fun_mk (st := s_law_begun) l3 c3 k3
  have m_law_begun := PySem.W.mg_of X G a3
  have b_law_begun := F_law_begun.binds (ps := ["cell", "k"]) fun _ _ _ _ _ _ us hl => match us, hl with | [_, _], _ => rfl
  have F_law_next := fun_mk (st := s_law_next) l4 c4 k4
  have m_law_next := PySem.W.mg_of X G a4
  have b_law_next := F_law_next.binds (ps := ["draw", "size"]) fun _ _ _ _ _ _ us hl => match us, hl with | [_, _], _ => rfl
  have F_law_pick := fun_mk (st := s_law_pick) l5 c5 k5
  have m_law_pick := PySem.W.mg_of X G a5
  have b_law_pick := F_law_pick.binds (ps := ["draw", "some"]) fun _ _ _ _ _ _ us hl => match us, hl with | [_, _], _ => rfl
  have F_law_spots := fun_mk (st := s_law_spots) l6 c6 k6
  have m_law_spots := PySem.W.mg_of X G a6
  have b_law_spots := F_law_spots.binds (ps := ["draw", "many"]) fun _ _ _ _ _ _ us hl => match us, hl with | [_, _], _ => rfl
  have F_law_pairs := fun_mk (st := s_law_pairs) l7 c7 k7
  have m_law_pairs := PySem.W.mg_of X G a7
  have b_law_pairs := F_law_pairs.binds (ps := ["draw", "spots"]) fun _ _ _ _ _ _ us hl => match us, hl with | [_, _], _ => rfl
  have F_law_link := fun_mk (st := s_law_link) l8 c8 k8
  have m_law_link := PySem.W.mg_of X G a8
  have b_law_link := F_law_link.binds (ps := ["draw", "pairs"]) fun _ _ _ _ _ _ us hl => match us, hl with | [_, _], _ => rfl
  have F_law_bent := fun_mk (st := s_law_bent) l9 c9 k9
  have m_law_bent := PySem.W.mg_of X G a9
  have b_law_bent := F_law_bent.binds (ps := ["draw", "thing"]) fun _ _ _ _ _ _ us hl => match us, hl with | [_, _], _ => rfl
  have F_law_is_place := fun_mk (st := s_law_is_place) l10 c10 k10
  have m_law_is_place := PySem.W.mg_of X G a10
  have b_law_is_place := F_law_is_place.binds (ps := ["thing"]) fun _ _ _ _ _ _ us hl => match us, hl with | [_], _ => rfl
  have F_law_is_four := fun_mk (st := s_law_is_four) l11 c11 k11
  have m_law_is_four := PySem.W.mg_of X G a11
  have b_law_is_four := F_law_is_four.binds (ps := ["thing"]) fun _ _ _ _ _ _ us hl => match us, hl with | [_], _ => rfl
  have F_law_told_right := fun_mk (st := s_law_told_right) l12 c12 k12
  have m_law_told_right := PySem.W.mg_of X G a12
  have b_law_told_right := F_law_told_right.binds (ps := ["thing"]) fun _ _ _ _ _ _ us hl => match us, hl with | [_], _ => rfl
  have F_law := fun_mk (st := s_law) l13 c13 k13
  have m_law := PySem.W.mg_of X G a13
  exact ⟨PySem.W.fnOf "law" "law" (defArgs s_law) (defBody s_law) (defScope s_law) .none kV13 dc13 pm13 an13 cd13 ct13, fun s v => .of_eq rfl, fun base _ _ => by
    have C_next := Cal.of (P := l.prog) (w := w) (base := base) F_law_next (ok_next F_law_next T) m_law_next b_law_next
    have C_pick := Cal.of (P := l.prog) (w := w) (base := base) F_law_pick (ok_pick F_law_pick T C_next) m_law_pick b_law_pick
    have C_begun := Cal.of (P := l.prog) (w := w) (base := base) F_law_begun (ok_begun F_law_begun T) m_law_begun b_law_begun
    have C_spots := Cal.of (P := l.prog) (w := w) (base := base) F_law_spots (ok_spots F_law_spots T C_next C_pick) m_law_spots b_law_spots
    have C_pairs := Cal.of (P := l.prog) (w := w) (base := base) F_law_pairs (ok_pairs F_law_pairs T C_next C_pick) m_law_pairs b_law_pairs
    have C_link := Cal.of (P := l.prog) (w := w) (base := base) F_law_link (ok_link F_law_link T C_next C_pick) m_law_link b_law_link
    have C_bent := Cal.of (P := l.prog) (w := w) (base := base) F_law_bent (ok_bentA F_law_bent T C_next C_pick m_law_bent b_law_bent) m_law_bent b_law_bent
    have C_place := Cal.of (P := l.prog) (w := w) (base := base) F_is_place (ok_is_place F_is_place T) m_is_place b_is_place
    have C_number := Cal.of (P := l.prog) (w := w) (base := base) F_is_number (ok_is_number F_is_number T) m_is_number b_is_number
    have C_islink := Cal.of (P := l.prog) (w := w) (base := base) F_is_link (ok_is_link F_is_link T C_place C_number) m_is_link b_is_link
    have C_lplace := Cal.of (P := l.prog) (w := w) (base := base) F_law_is_place (ok_law_is_place F_law_is_place T) m_law_is_place b_law_is_place
    have C_four := Cal.of (P := l.prog) (w := w) (base := base) F_law_is_four (ok_law_is_four F_law_is_four T C_lplace) m_law_is_four b_law_is_four
    have C_told := Cal.of (P := l.prog) (w := w) (base := base) F_law_told_right (ok_law_told_right F_law_told_right T (C_place.mono (by decide)) (C_lplace.mono (by decide)) C_islink C_four) m_law_told_right b_law_told_right
    exact ok_law F_law T C_begun C_next C_pick C_spots C_pairs C_link C_bent C_told C_islink⟩
theorem walk {l : PySem.W.OpenLaw} {q : Program} {loose : List Str} {XP : (Str → Option Value) → Heap → Prop} {YP : World → Heap → Prop} {d : DefRec} {K : Params → PySem.W.Frag} (hn : l.most = some 63) (hdf : d.params.defaults = [])
    (hY : ∀ (w : World) (h : Heap), YP w h → (K w.params).In h)
    (F : ∀ (w : World) (mg : Str → Option Value) (fa : Addr) (h : Heap), (K w.params).In h → h.Ns mainGlobals mg → mg d.name = some (.ref fa) →
      ∃ fd : FuncData, (∀ (s : Shared) (u : Value), BindsTo s fd ⟨[u], []⟩ [("script", u)]) ∧ ∀ base : Heap, (K w.params).In base → base.Ns mainGlobals mg → FnOk l.prog w (K w.params) mg base CX0 7 fa fd ["script"] (spLaw (K w.params))) :
    PySem.W.WalkO q loose XP YP l.row.toRowW d [] (fun f vs => PySem.call f vs) :=
  L2.walk_of (n := 63) (k := 7) (x := "script") (CX := fun _ => CX0) (sp := fun w => spLaw (K w.params)) hn (by decide) hdf ⟨rfl, by decide, by decide⟩ hY F (fun _ _ a ns hl _ hS => ⟨a, ns, rfl, hS, hl, fun _ => rfl⟩) fun _ _ _ _ _ z => z
end Fk

open PySem PySem.W PyProof.Rows in
set_option maxRecDepth 100000 in
set_option maxHeartbeats 0 in
theorem PySem.Challenge.cw_fewkept_k01_places_and_links_known_holds : PySem.Challenge.rw_fewkept_k01_places_and_links_known.Holds := by
  w_on; o_law; k_head; (case hw => w_witness2)
  k_fill
  refine Fk.walk (l := PySem.Challenge.rw_fewkept_k01_places_and_links_known) rfl rfl (fun w h Y => PySem.W.kIn_of Y) ?F
  case F =>
    intro w mg fa h KX G hmg
    refine' Fk.all_mk KX G hmg ?a0 ?l0 ?c0 ?k0 ?a1 ?l1 ?c1 ?k1 ?a2 ?l2 ?c2 ?k2 ?a3 ?l3 ?c3 ?k3 ?a4 ?l4 ?c4 ?k4 ?a5 ?l5 ?c5 ?k5 ?a6 ?l6 ?c6 ?k6 ?a7 ?l7 ?c7 ?k7 ?a8 ?l8 ?c8 ?k8 ?a9 ?l9 ?c9 ?k9 ?a10 ?l10 ?c10 ?k10 ?a11 ?l11 ?c11 ?k11 ?a12 ?l12 ?c12 ?k12 ?a13 ?l13 ?c13 ?k13 ?z0 ?z1 ?z2 ?z3 ?z4 ?z5 ?z6 ?z7 ?z8 ?z9 ?z10 ?z11 ?z12 ?n0 ?n1
    (case a0 => k_is)
    (case l0 => k_is)
    (case c0 => k_is)
    (case k0 => k_is)
    (case a1 => k_is)
    (case l1 => k_is)
    (case c1 => k_is)
    (case k1 => k_is)
    (case a2 => k_is)
    (case l2 => k_is)
    (case c2 => k_is)
    (case k2 => k_is)
    (case a3 => k_is)
    (case l3 => k_is)
    (case c3 => k_is)
    (case k3 => k_is)
    (case a4 => k_is)
    (case l4 => k_is)
    (case c4 => k_is)
    (case k4 => k_is)
    (case a5 => k_is)
    (case l5 => k_is)
    (case c5 => k_is)
    (case k5 => k_is)
    (case a6 => k_is)
    (case l6 => k_is)
    (case c6 => k_is)
    (case k6 => k_is)
    (case a7 => k_is)
    (case l7 => k_is)
    (case c7 => k_is)
    (case k7 => k_is)
    (case a8 => k_is)
    (case l8 => k_is)
    (case c8 => k_is)
    (case k8 => k_is)
    (case a9 => k_is)
    (case l9 => k_is)
    (case c9 => k_is)
    (case k9 => k_is)
    (case a10 => k_is)
    (case l10 => k_is)
    (case c10 => k_is)
    (case k10 => k_is)
    (case a11 => k_is)
    (case l11 => k_is)
    (case c11 => k_is)
    (case k11 => k_is)
    (case a12 => k_is)
    (case l12 => k_is)
    (case c12 => k_is)
    (case k12 => k_is)
    (case a13 => k_is)
    (case l13 => k_is)
    (case c13 => k_is)
    (case k13 => k_is)
    (case z0 => k_is)
    (case z1 => k_is)
    (case z2 => k_is)
    (case z3 => k_is)
    (case z4 => k_is)
    (case z5 => k_is)
    (case z6 => k_is)
    (case z7 => k_is)
    (case z8 => k_is)
    (case z9 => k_is)
    (case z10 => k_is)
    (case z11 => k_is)
    (case z12 => k_is)
    (case n0 => k_is)
    (case n1 => k_is)
