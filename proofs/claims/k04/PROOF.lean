import PyProof.Rows.All
import Wide.All
import OpenK.AllK
import Wide.FinOn
import HandS.ForMost
import HandS.Evl
import HandS.Style
import PySem.Challenge.RW_sameroom_k04_names
set_option Elab.async false
set_option linter.all false
set_option maxRecDepth 100000
set_option maxHeartbeats 2000000
/-! own words over HandS and Evl: tests known ahead, chains, signs of texts, loops over texts, calls that hand back something of a kind -/
namespace Own
open PySem L2 Evl
section
variable {K : PySem.W.Frag} {σ : L2.St} {H H' : Hp} {ta tb tc te tl : TE} {t u : TT} {x y z v : V} {r r' : R2} {D : Ends} {tu tw tz : TS} {g : TG}
theorem et_orT (h : EvT t σ H true) : EvT (tOr t u) σ H true := fun H1 e Q q => h H1 e _ fun H2 e2 => by
  show Q true H2
  exact q H2 e2
theorem et_orF {b : Bool} (h : EvT t σ H false) (h2 : EvT u σ H b) : EvT (tOr t u) σ H b := fun H1 e Q q => h H1 e _ fun H2 e2 => by
  show u σ H2 Q
  exact h2 H2 (e.trans e2) Q fun H3 e3 => q H3 (e2.trans e3)
theorem et_andF (h : EvT t σ H false) : EvT (tAnd t u) σ H false := fun H1 e Q q => h H1 e _ fun H2 e2 => by
  show Q false H2
  exact q H2 e2
theorem et_andT {b : Bool} (h : EvT t σ H true) (h2 : EvT u σ H b) : EvT (tAnd t u) σ H b := fun H1 e Q q => h H1 e _ fun H2 e2 => by
  show u σ H2 Q
  exact h2 H2 (e.trans e2) Q fun H3 e3 => q H3 (e2.trans e3)
theorem ev_chain {a b : Bool} (hx : Ev ta σ H x) (hy : Ev tb σ H y) (h1 : RV r x y H (.bl a)) (hz : a = true → Ev tc σ H z) (h2 : a = true → RV r' y z H (.bl b)) : Ev (tChain r r' ta tb tc) σ H (.bl (a && b)) := fun H1 e Q q =>
  hx H1 e _ fun H2 e2 => hy H2 (e.trans e2) _ fun H3 e3 => h1 H3 ((e.trans e2).trans e3) _ fun H4 e4 => ⟨a, rfl, by
    cases a with
    | true =>
      show tc σ H4 fun w' H5 => r' y w' H5 Q
      exact hz rfl H4 (((e.trans e2).trans e3).trans e4) _ fun H5 e5 => h2 rfl H5 ((((e.trans e2).trans e3).trans e4).trans e5) Q fun H6 e6 => q H6 ((((e2.trans e3).trans e4).trans e5).trans e6)
    | false =>
      show Q (.bl false) H4
      exact q H4 ((e2.trans e3).trans e4)⟩
theorem rv_sign {neg : Bool} {c : Nat} {s : Str} : RV (fun x y H Q => ∃ (c : Nat) (z : Str), x = V.str ⟨#[c]⟩ ∧ y = .str z ∧ Q (.bl (if neg then !decide (c ∈ z.cps.toList) else decide (c ∈ z.cps.toList))) H) (.str ⟨#[c]⟩) (.str s) H (.bl (if neg then !decide (c ∈ s.cps.toList) else decide (c ∈ s.cps.toList))) :=
  fun H1 _ Q q => ⟨c, s, rfl, rfl, q H1 (Ex.refl H1)⟩
theorem rv_inS {c : Nat} {s : Str} : RV (fun x y H Q => ∃ (c : Nat) (z : Str), x = V.str ⟨#[c]⟩ ∧ y = .str z ∧ Q (.bl (decide (c ∈ z.cps.toList))) H) (.str ⟨#[c]⟩) (.str s) H (.bl (decide (c ∈ s.cps.toList))) :=
  fun H1 _ Q q => ⟨c, s, rfl, rfl, q H1 (Ex.refl H1)⟩
theorem rv_niS {c : Nat} {s : Str} : RV (fun x y H Q => ∃ (c : Nat) (z : Str), x = V.str ⟨#[c]⟩ ∧ y = .str z ∧ Q (.bl (!decide (c ∈ z.cps.toList))) H) (.str ⟨#[c]⟩) (.str s) H (.bl (!decide (c ∈ s.cps.toList))) :=
  fun H1 _ Q q => ⟨c, s, rfl, rfl, q H1 (Ex.refl H1)⟩
theorem rc_int1 {i : Int} : RC (fun xs H Q => (∃ i, xs = [V.int i] ∧ Q (V.int i) H) ∨ ∃ k, xs = [.bl k] ∧ Q (.int (if k then 1 else 0)) H) [.int i] H (.int i) := fun H1 _ Q q => Or.inl ⟨i, rfl, q H1 (Ex.refl H1)⟩
theorem rc_lenS {s : Str} (h : s.length ≤ sizeLine) : RC (fun xs H Q => ∃ z, xs = [V.str z] ∧ z.length ≤ sizeLine ∧ Q (.int z.length) H) [.str s] H (.int s.length) := fun H1 _ Q q => ⟨s, rfl, h, q H1 (Ex.refl H1)⟩
theorem rc_lenL {K : PySem.W.Frag} {H : Hp} {p : Addr} {ys : List V} (h : SqL K H p ys) : RC (fun xs H Q => ∃ p ys, xs = [V.ref p] ∧ (SqL K H p ys ∨ SqT K H p ys) ∧ Q (.int ys.length) H) [.ref p] H (.int ys.length) := fun H1 e Q q => ⟨p, ys, rfl, .inl (ex_l e h), q H1 (Ex.refl H1)⟩
theorem rc_lenT {K : PySem.W.Frag} {H : Hp} {p : Addr} {ys : List V} (h : SqT K H p ys) : RC (fun xs H Q => ∃ p ys, xs = [V.ref p] ∧ (SqL K H p ys ∨ SqT K H p ys) ∧ Q (.int ys.length) H) [.ref p] H (.int ys.length) := fun H1 e Q q => ⟨p, ys, rfl, .inr (ex_t e h), q H1 (Ex.refl H1)⟩
theorem rc_min2 {H : Hp} {i j : Int} : RC (fun xs H Q => ∃ i j, xs = [V.int i, .int j] ∧ Q (.int (if j < i then j else i)) H) [.int i, .int j] H (.int (if j < i then j else i)) := fun H1 _ Q q => ⟨i, j, rfl, q H1 (Ex.refl H1)⟩
theorem rc_max2 {H : Hp} {i j : Int} : RC (fun xs H Q => ∃ i j, xs = [V.int i, .int j] ∧ Q (.int (if j > i then j else i)) H) [.int i, .int j] H (.int (if j > i then j else i)) := fun H1 _ Q q => ⟨i, j, rfl, q H1 (Ex.refl H1)⟩
theorem rv_addS {s s' : Str} (h : s.length + s'.length ≤ sizeLine) : RV (fun x y H Q => ∃ i j, x = V.str i ∧ y = .str j ∧ i.length + j.length ≤ sizeLine ∧ Q (.str (i ++ j)) H) (.str s) (.str s') H (.str (s ++ s')) := fun H1 _ Q q => ⟨s, s', rfl, rfl, h, q H1 (Ex.refl H1)⟩
theorem int_dec {i j : Int} : decide (V.int i = V.int j) = decide (i = j) := by
  by_cases e : i = j
  · subst e
    rw [decide_eq_true rfl, decide_eq_true rfl]
  · rw [decide_eq_false e, decide_eq_false (fun h => e (V.int.inj h))]
theorem rv_eqI {i j : Int} : RV rEq (.int i) (.int j) H (.bl (decide (i = j))) := by
  rw [← int_dec]
  exact rv_eq rfl
theorem rv_neI {i j : Int} : RV rNe (.int i) (.int j) H (.bl (!decide (i = j))) := by
  rw [← int_dec]
  exact rv_ne rfl
theorem rv_isB {a b : Bool} : RV rIsB (.bl a) (.bl b) H (.bl (decide (a = b))) := fun H1 _ Q q => ⟨a, b, rfl, rfl, q H1 (Ex.refl H1)⟩
/-- a loop over the signs of a text -/
theorem s_forS {j : Nat} {s : Str} (h : Ev tl σ H (.str s)) (Pv : Nat → L2.St → Hp → Prop) (h0 : ∀ H1, Ex H H1 → Pv 0 σ H1)
    (hs : ∀ i c σ' H', s.cps.toList[i]? = some c → Pv i σ' H' → tu { D with nx := Pv (i + 1), ct := Pv (i + 1), bk := D.nx } (σ'.set j (some (.str ⟨#[c]⟩))) H') (hd : ∀ σ' H', Pv s.cps.toList.length σ' H' → D.nx σ' H') : tFor (iStr tl) (gName j) tu D σ H := by
  refine h H (Ex.refl H) _ fun H1 e => ⟨s, rfl, fun i m σ' H' => m = s.cps.toList.length - i ∧ i ≤ s.cps.toList.length ∧ Pv i σ' H', ⟨_, rfl, Nat.zero_le _, h0 H1 e⟩, ?_⟩
  rintro i m σ' H' ⟨rfl, hi, p⟩
  have hl : s.cps.toList.length = s.cps.size := Array.length_toList
  by_cases hlt : i < s.cps.toList.length
  · refine .inr ⟨by show i < s.cps.size; omega, Pv (i + 1), fun σ2 H2 p' => ⟨_, by omega, rfl, by omega, p'⟩, fun x H2 hy => ?_⟩
    obtain ⟨rfl, c, hc, rfl⟩ := hy
    exact hs i c σ' _ (by rw [Array.getElem?_toList]; exact hc) p
  · have e2 : i = s.cps.toList.length := by omega
    subst e2
    exact .inl ⟨by show s.cps.size ≤ _; omega, hd σ' H' p⟩
theorem q_forS {j : Nat} {s : Str} (h : Ev tl σ H (.str s)) (Pv : Nat → L2.St → Hp → Prop) (h0 : ∀ H1, Ex H H1 → Pv 0 σ H1)
    (hs : ∀ i c σ' H', s.cps.toList[i]? = some c → Pv i σ' H' → tu { D with nx := Pv (i + 1), ct := Pv (i + 1), bk := tz D } (σ'.set j (some (.str ⟨#[c]⟩))) H') (hd : ∀ σ' H', Pv s.cps.toList.length σ' H' → tz D σ' H') : tSeq (tFor (iStr tl) (gName j) tu) tz D σ H :=
  s_forS (D := { D with nx := tz D }) h Pv h0 hs hd
end
theorem atI_zero {α : Type} {l r : List α} {c : α} (h : l = c :: r) : atI l 0 = some c := by
  subst h
  exact atI_nat (j := 0) rfl
theorem ev_slS {σ : L2.St} {H : Hp} {te : TE} {tl th : TO} {z : Str} {lo hi : Option Int} (h : Ev te σ H (.str z)) (h1 : EvO tl σ H lo) (h2 : EvO th σ H hi) (hz : z.length ≤ sizeLine) : Ev (tSl rSlS te tl th) σ H (.str (cutS z lo hi)) := fun H1 e Q q =>
  h H1 e _ fun H2 e2 => h1 H2 (e.trans e2) _ fun H3 e3 => h2 H3 ((e.trans e2).trans e3) _ fun H4 e4 => ⟨z, rfl, hz, q H4 ((e2.trans e3).trans e4)⟩
/-! ### what evaluates to something of a kind -/
def EvS (te : TE) (σ : L2.St) (H : Hp) (S : V → Prop) : Prop := ∀ H1, Ex H H1 → ∀ Q : VK, (∀ v H2, S v → Ex H1 H2 → Q v H2) → te σ H1 Q
def EvAS (ta : TA) (σ : L2.St) (H : Hp) (S : List V → Prop) : Prop := ∀ H1, Ex H H1 → ∀ Q : List V → Hp → Prop, (∀ vs H2, S vs → Ex H1 H2 → Q vs H2) → ta σ H1 Q
def SpS (sp : Sp) (vs : List V) (H : Hp) (S : V → Prop) : Prop := ∀ H1, Ex H H1 → ∀ Q : VK, (∀ v H2, S v → Ex H1 H2 → Q v H2) → ∀ E : XK, sp vs H1 Q E
def IsS (n : Nat) (v : V) : Prop := ∃ z : Str, v = .str z ∧ z.length ≤ n
def IsI (lo hi : Int) (v : V) : Prop := ∃ i : Int, v = .int i ∧ lo ≤ i ∧ i < hi
section
variable {K : PySem.W.Frag} {σ : L2.St} {H H' : Hp} {ta tb te : TE} {v x y : V} {r : R2} {D : Ends} {tz : TS} {S S' S'' : V → Prop}
theorem evS_of (h : Ev te σ H v) (s : S v) : EvS te σ H S := fun H1 e Q q => h H1 e Q fun H2 e2 => q v H2 s e2
theorem EvS.mono (e : Ex H H') (h : EvS te σ H S) : EvS te σ H' S := fun H1 a Q q => h H1 (e.trans a) Q q
theorem EvS.weak (h : EvS te σ H S) (w : ∀ v, S v → S' v) : EvS te σ H S' := fun H1 e Q q => h H1 e Q fun v H2 s e2 => q v H2 (w v s) e2
theorem evS_op (ha : EvS ta σ H S) (hb : EvS tb σ H S') (hr : ∀ x y, S x → S' y → ∃ z, S'' z ∧ RV r x y H z) : EvS (tOp r ta tb) σ H S'' := fun H1 e Q q =>
  ha H1 e _ fun x H2 sx e2 => hb H2 (e.trans e2) _ fun y H3 sy e3 => by
    obtain ⟨z, sz, hz⟩ := hr x y sx sy
    exact hz H3 ((e.trans e2).trans e3) Q fun H4 e4 => q z H4 sz ((e2.trans e3).trans e4)
theorem eaS_nil : EvAS tNil σ H (fun vs => vs = []) := fun H1 _ _ q => q [] H1 rfl (Ex.refl H1)
theorem eaS_cons {tr : TA} {R : List V → Prop} (h : EvS te σ H S) (hr : EvAS tr σ H R) : EvAS (tCons te tr) σ H (fun vs => ∃ v r, vs = v :: r ∧ S v ∧ R r) := fun H1 e _ q =>
  h H1 e _ fun v H2 s e2 => hr H2 (e.trans e2) _ fun vs H3 r e3 => q _ H3 ⟨v, vs, rfl, s, r⟩ (e2.trans e3)
theorem eaS_weak {ta : TA} {R R' : List V → Prop} (h : EvAS ta σ H R) (w : ∀ vs, R vs → R' vs) : EvAS ta σ H R' := fun H1 e Q q => h H1 e Q fun vs H2 r e2 => q vs H2 (w vs r) e2
theorem evS_call {sp : Sp} {dvs vs : List V} {E : XK} {ta : TA} (h : EvA ta σ H vs) (hs : SpS sp (vs ++ dvs) H S) : EvS (tCall sp dvs E ta) σ H S := fun H1 e Q q =>
  h H1 e _ fun H2 e2 => hs H2 (e.trans e2) Q (fun v H3 s e3 => q v H3 s (e2.trans e3)) E
theorem evS_callS {sp : Sp} {dvs : List V} {R : List V → Prop} {E : XK} {ta : TA} (h : EvAS ta σ H R) (hs : ∀ vs, R vs → SpS sp (vs ++ dvs) H S) : EvS (tCall sp dvs E ta) σ H S := fun H1 e Q q =>
  h H1 e _ fun vs H2 r e2 => hs vs r H2 (e.trans e2) Q (fun v H3 s e3 => q v H3 s (e2.trans e3)) E
theorem IsS.up {n m : Nat} {v : V} (h : IsS n v) (e : n ≤ m) : IsS m v := by
  obtain ⟨z, e1, e2⟩ := h
  exact ⟨z, e1, by omega⟩
theorem evS_addS {a b : Nat} (ha : EvS ta σ H (IsS a)) (hb : EvS tb σ H (IsS b)) (h : a + b ≤ 100000) : EvS (tOp (fun x y H Q => ∃ i j, x = V.str i ∧ y = .str j ∧ i.length + j.length ≤ sizeLine ∧ Q (.str (i ++ j)) H) ta tb) σ H (IsS (a + b)) :=
  evS_op ha hb fun x y ⟨z, e1, h1⟩ ⟨z', e2, h2⟩ => by
    subst e1 e2
    refine ⟨_, ⟨z ++ z', rfl, ?_⟩, rv_addS (sz_of (by omega))⟩
    rw [Str.length_append]
    omega
def IsE (n : Nat) (v : V) : Prop := ∃ z : Str, v = .str z ∧ z.length = n
theorem IsE.toS {n m : Nat} {v : V} (h : IsE n v) (e : n ≤ m) : IsS m v := by
  obtain ⟨z, e1, e2⟩ := h
  exact ⟨z, e1, by omega⟩
theorem evS_addE {a b : Nat} (ha : EvS ta σ H (IsE a)) (hb : EvS tb σ H (IsE b)) (h : a + b ≤ 100000) : EvS (tOp (fun x y H Q => ∃ i j, x = V.str i ∧ y = .str j ∧ i.length + j.length ≤ sizeLine ∧ Q (.str (i ++ j)) H) ta tb) σ H (IsE (a + b)) :=
  evS_op ha hb fun x y ⟨z, e1, h1⟩ ⟨z', e2, h2⟩ => by
    subst e1 e2
    refine ⟨_, ⟨z ++ z', rfl, ?_⟩, rv_addS (sz_of (by omega))⟩
    rw [Str.length_append]
    omega
theorem s_asgS {i : Nat} (h : EvS te σ H S) (k : ∀ v H1, S v → Ex H H1 → D.nx (σ.set i (some v)) H1) : tAsg te (gName i) D σ H := h H (Ex.refl H) _ fun v H1 s e => k v H1 s e
theorem q_asgS {i : Nat} (h : EvS te σ H S) (k : ∀ v H1, S v → Ex H H1 → tz D (σ.set i (some v)) H1) : tSeq (tAsg te (gName i)) tz D σ H := s_asgS (D := { D with nx := tz D }) h k
theorem s_retS (h : EvS te σ H S) (k : ∀ v H1, S v → Ex H H1 → D.rt v H1) : tRet te D σ H := h H (Ex.refl H) _ fun v H1 s e => k v H1 s e
/-! ### lists of things of a kind -/
def EvLS (te : TE) (σ : L2.St) (H : Hp) (R : List V → Prop) : Prop := ∀ H1, Ex H H1 → ∀ Q : VK, (∀ xs p H2, R xs → H1 p = none → Ex H1 H2 → H2 p = some (.lst xs) → Q (.ref p) H2) → te σ H1 Q
theorem elS_of {xs : List V} {R : List V → Prop} (h : EvL te σ H xs) (r : R xs) : EvLS te σ H R := fun H1 e Q q => h H1 e Q fun p H2 hp e2 h2 => q xs p H2 r hp e2 h2
theorem elS_sl {tl th : TO} {R R' : List V → Prop} {lo hi : Option Int} (h : EvLS te σ H R) (h1 : EvO tl σ H lo) (h2 : EvO th σ H hi) (w : ∀ xs, R xs → R' (cutV xs lo hi)) : EvLS (tSl (rSlL K) te tl th) σ H R' := fun H1 e Q q =>
  h H1 e _ fun xs a H2 rx ha e2 hx => h1 H2 (e.trans e2) _ fun H3 e3 => h2 H3 ((e.trans e2).trans e3) _ fun H4 e4 =>
    ⟨a, xs, rfl, sq_of (e4 _ _ (e3 _ _ hx)), fun p hp => q _ p _ (w xs rx) (fresh_back ((e2.trans e3).trans e4) hp) (((e2.trans e3).trans e4).trans (Ex.new hp)) upd_same⟩
theorem elS_lcR1 {ta : TA} {j : Nat} {vs : List Nat} {n : Int} (h : EvA ta σ H [.int n]) (hn : 0 ≤ n ∧ n ≤ 40000) (hw : ∀ x, wipe ((wipe σ vs).set j (some x)) vs = wipe σ vs)
    (he : ∀ (i : Nat) H1, Ex H H1 → (i : Int) < n → EvS te ((wipe σ vs).set j (some (.int (i : Int)))) H1 S) :
    EvLS (tLc (iRng1 ta) (gName j) tYes te vs) σ H (fun xs => xs.length = n.toNat ∧ ∀ x ∈ xs, S x) := fun H0 e Q q => h H0 e _ fun H1 e1 => ⟨n, rfl, by omega, by omega, fun Dl hD =>
  lc_range (lo := 0) (n := n.toNat) (fun i H' => Ex H1 H' ∧ ∃ xs, H' Dl = some (.lst xs) ∧ xs.length = i ∧ ∀ x ∈ xs, S x) ⟨Ex.new hD, [], upd_same, rfl, fun x hx => by cases hx⟩ (fun i H' hi ⟨x1, xs, x2, x3, x4⟩ => by
    have e0 : (0 : Int) + (i : Int) = (i : Int) := Int.zero_add _
    refine ⟨(by rw [e0]; exact hw _ : wipe ((wipe σ vs).set j (some (.int ((0 : Int) + (i : Int))))) vs = wipe σ vs), ?_⟩
    refine iteT (B := Ex H1 H' ∧ ∃ xs, H' Dl = some (.lst xs) ∧ xs.length = i + 1 ∧ ∀ x ∈ xs, S x) ?_
    show te ((wipe σ vs).set j (some (.int ((0 : Int) + (i : Int))))) H' _
    rw [e0]
    refine he i H' ((e.trans e1).trans x1) (by omega) H' (Ex.refl H') _ fun v H2 s e2 => ⟨xs, e2 _ _ x2, sz_lt (by omega), Ex.mut (x1.trans e2) hD, xs ++ [v], upd_same, by rw [List.length_append, x3]; rfl, fun x hx => ?_⟩
    rcases List.mem_append.mp hx with hx | hx
    · exact x4 x hx
    · rw [List.mem_singleton.mp hx]
      exact s) (fun H' ⟨x1, xs, x2, x3, x4⟩ => q xs Dl H' ⟨x3, x4⟩ (fresh_back e1 hD) (e1.trans x1) x2)⟩
/-- arguments, with what is known of the heap behind them -/
def EvAH (ta : TA) (σ : L2.St) (H : Hp) (P : List V → Hp → Prop) : Prop := ∀ H1, Ex H H1 → ∀ Q : List V → Hp → Prop, (∀ vs H2, P vs H2 → Ex H1 H2 → Q vs H2) → ta σ H1 Q
theorem eaH_of {ta : TA} {vs : List V} {P : List V → Hp → Prop} (h : EvA ta σ H vs) (p : ∀ H1, Ex H H1 → P vs H1) : EvAH ta σ H P := fun H1 e Q q => h H1 e Q fun H2 e2 => q vs H2 (p H2 (e.trans e2)) e2
theorem eaH_weak {ta : TA} {P P' : List V → Hp → Prop} (h : EvAH ta σ H P) (w : ∀ vs H1, P vs H1 → P' vs H1) : EvAH ta σ H P' := fun H1 e Q q => h H1 e Q fun vs H2 r e2 => q vs H2 (w vs H2 r) e2
theorem elS_weak {R R' : List V → Prop} (h : EvLS te σ H R) (w : ∀ xs, R xs → R' xs) : EvLS te σ H R' := fun H1 e Q q => h H1 e Q fun xs p H2 r hp e2 h2 => q xs p H2 (w xs r) hp e2 h2
theorem eaH_consL {tr : TA} {xs : List V} {P : List V → Hp → Prop} (h : EvL te σ H xs) (hr : EvAH tr σ H P) : EvAH (tCons te tr) σ H (fun vs H2 => ∃ p r, vs = .ref p :: r ∧ H2 p = some (.lst xs) ∧ P r H2) := fun H1 e Q q =>
  h H1 e _ fun p H2 hp e2 h2 => hr H2 (e.trans e2) _ fun vs H3 hP e3 => q _ H3 ⟨p, vs, rfl, e3 _ _ h2, hP⟩ (e2.trans e3)
theorem eaH_cons {tr : TA} {P : List V → Hp → Prop} (h : EvS te σ H S) (hr : EvAH tr σ H P) : EvAH (tCons te tr) σ H (fun vs H2 => ∃ v r, vs = v :: r ∧ S v ∧ P r H2) := fun H1 e Q q =>
  h H1 e _ fun v H2 s e2 => hr H2 (e.trans e2) _ fun vs H3 hP e3 => q _ H3 ⟨v, vs, rfl, s, hP⟩ (e2.trans e3)
def SpLS (sp : Sp) (vs : List V) (H : Hp) (R : List V → Prop) : Prop := ∀ Q : VK, (∀ xs p H2, R xs → H p = none → Ex H H2 → H2 p = some (.lst xs) → Q (.ref p) H2) → ∀ E : XK, sp vs H Q E
theorem elS_call {sp : Sp} {dvs : List V} {P : List V → Hp → Prop} {R : List V → Prop} {E : XK} {ta : TA} (h : EvAH ta σ H P) (hs : ∀ vs H1, Ex H H1 → P vs H1 → SpLS sp (vs ++ dvs) H1 R) : EvLS (tCall sp dvs E ta) σ H R := fun H1 e Q q =>
  h H1 e _ fun vs H2 p e2 => hs vs H2 (e.trans e2) p Q (fun xs a H3 r ha e3 h3 => q xs a H3 r (fresh_back e2 ha) (e2.trans e3) h3) E
theorem s_asgLS {i : Nat} {R : List V → Prop} (h : EvLS te σ H R) (k : ∀ xs p H1, R xs → H p = none → Ex H H1 → H1 p = some (.lst xs) → D.nx (σ.set i (some (.ref p))) H1) : tAsg te (gName i) D σ H := h H (Ex.refl H) _ fun xs p H1 r hp e h1 => k xs p H1 r hp e h1
theorem q_asgLS {i : Nat} {R : List V → Prop} (h : EvLS te σ H R) (k : ∀ xs p H1, R xs → H p = none → Ex H H1 → H1 p = some (.lst xs) → tz D (σ.set i (some (.ref p))) H1) : tSeq (tAsg te (gName i)) tz D σ H := s_asgLS (D := { D with nx := tz D }) h k
theorem elS_catV {p : Addr} {xs : List V} {R R' : List V → Prop} (ha : Ev ta σ H (.ref p)) (hx : H p = some (.lst xs)) (hb : EvLS tb σ H R) (w : ∀ ys, R ys → xs.length + ys.length ≤ 100000 ∧ R' (xs ++ ys)) : EvLS (tOp rCat ta tb) σ H R' := fun H1 e Q q =>
  ha H1 e _ fun H2 e2 => hb H2 (e.trans e2) _ fun ys p' H3 r hp' e3 h3 => ⟨p, p', xs, ys, rfl, rfl, ((e.trans e2).trans e3) _ _ hx, h3, sz_of (w ys r).1, fun l hl => q _ l _ (w ys r).2 (fresh_back (e2.trans e3) hl) ((e2.trans e3).trans (Ex.new hl)) upd_same⟩
theorem elS_lst {ta : TA} {R : List V → Prop} (h : EvAS ta σ H R) (hl : ∀ vs, R vs → vs.length ≤ 100000) : EvLS (tLst ta) σ H R := fun H1 e _ q =>
  h H1 e _ fun vs H2 r e2 => ⟨sz_of (hl vs r), fun p hp => q vs p _ r (fresh_back e2 hp) (e2.trans (Ex.new hp)) upd_same⟩
theorem mem_cut {xs : List V} {lo hi : Option Int} {x : V} (h : x ∈ cutV xs lo hi) : x ∈ xs := by
  unfold cutV at h
  exact List.mem_of_mem_drop (List.mem_of_mem_take h)
theorem cut_le (xs : List V) (n : Nat) : (cutV xs none (some (n : Int))).length ≤ n := by
  unfold cutV
  rw [List.length_take]
  refine Nat.le_trans (Nat.min_le_left _ _) ?_
  have h1 : HT.sIx xs.length xs.length (some (n : Int)) ≤ n := by
    unfold HT.sIx
    simp only []
    split <;> omega
  omega
theorem strs_of {n : Nat} : ∀ {xs : List V}, (∀ x ∈ xs, IsS n x) → ∃ ys : List Str, xs = ys.map V.str ∧ ∀ y ∈ ys, y.length ≤ n
  | [], _ => ⟨[], rfl, fun y hy => by cases hy⟩
  | x :: xs, h => by
    obtain ⟨ys, rfl, hy⟩ := strs_of (xs := xs) fun x hx => h x (List.mem_cons_of_mem _ hx)
    obtain ⟨z, rfl, hz⟩ := h x List.mem_cons_self
    refine ⟨z :: ys, rfl, fun y h => ?_⟩
    rcases List.mem_cons.mp h with rfl | h
    · exact hz
    · exact hy y h
theorem join_len (a : Str) (ys : List Str) : (Txt.join a ys).length ≤ (ys.map (·.length)).sum + ys.length * a.length := by
  unfold Txt.join
  rw [StrLaws.glued_eq_join]
  exact StrLaws.join_length_le a ys
theorem sum_le {n : Nat} : ∀ {ys : List Str}, (∀ y ∈ ys, y.length ≤ n) → (ys.map (·.length)).sum ≤ ys.length * n
  | [], _ => Nat.zero_le _
  | y :: ys, h => by
    have ih := sum_le (ys := ys) fun y hy => h y (List.mem_cons_of_mem _ hy)
    have h1 := h y List.mem_cons_self
    show y.length + (ys.map (·.length)).sum ≤ (ys.length + 1) * n
    rw [Nat.succ_mul]
    omega
theorem evS_joinL {to : TE} {a : Str} {m n : Nat} {R : List V → Prop} (ho : Ev to σ H (.str a)) (he : EvLS te σ H R) (hR : ∀ xs, R xs → xs.length ≤ m ∧ ∀ x ∈ xs, IsS n x) (hz : m * n + m * a.length ≤ 16777216) :
    EvS (tM1 (fun x xs H Q => ∃ a p, ∃ ys : List Str, x = .str a ∧ xs = [.ref p] ∧ (SqL K H p (ys.map V.str) ∨ SqT K H p (ys.map V.str)) ∧ (ys.map (·.length)).sum + ys.length * a.length ≤ 16777216 ∧ Q (.str (Txt.join a ys)) H) to te) σ H (IsS (m * n + m * a.length)) := fun H1 e Q q =>
  ho H1 e _ fun H2 e2 => ⟨⟨a, rfl⟩, he H2 (e.trans e2) _ fun xs p H3 rx hp e3 hx => by
    obtain ⟨hm, hs⟩ := hR xs rx
    obtain ⟨ys, rfl, hy⟩ := strs_of hs
    rw [List.length_map] at hm
    have h1 := sum_le hy
    have h2 := Nat.mul_le_mul_right n hm
    have h3 := Nat.mul_le_mul_right a.length hm
    exact ⟨a, p, ys, rfl, rfl, .inl (sq_of hx), by omega, q _ H3 ⟨_, rfl, Nat.le_trans (join_len a ys) (by omega)⟩ (e2.trans e3)⟩⟩
theorem s_appS {l : Addr} {xs : List V} (hl : H l = some (.lst xs)) (ha : Ev ta σ H (.ref l)) (h : EvS te σ H S) (hz : xs.length < 100000) (k : ∀ v H1, S v → Ex H H1 → D.nx σ (upd H1 l (.lst (xs ++ [v])))) :
    tDrop (tBM K "list" rAppend ta (tCons te tNil)) D σ H := ha H (Ex.refl H) _ fun H1 e1 =>
  ⟨Or.inl ⟨rfl, xs, sq_of (e1 l _ hl)⟩, h H1 e1 _ fun v H2 s e2 => ⟨l, xs, v, rfl, rfl, e2 l _ (e1 l _ hl), sz_lt hz, k v H2 s (e1.trans e2)⟩⟩
theorem q_appS {l : Addr} {xs : List V} (hl : H l = some (.lst xs)) (ha : Ev ta σ H (.ref l)) (h : EvS te σ H S) (hz : xs.length < 100000) (k : ∀ v H1, S v → Ex H H1 → tz D σ (upd H1 l (.lst (xs ++ [v])))) :
    tSeq (tDrop (tBM K "list" rAppend ta (tCons te tNil))) tz D σ H := s_appS (D := { D with nx := tz D }) hl ha h hz k
/-! ### lists made of lists -/
theorem el_cat {xs ys : List V} (ha : EvL ta σ H xs) (hb : EvL tb σ H ys) (h : xs.length + ys.length ≤ 100000) : EvL (tOp rCat ta tb) σ H (xs ++ ys) := fun H1 e Q q =>
  ha H1 e _ fun p H2 hp e2 h2 => hb H2 (e.trans e2) _ fun p' H3 hp' e3 h3 => ⟨p, p', xs, ys, rfl, rfl, e3 _ _ h2, h3, sz_of h, fun l hl => q l _ (fresh_back (e2.trans e3) hl) ((e2.trans e3).trans (Ex.new hl)) upd_same⟩
theorem el_catV {p : Addr} {xs ys : List V} (ha : Ev ta σ H (.ref p)) (hx : H p = some (.lst xs)) (hb : EvL tb σ H ys) (h : xs.length + ys.length ≤ 100000) : EvL (tOp rCat ta tb) σ H (xs ++ ys) := fun H1 e Q q =>
  ha H1 e _ fun H2 e2 => hb H2 (e.trans e2) _ fun p' H3 hp' e3 h3 => ⟨p, p', xs, ys, rfl, rfl, ((e.trans e2).trans e3) _ _ hx, h3, sz_of h, fun l hl => q l _ (fresh_back (e2.trans e3) hl) ((e2.trans e3).trans (Ex.new hl)) upd_same⟩
theorem el_rep {xs : List V} {k : Int} (ha : EvL ta σ H xs) (hb : Ev tb σ H (.int k)) (h0 : 0 ≤ k) (h1 : k < 100000) (h : xs.length * k.toNat ≤ 100000) : EvL (tOp rRep ta tb) σ H (List.replicate k.toNat xs).flatten := fun H1 e Q q =>
  ha H1 e _ fun p H2 hp e2 h2 => hb H2 (e.trans e2) _ fun H3 e3 => ⟨p, k, xs, rfl, rfl, e3 _ _ h2, by omega, by omega, sz_of h, fun l hl => q l _ (fresh_back (e2.trans e3) hl) ((e2.trans e3).trans (Ex.new hl)) upd_same⟩
end
theorem at_map {α : Type} {f : α → V} {xs : List α} {j : Nat} {x : α} (h : xs[j]? = some x) : atI (xs.map f) (j : Int) = some (f x) := by
  refine atI_nat ?_
  rw [List.getElem?_map, h]
  rfl
theorem at_get {α : Type} {l : List α} {j : Nat} {d : α} (h : j < l.length) : atI l (j : Int) = some (l.getD j d) := by
  refine atI_nat ?_
  rw [List.getD_eq_getElem?_getD, List.getElem?_eq_getElem h]
  rfl
theorem at_intsI {ns : List Int} {i : Int} (h0 : 0 ≤ i) (h : i < (ns.length : Int)) : atI (ns.map V.int) i = some (.int (ns.getD i.toNat 0)) := by
  obtain ⟨j, rfl⟩ : ∃ j : Nat, i = (j : Int) := ⟨i.toNat, by omega⟩
  refine atI_nat ?_
  rw [List.getElem?_map, List.getD_eq_getElem?_getD, Int.toNat_natCast, List.getElem?_eq_getElem (by omega)]
  rfl
theorem at_ints {ns : List Int} {j : Nat} (h : j < ns.length) : atI (ns.map V.int) (j : Int) = some (.int (ns.getD j 0)) := by
  refine at_map ?_
  rw [List.getD_eq_getElem?_getD, List.getElem?_eq_getElem h]
  rfl
theorem getD_of {α : Type} {l : List α} {j : Nat} {x d : α} (h : l[j]? = some x) : l.getD j d = x := by
  rw [List.getD_eq_getElem?_getD, h]
  rfl
theorem str_len (z : Str) : z.length = z.cps.toList.length := Array.length_toList.symm
theorem all_take_succ {α : Type} {p : α → Bool} : ∀ {l : List α} {i : Nat} {c : α}, l[i]? = some c → (l.take (i + 1)).all p = ((l.take i).all p && p c) := by
  intro l i c h
  have e : l.take (i + 1) = l.take i ++ [c] := by
    rw [List.take_add_one, h]
    rfl
  rw [e, List.all_append, List.all_cons, List.all_nil, Bool.and_true]
end Own

namespace K04
open PySem L2 Evl Own
local macro_rules | `(tactic| walk_at "ev") => `(tactic| first
  | exact ev_c
  | with_reducible exact ea_nil
  | ((with_reducible refine' ev_op ?_ ?_ ?_) <;> walk_at "ev")
  | ((with_reducible refine' ea_cons ?_ ?_) <;> walk_at "ev")
  | ((with_reducible refine' ev_un ?_ ?_) <;> walk_at "ev")
  | ((with_reducible refine' et_test ?_); walk_at "ev")
  | ((with_reducible refine' et_B ?_); walk_at "ev")
  | ((with_reducible refine' et_not ?_); walk_at "ev")
  | ((with_reducible refine' ev_slS ?_ ?_ ?_ ?_) <;> walk_at "ev")
  | with_reducible exact eo_none
  | ((with_reducible refine' eo_some ?_) <;> walk_at "ev")
  | exact ev_var rfl
  | exact rv_I0
  | exact rc_int1
  | exact rv_eqI
  | exact rv_neI
  | exact rc_min2
  | exact rc_max2
  | exact rv_niS
  | exact rv_inS
  | exact rv_isB
  | exact rc_lenS (by first | assumption | exact sz_of (by omega))
  | (apply rc_lenL; assumption)
  | (apply rv_ixL; (focus assumption); first | assumption | exact at_map (by assumption) | exact at_ints (by omega) | exact at_intsI (by omega) (by omega) | skip)
  | ((with_reducible refine' ev_cb ?_ ?_) <;> walk_at "ev")
  | (refine' rv_I ?_; first | omega | assumption | (unfold CMul; omega) | (unfold CDiv; omega) | (unfold CPow; decide))
  | skip)

def top (i : Nat) : Stmt := PySem.Challenge.pw_sameroom_k04_names.main.body.getD i (.Pass ⟨0, 0, 0, 0⟩)
abbrev s_is_name : Stmt := top 5
abbrev N_is_name : List Str := ["text", "sign"]
theorem sc_is_name : FnScope ["text", "sign"] ["text"] (defScope s_is_name) := ⟨rfl, rfl, rfl, by decide +kernel, rfl, by decide +kernel, by decide +kernel⟩
abbrev s_law_cell : Stmt := top 7
abbrev N_law_cell : List Str := ["script", "k", "seed", "cell"]
theorem sc_law_cell : FnScope ["script", "k", "seed", "cell"] ["script", "k"] (defScope s_law_cell) := ⟨rfl, rfl, rfl, by decide +kernel, rfl, by decide +kernel, by decide +kernel⟩
abbrev s_law_digits : Stmt := top 8
abbrev N_law_digits : List Str := ["cell", "sizes", "row", "rest", "size", "seed", "k", "twice"]
theorem sc_law_digits : FnScope ["cell", "sizes", "row", "rest", "size", "seed", "k", "twice"] ["cell", "sizes"] (defScope s_law_digits) := ⟨rfl, rfl, rfl, by decide +kernel, rfl, by decide +kernel, by decide +kernel⟩
abbrev s_law_reserved : Stmt := top 9
abbrev N_law_reserved : List Str := ["words"]
theorem sc_law_reserved : FnScope ["words"] [] (defScope s_law_reserved) := ⟨rfl, rfl, rfl, by decide +kernel, rfl, by decide +kernel, by decide +kernel⟩
abbrev s_law_char : Stmt := top 10
abbrev N_law_char : List Str := ["digit", "chars"]
theorem sc_law_char : FnScope ["digit", "chars"] ["digit"] (defScope s_law_char) := ⟨rfl, rfl, rfl, by decide +kernel, rfl, by decide +kernel, by decide +kernel⟩
abbrev s_law_sign : Stmt := top 11
abbrev N_law_sign : List Str := ["digit", "signs"]
theorem sc_law_sign : FnScope ["digit", "signs"] ["digit"] (defScope s_law_sign) := ⟨rfl, rfl, rfl, by decide +kernel, rfl, by decide +kernel, by decide +kernel⟩
abbrev s_law_changed : Stmt := top 12
abbrev N_law_changed : List Str := ["text", "at", "char", "more"]
theorem sc_law_changed : FnScope ["text", "at", "char", "more"] ["text", "at", "char", "more"] (defScope s_law_changed) := ⟨rfl, rfl, rfl, by decide +kernel, rfl, by decide +kernel, by decide +kernel⟩
abbrev s_law_text : Stmt := top 13
abbrev N_law_text : List Str := ["cell", "row", "text", "k"]
theorem sc_law_text : FnScope ["cell", "row", "text", "k"] ["cell"] (defScope s_law_text) := ⟨rfl, rfl, rfl, by decide +kernel, rfl, by decide +kernel, by decide +kernel⟩
abbrev s_law_near : Stmt := top 14
abbrev N_law_near : List Str := ["cell", "row", "word", "at", "texts"]
theorem sc_law_near : FnScope ["cell", "row", "word", "at", "texts"] ["cell"] (defScope s_law_near) := ⟨rfl, rfl, rfl, by decide +kernel, rfl, by decide +kernel, by decide +kernel⟩
abbrev s_law_due : Stmt := top 15
abbrev N_law_due : List Str := ["text", "letters", "figures", "char"]
theorem sc_law_due : FnScope ["text", "letters", "figures", "char"] ["text"] (defScope s_law_due) := ⟨rfl, rfl, rfl, by decide +kernel, rfl, by decide +kernel, by decide +kernel⟩
abbrev s_law_told : Stmt := top 16
abbrev N_law_told : List Str := ["text"]
theorem sc_law_told : FnScope ["text"] ["text"] (defScope s_law_told) := ⟨rfl, rfl, rfl, by decide +kernel, rfl, by decide +kernel, by decide +kernel⟩
abbrev s_law : Stmt := top 17
abbrev N_law : List Str := ["script", "text", "k", "texts", "one"]
theorem sc_law : FnScope ["script", "text", "k", "texts", "one"] ["script"] (defScope s_law) := ⟨rfl, rfl, rfl, by decide +kernel, rfl, by decide +kernel, by decide +kernel⟩
/-! ### pure -/
def reserved : List Str := ["and", "answer", "answers", "begin", "book", "case", "cell", "div", "do", "else", "end", "fail", "finger", "from", "given", "helper", "if", "line", "mark", "mod", "not", "or", "pick", "places", "procedure", "program", "set", "stop", "to", "when", "while"]
def letters : Str := "abcdefghijklmnopqrstuvwxyz"
def digits : Str := "0123456789"
def signOk (c : Nat) : Bool := decide (c ∈ letters.cps.toList) || decide (c ∈ digits.cps.toList)
def firstOk (z : Str) : Bool := match z.cps.toList with
  | [] => false
  | c :: _ => decide (c ∈ letters.cps.toList)
def isName (z : Str) : Bool := decide (1 ≤ z.length) && decide (z.length ≤ 8) && firstOk z && !inV (.str z) (reserved.map V.str) && z.cps.toList.all signOk
/-! ### the text's facts -/
structure DefOk (K : PySem.W.Frag) (mg : Str → Option Value) (x : Str) (st : Stmt) (ps : List Str) (f : Addr) (fd : FuncData) : Prop where
  F : Fun K x x st f fd
  g : mg x = some (.ref f)
  k : PySem.W.keepIn K (.ref f) = true
  b : Binds K fd ps []
structure Txt (K : PySem.W.Frag) (mg : Str → Option Value) (fa : Nat → Addr) (fd : Nat → FuncData) (cv : Nat → Value) : Prop where
  b_int : mg "int" = none
  b_len : mg "len" = none
  b_min : mg "min" = none
  b_range : mg "range" = none
  c_DIGITS : mg "DIGITS" = some (cv 0)
  r_DIGITS : RelV (.str digits) (cv 0)
  c_LETTERS : mg "LETTERS" = some (cv 1)
  r_LETTERS : RelV (.str letters) (cv 1)
  c_LONGEST_NAME : mg "LONGEST_NAME" = some (cv 2)
  r_LONGEST_NAME : RelV (.int (8)) (cv 2)
  c_RESERVED : mg "RESERVED" = some (cv 3)
  r_RESERVED : RelV (.ref (fa 103)) (cv 3)
  q_RESERVED : ∀ H, SqT K H (fa 103) (reserved.map V.str)
  d_is_name : DefOk K mg "is_name" s_is_name ["text"] (fa 0) (fd 0)
  d_law_cell : DefOk K mg "_law_cell" s_law_cell ["script", "k"] (fa 1) (fd 1)
  d_law_digits : DefOk K mg "_law_digits" s_law_digits ["cell", "sizes"] (fa 2) (fd 2)
  d_law_reserved : DefOk K mg "_law_reserved" s_law_reserved [] (fa 3) (fd 3)
  d_law_char : DefOk K mg "_law_char" s_law_char ["digit"] (fa 4) (fd 4)
  d_law_sign : DefOk K mg "_law_sign" s_law_sign ["digit"] (fa 5) (fd 5)
  d_law_changed : DefOk K mg "_law_changed" s_law_changed ["text", "at", "char", "more"] (fa 6) (fd 6)
  d_law_text : DefOk K mg "_law_text" s_law_text ["cell"] (fa 7) (fd 7)
  d_law_near : DefOk K mg "_law_near" s_law_near ["cell"] (fa 8) (fd 8)
  d_law_due : DefOk K mg "_law_due" s_law_due ["text"] (fa 9) (fd 9)
  d_law_told : DefOk K mg "_law_told" s_law_told ["text"] (fa 10) (fd 10)
  d_law : DefOk K mg "law" s_law ["script"] (fa 11) (fd 11)
/-! ### promises -/
def spIsName : Sp := fun vs H Q _ => ∃ z : Str, vs = [.str z] ∧ z.length ≤ 1000 ∧ RetV (.bl (isName z)) H Q
section
variable {P : Program} {w : World} {K : PySem.W.Frag} {mg : Str → Option Value} {base : Heap} {fa : Nat → Addr} {fd : Nat → FuncData} {cv : Nat → Value}
theorem ok_is_name (T : Txt K mg fa fd cv) : FnOk P w K mg base CX0 1 (fa 0) (fd 0) ["text"] spIsName := by
  refine T.d_is_name.F.ok sc_is_name (fun vs H Q E h => ?_) (fun cdv A outer s H vs Q E hr h => ?_)
  · obtain ⟨z, rfl, _⟩ := h
    rfl
  · obtain ⟨z, rfl, hz, k⟩ := h
    refine ⟨_, pss_cons (ps_if (PW.pt (pw_or (pt_not (pt_chain op_le op_le pe_int (pe_callB call_len_str (by rfl) T.b_len PySem.boot_len (pa_cons (pv 0) pa_nil)) (pe_glob rfl T.c_LONGEST_NAME T.r_LONGEST_NAME))) (pw_or (pt_cmpR op_notIn_sign (pe_ix ix_str (pv 0) pe_int (fun _ _ => rfl)) (pe_glob rfl T.c_LETTERS T.r_LETTERS) rfl) (pw_or1 (pt_cmpR op_in_seq (pv 0) (pe_glob rfl T.c_RESERVED T.r_RESERVED) (by rfl)))))) (pss_one (ps_ret pe_bl)) (pss_nil))
      (pss_cons (ps_for PassesOwn.never rfl (pi_str (pv 0)) (pg_name (i := 1) sc_is_name.nd rfl (Or.inl rfl)) (pss_one (ps_if (PW.pt (pw_and (pt_cmpR op_notIn_sign (pv 1) (pe_glob rfl T.c_LETTERS T.r_LETTERS) rfl) (pw_and1 (pt_cmpR op_notIn_sign (pv 1) (pe_glob rfl T.c_DIGITS T.r_DIGITS) rfl)))) (pss_one (ps_ret pe_bl)) (pss_nil))))
      (pss_one (ps_ret pe_bl))), ?_⟩
    have hl := str_len z
    have hz' : z.length ≤ sizeLine := Nat.le_of_lt (small1000 hz)
    have evt : ∀ H', Ex H H' → Ev (tVar 0) (start N_is_name [.str z]) H' (.str z) := fun _ _ => ev_var rfl
    have A : EvT (tNot (tTest (tChain (rI0 fun i j => V.bl (decide (i ≤ j))) (rI0 fun i j => V.bl (decide (i ≤ j))) (tC (V.int 1)) (tCB (fun xs H Q => ∃ z, xs = [V.str z] ∧ z.length ≤ sizeLine ∧ Q (V.int ↑z.length) H) (tCons (tVar 0) tNil)) (tC (V.int 8))))) (start N_is_name [.str z]) H
        (!(decide ((1 : Int) ≤ (z.length : Int)) && decide ((z.length : Int) ≤ 8))) :=
      et_not (et_test (ev_chain ev_c (ev_cb (ea_cons (ev_var rfl) ea_nil) (rc_lenS hz')) rv_I0 (fun _ => ev_c) (fun _ => rv_I0)))
    by_cases c1 : 1 ≤ z.length ∧ z.length ≤ 8
    · have A' := et_is A (b := false) (by
        rw [decide_eq_true (by omega), decide_eq_true (by omega)]
        rfl)
      obtain ⟨c, r, hc⟩ : ∃ c r, z.cps.toList = c :: r := by
        cases e : z.cps.toList with
        | nil => rw [e] at hl; simp at hl; omega
        | cons c r => exact ⟨c, r, rfl⟩
      have hc0 : atI z.cps.toList 0 = some c := atI_zero hc
      refine q_when (et_orF A' (et_or (a := !decide (c ∈ letters.cps.toList)) (b := inV (.str z) (reserved.map V.str)) (et_test (ev_op (ev_op (ev_var rfl) ev_c (rv_ixS (w := z) (i := 0) (c := c) (by omega) hc0)) ev_c rv_niS)) (fun _ => et_test (ev_op (ev_var rfl) ev_c (rv_isT (T.q_RESERVED H) rfl (by decide +kernel)))))) (fun hb H1 e1 => ?_) (fun hb H1 e1 => ?_)
      · refine s_ret ev_c fun H2 e2 => ?_
        have e : isName z = false := by
          unfold isName firstOk
          rw [hc]
          rcases Bool.or_eq_true _ _ |>.mp hb with q | q
          · have q' : decide (c ∈ letters.cps.toList) = false := (Bool.not_eq_true' _).mp q
            simp only [q', Bool.false_and, Bool.and_false]
          · simp only [q, Bool.not_true, Bool.false_and, Bool.and_false]
        rw [e] at k
        exact k H2 (e1.trans e2)
      · obtain ⟨q1, q2⟩ := Bool.or_eq_false_iff.mp hb
        have q1' : decide (c ∈ letters.cps.toList) = true := (Bool.not_eq_false' _).mp q1
        have e : isName z = z.cps.toList.all signOk := by
          unfold isName firstOk
          rw [hc]
          simp only [q1', q2, decide_eq_true c1.1, decide_eq_true c1.2]
          rfl
        rw [e] at k
        refine q_forS (s := z) (ev_var rfl) (fun i σ' H' => ∃ y, σ' = [some (.str z), y] ∧ Ex H H' ∧ (z.cps.toList.take i).all signOk = true) (fun H2 e2 => ⟨none, rfl, e1.trans e2, rfl⟩) (fun i c σ' H' hi ⟨y, hσ, e2, ha⟩ => ?_) (fun σ' H' ⟨y, hσ, e2, ha⟩ => ?_)
        · subst hσ
          refine s_when (et_and (et_test (ev_op (ev_var rfl) ev_c rv_niS)) (fun _ => et_test (ev_op (ev_var rfl) ev_c rv_niS))) (fun hb H3 e3 => ?_) (fun hb H3 e3 => ?_)
          · refine s_ret ev_c fun H4 e4 => ?_
            have e : z.cps.toList.all signOk = false := by
              rw [Bool.eq_false_iff]
              intro h
              have h1 := List.all_eq_true.mp h c (List.mem_of_getElem? hi)
              unfold signOk at h1
              obtain ⟨b1, b2⟩ := (Bool.and_eq_true _ _).mp hb
              rw [(Bool.not_eq_true' _).mp b1, (Bool.not_eq_true' _).mp b2] at h1
              cases h1
            rw [e] at k
            exact k H4 ((e2.trans e3).trans e4)
          · refine ⟨_, rfl, e2.trans e3, ?_⟩
            rw [all_take_succ hi, ha]
            unfold signOk
            rcases Bool.and_eq_false_iff.mp hb with b | b
            · rw [(Bool.not_eq_false' _).mp b]
              rfl
            · rw [(Bool.not_eq_false' _).mp b, Bool.or_true]
              rfl
        · subst hσ
          rw [List.take_length] at ha
          rw [ha] at k
          exact s_ret ev_c fun H3 e3 => k H3 (e2.trans e3)
    · have e : isName z = false := by
        unfold isName
        by_cases d : 1 ≤ z.length
        · rw [decide_eq_false (show ¬ z.length ≤ 8 by omega)]
          simp
        · rw [decide_eq_false d]
          simp
      rw [e] at k
      have A' := et_is A (b := true) (by
        by_cases d : 1 ≤ z.length
        · rw [decide_eq_true (by omega), decide_eq_false (show ¬ (z.length : Int) ≤ 8 by omega)]
          rfl
        · rw [decide_eq_false (show ¬ (1 : Int) ≤ (z.length : Int) by omega)]
          rfl)
      exact q_when (et_orT A') (fun _ H1 e1 => s_ret ev_c fun H2 e2 => k H2 (e1.trans e2)) (fun hb => by cases hb)
end
def spCell (K : PySem.W.Frag) : Sp := fun vs H Q _ => ∃ (a : Addr) (ns : List Int) (k : Int), vs = [.ref a, .int k] ∧ SqL K H a (ns.map V.int) ∧ ns.length ≤ 63 ∧ 0 ≤ k ∧ k < 1000 ∧ ∀ (i : Int) H2, Ex H H2 → Q (.int i) H2
section
variable {P : Program} {w : World} {K : PySem.W.Frag} {mg : Str → Option Value} {base : Heap} {fa : Nat → Addr} {fd : Nat → FuncData} {cv : Nat → Value}
theorem ok_cell (T : Txt K mg fa fd cv) : FnOk P w K mg base CX0 1 (fa 1) (fd 1) ["script", "k"] (spCell K) := by
  refine T.d_law_cell.F.ok sc_law_cell (fun vs H Q E h => ?_) (fun cdv A outer s H vs Q E hr h => ?_)
  · obtain ⟨a, ns, k, rfl, _⟩ := h
    rfl
  · obtain ⟨a, ns, k, rfl, hS, hn, k0, k1, q⟩ := h
    refine ⟨_, pss_cons (ps_if (PW.pt (pw_and (pt_cmpR op_lt (pv 1) (pe_callB call_len_seq (by rfl) T.b_len PySem.boot_len (pa_cons (pv 0) pa_nil)) (nomark _)) (pw_and1 (pt_cmpR op_ge (pe_ix ix_list (pv 0) (pv 1) (fun _ _ => rfl)) (pe_op op_pow pe_int pe_int) (nomark _))))) (pss_one (ps_ret (pe_ix ix_list (pv 0) (pv 1) (fun _ _ => rfl)))) (pss_nil))
      (pss_cons (ps_set (i := 2) sc_law_cell.nd rfl (Or.inl rfl) pe_int)
      (pss_cons (ps_for PassesOwn.never rfl (pi_list (pv 0)) (pg_name (i := 3) sc_law_cell.nd rfl (Or.inl rfl)) (pss_one (ps_set (i := 2) sc_law_cell.nd rfl (Or.inl rfl) (pe_op op_mod (pe_callTy call_int1 (by rfl) T.b_int PyProof.Rows.boot_int (pa_cons (pe_op op_add (pe_op op_mul (pv 2) pe_int) (pe_op op_mod (pe_callTy call_int1 (by rfl) T.b_int PyProof.Rows.boot_int (pa_cons (pv 3) pa_nil)) pe_int)) pa_nil)) pe_int))))
      (pss_one (ps_ret (pe_op op_mod (pe_callTy call_int1 (by rfl) T.b_int PyProof.Rows.boot_int (pa_cons (pe_op op_mul (pe_op op_mul (pe_op op_add (pv 2) pe_int) (pe_op op_add (pv 1) pe_int)) pe_int) pa_nil)) pe_int))))), ?_⟩
    have hl : (ns.map V.int).length = ns.length := List.length_map _
    refine q_when (b := decide (k < (ns.length : Int)) && decide ((10 : Int) ^ 18 ≤ ns.getD k.toNat 0)) (et_and ?_ fun hb => ?_) (fun hb H1 e1 => ?_) (fun hb H1 e1 => ?_)
    · rw [← hl]
      walk_at "ev"
    · have c : k < (ns.length : Int) := of_decide_eq_true hb
      obtain ⟨j, rfl⟩ : ∃ j : Nat, k = (j : Int) := ⟨k.toNat, by omega⟩
      have hj : j < ns.length := by omega
      walk_at "ev"
    · obtain ⟨b1, b2⟩ := (Bool.and_eq_true _ _).mp hb
      have c : k < (ns.length : Int) := of_decide_eq_true b1
      obtain ⟨j, rfl⟩ : ∃ j : Nat, k = (j : Int) := ⟨k.toNat, by omega⟩
      have hj : j < ns.length := by omega
      refine s_ret (v := .int (ns.getD j 0)) ?_ fun H2 e2 => q _ H2 (e1.trans e2)
      have hS1 := ex_l e1 hS
      walk_at "ev"
    · refine q_asg ev_c fun H2 e2 => ?_
      refine q_forLn (a := a) (xs := ns.map V.int) (ev_var rfl) (ex_l (e1.trans e2) hS) (fun i σ' H' => ∃ (sd : Int) (y : Option V), σ' = [some (.ref a), some (.int k), some (.int sd), y] ∧ Ex H H' ∧ 0 ≤ sd ∧ sd < 1000003)
        (fun H3 e3 => ⟨17, none, rfl, (e1.trans e2).trans e3, by decide, by decide⟩) (fun i σ' H' _ ⟨_, _, _, e, _⟩ => ex_l e hS) (fun i x σ' H' hi ⟨sd, y, hσ, e, h0, h1⟩ => ?_) (fun σ' H' ⟨sd, y, hσ, e, h0, h1⟩ => ?_)
      · subst hσ
        obtain ⟨z, rfl⟩ : ∃ z, x = V.int z := by
          rw [List.getElem?_map] at hi
          cases e : ns[i]? with
          | none => rw [e] at hi; cases hi
          | some z => rw [e] at hi; exact ⟨z, (Option.some.inj hi).symm⟩
        refine s_asg (v := .int ((sd * 31 + z % 1000003) % 1000003)) ?_ fun H3 e3 => ?_
        · walk_at "ev"
        · exact ⟨_, _, rfl, e.trans e3, by omega, by omega⟩
      · subst hσ
        refine s_ret (v := .int ((sd + 7) * (k + 3) * 69621 % 2147483647)) ?_ fun H3 e3 => q _ H3 (e.trans e3)
        walk_at "ev"
def spDigits (K : PySem.W.Frag) : Sp := fun vs H Q _ => ∃ (a : Addr) (c : Int) (ss : List Int), vs = [.int c, .ref a] ∧ SqL K H a (ss.map V.int) ∧ ss.length ≤ 100 ∧ (∀ x ∈ ss, 0 < x ∧ x < 1000000) ∧
  ∀ (rs : List Int) p H2, rs.length = ss.length → (∀ (i : Nat) (s : Int), ss[i]? = some s → 0 ≤ rs.getD i 0 ∧ rs.getD i 0 < s) → H p = none → Ex H H2 → H2 p = some (.lst (rs.map V.int)) → Q (.ref p) H2
/-- the digits so far -/
structure Dg (ss rs : List Int) (i : Nat) : Prop where
  len : rs.length = i
  rg : ∀ (j : Nat) (s : Int), j < i → ss[j]? = some s → 0 ≤ rs.getD j 0 ∧ rs.getD j 0 < s
theorem Dg.nil {ss : List Int} : Dg ss [] 0 := ⟨rfl, fun j s h => by omega⟩
theorem Dg.snoc {ss rs : List Int} {i : Nat} {s z : Int} (h : Dg ss rs i) (hs : ss[i]? = some s) (h0 : 0 ≤ z) (h1 : z < s) : Dg ss (rs ++ [z]) (i + 1) := by
  refine ⟨by rw [List.length_append, h.len]; rfl, fun j t hj ht => ?_⟩
  by_cases e : j = i
  · subst e
    have e2 : (rs ++ [z]).getD j 0 = z := by
      rw [List.getD_eq_getElem?_getD, List.getElem?_append_right (by rw [h.len]; exact Nat.le_refl _), h.len, Nat.sub_self]
      rfl
    rw [e2]
    have : s = t := Option.some.inj (hs.symm.trans ht)
    subst this
    exact ⟨h0, h1⟩
  · have e2 : (rs ++ [z]).getD j 0 = rs.getD j 0 := by
      rw [List.getD_eq_getElem?_getD, List.getD_eq_getElem?_getD, List.getElem?_append_left (by rw [h.len]; omega)]
    rw [e2]
    exact h.rg j t (by omega) ht
theorem ok_digits (T : Txt K mg fa fd cv) : FnOk P w K mg base CX0 1 (fa 2) (fd 2) ["cell", "sizes"] (spDigits K) := by
  refine T.d_law_digits.F.ok sc_law_digits (fun vs H Q E h => ?_) (fun cdv A outer s H vs Q E hr h => ?_)
  · obtain ⟨a, c, ss, rfl, _⟩ := h
    rfl
  · obtain ⟨a, c, ss, rfl, hS, hn, hpos, q⟩ := h
    refine ⟨_, pss_cons (ps_set (i := 2) sc_law_digits.nd rfl (Or.inl rfl) (pe_lst pa_nil))
      (pss_cons (ps_set (i := 3) sc_law_digits.nd rfl (Or.inl rfl) (pe_callTy call_int1 (by rfl) T.b_int PyProof.Rows.boot_int (pa_cons (pv 0) pa_nil)))
      (pss_cons (ps_if (pt_cmpR op_ge (pv 3) (pe_op op_pow pe_int pe_int) (nomark _)) (pss_cons (ps_set (i := 3) sc_law_digits.nd rfl (Or.inl rfl) (pe_op op_sub (pv 3) (pe_op op_pow pe_int pe_int)))
      (pss_cons (ps_for PassesOwn.never rfl (pi_list (pv 1)) (pg_name (i := 4) sc_law_digits.nd rfl (Or.inl rfl)) (pss_cons (ps_expr (pe_bm PySem.F.plainAttrs_list PySem.F.slot_list_append PySem.F.type_list_append mt_append (pv 2) (pa_cons (pe_op op_mod (pe_callTy call_int1 (by rfl) T.b_int PyProof.Rows.boot_int (pa_cons (pv 3) pa_nil)) (pv 4)) pa_nil)))
      (pss_one (ps_set (i := 3) sc_law_digits.nd rfl (Or.inl rfl) (pe_op op_fdiv (pe_callTy call_int1 (by rfl) T.b_int PyProof.Rows.boot_int (pa_cons (pv 3) pa_nil)) (pv 4))))))
      (pss_one (ps_ret (pv 2))))) (pss_nil))
      (pss_cons (ps_set (i := 5) sc_law_digits.nd rfl (Or.inl rfl) (pe_op op_mod (pe_callTy call_int1 (by rfl) T.b_int PyProof.Rows.boot_int (pa_cons (pv 3) pa_nil)) pe_int))
      (pss_cons (ps_for PassesOwn.never rfl (pi_range1 (by rfl) T.b_range (pa_cons (pe_callB call_len_seq (by rfl) T.b_len PySem.boot_len (pa_cons (pv 1) pa_nil)) pa_nil)) (pg_name (i := 6) sc_law_digits.nd rfl (Or.inl rfl)) (pss_cons (ps_set (i := 5) sc_law_digits.nd rfl (Or.inl rfl) (pe_op op_mod (pe_callTy call_int1 (by rfl) T.b_int PyProof.Rows.boot_int (pa_cons (pe_op op_add (pe_op op_add (pe_op op_mul (pv 5) pe_int) (pe_op op_mul pe_int (pv 6))) pe_int) pa_nil)) pe_int))
      (pss_cons (ps_set (i := 7) sc_law_digits.nd rfl (Or.inl rfl) (pe_op op_mod (pe_callTy call_int1 (by rfl) T.b_int PyProof.Rows.boot_int (pa_cons (pe_op op_mul (pv 5) (pe_op op_add (pe_op op_fdiv (pv 5) pe_int) pe_int)) pa_nil)) pe_int))
      (pss_one (ps_expr (pe_bm PySem.F.plainAttrs_list PySem.F.slot_list_append PySem.F.type_list_append mt_append (pv 2) (pa_cons (pe_op op_mod (pe_op op_fdiv (pv 7) pe_int) (pe_ix ix_list (pv 1) (pv 6) (fun _ _ => rfl))) pa_nil)))))))
      (pss_one (ps_ret (pv 2))))))), ?_⟩
    have hl : (ss.map V.int).length = ss.length := List.length_map _
    -- row = []
    refine q_asgL (xs := []) (el_lst ea_nil (by decide)) fun p H1 hp e1 h1 => ?_
    refine q_asg (v := .int c) ?_ fun H2 e2 => ?_
    · walk_at "ev"
    have hS2 : SqL K H2 a (ss.map V.int) := ex_l (e1.trans e2) hS
    have hp2 := e2 _ _ h1
    refine q_when (b := decide ((10 : Int) ^ 18 ≤ c)) ?_ (fun hb H3 e3 => ?_) (fun hb H3 e3 => ?_)
    · walk_at "ev"
    · refine q_asg (v := .int (c - (10 : Int) ^ 18)) ?_ fun H4 e4 => ?_
      · walk_at "ev"
      refine q_forLn (a := a) (xs := ss.map V.int) (ev_var rfl) (ex_l (e3.trans e4) hS2) (fun i σ' H' => ∃ (z : Int) (rs : List Int) (y5 : Option V), σ' = [some (.int c), some (.ref a), some (.ref p), some (.int z), y5, none, none, none] ∧ Ex H H' ∧ H' p = some (.lst (rs.map V.int)) ∧ Dg ss rs i)
        (fun H5 e5 => ⟨_, [], none, rfl, (((e1.trans e2).trans e3).trans e4).trans e5, e5 _ _ (e4 _ _ (e3 _ _ hp2)), .nil⟩) (fun i σ' H' _ ⟨_, _, _, _, e, _⟩ => ex_l e hS) (fun i x σ' H' hi ⟨z, rs, y5, hσ, e, hrow, dg⟩ => ?_) (fun σ' H' ⟨z, rs, y5, hσ, e, hrow, dg⟩ => ?_)
      · subst hσ
        obtain ⟨sz, hsz, rfl⟩ : ∃ z, ss[i]? = some z ∧ x = V.int z := by
          rw [List.getElem?_map] at hi
          cases e : ss[i]? with
          | none => rw [e] at hi; cases hi
          | some z => rw [e] at hi; exact ⟨z, rfl, (Option.some.inj hi).symm⟩
        obtain ⟨g0, g1⟩ := hpos sz (List.mem_of_getElem? hsz)
        have hi' : i < ss.length := (List.getElem?_eq_some_iff.mp hsz).1
        refine q_app (xs := rs.map V.int) (v := .int (z % sz)) hrow (ev_var rfl) ?_ (by rw [List.length_map, dg.len]; omega) fun H5 e5 => ?_
        · walk_at "ev"
        have e6 : Ex H (upd H5 p (.lst (rs.map V.int ++ [V.int (z % sz)]))) := Ex.mut (e.trans e5) hp
        refine s_asg (v := .int (z / sz)) ?_ fun H6 e7 => ?_
        · walk_at "ev"
        refine ⟨_, rs ++ [z % sz], _, rfl, e6.trans e7, ?_, dg.snoc hsz (Int.emod_nonneg _ (by omega)) (Int.emod_lt_of_pos _ g0)⟩
        rw [e7 _ _ upd_same, List.map_append]
        rfl
      · subst hσ
        refine s_ret (ev_var rfl) fun H5 e5 => q rs p H5 (by rw [dg.len, hl]) (fun i s hi => dg.rg i s (by rw [hl]; exact (List.getElem?_eq_some_iff.mp hi).1) hi) hp (e.trans e5) (e5 _ _ hrow)
    · refine q_asg (v := .int (c % 2147483629)) ?_ fun H4 e4 => ?_
      · walk_at "ev"
      refine q_forR1 (n := (ss.length : Int)) ?_ ⟨by omega, by omega⟩ (fun i σ' H' => ∃ (sd : Int) (rs : List Int) (y6 y7 : Option V), σ' = [some (.int c), some (.ref a), some (.ref p), some (.int c), none, some (.int sd), y6, y7] ∧ Ex H H' ∧ H' p = some (.lst (rs.map V.int)) ∧ Dg ss rs i ∧ 0 ≤ sd ∧ sd < 2147483648)
        (fun H5 e5 => ⟨_, [], none, none, rfl, (((e1.trans e2).trans e3).trans e4).trans e5, e5 _ _ (e4 _ _ (e3 _ _ hp2)), .nil, by omega, by omega⟩) (fun i σ' H' hi ⟨sd, rs, y6, y7, hσ, e, hrow, dg, s0, s1⟩ => ?_) (fun σ' H' ⟨sd, rs, y6, y7, hσ, e, hrow, dg, s0, s1⟩ => ?_)
      · have hS4 := ex_l (e3.trans e4) hS2
        rw [← hl]
        walk_at "ev"
      · subst hσ
        have hi' : i < ss.length := by omega
        obtain ⟨g0, g1⟩ := hpos ss[i] (List.getElem_mem hi')
        have hsz : ss[i]? = some ss[i] := List.getElem?_eq_getElem hi'
        refine q_asg (v := .int ((sd * 48271 + 974711 * (i : Int) + 12345) % 2147483647)) ?_ fun H5 e5 => ?_
        · walk_at "ev"
        generalize hsd : (sd * 48271 + 974711 * (i : Int) + 12345) % 2147483647 = sd2
        have t0 : 0 ≤ sd2 := by omega
        have t1 : sd2 < 2147483648 := by omega
        refine q_asg (v := .int (sd2 * (sd2 / 65537 + 3) % 2147483629)) ?_ fun H6 e6 => ?_
        · walk_at "ev"
        generalize htw : sd2 * (sd2 / 65537 + 3) % 2147483629 = tw
        have hS6 : SqL K H6 a (ss.map V.int) := ex_l ((e.trans e5).trans e6) hS
        refine s_app (xs := rs.map V.int) (v := .int (tw / 19 % ss[i])) (e6 _ _ (e5 _ _ hrow)) (ev_var rfl) ?_ (by rw [List.length_map, dg.len]; omega) fun H7 e7 => ?_
        · walk_at "ev"
        have e8 : Ex H (upd H7 p (.lst (rs.map V.int ++ [V.int (tw / 19 % ss[i])]))) := Ex.mut (((e.trans e5).trans e6).trans e7) hp
        refine ⟨sd2, rs ++ [tw / 19 % ss[i]], _, _, rfl, e8, ?_, dg.snoc hsz (Int.emod_nonneg _ (by omega)) (Int.emod_lt_of_pos _ g0), t0, t1⟩
        rw [upd_same, List.map_append]
        rfl
      · subst hσ
        have hl2 : (ss.length : Int).toNat = ss.length := rfl
        refine s_ret (ev_var rfl) fun H5 e5 => q rs p H5 (by rw [dg.len]; omega) (fun i s hi => dg.rg i s (by have := (List.getElem?_eq_some_iff.mp hi).1; omega) hi) hp (e.trans e5) (e5 _ _ hrow)
end
def spReserved : Sp := fun vs H Q _ => vs = [] ∧ RetL (reserved.map V.str) H Q
def spSign : Sp := fun vs H Q _ => ∃ d : Int, vs = [.int d] ∧ ∀ (v : V) H2, IsE 1 v → Ex H H2 → Q v H2
def spChanged : Sp := fun vs H Q _ => ∃ (t c : Str) (a : Int) (m : Bool), vs = [.str t, .int a, .str c, .bl m] ∧ t.length ≤ 100 ∧ c.length ≤ 1 ∧ ∀ (v : V) H2, IsS 500 v → Ex H H2 → Q v H2
def spTold : Sp := fun vs H Q _ => ∃ z : Str, vs = [.str z] ∧ z.length ≤ 1000 ∧ RetV (.bl true) H Q
def words1 : Str := "and answer answers begin book case cell div do else end fail finger from given helper if line mark mod not"
def words2 : Str := " or pick places procedure program set stop to when while"
theorem split_words : (Txt.split (words1 ++ words2) " ") = reserved := by decide +kernel
section
variable {P : Program} {w : World} {K : PySem.W.Frag} {mg : Str → Option Value} {base : Heap} {fa : Nat → Addr} {fd : Nat → FuncData} {cv : Nat → Value}
theorem ok_reserved (T : Txt K mg fa fd cv) : FnOk P w K mg base CX0 1 (fa 3) (fd 3) [] spReserved := by
  refine T.d_law_reserved.F.ok sc_law_reserved (fun vs H Q E h => ?_) (fun cdv A outer s H vs Q E hr h => ?_)
  · obtain ⟨rfl, _⟩ := h
    rfl
  · obtain ⟨rfl, q⟩ := h
    refine ⟨_, pss_cons (ps_set (i := 0) sc_law_reserved.nd rfl (Or.inl rfl) pe_str)
      (pss_cons (ps_set (i := 0) sc_law_reserved.nd rfl (Or.inl rfl) (pe_op op_add_str (pv 0) pe_str))
      (pss_one (ps_ret (pe_split (pv 0) pe_str)))), ?_⟩
    refine q_asg (v := .str words1) ev_c fun H1 e1 => ?_
    refine q_asg (v := .str (words1 ++ words2)) ?_ fun H2 e2 => ?_
    · exact ev_op (ev_var rfl) ev_c (rv_addS (by decide +kernel))
    refine ⟨_, rfl, ⟨_, rfl⟩, _, _, rfl, rfl, by decide +kernel, by decide +kernel, ?_⟩
    rw [split_words]
    exact fun p hp => q p _ (fresh_back (e1.trans e2) hp) ((e1.trans e2).trans (Ex.new hp)) upd_same
theorem ok_char (T : Txt K mg fa fd cv) : FnOk P w K mg base CX0 1 (fa 4) (fd 4) ["digit"] spSign := by
  refine T.d_law_char.F.ok sc_law_char (fun vs H Q E h => ?_) (fun cdv A outer s H vs Q E hr h => ?_)
  · obtain ⟨d, rfl, _⟩ := h
    rfl
  · obtain ⟨g, rfl, q⟩ := h
    refine ⟨_, pss_cons (ps_set (i := 1) sc_law_char.nd rfl (Or.inl rfl) pe_str)
      (pss_cons (ps_set (i := 1) sc_law_char.nd rfl (Or.inl rfl) (pe_op op_add_str (pv 1) pe_str))
      (pss_one (ps_ret (pe_ix ix_str (pv 1) (pe_op op_mod (pe_callTy call_int1 (by rfl) T.b_int PyProof.Rows.boot_int (pa_cons (pv 0) pa_nil)) pe_int) (fun _ _ => rfl))))), ?_⟩
    refine q_asg ev_c fun H1 e1 => ?_
    refine q_asg (ev_op (ev_var rfl) ev_c (rv_addS (by decide +kernel))) fun H2 e2 => ?_
    have h0 : 0 ≤ g % 95 := Int.emod_nonneg _ (by decide)
    have h1 : g % 95 < 95 := Int.emod_lt_of_pos _ (by decide)
    refine s_ret (v := .str ⟨#[(((" !\"#$&'()*+,-./0123456789:;<=>?@ABCDEFGHIJKLMNOPQRSTUVWXYZ[\\]^_`" : Str) ++ ("abcdefghijklmnopqrstuvwxyz{|}~\n" : Str)).cps.toList.getD (g % 95).toNat 0)]⟩) ?_ fun H3 e3 => q _ H3 ⟨_, rfl, rfl⟩ ((e1.trans e2).trans e3)
    walk_at "ev"
    refine rv_ixS (by decide +kernel) ?_
    rw [show g % 95 = ((g % 95).toNat : Int) by omega]
    exact at_get (by rw [show (((" !\"#$&'()*+,-./0123456789:;<=>?@ABCDEFGHIJKLMNOPQRSTUVWXYZ[\\]^_`" : Str) ++ ("abcdefghijklmnopqrstuvwxyz{|}~\n" : Str)).cps.toList.length) = 95 by decide +kernel]; omega)
theorem ok_sign (T : Txt K mg fa fd cv) : FnOk P w K mg base CX0 1 (fa 5) (fd 5) ["digit"] spSign := by
  refine T.d_law_sign.F.ok sc_law_sign (fun vs H Q E h => ?_) (fun cdv A outer s H vs Q E hr h => ?_)
  · obtain ⟨d, rfl, _⟩ := h
    rfl
  · obtain ⟨g, rfl, q⟩ := h
    refine ⟨_, pss_cons (ps_set (i := 1) sc_law_sign.nd rfl (Or.inl rfl) pe_str)
      (pss_one (ps_ret (pe_ix ix_str (pv 1) (pe_op op_mod (pe_callTy call_int1 (by rfl) T.b_int PyProof.Rows.boot_int (pa_cons (pv 0) pa_nil)) pe_int) (fun _ _ => rfl)))), ?_⟩
    refine q_asg ev_c fun H1 e1 => ?_
    have h0 : 0 ≤ g % 36 := Int.emod_nonneg _ (by decide)
    have h1 : g % 36 < 36 := Int.emod_lt_of_pos _ (by decide)
    refine s_ret (v := .str ⟨#[(("abcdefghijklmnopqrstuvwxyz0123456789" : Str).cps.toList.getD (g % 36).toNat 0)]⟩) ?_ fun H3 e3 => q _ H3 ⟨_, rfl, rfl⟩ (e1.trans e3)
    walk_at "ev"
    refine rv_ixS (by decide +kernel) ?_
    rw [show g % 36 = ((g % 36).toNat : Int) by omega]
    exact at_get (by rw [show (("abcdefghijklmnopqrstuvwxyz0123456789" : Str).cps.toList.length) = 36 by decide +kernel]; omega)
theorem ok_changed (T : Txt K mg fa fd cv) : FnOk P w K mg base CX0 1 (fa 6) (fd 6) ["text", "at", "char", "more"] spChanged := by
  refine T.d_law_changed.F.ok sc_law_changed (fun vs H Q E h => ?_) (fun cdv A outer s H vs Q E hr h => ?_)
  · obtain ⟨t, c, a, m, rfl, _⟩ := h
    rfl
  · obtain ⟨t, c, a, m, rfl, ht, hc, q⟩ := h
    refine ⟨_, pss_cons (ps_if (pt_val (pv 3)) (pss_one (ps_ret (pe_op op_add_str (pe_op op_add_str (pe_slice sl_str (pv 0) po_none (po_some (pv 1))) (pv 2)) (pe_slice sl_str (pv 0) (po_some (pv 1)) po_none)))) (pss_nil))
      (pss_one (ps_ret (pe_op op_add_str (pe_op op_add_str (pe_slice sl_str (pv 0) po_none (po_some (pv 1))) (pv 2)) (pe_slice sl_str (pv 0) (po_some (pe_op op_add (pv 1) pe_int)) po_none)))), ?_⟩
    have t1 : ∀ lo hi, (cutS t lo hi).length ≤ 100 := fun lo hi => Nat.le_trans (cutS_length t lo hi) ht
    have tz : t.length ≤ sizeLine := sz_of (by omega)
    refine q_when (b := m) (et_B (ev_var rfl)) (fun hb H1 e1 => ?_) (fun hb H1 e1 => ?_)
    · refine s_retS (S := IsS (100 + 1 + 100)) (evS_addS (evS_addS (evS_of (v := .str (cutS t none (some a))) ?_ ⟨_, rfl, t1 _ _⟩) (evS_of (ev_var rfl) ⟨c, rfl, hc⟩) (by decide)) (evS_of (v := .str (cutS t (some a) none)) ?_ ⟨_, rfl, t1 _ _⟩) (by decide)) fun v H2 ⟨z, hz, hzl⟩ e2 => q v H2 ⟨z, hz, by omega⟩ (e1.trans e2)
      · walk_at "ev"
        exact tz
      · walk_at "ev"
        exact tz
    · refine s_retS (S := IsS (100 + 1 + 100)) (evS_addS (evS_addS (evS_of (v := .str (cutS t none (some a))) ?_ ⟨_, rfl, t1 _ _⟩) (evS_of (ev_var rfl) ⟨c, rfl, hc⟩) (by decide)) (evS_of (v := .str (cutS t (some (a + 1)) none)) ?_ ⟨_, rfl, t1 _ _⟩) (by decide)) fun v H2 ⟨z, hz, hzl⟩ e2 => q v H2 ⟨z, hz, by omega⟩ (e1.trans e2)
      · walk_at "ev"
        exact tz
      · walk_at "ev"
        exact tz
theorem sp_reserved (H : Hp) : SpL spReserved [] H (reserved.map V.str) := fun H1 e Q q E => ⟨rfl, fun p H2 hp e2 h2 => q p H2 hp e2 h2⟩
theorem ok_due (T : Txt K mg fa fd cv) : FnOk P w K mg base CX0 2 (fa 9) (fd 9) ["text"] spIsName := by
  have G_law_reserved := ok_reserved (P := P) (w := w) (base := base) T
  refine T.d_law_due.F.ok sc_law_due (fun vs H Q E h => ?_) (fun cdv A outer s H vs Q E hr h => ?_)
  · obtain ⟨z, rfl, _⟩ := h
    rfl
  · obtain ⟨z, rfl, hz, k⟩ := h
    refine ⟨_, pss_cons (ps_set (i := 1) sc_law_due.nd rfl (Or.inl rfl) pe_str)
      (pss_cons (ps_set (i := 2) sc_law_due.nd rfl (Or.inl rfl) pe_str)
      (pss_cons (ps_if (PW.pt (pw_or (pt_cmpR op_lt (pe_callB call_len_str (by rfl) T.b_len PySem.boot_len (pa_cons (pv 0) pa_nil)) pe_int (nomark _)) (pw_or (pt_cmpR op_gt (pe_callB call_len_str (by rfl) T.b_len PySem.boot_len (pa_cons (pv 0) pa_nil)) pe_int (nomark _)) (pw_or1 (pt_cmpR op_in_seq (pv 0) (pe_call0 G_law_reserved (hr.mono (by decide)) (by rfl) T.d_law_reserved.g T.d_law_reserved.k T.d_law_reserved.b .nil pass0) (by rfl)))))) (pss_one (ps_ret pe_bl)) (pss_nil))
      (pss_cons (ps_for PassesOwn.never rfl (pi_str (pv 0)) (pg_name (i := 3) sc_law_due.nd rfl (Or.inl rfl)) (pss_one (ps_if (PW.pt (pw_and (pt_cmpR op_notIn_sign (pv 3) (pv 1) rfl) (pw_and1 (pt_cmpR op_notIn_sign (pv 3) (pv 2) rfl)))) (pss_one (ps_ret pe_bl)) (pss_nil))))
      (pss_one (ps_ret (pe_cmpR op_in_sign (pe_ix ix_str (pv 0) pe_int (fun _ _ => rfl)) (pv 1) rfl)))))), ?_⟩
    have hl := str_len z
    have hz' : z.length ≤ sizeLine := Nat.le_of_lt (small1000 hz)
    refine q_asg (v := .str letters) ev_c fun H1 e1 => ?_
    refine q_asg (v := .str digits) ev_c fun H2 e2 => ?_
    refine q_when (b := decide ((z.length : Int) < 1) || (decide ((8 : Int) < z.length) || inV (.str z) (reserved.map V.str))) (et_or ?_ fun _ => et_or ?_ fun _ => et_test (ev_opL (ev_var rfl) (el_call ea_nil (sp_reserved _)) fun p H1 h1 e1 => rv_isL (sq_of h1) rfl (by decide +kernel))) (fun hb H3 e3 => ?_) (fun hb H3 e3 => ?_)
    · walk_at "ev"
    · walk_at "ev"
    · have e : isName z = false := by
        unfold isName
        rcases (Bool.or_eq_true _ _).mp hb with q | q
        · rw [decide_eq_false (show ¬ 1 ≤ z.length by have := of_decide_eq_true q; omega)]
          simp only [Bool.false_and]
        · rcases (Bool.or_eq_true _ _).mp q with q | q
          · rw [decide_eq_false (show ¬ z.length ≤ 8 by have := of_decide_eq_true q; omega)]
            simp only [Bool.false_and, Bool.and_false]
          · simp only [q, Bool.not_true, Bool.false_and, Bool.and_false]
      rw [e] at k
      exact s_ret ev_c fun H4 e4 => k H4 (((e1.trans e2).trans e3).trans e4)
    · obtain ⟨b1, b2⟩ := Bool.or_eq_false_iff.mp hb
      obtain ⟨b2, b3⟩ := Bool.or_eq_false_iff.mp b2
      have l1 : 1 ≤ z.length := by have := of_decide_eq_false b1; omega
      have l8 : z.length ≤ 8 := by have := of_decide_eq_false b2; omega
      obtain ⟨c, r, hc⟩ : ∃ c r, z.cps.toList = c :: r := by
        cases e : z.cps.toList with
        | nil => rw [e] at hl; simp at hl; omega
        | cons c r => exact ⟨c, r, rfl⟩
      have hc0 : atI z.cps.toList 0 = some c := atI_zero hc
      have e : isName z = (decide (c ∈ letters.cps.toList) && z.cps.toList.all signOk) := by
        unfold isName firstOk
        rw [hc]
        simp only [b3, decide_eq_true l1, decide_eq_true l8]
        simp only [Bool.not_false, Bool.true_and, Bool.and_true]
      rw [e] at k
      have e0 := (e1.trans e2).trans e3
      refine q_forS (s := z) (ev_var rfl) (fun i σ' H' => ∃ y, σ' = [some (.str z), some (.str letters), some (.str digits), y] ∧ Ex H H' ∧ (z.cps.toList.take i).all signOk = true) (fun H4 e4 => ⟨none, rfl, e0.trans e4, rfl⟩) (fun i c' σ' H' hi ⟨y, hσ, e4, ha⟩ => ?_) (fun σ' H' ⟨y, hσ, e4, ha⟩ => ?_)
      · subst hσ
        refine s_when (b := !decide (c' ∈ letters.cps.toList) && !decide (c' ∈ digits.cps.toList)) (et_and ?_ fun _ => ?_) (fun hb H5 e5 => ?_) (fun hb H5 e5 => ?_)
        · walk_at "ev"
        · walk_at "ev"
        · refine s_ret ev_c fun H6 e6 => ?_
          have e : z.cps.toList.all signOk = false := by
            rw [Bool.eq_false_iff]
            intro h
            have h1 := List.all_eq_true.mp h c' (List.mem_of_getElem? hi)
            unfold signOk at h1
            obtain ⟨b1, b2⟩ := (Bool.and_eq_true _ _).mp hb
            rw [(Bool.not_eq_true' _).mp b1, (Bool.not_eq_true' _).mp b2] at h1
            cases h1
          rw [e, Bool.and_false] at k
          exact k H6 ((e4.trans e5).trans e6)
        · refine ⟨_, rfl, e4.trans e5, ?_⟩
          rw [all_take_succ hi, ha]
          unfold signOk
          rcases Bool.and_eq_false_iff.mp hb with b | b
          · rw [(Bool.not_eq_false' _).mp b]
            rfl
          · rw [(Bool.not_eq_false' _).mp b, Bool.or_true]
            rfl
      · subst hσ
        rw [List.take_length] at ha
        rw [ha, Bool.and_true] at k
        refine s_ret (v := .bl (decide (c ∈ letters.cps.toList))) ?_ fun H5 e5 => k H5 (e4.trans e5)
        exact ev_op (ev_op (ev_var rfl) ev_c (rv_ixS (w := z) (i := 0) (c := c) (by omega) hc0)) (ev_var rfl) rv_inS
theorem sp_is {z : Str} (hz : z.length ≤ 1000) (H : Hp) : SpV spIsName [.str z] H (.bl (isName z)) := fun H1 e Q q E => ⟨z, rfl, hz, fun H2 e2 => q H2 e2⟩
theorem ok_told (T : Txt K mg fa fd cv) : FnOk P w K mg base CX0 3 (fa 10) (fd 10) ["text"] spTold := by
  have G_is_name := ok_is_name (P := P) (w := w) (base := base) T
  have G_law_due := ok_due (P := P) (w := w) (base := base) T
  refine T.d_law_told.F.ok sc_law_told (fun vs H Q E h => ?_) (fun cdv A outer s H vs Q E hr h => ?_)
  · obtain ⟨z, rfl, _⟩ := h
    rfl
  · obtain ⟨z, rfl, hz, k⟩ := h
    refine ⟨_, pss_cons (ps_if (pt_val (pe_call G_law_due (hr.mono (by decide)) (by rfl) T.d_law_due.g T.d_law_due.k T.d_law_due.b .nil pass0 (pa_cons (pv 0) pa_nil))) (pss_one (ps_ret (pe_cmpR op_isBl (pe_call G_is_name (hr.mono (by decide)) (by rfl) T.d_is_name.g T.d_is_name.k T.d_is_name.b .nil pass0 (pa_cons (pv 0) pa_nil)) pe_bl (nomark _)))) (pss_nil))
      (pss_one (ps_ret (pe_cmpR op_isBl (pe_call G_is_name (hr.mono (by decide)) (by rfl) T.d_is_name.g T.d_is_name.k T.d_is_name.b .nil pass0 (pa_cons (pv 0) pa_nil)) pe_bl (nomark _)))), ?_⟩
    refine q_when (b := isName z) (et_test (ev_call (ea_cons (ev_var rfl) ea_nil) (sp_is hz _))) (fun hb H1 e1 => ?_) (fun hb H1 e1 => ?_)
    · refine s_ret (v := .bl (decide (isName z = true))) (ev_op (ev_call (ea_cons (ev_var rfl) ea_nil) (sp_is hz _)) ev_c rv_isB) fun H2 e2 => ?_
      rw [hb]
      exact k H2 (e1.trans e2)
    · refine s_ret (v := .bl (decide (isName z = false))) (ev_op (ev_call (ea_cons (ev_var rfl) ea_nil) (sp_is hz _)) ev_c rv_isB) fun H2 e2 => ?_
      rw [hb]
      exact k H2 (e1.trans e2)
end
def spText : Sp := fun vs H Q _ => ∃ c : Int, vs = [.int c] ∧ ∀ (v : V) H2, IsS 600 v → Ex H H2 → Q v H2
def spNear : Sp := fun vs H Q _ => ∃ c : Int, vs = [.int c] ∧ ∀ (xs : List V) p H2, (∀ x ∈ xs, IsS 600 x) → xs.length = 9 → H p = none → Ex H H2 → H2 p = some (.lst xs) → Q (.ref p) H2
def sizes1 : List Int := [4, 10, 26, 10, 95, 2, 380, 95, 95, 95, 95, 95, 95, 95, 95, 95, 95]
def sizes2 : List Int := [31, 9, 95, 36]
def DigR (ss : List Int) (xs : List V) : Prop := ∃ rs : List Int, xs = rs.map V.int ∧ rs.length = ss.length ∧ ∀ (i : Nat) (s : Int), ss[i]? = some s → 0 ≤ rs.getD i 0 ∧ rs.getD i 0 < s
section
variable {P : Program} {w : World} {K : PySem.W.Frag} {mg : Str → Option Value} {base : Heap} {fa : Nat → Addr} {fd : Nat → FuncData} {cv : Nat → Value}
theorem sp_sign (d : Int) (H : Hp) : SpS spSign [.int d] H (IsE 1) := fun H1 e Q q E => ⟨d, rfl, fun v H2 s e2 => q v H2 s e2⟩
theorem sp_digits {H : Hp} {a : Addr} {c : Int} {ss : List Int} (h : SqL K H a (ss.map V.int)) (hl : ss.length ≤ 100) (hp : ∀ x ∈ ss, 0 < x ∧ x < 1000000) :
    SpLS (spDigits K) [.int c, .ref a] H (DigR ss) := fun Q q E =>
  ⟨a, c, ss, rfl, h, hl, hp, fun rs p H2 h1 h2 h3 h4 h5 => q _ p H2 ⟨rs, rfl, h1, h2⟩ h3 h4 h5⟩
theorem sp_changed {t : Str} {a : Int} {m : Bool} (ht : t.length ≤ 100) (H : Hp) (vs : List V) (h : ∃ c : Str, vs = [.str t, .int a, .str c, .bl m] ∧ c.length ≤ 1) : SpS spChanged vs H (IsS 500) := fun H1 e Q q E => by
  obtain ⟨c, rfl, hc⟩ := h
  exact ⟨t, c, a, m, rfl, ht, hc, fun v H2 s e2 => q v H2 s e2⟩
theorem ok_text (T : Txt K mg fa fd cv) : FnOk P w K mg base CX0 2 (fa 7) (fd 7) ["cell"] spText := by
  have G_law_digits := ok_digits (P := P) (w := w) (base := base) T
  have G_law_sign := ok_sign (P := P) (w := w) (base := base) T
  have G_law_char := ok_char (P := P) (w := w) (base := base) T
  have G_law_changed := ok_changed (P := P) (w := w) (base := base) T
  refine T.d_law_text.F.ok sc_law_text (fun vs H Q E h => ?_) (fun cdv A outer s H vs Q E hr h => ?_)
  · obtain ⟨c, rfl, _⟩ := h
    rfl
  · obtain ⟨c, rfl, q⟩ := h
    refine ⟨_, pss_cons (ps_set (i := 1) sc_law_text.nd rfl (Or.inr rfl) (pe_call G_law_digits (hr.mono (by decide)) (by rfl) T.d_law_digits.g T.d_law_digits.k T.d_law_digits.b .nil pass0 (pa_cons (pv 0) (pa_cons (pe_op op_cat (pe_lst (pa_cons pe_int (pa_cons pe_int (pa_cons pe_int (pa_cons pe_int (pa_cons pe_int (pa_cons pe_int (pa_cons pe_int pa_nil)))))))) (pe_op op_rep (pe_lst (pa_cons pe_int pa_nil)) pe_int)) pa_nil))))
      (pss_cons (ps_set (i := 2) sc_law_text.nd rfl (Or.inl rfl) (pe_call G_law_sign (hr.mono (by decide)) (by rfl) T.d_law_sign.g T.d_law_sign.k T.d_law_sign.b .nil pass0 (pa_cons (pe_ix ix_list (pv 1) pe_int (fun _ _ => rfl)) pa_nil)))
      (pss_cons (ps_for PassesOwn.never rfl (pi_range1 (by rfl) T.b_range (pa_cons (pe_ix ix_list (pv 1) pe_int (fun _ _ => rfl)) pa_nil)) (pg_name (i := 3) sc_law_text.nd rfl (Or.inl rfl)) (pss_one (ps_set (i := 2) sc_law_text.nd rfl (Or.inl rfl) (pe_op op_add_str (pv 2) (pe_call G_law_sign (hr.mono (by decide)) (by rfl) T.d_law_sign.g T.d_law_sign.k T.d_law_sign.b .nil pass0 (pa_cons (pe_ix ix_list (pv 1) (pe_op op_add pe_int (pv 3)) (fun _ _ => rfl)) pa_nil))))))
      (pss_cut (ps_if (pt_cmpR op_eq (pe_ix ix_list (pv 1) pe_int (fun _ _ => rfl)) pe_int (nomark _)) (pss_one (ps_set (i := 2) sc_law_text.nd rfl (Or.inl rfl) (pe_call G_law_changed (hr.mono (by decide)) (by rfl) T.d_law_changed.g T.d_law_changed.k T.d_law_changed.b .nil pass0 (pa_cons (pv 2) (pa_cons (pe_op op_mod (pe_callTy call_int1 (by rfl) T.b_int PyProof.Rows.boot_int (pa_cons (pe_ix ix_list (pv 1) pe_int (fun _ _ => rfl)) pa_nil)) (pe_callB call_len_str (by rfl) T.b_len PySem.boot_len (pa_cons (pv 2) pa_nil))) (pa_cons (pe_call G_law_char (hr.mono (by decide)) (by rfl) T.d_law_char.g T.d_law_char.k T.d_law_char.b .nil pass0 (pa_cons (pe_ix ix_list (pv 1) pe_int (fun _ _ => rfl)) pa_nil)) (pa_cons (pe_cmpR op_eq (pe_ix ix_list (pv 1) pe_int (fun _ _ => rfl)) pe_int (nomark _)) pa_nil))))))) (pss_nil))
      (pss_cut (ps_if (pt_cmpR op_eq (pe_ix ix_list (pv 1) pe_int (fun _ _ => rfl)) pe_int (nomark _)) (pss_one (ps_set (i := 2) sc_law_text.nd rfl (Or.inl rfl) (pe_join pe_str (pe_slice sl_list (pe_lc (own := [("k", 3)]) (g := gName 3) rfl sc_law_text.nd (pi_range1 (by rfl) T.b_range (pa_cons (pe_op op_add (pe_ix ix_list (pv 1) pe_int (fun _ _ => rfl)) (pe_ix ix_list (pv 1) pe_int (fun _ _ => rfl))) pa_nil)) (blkOk_by (own := [("k", 3)]) (N := N_law_text) (sc := defScope s_law_text) (by decide +kernel)) (fun _ _ _ _ _ => pg_name (i := 3) sc_law_text.nd rfl (Or.inl rfl)) (fun _ _ _ _ _ => pts_nil) (fun _ _ _ _ _ => (pe_call G_law_char (hr.mono (by decide)) (by rfl) T.d_law_char.g T.d_law_char.k T.d_law_char.b .nil pass0 (pa_cons (pe_ix (r := rIxL K) (by exact ix_list) (pv 1) (pe_op op_add pe_int (pv 3)) (fun _ _ => rfl)) pa_nil)))) po_none (po_some pe_int))))) (pss_nil))
      (pss_cut (ps_if (pt_cmpR op_eq (pe_ix ix_list (pv 1) pe_int (fun _ _ => rfl)) pe_int (nomark _)) (pss_one (ps_for PassesOwn.never rfl (pi_range1 (by rfl) T.b_range (pa_cons (pe_op op_sub (pe_op op_add pe_int (pe_ix ix_list (pv 1) pe_int (fun _ _ => rfl))) (pe_ix ix_list (pv 1) pe_int (fun _ _ => rfl))) pa_nil)) (pg_name (i := 3) sc_law_text.nd rfl (Or.inl rfl)) (pss_one (ps_set (i := 2) sc_law_text.nd rfl (Or.inl rfl) (pe_op op_add_str (pv 2) (pe_call G_law_sign (hr.mono (by decide)) (by rfl) T.d_law_sign.g T.d_law_sign.k T.d_law_sign.b .nil pass0 (pa_cons (pe_op op_add (pe_ix ix_list (pv 1) (pe_op op_add pe_int (pe_op op_mod (pv 3) pe_int)) (fun _ _ => rfl)) (pe_op op_fdiv (pv 3) pe_int)) pa_nil))))))) (pss_nil))
      (pss_one (ps_ret (pv 2)))))))), ?_⟩
    -- row
    refine q_asgLS (R := DigR sizes1) (elS_call (eaH_cons (evS_of (ev_var rfl) (S := fun v => v = .int c) rfl) (eaH_consL (el_cat (el_lst (ea_cons ev_c (ea_cons ev_c (ea_cons ev_c (ea_cons ev_c (ea_cons ev_c (ea_cons ev_c (ea_cons ev_c ea_nil))))))) (by decide)) (el_rep (el_lst (ea_cons ev_c ea_nil) (by decide)) ev_c (by decide) (by decide) (by decide)) (by decide)) (eaH_of ea_nil (P := fun vs _ => vs = []) fun _ _ => rfl)))
      fun vs H1 e1 ⟨v, _, hvs, hv, p, _, hr, hp, hn⟩ => by subst hvs hv hr hn; exact sp_digits (ss := sizes1) (sq_of hp) (by decide) (by decide)) fun xs r H2 ⟨rs, hxs, hl, hrg⟩ hr0 e0 h2 => ?_
    subst hxs
    have hl : rs.length = 17 := hl
    have b0 := hrg 0 4 rfl
    have b1 := hrg 1 10 rfl
    have b3 := hrg 3 10 rfl
    have b5 := hrg 5 2 rfl
    have b6 := hrg 6 380 rfl
    have hR : SqL K H2 r (rs.map V.int) := sq_of h2
    -- text = _law_sign(row[2])
    refine q_asgS (S := IsE 1) (evS_call (vs := [.int (rs.getD 2 0)]) ?_ (sp_sign _ _)) fun v H3 ⟨z, hv, hz⟩ e3 => ?_
    · walk_at "ev"
    subst hv
    have hR3 := ex_l e3 hR
    refine q_forR1 (n := rs.getD 1 0) ?_ ⟨b1.1, by have := b1.2; omega⟩ (fun i σ' H' => ∃ (z : Str) (y : Option V), σ' = [some (.int c), some (.ref r), some (.str z), y] ∧ Ex H H' ∧ SqL K H' r (rs.map V.int) ∧ z.length = 1 + i) (fun H4 e4 => ⟨z, none, rfl, (e0.trans e3).trans e4, ex_l e4 hR3, hz⟩) (fun i σ' H' hi ⟨z, y, hσ, e4, hR4, hz⟩ => ?_) (fun σ' H' ⟨z, y, hσ, e4, hR4, hz⟩ => ?_)
    · walk_at "ev"
    · subst hσ
      have := b1.2
      refine s_asgS (S := IsE (1 + i + 1)) (evS_addE (evS_of (ev_var rfl) ⟨z, rfl, hz⟩) (evS_call (vs := [.int (rs.getD (7 + (i : Int)).toNat 0)]) ?_ (sp_sign _ _)) (by omega)) fun v H5 ⟨z2, hv, hz2⟩ e5 => ?_
      · walk_at "ev"
      subst hv
      exact ⟨z2, _, rfl, e4.trans e5, ex_l e5 hR4, hz2⟩
    subst hσ
    have hz1 : 1 ≤ z.length := by omega
    have hz9 : z.length ≤ 10 := by have := b1.2; omega
    -- if row[0] == 1: text = _law_changed(..)
    refine q_cut (M := fun σ' H' => ∃ (z : Str) (y : Option V), σ' = [some (.int c), some (.ref r), some (.str z), y] ∧ Ex H H' ∧ SqL K H' r (rs.map V.int) ∧ (rs.getD 0 0 = 3 → z.length ≤ 10) ∧ z.length ≤ 500) ?_ fun σ' H5 ⟨z1, y1, hσ, e5, hR5, hz5⟩ => ?_
    · refine s_when (b := decide (rs.getD 0 0 = 1)) ?_ (fun hb H5 e5 => ?_) (fun hb H5 e5 => ⟨z, y, rfl, e4.trans e5, ex_l e5 hR4, fun _ => by omega, by omega⟩)
      · walk_at "ev"
      · have hR5 := ex_l e5 hR4
        refine s_asgS (S := IsS 500) (evS_callS (R := fun vs => ∃ cc : Str, vs = [.str z, .int (rs.getD 3 0 % (z.length : Int)), .str cc, .bl (decide (rs.getD 5 0 = 1))] ∧ cc.length ≤ 1) ?_ fun vs hv => ?_) fun v H6 ⟨z6, hv, hz6⟩ e6 => ?_
        · refine eaS_weak (eaS_cons (evS_of (ev_var rfl) (S := fun v => v = .str z) rfl) (eaS_cons (evS_of (v := .int (rs.getD 3 0 % (z.length : Int))) ?_ (S := fun v => v = .int (rs.getD 3 0 % (z.length : Int))) rfl) (eaS_cons (evS_call (vs := [.int (rs.getD 4 0)]) ?_ (sp_sign _ _)) (eaS_cons (evS_of (v := .bl (decide (rs.getD 5 0 = 1))) ?_ (S := fun v => v = .bl (decide (rs.getD 5 0 = 1))) rfl) eaS_nil)))) fun vs ⟨v1, _, h1, e1, v2, _, h2, e2, v3, _, h3, ⟨cc, e3, l3⟩, v4, _, h4, e4, h5⟩ => ⟨cc, by rw [h1, e1, h2, e2, h3, e3, h4, e4, h5], by omega⟩
          · walk_at "ev"
          · walk_at "ev"
          · walk_at "ev"
        · obtain ⟨cc, rfl, hc⟩ := hv
          exact sp_changed (by omega) _ _ ⟨cc, rfl, hc⟩
        · subst hv
          exact ⟨z6, y, rfl, (e4.trans e5).trans e6, ex_l e6 hR5, fun h3 => by have := of_decide_eq_true hb; omega, hz6⟩
    subst hσ
    refine q_cut (M := fun σ' H' => ∃ (z : Str) (y : Option V), σ' = [some (.int c), some (.ref r), some (.str z), y] ∧ Ex H H' ∧ SqL K H' r (rs.map V.int) ∧ (rs.getD 0 0 = 3 → z.length ≤ 10) ∧ z.length ≤ 500) ?_ fun σ' H6 ⟨z2, y2, hσ, e6, hR6, hz6⟩ => ?_
    · refine s_when (b := decide (rs.getD 0 0 = 2)) ?_ (fun hb H6 e6 => ?_) (fun hb H6 e6 => ⟨z1, y1, rfl, e5.trans e6, ex_l e6 hR5, hz5⟩)
      · walk_at "ev"
      · have hR6 := ex_l e6 hR5
        have e7 := e5.trans e6
        have p1 := b1.1; have p2 := b1.2; have p3 := b5.1; have p4 := b5.2
        refine s_asgS (evS_joinL (m := 10) (n := 1) ev_c (elS_sl (R' := fun xs => xs.length ≤ 10 ∧ ∀ x ∈ xs, IsS 1 x) (elS_lcR1 (n := rs.getD 1 0 + rs.getD 5 0) (S := IsE 1) ?_ (by omega) (fun _ => rfl) fun i H7 e7 hi => evS_call (vs := [.int (rs.getD (7 + (i : Int)).toNat 0)]) ?_ (sp_sign _ _)) eo_none (eo_some ev_c) fun xs hx => ?_) (fun xs hx => hx) (by decide)) fun v H7 ⟨z7, hv, hz7⟩ e8 => ?_
        · walk_at "ev"
        · have hR7 := ex_l e7 hR6
          walk_at "ev"
        · refine ⟨cut_le xs 10, fun x h => (hx.2 x (mem_cut h)).toS (by decide)⟩
        · subst hv
          exact ⟨z7, _, rfl, e7.trans e8, ex_l e8 hR6, fun h3 => by have := of_decide_eq_true hb; omega, Nat.le_trans hz7 (by decide)⟩
    subst hσ
    refine q_cut (M := fun σ' H' => ∃ (z : Str) (y : Option V), σ' = [some (.int c), some (.ref r), some (.str z), y] ∧ Ex H H' ∧ z.length ≤ 600) ?_ fun σ' H7 ⟨z3, y3, hσ, e7, hz7⟩ => ?_
    · refine s_when (b := decide (rs.getD 0 0 = 3)) ?_ (fun hb H7 e7 => ?_) (fun hb H7 e7 => ⟨z2, y2, rfl, e6.trans e7, by omega⟩)
      · walk_at "ev"
      · have hR7 := ex_l e7 hR6
        have e8 := e6.trans e7
        have p1 := b1.1; have p2 := b1.2; have p3 := b6.1; have p4 := b6.2
        have h10 := hz6.1 (of_decide_eq_true hb)
        refine s_forR1 (n := 19 + rs.getD 6 0 - rs.getD 1 0) ?_ (by omega) (fun i σ' H' => ∃ (z : Str) (y : Option V), σ' = [some (.int c), some (.ref r), some (.str z), y] ∧ Ex H H' ∧ SqL K H' r (rs.map V.int) ∧ z.length ≤ 10 + i) (fun H8 e9 => ⟨z2, y2, rfl, e8.trans e9, ex_l e9 hR7, by omega⟩) (fun i σ' H' hi ⟨z4, y4, hσ, e9, hR8, hz8⟩ => ?_) (fun σ' H' ⟨z4, y4, hσ, e9, hR8, hz8⟩ => ⟨z4, y4, hσ, e9, by omega⟩)
        · walk_at "ev"
        · subst hσ
          refine s_asgS (S := IsS (10 + i + 1)) (evS_addS (evS_of (ev_var rfl) ⟨z4, rfl, hz8⟩) ((evS_call (vs := [.int (rs.getD (7 + (i : Int) % 10).toNat 0 + (i : Int) / 10)]) ?_ (sp_sign _ _)).weak fun v h => h.toS (Nat.le_refl _)) (by omega)) fun v H9 ⟨z9, hv, hz9⟩ e10 => ?_
          · walk_at "ev"
          subst hv
          exact ⟨z9, _, rfl, e9.trans e10, ex_l e10 hR8, by omega⟩
    subst hσ
    exact s_ret (ev_var rfl) fun H8 e8 => q _ H8 ⟨z3, rfl, hz7⟩ (e7.trans e8)
end
section
variable {P : Program} {w : World} {K : PySem.W.Frag} {mg : Str → Option Value} {base : Heap} {fa : Nat → Addr} {fd : Nat → FuncData} {cv : Nat → Value}
theorem res_len : ∀ j : Nat, j < 31 → 1 ≤ (reserved.getD j "").length ∧ (reserved.getD j "").length ≤ 9 := by decide +kernel
theorem res_at {i : Int} (h0 : 0 ≤ i) (h1 : i < 31) : atI (reserved.map V.str) i = some (.str (reserved.getD i.toNat "")) := by
  obtain ⟨j, rfl⟩ : ∃ j : Nat, i = (j : Int) := ⟨i.toNat, by omega⟩
  refine at_map (f := V.str) ?_
  rw [List.getD_eq_getElem?_getD, Int.toNat_natCast]
  have : j < reserved.length := by
    show j < 31
    omega
  rw [List.getElem?_eq_getElem this]
  rfl
theorem sp_text (c : Int) (H : Hp) : SpS spText [.int c] H (IsS 600) := fun H1 e Q q E => ⟨c, rfl, fun v H2 s e2 => q v H2 s e2⟩
theorem sp_cell {a : Addr} {ns : List Int} {k : Int} {H : Hp} (h : SqL K H a (ns.map V.int)) (hn : ns.length ≤ 63) (h0 : 0 ≤ k) (h1 : k < 1000) : SpS (spCell K) [.ref a, .int k] H (fun v => ∃ i : Int, v = .int i) := fun H1 e Q q E => ⟨a, ns, k, rfl, ex_l e h, hn, h0, h1, fun i H2 e2 => q _ H2 ⟨i, rfl⟩ e2⟩
theorem ok_near (T : Txt K mg fa fd cv) : FnOk P w K mg base CX0 2 (fa 8) (fd 8) ["cell"] spNear := by
  have G_law_digits := ok_digits (P := P) (w := w) (base := base) T
  have G_law_reserved := ok_reserved (P := P) (w := w) (base := base) T
  have G_law_sign := ok_sign (P := P) (w := w) (base := base) T
  have G_law_char := ok_char (P := P) (w := w) (base := base) T
  have G_law_changed := ok_changed (P := P) (w := w) (base := base) T
  refine T.d_law_near.F.ok sc_law_near (fun vs H Q E h => ?_) (fun cdv A outer s H vs Q E hr h => ?_)
  · obtain ⟨c, rfl, _⟩ := h
    rfl
  · obtain ⟨c, rfl, q⟩ := h
    refine ⟨_, pss_cons (ps_set (i := 1) sc_law_near.nd rfl (Or.inl rfl) (pe_call G_law_digits (hr.mono (by decide)) (by rfl) T.d_law_digits.g T.d_law_digits.k T.d_law_digits.b .nil pass0 (pa_cons (pv 0) (pa_cons (pe_lst (pa_cons pe_int (pa_cons pe_int (pa_cons pe_int (pa_cons pe_int pa_nil))))) pa_nil))))
      (pss_cons (ps_set (i := 2) sc_law_near.nd rfl (Or.inl rfl) (pe_ix ix_list (pe_call0 G_law_reserved (hr.mono (by decide)) (by rfl) T.d_law_reserved.g T.d_law_reserved.k T.d_law_reserved.b .nil pass0) (pe_ix ix_list (pv 1) pe_int (fun _ _ => rfl)) (fun _ _ => rfl)))
      (pss_cons (ps_set (i := 3) sc_law_near.nd rfl (Or.inl rfl) (pe_op op_mod (pe_callTy call_int1 (by rfl) T.b_int PyProof.Rows.boot_int (pa_cons (pe_ix ix_list (pv 1) pe_int (fun _ _ => rfl)) pa_nil)) (pe_callB call_len_str (by rfl) T.b_len PySem.boot_len (pa_cons (pv 2) pa_nil))))
      (pss_cons (ps_set (i := 4) sc_law_near.nd rfl (Or.inl rfl) (pe_lst (pa_cons (pv 2) (pa_cons (pe_op op_add_str (pv 2) (pe_call G_law_char (hr.mono (by decide)) (by rfl) T.d_law_char.g T.d_law_char.k T.d_law_char.b .nil pass0 (pa_cons (pe_ix ix_list (pv 1) pe_int (fun _ _ => rfl)) pa_nil))) (pa_cons (pe_op op_add_str (pv 2) (pe_call G_law_sign (hr.mono (by decide)) (by rfl) T.d_law_sign.g T.d_law_sign.k T.d_law_sign.b .nil pass0 (pa_cons (pe_ix ix_list (pv 1) pe_int (fun _ _ => rfl)) pa_nil))) (pa_cons (pe_op op_add_str (pe_call G_law_char (hr.mono (by decide)) (by rfl) T.d_law_char.g T.d_law_char.k T.d_law_char.b .nil pass0 (pa_cons (pe_ix ix_list (pv 1) pe_int (fun _ _ => rfl)) pa_nil)) (pv 2)) pa_nil))))))
      (pss_cons (ps_set (i := 4) sc_law_near.nd rfl (Or.inl rfl) (pe_op op_cat (pv 4) (pe_lst (pa_cons (pe_op op_add_str (pe_call G_law_sign (hr.mono (by decide)) (by rfl) T.d_law_sign.g T.d_law_sign.k T.d_law_sign.b .nil pass0 (pa_cons (pe_ix ix_list (pv 1) pe_int (fun _ _ => rfl)) pa_nil)) (pv 2)) (pa_cons (pe_slice sl_str (pv 2) (po_some pe_int) po_none) (pa_cons (pe_slice sl_str (pv 2) po_none (po_some (pe_op op_sub (pe_callB call_len_str (by rfl) T.b_len PySem.boot_len (pa_cons (pv 2) pa_nil)) pe_int))) pa_nil))))))
      (pss_cons (ps_expr (pe_bm PySem.F.plainAttrs_list PySem.F.slot_list_append PySem.F.type_list_append mt_append (pv 4) (pa_cons (pe_call G_law_changed (hr.mono (by decide)) (by rfl) T.d_law_changed.g T.d_law_changed.k T.d_law_changed.b .nil pass0 (pa_cons (pv 2) (pa_cons (pv 3) (pa_cons (pe_call G_law_char (hr.mono (by decide)) (by rfl) T.d_law_char.g T.d_law_char.k T.d_law_char.b .nil pass0 (pa_cons (pe_ix ix_list (pv 1) pe_int (fun _ _ => rfl)) pa_nil)) (pa_cons pe_bl pa_nil))))) pa_nil)))
      (pss_cons (ps_expr (pe_bm PySem.F.plainAttrs_list PySem.F.slot_list_append PySem.F.type_list_append mt_append (pv 4) (pa_cons (pe_call G_law_changed (hr.mono (by decide)) (by rfl) T.d_law_changed.g T.d_law_changed.k T.d_law_changed.b .nil pass0 (pa_cons (pv 2) (pa_cons (pv 3) (pa_cons (pe_call G_law_sign (hr.mono (by decide)) (by rfl) T.d_law_sign.g T.d_law_sign.k T.d_law_sign.b .nil pass0 (pa_cons (pe_ix ix_list (pv 1) pe_int (fun _ _ => rfl)) pa_nil)) (pa_cons pe_bl pa_nil))))) pa_nil)))
      (pss_one (ps_ret (pv 4))))))))), ?_⟩
    refine q_asgLS (R := DigR sizes2) (elS_call (eaH_cons (evS_of (ev_var rfl) (S := fun v => v = .int c) rfl) (eaH_consL (el_lst (ea_cons ev_c (ea_cons ev_c (ea_cons ev_c (ea_cons ev_c ea_nil)))) (by decide)) (eaH_of ea_nil (P := fun vs _ => vs = []) fun _ _ => rfl)))
      fun vs H1 e1 ⟨v, _, hvs, hv, p, _, hr, hp, hn⟩ => by subst hvs hv hr hn; exact sp_digits (ss := sizes2) (sq_of hp) (by decide) (by decide)) fun xs r H2 ⟨rs, hxs, hl, hrg⟩ hr0 e0 h2 => ?_
    subst hxs
    have hl : rs.length = 4 := hl
    have b0 := hrg 0 31 rfl
    have b1 := hrg 1 9 rfl
    have hR : SqL K H2 r (rs.map V.int) := sq_of h2
    -- word
    have hw := res_len (rs.getD 0 0).toNat (by omega)
    generalize hword : reserved.getD (rs.getD 0 0).toNat "" = word at hw
    refine q_asg (v := .str word) ?_ fun H3 e3 => ?_
    · rw [← hword]
      refine ev_opL1 (y := .int (rs.getD 0 0)) (el_call ea_nil (sp_reserved _)) (fun H3 e3 => ?_) (fun p H3 h3 e3 => rv_ixL (sq_of h3) (res_at b0.1 b0.2))
      have hR3 := ex_l e3 hR
      walk_at "ev"
    have hR3 := ex_l e3 hR
    have e03 := e0.trans e3
    refine q_asg (v := .int (rs.getD 1 0 % (word.length : Int))) ?_ fun H4 e4 => ?_
    · walk_at "ev"
    have hR4 := ex_l e4 hR3
    have e04 := e03.trans e4
    -- texts = [..]
    have wd : EvS (tVar 2) _ H4 (IsS 9) := evS_of (σ := [some (.int c), some (.ref r), some (.str word), some (.int (rs.getD 1 0 % (word.length : Int))), none]) (ev_var rfl) ⟨word, rfl, hw.2⟩
    refine q_asgLS (R := fun xs => xs.length = 4 ∧ ∀ x ∈ xs, IsS 600 x) (elS_lst (eaS_weak (eaS_cons wd (eaS_cons (evS_addS wd ((evS_call (vs := [.int (rs.getD 2 0)]) ?_ (sp_sign _ _)).weak fun v h => h.toS (Nat.le_refl _)) (by decide)) (eaS_cons (evS_addS wd ((evS_call (vs := [.int (rs.getD 3 0)]) ?_ (sp_sign _ _)).weak fun v h => h.toS (Nat.le_refl _)) (by decide)) (eaS_cons (evS_addS ((evS_call (vs := [.int (rs.getD 2 0)]) ?_ (sp_sign _ _)).weak fun v h => h.toS (Nat.le_refl _)) wd (by decide)) eaS_nil)))) fun vs hv => ?_) (fun vs hv => by rw [hv.1]; decide)) fun xs l5 H5 ⟨hx4, hxs⟩ hl5 e5 h5 => ?_
    · walk_at "ev"
    · walk_at "ev"
    · walk_at "ev"
    · obtain ⟨v1, _, rfl, s1, v2, _, rfl, s2, v3, _, rfl, s3, v4, _, rfl, s4, rfl⟩ := hv
      refine ⟨rfl, fun x hx => ?_⟩
      simp only [List.mem_cons, List.not_mem_nil, or_false] at hx
      rcases hx with rfl | rfl | rfl | rfl
      · exact s1.up (by decide)
      · exact s2.up (by decide)
      · exact s3.up (by decide)
      · exact s4.up (by decide)
    have hR5 := ex_l e5 hR4
    have e05 := e04.trans e5
    have wd : EvS (tVar 2) _ H5 (IsS 9) := evS_of (σ := [some (.int c), some (.ref r), some (.str word), some (.int (rs.getD 1 0 % (word.length : Int))), some (.ref l5)]) (ev_var rfl) ⟨word, rfl, hw.2⟩
    have wsz : word.length ≤ sizeLine := sz_of (by omega)
    refine q_asgLS (R := fun xs => xs.length = 7 ∧ ∀ x ∈ xs, IsS 600 x) (elS_catV (R := fun xs => xs.length = 3 ∧ ∀ x ∈ xs, IsS 600 x) (ev_var rfl) h5 (elS_lst (eaS_weak (eaS_cons (evS_addS ((evS_call (vs := [.int (rs.getD 3 0)]) ?_ (sp_sign _ _)).weak fun v h => h.toS (Nat.le_refl _)) wd (by decide)) (eaS_cons (evS_of (v := .str (cutS word (some 1) none)) ?_ (S := IsS 9) ⟨_, rfl, Nat.le_trans (cutS_length _ _ _) hw.2⟩) (eaS_cons (evS_of (v := .str (cutS word none (some ((word.length : Int) - 1)))) ?_ (S := IsS 9) ⟨_, rfl, Nat.le_trans (cutS_length _ _ _) hw.2⟩) eaS_nil))) fun vs hv => ?_) (fun vs hv => by rw [hv.1]; decide)) fun ys hy => ⟨by omega, by rw [List.length_append]; omega, fun x hx => ?_⟩) fun xs l6 H6 ⟨hx6, hxs6⟩ hl6 e6 h6 => ?_
    · walk_at "ev"
    · walk_at "ev"
      exact wsz
    · walk_at "ev"
      exact wsz
    · obtain ⟨v1, _, rfl, s1, v2, _, rfl, s2, v3, _, rfl, s3, rfl⟩ := hv
      refine ⟨rfl, fun x hx => ?_⟩
      simp only [List.mem_cons, List.not_mem_nil, or_false] at hx
      rcases hx with rfl | rfl | rfl
      · exact s1.up (by decide)
      · exact s2.up (by decide)
      · exact s3.up (by decide)
    · rcases List.mem_append.mp hx with hx | hx
      · exact hxs x hx
      · exact hy.2 x hx
    have hR6 := ex_l e6 hR5
    have e06 := e05.trans e6
    have hl6' := fresh_back e05 hl6
    -- texts.append(..) twice
    have ch : ∀ (i : Int) (H' : Hp) (σ : L2.St), σ[1]? = some (some (V.ref r)) → σ[2]? = some (some (V.str word)) → σ[3]? = some (some (V.int (rs.getD 1 0 % (word.length : Int)))) → SqL K H' r (rs.map V.int) → 2 ≤ i → i < 4 →
        EvS (tCall spChanged [] E0 (tCons (tVar 2) (tCons (tVar 3) (tCons (tCall spSign [] E0 (tCons (tOp (rIxL K) (tVar 1) (tC (V.int i))) tNil)) (tCons (tC (V.bl false)) tNil))))) σ H' (IsS 600) := fun i H' σ s1 s2 s3 hS i0 i1 => by
      refine (evS_callS (R := fun vs => ∃ cc : Str, vs = [.str word, .int (rs.getD 1 0 % (word.length : Int)), .str cc, .bl false] ∧ cc.length ≤ 1) ?_ fun vs hv => ?_).weak fun v (h : IsS 500 v) => h.up (by decide)
      · refine eaS_weak (eaS_cons (evS_of (ev_var s2) (S := fun v => v = .str word) rfl) (eaS_cons (evS_of (ev_var s3) (S := fun v => v = .int (rs.getD 1 0 % (word.length : Int))) rfl) (eaS_cons (evS_call (vs := [.int (rs.getD i.toNat 0)]) (ea_cons (ev_op (ev_var s1) ev_c (rv_ixL hS (at_intsI (by omega) (by omega)))) ea_nil) (sp_sign _ _)) (eaS_cons (evS_of ev_c (S := fun v => v = .bl false) rfl) eaS_nil)))) fun vs ⟨v1, _, h1, e1, v2, _, h2, e2, v3, _, h3, ⟨cc, e3, l3⟩, v4, _, h4, e4, h5⟩ => ⟨cc, by rw [h1, e1, h2, e2, h3, e3, h4, e4, h5], by omega⟩
      · obtain ⟨cc, rfl, hc⟩ := hv
        exact sp_changed (by omega) _ _ ⟨cc, rfl, hc⟩
    refine q_appS h6 (ev_var rfl) (ch 2 H6 _ rfl rfl rfl hR6 (by decide) (by decide)) (by omega) fun v7 H7 s7 e7 => ?_
    have e08 : Ex H (upd H7 l6 (.lst (xs ++ [v7]))) := Ex.mut (e06.trans e7) hl6'
    have hr8 : SqL K (upd H7 l6 (.lst (xs ++ [v7]))) r (rs.map V.int) := by
      refine sq_of ?_
      rw [upd_ne (ne_of_none (e5 _ _ (e4 _ _ (e3 _ _ h2))) hl6)]
      exact e7 _ _ (e6 _ _ (e5 _ _ (e4 _ _ (e3 _ _ h2))))
    refine q_appS upd_same (ev_var rfl) (ch 3 _ _ rfl rfl rfl hr8 (by decide) (by decide)) (by rw [List.length_append]; show xs.length + 1 < 100000; omega) fun v8 H8 s8 e8 => ?_
    have e09 : Ex H (upd H8 l6 (.lst (xs ++ [v7] ++ [v8]))) := Ex.mut (e08.trans e8) hl6'
    refine s_ret (ev_var rfl) fun H9 e9 => q (xs ++ [v7] ++ [v8]) l6 H9 (fun x hx => ?_) (by rw [List.length_append, List.length_append]; show xs.length + 1 + 1 = 9; omega) hl6' (e09.trans e9) (e9 _ _ upd_same)
    rcases List.mem_append.mp hx with hx | hx
    · rcases List.mem_append.mp hx with hx | hx
      · exact hxs6 x hx
      · rw [List.mem_singleton.mp hx]; exact s7
    · rw [List.mem_singleton.mp hx]; exact s8
end
def spLaw (K : PySem.W.Frag) : Sp := fun vs H Q _ => ∃ (a : Addr) (ns : List Int), vs = [.ref a] ∧ SqL K H a (ns.map V.int) ∧ ns.length ≤ 63 ∧ ∀ H', Q (.bl true) H'
section
variable {P : Program} {w : World} {K : PySem.W.Frag} {mg : Str → Option Value} {base : Heap} {fa : Nat → Addr} {fd : Nat → FuncData} {cv : Nat → Value}
theorem sp_near (c : Int) (H : Hp) : SpLS spNear [.int c] H (fun xs => xs.length = 9 ∧ ∀ x ∈ xs, IsS 600 x) := fun Q q E => ⟨c, rfl, fun xs p H2 h1 h2 h3 h4 h5 => q xs p H2 ⟨h2, h1⟩ h3 h4 h5⟩
theorem sp_told {z : Str} (hz : z.length ≤ 1000) (H : Hp) : SpV spTold [.str z] H (.bl true) := fun H1 e Q q E => ⟨z, rfl, hz, fun H2 e2 => q H2 e2⟩
theorem ok_law (T : Txt K mg fa fd cv) : FnOk P w K mg base CX0 4 (fa 11) (fd 11) ["script"] (spLaw K) := by
  have G_law_text := ok_text (P := P) (w := w) (base := base) T
  have G_law_cell := ok_cell (P := P) (w := w) (base := base) T
  have G_law_near := ok_near (P := P) (w := w) (base := base) T
  have G_law_told := ok_told (P := P) (w := w) (base := base) T
  refine T.d_law.F.ok sc_law (fun vs H Q E h => ?_) (fun cdv A outer s H vs Q E hr h => ?_)
  · obtain ⟨a, ns, rfl, _⟩ := h
    rfl
  · obtain ⟨a, ns, rfl, hS, hn, q⟩ := h
    refine ⟨_, pss_cons (ps_set (i := 1) sc_law.nd rfl (Or.inr rfl) (pe_call G_law_text (hr.mono (by decide)) (by rfl) T.d_law_text.g T.d_law_text.k T.d_law_text.b .nil pass0 (pa_cons (pe_call G_law_cell (hr.mono (by decide)) (by rfl) T.d_law_cell.g T.d_law_cell.k T.d_law_cell.b .nil pass0 (pa_cons (pv 0) (pa_cons pe_int pa_nil))) pa_nil)))
      (pss_cons (ps_setLc (i := 3) (own := [("k", 2)]) (g := gName 2) rfl sc_law.nd rfl rfl (sw_true rfl rfl rfl (by decide +kernel)) (pi_range1 (by rfl) T.b_range (pa_cons (pe_op op_add (pe_callB (call_min2 rfl) (by rfl) T.b_min (by decide +kernel) (pa_cons pe_int (pa_cons (pe_callB call_len_str (by rfl) T.b_len PySem.boot_len (pa_cons (pv 1) pa_nil)) pa_nil))) pe_int) pa_nil)) (blkOk_by (own := [("k", 2)]) (N := N_law) (sc := defScope s_law) (by decide +kernel)) (fun _ _ _ _ _ => pg_name (i := 2) sc_law.nd rfl (Or.inl rfl)) (fun _ _ _ _ _ => pts_nil) (fun _ _ _ _ _ => (pe_slice sl_str (pv 1) po_none (po_some (pv 2)))))
      (pss_cons (ps_expr (pe_bm PySem.F.plainAttrs_list PySem.F.slot_list_append PySem.F.type_list_append mt_append (pv 3) (pa_cons (pv 1) pa_nil)))
      (pss_cons (ps_for PassesOwn.never rfl (pi_range1 (by rfl) T.b_range (pa_cons pe_int pa_nil)) (pg_name (i := 2) sc_law.nd rfl (Or.inl rfl)) (pss_one (ps_set (i := 3) sc_law.nd rfl (Or.inl rfl) (pe_op op_cat (pv 3) (pe_call G_law_near (hr.mono (by decide)) (by rfl) T.d_law_near.g T.d_law_near.k T.d_law_near.b .nil pass0 (pa_cons (pe_call G_law_cell (hr.mono (by decide)) (by rfl) T.d_law_cell.g T.d_law_cell.k T.d_law_cell.b .nil pass0 (pa_cons (pv 0) (pa_cons (pe_op op_add pe_int (pv 2)) pa_nil))) pa_nil))))))
      (pss_cons (ps_for PassesOwn.never rfl (pi_list (pv 3)) (pg_name (i := 4) sc_law.nd rfl (Or.inl rfl)) (pss_one (ps_if (pt_not (pt_val (pe_call G_law_told (hr.mono (by decide)) (by rfl) T.d_law_told.g T.d_law_told.k T.d_law_told.b .nil pass0 (pa_cons (pv 4) pa_nil)))) (pss_one (ps_ret pe_bl)) (pss_nil))))
      (pss_cons (ps_for PassesOwn.never rfl (pi_list (pv 3)) (pg_name (i := 4) sc_law.nd rfl (Or.inl rfl)) (pss_one (ps_if (pt_not (pt_val (pe_call G_law_told (hr.mono (by decide)) (by rfl) T.d_law_told.g T.d_law_told.k T.d_law_told.b .nil pass0 (pa_cons (pv 4) pa_nil)))) (pss_one (ps_ret pe_bl)) (pss_nil))))
      (pss_one (ps_ret pe_bl))))))), ?_⟩
    refine q_asgS (S := IsS 600) (evS_callS (R := fun vs => ∃ i : Int, vs = [.int i]) (eaS_weak (eaS_cons (evS_call (vs := [.ref a, .int 0]) (ea_cons (ev_var rfl) (ea_cons ev_c ea_nil)) (sp_cell hS hn (by decide) (by decide))) eaS_nil) fun vs ⟨v, _, h1, ⟨i, h2⟩, h3⟩ => ⟨i, by rw [h1, h2, h3]⟩) fun vs ⟨i, hi⟩ => by subst hi; exact sp_text i _) fun v H1 ⟨z, hv, hz⟩ e1 => ?_
    subst hv
    have hS1 := ex_l e1 hS
    have hzz : z.length ≤ sizeLine := sz_of (by omega)
    refine q_asgLS (R := fun xs => xs.length ≤ 13 ∧ ∀ x ∈ xs, IsS 600 x) (elS_weak (elS_lcR1 (n := (if (z.length : Int) < 12 then (z.length : Int) else 12) + 1) (S := IsS 600) ?_ (by split <;> omega) (fun _ => rfl) fun i H2 e2 hi => evS_of (v := .str (cutS z none (some (i : Int)))) ?_ ⟨_, rfl, Nat.le_trans (cutS_length _ _ _) hz⟩) fun xs hx => ⟨by rw [hx.1]; split <;> omega, hx.2⟩) fun xs l2 H2 ⟨hx2, hxs2⟩ hl2 e2 h2 => ?_
    · walk_at "ev"
    · walk_at "ev"
      exact hzz
    have e02 := e1.trans e2
    refine q_app h2 (ev_var rfl) (v := .str z) (ev_var rfl) (by omega) fun H3 e3 => ?_
    have hl2' := fresh_back e1 hl2
    have e03 : Ex H (upd H3 l2 (.lst (xs ++ [.str z]))) := Ex.mut (e02.trans e3) hl2'
    refine q_forR1 (n := 3) (ea_cons ev_c ea_nil) (by decide) (fun i σ' H' => ∃ (l : Addr) (ys : List V) (y : Option V), σ' = [some (.ref a), some (.str z), y, some (.ref l), none] ∧ Ex H H' ∧ H' l = some (.lst ys) ∧ ys.length ≤ 14 + 9 * i ∧ ∀ x ∈ ys, IsS 600 x)
      (fun H4 e4 => ⟨l2, xs ++ [.str z], none, rfl, e03.trans e4, e4 _ _ upd_same, by rw [List.length_append]; show xs.length + 1 ≤ 14 + 0; omega, fun x hx => ?_⟩) (fun i σ' H' hi ⟨l, ys, y, hσ, e4, hl, hy, hys⟩ => ?_) (fun σ' H' ⟨l, ys, y, hσ, e4, hl, hy, hys⟩ => ?_)
    · rcases List.mem_append.mp hx with hx | hx
      · exact hxs2 x hx
      · rw [List.mem_singleton.mp hx]
        exact ⟨z, rfl, hz⟩
    · subst hσ
      have hS4 := ex_l e4 hS
      refine s_asgLS (R := fun zs => zs.length ≤ 14 + 9 * (i + 1) ∧ ∀ x ∈ zs, IsS 600 x) (elS_catV (R := fun zs => zs.length = 9 ∧ ∀ x ∈ zs, IsS 600 x) (ev_var rfl) hl (elS_call (P := fun vs _ => ∃ c : Int, vs = [.int c]) (eaH_weak (eaH_cons (evS_call (vs := [.ref a, .int (1 + (i : Int))]) ?_ (sp_cell hS4 hn (by omega) (by omega))) (eaH_of ea_nil (P := fun vs _ => vs = []) fun _ _ => rfl)) fun vs H5 ⟨v, _, h1, ⟨c, h2⟩, h3⟩ => ⟨c, by rw [h1, h2, h3]⟩) fun vs H5 e5 ⟨c, hc⟩ => by subst hc; exact sp_near c H5) fun zs hz => ⟨by omega, by rw [List.length_append]; omega, fun x hx => ?_⟩) fun zs l5 H5 ⟨h9, hzs⟩ hl5 e5 h5 => ?_
      · walk_at "ev"
      · rcases List.mem_append.mp hx with hx | hx
        · exact hys x hx
        · exact hz.2 x hx
      · exact ⟨l5, zs, _, rfl, e4.trans e5, h5, by omega, hzs⟩
    · subst hσ
      -- twice: for one in texts
      have turn : ∀ (i : Nat) (x : V) (H' : Hp) (y : Option V) (D : Ends), ys[i]? = some x → (∀ H2, Ex H' H2 → D.nx [some (.ref a), some (.str z), y, some (.ref l), some x] H2) →
          tIfS (tNot (tTest (tCall spTold [] E0 (tCons (tVar 4) tNil)))) (tRet (tC (V.bl false))) tNext D [some (.ref a), some (.str z), y, some (.ref l), some x] H' := fun i x H' y D hi k => by
        obtain ⟨zz, rfl, hzz⟩ := hys x (List.mem_of_getElem? hi)
        refine s_when (b := !true) (et_not (et_test (ev_call (ea_cons (ev_var rfl) ea_nil) (sp_told (by omega) _)))) (fun hb => by cases hb) (fun hb H2 e2 => k H2 e2)
      refine q_forLn (a := l) (xs := ys) (ev_var rfl) (sq_of hl) (fun i σ' H2 => ∃ y4, σ' = [some (.ref a), some (.str z), y, some (.ref l), y4] ∧ H2 l = some (.lst ys)) (fun H5 e5 => ⟨none, rfl, e5 _ _ hl⟩) (fun i σ' H2 _ ⟨_, _, h⟩ => sq_of h) (fun i x σ' H2 hi ⟨y4, hσ, h⟩ => ?_) (fun σ' H2 ⟨y4, hσ, h⟩ => ?_)
      · subst hσ
        exact turn i x H2 y _ hi fun H3 e3 => ⟨_, rfl, e3 _ _ h⟩
      · subst hσ
        refine q_forLn (a := l) (xs := ys) (ev_var rfl) (sq_of h) (fun i σ' H2 => ∃ y4, σ' = [some (.ref a), some (.str z), y, some (.ref l), y4] ∧ H2 l = some (.lst ys)) (fun H5 e5 => ⟨_, rfl, e5 _ _ h⟩) (fun i σ' H2 _ ⟨_, _, h⟩ => sq_of h) (fun i x σ' H2 hi ⟨y4, hσ, h⟩ => ?_) (fun σ' H2 ⟨y4, hσ, h⟩ => ?_)
        · subst hσ
          exact turn i x H2 y _ hi fun H3 e3 => ⟨_, rfl, e3 _ _ h⟩
        · subst hσ
          exact s_ret ev_c fun H3 e3 => q H3
end
theorem all_mk {l : PySem.W.OpenLaw} {w : World} {K : PySem.W.Frag} {h : Heap} {mg : Str → Option Value} {fa f0 f1 f2 f3 f4 f5 f6 f7 f8 f9 f10 f11 t3 : Addr} (X : K.In h) (G : h.Ns mainGlobals mg) (hfa : mg "law" = some (.ref fa))
    {od0 an0 od1 an1 od2 an2 od3 an3 od4 an4 od5 an5 od6 an6 od7 an7 od8 an8 od9 an9 od10 an10 od11 an11 : Option Addr} {sl0 sl1 sl2 sl3 sl4 sl5 sl6 sl7 sl8 sl9 sl10 sl11 : Array (Option Value)} {oc0 kV0 dc0 pm0 cd0 ct0 oc1 kV1 dc1 pm1 cd1 ct1 oc2 kV2 dc2 pm2 cd2 ct2 oc3 kV3 dc3 pm3 cd3 ct3 oc4 kV4 dc4 pm4 cd4 ct4 oc5 kV5 dc5 pm5 cd5 ct5 oc6 kV6 dc6 pm6 cd6 ct6 oc7 kV7 dc7 pm7 cd7 ct7 oc8 kV8 dc8 pm8 cd8 ct8 oc9 kV9 dc9 pm9 cd9 ct9 oc10 kV10 dc10 pm10 cd10 ct10 oc11 kV11 dc11 pm11 cd11 ct11 u0 u1 u2 : Value} {td3 : Option Addr} {ti3 : Array Value} {tn3 : Nat} {ts3 : Array (Option Value)}
    (a0 : PySem.W.nsIn K mainGlobals "is_name" = some (some (.ref f0))) (l0 : K.lookup f0 = some ⟨oc0, od0, .func (PySem.W.fnOf "is_name" "is_name" (defArgs s_is_name) (defBody s_is_name) (defScope s_is_name) .none kV0 dc0 pm0 an0 cd0 ct0), sl0⟩) (c0 : PySem.W.codeIn K cd0 "is_name" = true) (k0 : PySem.W.keepIn K (.ref f0) = true)
    (a1 : PySem.W.nsIn K mainGlobals "_law_cell" = some (some (.ref f1))) (l1 : K.lookup f1 = some ⟨oc1, od1, .func (PySem.W.fnOf "_law_cell" "_law_cell" (defArgs s_law_cell) (defBody s_law_cell) (defScope s_law_cell) .none kV1 dc1 pm1 an1 cd1 ct1), sl1⟩) (c1 : PySem.W.codeIn K cd1 "_law_cell" = true) (k1 : PySem.W.keepIn K (.ref f1) = true)
    (a2 : PySem.W.nsIn K mainGlobals "_law_digits" = some (some (.ref f2))) (l2 : K.lookup f2 = some ⟨oc2, od2, .func (PySem.W.fnOf "_law_digits" "_law_digits" (defArgs s_law_digits) (defBody s_law_digits) (defScope s_law_digits) .none kV2 dc2 pm2 an2 cd2 ct2), sl2⟩) (c2 : PySem.W.codeIn K cd2 "_law_digits" = true) (k2 : PySem.W.keepIn K (.ref f2) = true)
    (a3 : PySem.W.nsIn K mainGlobals "_law_reserved" = some (some (.ref f3))) (l3 : K.lookup f3 = some ⟨oc3, od3, .func (PySem.W.fnOf "_law_reserved" "_law_reserved" (defArgs s_law_reserved) (defBody s_law_reserved) (defScope s_law_reserved) .none kV3 dc3 pm3 an3 cd3 ct3), sl3⟩) (c3 : PySem.W.codeIn K cd3 "_law_reserved" = true) (k3 : PySem.W.keepIn K (.ref f3) = true)
    (a4 : PySem.W.nsIn K mainGlobals "_law_char" = some (some (.ref f4))) (l4 : K.lookup f4 = some ⟨oc4, od4, .func (PySem.W.fnOf "_law_char" "_law_char" (defArgs s_law_char) (defBody s_law_char) (defScope s_law_char) .none kV4 dc4 pm4 an4 cd4 ct4), sl4⟩) (c4 : PySem.W.codeIn K cd4 "_law_char" = true) (k4 : PySem.W.keepIn K (.ref f4) = true)
    (a5 : PySem.W.nsIn K mainGlobals "_law_sign" = some (some (.ref f5))) (l5 : K.lookup f5 = some ⟨oc5, od5, .func (PySem.W.fnOf "_law_sign" "_law_sign" (defArgs s_law_sign) (defBody s_law_sign) (defScope s_law_sign) .none kV5 dc5 pm5 an5 cd5 ct5), sl5⟩) (c5 : PySem.W.codeIn K cd5 "_law_sign" = true) (k5 : PySem.W.keepIn K (.ref f5) = true)
    (a6 : PySem.W.nsIn K mainGlobals "_law_changed" = some (some (.ref f6))) (l6 : K.lookup f6 = some ⟨oc6, od6, .func (PySem.W.fnOf "_law_changed" "_law_changed" (defArgs s_law_changed) (defBody s_law_changed) (defScope s_law_changed) .none kV6 dc6 pm6 an6 cd6 ct6), sl6⟩) (c6 : PySem.W.codeIn K cd6 "_law_changed" = true) (k6 : PySem.W.keepIn K (.ref f6) = true)
    (a7 : PySem.W.nsIn K mainGlobals "_law_text" = some (some (.ref f7))) (l7 : K.lookup f7 = some ⟨oc7, od7, .func (PySem.W.fnOf "_law_text" "_law_text" (defArgs s_law_text) (defBody s_law_text) (defScope s_law_text) .none kV7 dc7 pm7 an7 cd7 ct7), sl7⟩) (c7 : PySem.W.codeIn K cd7 "_law_text" = true) (k7 : PySem.W.keepIn K (.ref f7) = true)
    (a8 : PySem.W.nsIn K mainGlobals "_law_near" = some (some (.ref f8))) (l8 : K.lookup f8 = some ⟨oc8, od8, .func (PySem.W.fnOf "_law_near" "_law_near" (defArgs s_law_near) (defBody s_law_near) (defScope s_law_near) .none kV8 dc8 pm8 an8 cd8 ct8), sl8⟩) (c8 : PySem.W.codeIn K cd8 "_law_near" = true) (k8 : PySem.W.keepIn K (.ref f8) = true)
    (a9 : PySem.W.nsIn K mainGlobals "_law_due" = some (some (.ref f9))) (l9 : K.lookup f9 = some ⟨oc9, od9, .func (PySem.W.fnOf "_law_due" "_law_due" (defArgs s_law_due) (defBody s_law_due) (defScope s_law_due) .none kV9 dc9 pm9 an9 cd9 ct9), sl9⟩) (c9 : PySem.W.codeIn K cd9 "_law_due" = true) (k9 : PySem.W.keepIn K (.ref f9) = true)
    (a10 : PySem.W.nsIn K mainGlobals "_law_told" = some (some (.ref f10))) (l10 : K.lookup f10 = some ⟨oc10, od10, .func (PySem.W.fnOf "_law_told" "_law_told" (defArgs s_law_told) (defBody s_law_told) (defScope s_law_told) .none kV10 dc10 pm10 an10 cd10 ct10), sl10⟩) (c10 : PySem.W.codeIn K cd10 "_law_told" = true) (k10 : PySem.W.keepIn K (.ref f10) = true)
    (a11 : PySem.W.nsIn K mainGlobals "law" = some (some (.ref f11))) (l11 : K.lookup f11 = some ⟨oc11, od11, .func (PySem.W.fnOf "law" "law" (defArgs s_law) (defBody s_law) (defScope s_law) .none kV11 dc11 pm11 an11 cd11 ct11), sl11⟩) (c11 : PySem.W.codeIn K cd11 "law" = true) (k11 : PySem.W.keepIn K (.ref f11) = true)
    (g0 : PySem.W.nsIn K mainGlobals "DIGITS" = some (some u0)) (h0 : RelV (.str digits) u0)
    (g1 : PySem.W.nsIn K mainGlobals "LETTERS" = some (some u1)) (h1 : RelV (.str letters) u1)
    (g2 : PySem.W.nsIn K mainGlobals "LONGEST_NAME" = some (some u2)) (h2 : RelV (.int (8)) u2)
    (g3 : PySem.W.nsIn K mainGlobals "RESERVED" = some (some (.ref t3))) (o3 : K.lookup t3 = some ⟨.type "tuple", td3, .seq ti3 tn3, ts3⟩) (w3 : ti3.size ≤ sizeLine) (h3 : Vals (reserved.map V.str) ti3.toList)
    (z0 : PySem.W.nsIn K mainGlobals "int" = some none)
    (z1 : PySem.W.nsIn K mainGlobals "len" = some none)
    (z2 : PySem.W.nsIn K mainGlobals "min" = some none)
    (z3 : PySem.W.nsIn K mainGlobals "range" = some none) :
    ∃ fd : FuncData, (∀ (s : Shared) (v : Value), BindsTo s fd ⟨[v], []⟩ [("script", v)]) ∧ ∀ base : Heap, K.In base → base.Ns mainGlobals mg → FnOk l.prog w K mg base CX0 4 fa fd ["script"] (spLaw K) := by
  have e := hfa.symm.trans (PySem.W.mg_of X G a11)
  cases e
  have F0 := fun_mk (st := s_is_name) l0 c0 k0
  have b0 := F0.binds (ps := ["text"]) fun _ _ _ _ _ _ us hl => match us, hl with | [_], _ => rfl
  have F1 := fun_mk (st := s_law_cell) l1 c1 k1
  have b1 := F1.binds (ps := ["script", "k"]) fun _ _ _ _ _ _ us hl => match us, hl with | [_, _], _ => rfl
  have F2 := fun_mk (st := s_law_digits) l2 c2 k2
  have b2 := F2.binds (ps := ["cell", "sizes"]) fun _ _ _ _ _ _ us hl => match us, hl with | [_, _], _ => rfl
  have F3 := fun_mk (st := s_law_reserved) l3 c3 k3
  have b3 := F3.binds (ps := []) fun _ _ _ _ _ _ us hl => match us, hl with | [], _ => rfl
  have F4 := fun_mk (st := s_law_char) l4 c4 k4
  have b4 := F4.binds (ps := ["digit"]) fun _ _ _ _ _ _ us hl => match us, hl with | [_], _ => rfl
  have F5 := fun_mk (st := s_law_sign) l5 c5 k5
  have b5 := F5.binds (ps := ["digit"]) fun _ _ _ _ _ _ us hl => match us, hl with | [_], _ => rfl
  have F6 := fun_mk (st := s_law_changed) l6 c6 k6
  have b6 := F6.binds (ps := ["text", "at", "char", "more"]) fun _ _ _ _ _ _ us hl => match us, hl with | [_, _, _, _], _ => rfl
  have F7 := fun_mk (st := s_law_text) l7 c7 k7
  have b7 := F7.binds (ps := ["cell"]) fun _ _ _ _ _ _ us hl => match us, hl with | [_], _ => rfl
  have F8 := fun_mk (st := s_law_near) l8 c8 k8
  have b8 := F8.binds (ps := ["cell"]) fun _ _ _ _ _ _ us hl => match us, hl with | [_], _ => rfl
  have F9 := fun_mk (st := s_law_due) l9 c9 k9
  have b9 := F9.binds (ps := ["text"]) fun _ _ _ _ _ _ us hl => match us, hl with | [_], _ => rfl
  have F10 := fun_mk (st := s_law_told) l10 c10 k10
  have b10 := F10.binds (ps := ["text"]) fun _ _ _ _ _ _ us hl => match us, hl with | [_], _ => rfl
  have F11 := fun_mk (st := s_law) l11 c11 k11
  have b11 := F11.binds (ps := ["script"]) fun _ _ _ _ _ _ us hl => match us, hl with | [_], _ => rfl
  have T : Txt K mg (fun n => if n < 100 then ([f0, f1, f2, f3, f4, f5, f6, f7, f8, f9, f10, fa] : List Addr).getD n 0 else ([0, 0, 0, t3] : List Addr).getD (n - 100) 0) (fun n => ([PySem.W.fnOf "is_name" "is_name" (defArgs s_is_name) (defBody s_is_name) (defScope s_is_name) .none kV0 dc0 pm0 an0 cd0 ct0, PySem.W.fnOf "_law_cell" "_law_cell" (defArgs s_law_cell) (defBody s_law_cell) (defScope s_law_cell) .none kV1 dc1 pm1 an1 cd1 ct1, PySem.W.fnOf "_law_digits" "_law_digits" (defArgs s_law_digits) (defBody s_law_digits) (defScope s_law_digits) .none kV2 dc2 pm2 an2 cd2 ct2, PySem.W.fnOf "_law_reserved" "_law_reserved" (defArgs s_law_reserved) (defBody s_law_reserved) (defScope s_law_reserved) .none kV3 dc3 pm3 an3 cd3 ct3, PySem.W.fnOf "_law_char" "_law_char" (defArgs s_law_char) (defBody s_law_char) (defScope s_law_char) .none kV4 dc4 pm4 an4 cd4 ct4, PySem.W.fnOf "_law_sign" "_law_sign" (defArgs s_law_sign) (defBody s_law_sign) (defScope s_law_sign) .none kV5 dc5 pm5 an5 cd5 ct5, PySem.W.fnOf "_law_changed" "_law_changed" (defArgs s_law_changed) (defBody s_law_changed) (defScope s_law_changed) .none kV6 dc6 pm6 an6 cd6 ct6, PySem.W.fnOf "_law_text" "_law_text" (defArgs s_law_text) (defBody s_law_text) (defScope s_law_text) .none kV7 dc7 pm7 an7 cd7 ct7, PySem.W.fnOf "_law_near" "_law_near" (defArgs s_law_near) (defBody s_law_near) (defScope s_law_near) .none kV8 dc8 pm8 an8 cd8 ct8, PySem.W.fnOf "_law_due" "_law_due" (defArgs s_law_due) (defBody s_law_due) (defScope s_law_due) .none kV9 dc9 pm9 an9 cd9 ct9, PySem.W.fnOf "_law_told" "_law_told" (defArgs s_law_told) (defBody s_law_told) (defScope s_law_told) .none kV10 dc10 pm10 an10 cd10 ct10, PySem.W.fnOf "law" "law" (defArgs s_law) (defBody s_law) (defScope s_law) .none kV11 dc11 pm11 an11 cd11 ct11] : List FuncData).getD n (PySem.W.fnOf "law" "law" (defArgs s_law) (defBody s_law) (defScope s_law) .none kV11 dc11 pm11 an11 cd11 ct11)) (fun n => ([u0, u1, u2, (.ref t3)] : List Value).getD n .none) :=
    { b_int := PySem.W.mg_none_of X G z0,
      b_len := PySem.W.mg_none_of X G z1,
      b_min := PySem.W.mg_none_of X G z2,
      b_range := PySem.W.mg_none_of X G z3,
      c_DIGITS := PySem.W.mg_of X G g0,
      r_DIGITS := h0,
      c_LETTERS := PySem.W.mg_of X G g1,
      r_LETTERS := h1,
      c_LONGEST_NAME := PySem.W.mg_of X G g2,
      r_LONGEST_NAME := h2,
      c_RESERVED := PySem.W.mg_of X G g3,
      r_RESERVED := rfl,
      q_RESERVED := fun _ => Or.inr ⟨_, _, _, o3, rfl, rfl, w3, h3⟩,
      d_is_name := ⟨F0, PySem.W.mg_of X G a0, k0, b0⟩,
      d_law_cell := ⟨F1, PySem.W.mg_of X G a1, k1, b1⟩,
      d_law_digits := ⟨F2, PySem.W.mg_of X G a2, k2, b2⟩,
      d_law_reserved := ⟨F3, PySem.W.mg_of X G a3, k3, b3⟩,
      d_law_char := ⟨F4, PySem.W.mg_of X G a4, k4, b4⟩,
      d_law_sign := ⟨F5, PySem.W.mg_of X G a5, k5, b5⟩,
      d_law_changed := ⟨F6, PySem.W.mg_of X G a6, k6, b6⟩,
      d_law_text := ⟨F7, PySem.W.mg_of X G a7, k7, b7⟩,
      d_law_near := ⟨F8, PySem.W.mg_of X G a8, k8, b8⟩,
      d_law_due := ⟨F9, PySem.W.mg_of X G a9, k9, b9⟩,
      d_law_told := ⟨F10, PySem.W.mg_of X G a10, k10, b10⟩,
      d_law := ⟨F11, PySem.W.mg_of X G a11, k11, b11⟩ }
  exact ⟨PySem.W.fnOf "law" "law" (defArgs s_law) (defBody s_law) (defScope s_law) .none kV11 dc11 pm11 an11 cd11 ct11, fun s v => .of_eq rfl, fun base _ _ => ok_law T⟩
end K04
open PySem PySem.W PyProof.Rows
set_option maxRecDepth 100000 in
set_option maxHeartbeats 0 in
theorem PySem.Challenge.cw_sameroom_k04_names_holds : PySem.Challenge.rw_sameroom_k04_names.Holds := by
  w_on; o_law; k_head; (case hw => w_witness2)
  k_fill
  refine L2.walk_of (l := PySem.Challenge.rw_sameroom_k04_names) (n := 63) (k := 4) (x := "script") (CX := fun _ => L2.CX0) (sp := fun w => K04.spLaw _) rfl (by decide) rfl ⟨rfl, by decide, by decide⟩ (fun w h Y => PySem.W.kIn_of Y) ?F (fun _ _ a ns hl _ hS => ⟨a, ns, rfl, hS, hl, fun _ => rfl⟩) (fun _ _ _ _ _ h => h)
  case F =>
    intro w mg fa h KX G hmg
    refine' K04.all_mk KX G hmg ?zza0 ?zzl0 ?zzc0 ?zzk0 ?zza1 ?zzl1 ?zzc1 ?zzk1 ?zza2 ?zzl2 ?zzc2 ?zzk2 ?zza3 ?zzl3 ?zzc3 ?zzk3 ?zza4 ?zzl4 ?zzc4 ?zzk4 ?zza5 ?zzl5 ?zzc5 ?zzk5 ?zza6 ?zzl6 ?zzc6 ?zzk6 ?zza7 ?zzl7 ?zzc7 ?zzk7 ?zza8 ?zzl8 ?zzc8 ?zzk8 ?zza9 ?zzl9 ?zzc9 ?zzk9 ?zza10 ?zzl10 ?zzc10 ?zzk10 ?zza11 ?zzl11 ?zzc11 ?zzk11 ?zzg0 ?zzh0 ?zzg1 ?zzh1 ?zzg2 ?zzh2 ?zzg3 ?zzo3 ?zzw3 ?zzh3 ?zzz0 ?zzz1 ?zzz2 ?zzz3
    (case zza0 => k_is)
    (case zzl0 => k_is)
    (case zzc0 => k_is)
    (case zzk0 => k_is)
    (case zza1 => k_is)
    (case zzl1 => k_is)
    (case zzc1 => k_is)
    (case zzk1 => k_is)
    (case zza2 => k_is)
    (case zzl2 => k_is)
    (case zzc2 => k_is)
    (case zzk2 => k_is)
    (case zza3 => k_is)
    (case zzl3 => k_is)
    (case zzc3 => k_is)
    (case zzk3 => k_is)
    (case zza4 => k_is)
    (case zzl4 => k_is)
    (case zzc4 => k_is)
    (case zzk4 => k_is)
    (case zza5 => k_is)
    (case zzl5 => k_is)
    (case zzc5 => k_is)
    (case zzk5 => k_is)
    (case zza6 => k_is)
    (case zzl6 => k_is)
    (case zzc6 => k_is)
    (case zzk6 => k_is)
    (case zza7 => k_is)
    (case zzl7 => k_is)
    (case zzc7 => k_is)
    (case zzk7 => k_is)
    (case zza8 => k_is)
    (case zzl8 => k_is)
    (case zzc8 => k_is)
    (case zzk8 => k_is)
    (case zza9 => k_is)
    (case zzl9 => k_is)
    (case zzc9 => k_is)
    (case zzk9 => k_is)
    (case zza10 => k_is)
    (case zzl10 => k_is)
    (case zzc10 => k_is)
    (case zzk10 => k_is)
    (case zza11 => k_is)
    (case zzl11 => k_is)
    (case zzc11 => k_is)
    (case zzk11 => k_is)
    (case zzg0 => k_is)
    (case zzh0 => exact ⟨_, rfl⟩)
    (case zzg1 => k_is)
    (case zzh1 => exact ⟨_, rfl⟩)
    (case zzg2 => k_is)
    (case zzh2 => exact ⟨_, rfl⟩)
    (case zzg3 => k_is)
    (case zzo3 => k_is)
    (case zzw3 => decide +kernel)
    (case zzh3 => repeat' (first | exact Paired.nil | refine' Paired.cons ⟨_, rfl⟩ ?_))
    (case zzz0 => k_is)
    (case zzz1 => k_is)
    (case zzz2 => k_is)
    (case zzz3 => k_is)
