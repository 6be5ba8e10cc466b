import PyProof.Rows.All
import Wide.All
import OpenK.AllK
import Wide.FinOn
import HandS.ForMost
import HandS.Evl
import HandS.Style
import HandS.IsInst
import HandS.FStr
import HandS.More
import HandS.Star
import HandS.Flow
import PyProof.StrOps2
import HandS.CallLocal
import HandS.RaiseMore
import PySem.Challenge.RW_sameroom_k02_expression_texts
set_option Elab.async false
set_option linter.all false
set_option maxRecDepth 100000
set_option maxHeartbeats 2000000
/-! own words over HandS and Evl: tests known ahead, chains, signs of texts, loops over texts, calls that hand back something of a kind -/
namespace Own
open PySem L2 Evl
section
variable {K : PySem.W.Frag} {σ : L2.St} {H H' : Hp} {ta tb tc te tl : TE} {t u : TT} {x y z v : V} {r r' : R2} {D : Ends} {tu tw tz : TS} {g : TG}
theorem et_orT (h : EvT t σ H true) : EvT (tOr t u) σ H true := fun H1 e Q q => h H1 e _ fun H2 e2 => by
  show Q true H2
  exact q H2 e2
theorem et_orF {b : Bool} (h : EvT t σ H false) (h2 : EvT u σ H b) : EvT (tOr t u) σ H b := fun H1 e Q q => h H1 e _ fun H2 e2 => by
  show u σ H2 Q
  exact h2 H2 (e.trans e2) Q fun H3 e3 => q H3 (e2.trans e3)
theorem et_andF (h : EvT t σ H false) : EvT (tAnd t u) σ H false := fun H1 e Q q => h H1 e _ fun H2 e2 => by
  show Q false H2
  exact q H2 e2
theorem et_andT {b : Bool} (h : EvT t σ H true) (h2 : EvT u σ H b) : EvT (tAnd t u) σ H b := fun H1 e Q q => h H1 e _ fun H2 e2 => by
  show u σ H2 Q
  exact h2 H2 (e.trans e2) Q fun H3 e3 => q H3 (e2.trans e3)
theorem ev_chain {a b : Bool} (hx : Ev ta σ H x) (hy : Ev tb σ H y) (h1 : RV r x y H (.bl a)) (hz : a = true → Ev tc σ H z) (h2 : a = true → RV r' y z H (.bl b)) : Ev (tChain r r' ta tb tc) σ H (.bl (a && b)) := fun H1 e Q q =>
  hx H1 e _ fun H2 e2 => hy H2 (e.trans e2) _ fun H3 e3 => h1 H3 ((e.trans e2).trans e3) _ fun H4 e4 => ⟨a, rfl, by
    cases a with
    | true =>
      show tc σ H4 fun w' H5 => r' y w' H5 Q
      exact hz rfl H4 (((e.trans e2).trans e3).trans e4) _ fun H5 e5 => h2 rfl H5 ((((e.trans e2).trans e3).trans e4).trans e5) Q fun H6 e6 => q H6 ((((e2.trans e3).trans e4).trans e5).trans e6)
    | false =>
      show Q (.bl false) H4
      exact q H4 ((e2.trans e3).trans e4)⟩
theorem rv_sign {neg : Bool} {c : Nat} {s : Str} : RV (fun x y H Q => ∃ (c : Nat) (z : Str), x = V.str ⟨#[c]⟩ ∧ y = .str z ∧ Q (.bl (if neg then !decide (c ∈ z.cps.toList) else decide (c ∈ z.cps.toList))) H) (.str ⟨#[c]⟩) (.str s) H (.bl (if neg then !decide (c ∈ s.cps.toList) else decide (c ∈ s.cps.toList))) :=
  fun H1 _ Q q => ⟨c, s, rfl, rfl, q H1 (Ex.refl H1)⟩
theorem rv_inS {c : Nat} {s : Str} : RV (fun x y H Q => ∃ (c : Nat) (z : Str), x = V.str ⟨#[c]⟩ ∧ y = .str z ∧ Q (.bl (decide (c ∈ z.cps.toList))) H) (.str ⟨#[c]⟩) (.str s) H (.bl (decide (c ∈ s.cps.toList))) :=
  fun H1 _ Q q => ⟨c, s, rfl, rfl, q H1 (Ex.refl H1)⟩
theorem rv_niS {c : Nat} {s : Str} : RV (fun x y H Q => ∃ (c : Nat) (z : Str), x = V.str ⟨#[c]⟩ ∧ y = .str z ∧ Q (.bl (!decide (c ∈ z.cps.toList))) H) (.str ⟨#[c]⟩) (.str s) H (.bl (!decide (c ∈ s.cps.toList))) :=
  fun H1 _ Q q => ⟨c, s, rfl, rfl, q H1 (Ex.refl H1)⟩
theorem rc_int1 {i : Int} : RC (fun xs H Q => (∃ i, xs = [V.int i] ∧ Q (V.int i) H) ∨ ∃ k, xs = [.bl k] ∧ Q (.int (if k then 1 else 0)) H) [.int i] H (.int i) := fun H1 _ Q q => Or.inl ⟨i, rfl, q H1 (Ex.refl H1)⟩
theorem rc_lenS {s : Str} (h : s.length ≤ sizeLine) : RC (fun xs H Q => ∃ z, xs = [V.str z] ∧ z.length ≤ sizeLine ∧ Q (.int z.length) H) [.str s] H (.int s.length) := fun H1 _ Q q => ⟨s, rfl, h, q H1 (Ex.refl H1)⟩
theorem rc_lenL {K : PySem.W.Frag} {H : Hp} {p : Addr} {ys : List V} (h : SqL K H p ys) : RC (fun xs H Q => ∃ p ys, xs = [V.ref p] ∧ (SqL K H p ys ∨ SqT K H p ys) ∧ Q (.int ys.length) H) [.ref p] H (.int ys.length) := fun H1 e Q q => ⟨p, ys, rfl, .inl (ex_l e h), q H1 (Ex.refl H1)⟩
theorem rc_lenT {K : PySem.W.Frag} {H : Hp} {p : Addr} {ys : List V} (h : SqT K H p ys) : RC (fun xs H Q => ∃ p ys, xs = [V.ref p] ∧ (SqL K H p ys ∨ SqT K H p ys) ∧ Q (.int ys.length) H) [.ref p] H (.int ys.length) := fun H1 e Q q => ⟨p, ys, rfl, .inr (ex_t e h), q H1 (Ex.refl H1)⟩
theorem rc_min2 {H : Hp} {i j : Int} : RC (fun xs H Q => ∃ i j, xs = [V.int i, .int j] ∧ Q (.int (if j < i then j else i)) H) [.int i, .int j] H (.int (if j < i then j else i)) := fun H1 _ Q q => ⟨i, j, rfl, q H1 (Ex.refl H1)⟩
theorem rc_max2 {H : Hp} {i j : Int} : RC (fun xs H Q => ∃ i j, xs = [V.int i, .int j] ∧ Q (.int (if j > i then j else i)) H) [.int i, .int j] H (.int (if j > i then j else i)) := fun H1 _ Q q => ⟨i, j, rfl, q H1 (Ex.refl H1)⟩
theorem rv_addS {s s' : Str} (h : s.length + s'.length ≤ sizeLine) : RV (fun x y H Q => ∃ i j, x = V.str i ∧ y = .str j ∧ i.length + j.length ≤ sizeLine ∧ Q (.str (i ++ j)) H) (.str s) (.str s') H (.str (s ++ s')) := fun H1 _ Q q => ⟨s, s', rfl, rfl, h, q H1 (Ex.refl H1)⟩
theorem int_dec {i j : Int} : decide (V.int i = V.int j) = decide (i = j) := by
  by_cases e : i = j
  · subst e
    rw [decide_eq_true rfl, decide_eq_true rfl]
  · rw [decide_eq_false e, decide_eq_false (fun h => e (V.int.inj h))]
theorem rv_eqI {i j : Int} : RV rEq (.int i) (.int j) H (.bl (decide (i = j))) := by
  rw [← int_dec]
  exact rv_eq rfl
theorem rv_neI {i j : Int} : RV rNe (.int i) (.int j) H (.bl (!decide (i = j))) := by
  rw [← int_dec]
  exact rv_ne rfl
theorem rv_isB {a b : Bool} : RV rIsB (.bl a) (.bl b) H (.bl (decide (a = b))) := fun H1 _ Q q => ⟨a, b, rfl, rfl, q H1 (Ex.refl H1)⟩
/-- a loop over the signs of a text -/
theorem s_forS {j : Nat} {s : Str} (h : Ev tl σ H (.str s)) (Pv : Nat → L2.St → Hp → Prop) (h0 : ∀ H1, Ex H H1 → Pv 0 σ H1)
    (hs : ∀ i c σ' H', s.cps.toList[i]? = some c → Pv i σ' H' → tu { D with nx := Pv (i + 1), ct := Pv (i + 1), bk := D.nx } (σ'.set j (some (.str ⟨#[c]⟩))) H') (hd : ∀ σ' H', Pv s.cps.toList.length σ' H' → D.nx σ' H') : tFor (iStr tl) (gName j) tu D σ H := by
  refine h H (Ex.refl H) _ fun H1 e => ⟨s, rfl, fun i m σ' H' => m = s.cps.toList.length - i ∧ i ≤ s.cps.toList.length ∧ Pv i σ' H', ⟨_, rfl, Nat.zero_le _, h0 H1 e⟩, ?_⟩
  rintro i m σ' H' ⟨rfl, hi, p⟩
  have hl : s.cps.toList.length = s.cps.size := Array.length_toList
  by_cases hlt : i < s.cps.toList.length
  · refine .inr ⟨by show i < s.cps.size; omega, Pv (i + 1), fun σ2 H2 p' => ⟨_, by omega, rfl, by omega, p'⟩, fun x H2 hy => ?_⟩
    obtain ⟨rfl, c, hc, rfl⟩ := hy
    exact hs i c σ' _ (by rw [Array.getElem?_toList]; exact hc) p
  · have e2 : i = s.cps.toList.length := by omega
    subst e2
    exact .inl ⟨by show s.cps.size ≤ _; omega, hd σ' H' p⟩
theorem q_forS {j : Nat} {s : Str} (h : Ev tl σ H (.str s)) (Pv : Nat → L2.St → Hp → Prop) (h0 : ∀ H1, Ex H H1 → Pv 0 σ H1)
    (hs : ∀ i c σ' H', s.cps.toList[i]? = some c → Pv i σ' H' → tu { D with nx := Pv (i + 1), ct := Pv (i + 1), bk := tz D } (σ'.set j (some (.str ⟨#[c]⟩))) H') (hd : ∀ σ' H', Pv s.cps.toList.length σ' H' → tz D σ' H') : tSeq (tFor (iStr tl) (gName j) tu) tz D σ H :=
  s_forS (D := { D with nx := tz D }) h Pv h0 hs hd
end
theorem atI_zero {α : Type} {l r : List α} {c : α} (h : l = c :: r) : atI l 0 = some c := by
  subst h
  exact atI_nat (j := 0) rfl
theorem ev_slS {σ : L2.St} {H : Hp} {te : TE} {tl th : TO} {z : Str} {lo hi : Option Int} (h : Ev te σ H (.str z)) (h1 : EvO tl σ H lo) (h2 : EvO th σ H hi) (hz : z.length ≤ sizeLine) : Ev (tSl rSlS te tl th) σ H (.str (cutS z lo hi)) := fun H1 e Q q =>
  h H1 e _ fun H2 e2 => h1 H2 (e.trans e2) _ fun H3 e3 => h2 H3 ((e.trans e2).trans e3) _ fun H4 e4 => ⟨z, rfl, hz, q H4 ((e2.trans e3).trans e4)⟩
/-! ### what evaluates to something of a kind -/
def EvS (te : TE) (σ : L2.St) (H : Hp) (S : V → Prop) : Prop := ∀ H1, Ex H H1 → ∀ Q : VK, (∀ v H2, S v → Ex H1 H2 → Q v H2) → te σ H1 Q
def EvAS (ta : TA) (σ : L2.St) (H : Hp) (S : List V → Prop) : Prop := ∀ H1, Ex H H1 → ∀ Q : List V → Hp → Prop, (∀ vs H2, S vs → Ex H1 H2 → Q vs H2) → ta σ H1 Q
def SpS (sp : Sp) (vs : List V) (H : Hp) (S : V → Prop) : Prop := ∀ H1, Ex H H1 → ∀ Q : VK, (∀ v H2, S v → Ex H1 H2 → Q v H2) → ∀ E : XK, sp vs H1 Q E
def IsS (n : Nat) (v : V) : Prop := ∃ z : Str, v = .str z ∧ z.length ≤ n
def IsI (lo hi : Int) (v : V) : Prop := ∃ i : Int, v = .int i ∧ lo ≤ i ∧ i < hi
section
variable {K : PySem.W.Frag} {σ : L2.St} {H H' : Hp} {ta tb te : TE} {v x y : V} {r : R2} {D : Ends} {tz : TS} {S S' S'' : V → Prop}
theorem evS_of (h : Ev te σ H v) (s : S v) : EvS te σ H S := fun H1 e Q q => h H1 e Q fun H2 e2 => q v H2 s e2
theorem EvS.mono (e : Ex H H') (h : EvS te σ H S) : EvS te σ H' S := fun H1 a Q q => h H1 (e.trans a) Q q
theorem EvS.weak (h : EvS te σ H S) (w : ∀ v, S v → S' v) : EvS te σ H S' := fun H1 e Q q => h H1 e Q fun v H2 s e2 => q v H2 (w v s) e2
theorem evS_op (ha : EvS ta σ H S) (hb : EvS tb σ H S') (hr : ∀ x y, S x → S' y → ∃ z, S'' z ∧ RV r x y H z) : EvS (tOp r ta tb) σ H S'' := fun H1 e Q q =>
  ha H1 e _ fun x H2 sx e2 => hb H2 (e.trans e2) _ fun y H3 sy e3 => by
    obtain ⟨z, sz, hz⟩ := hr x y sx sy
    exact hz H3 ((e.trans e2).trans e3) Q fun H4 e4 => q z H4 sz ((e2.trans e3).trans e4)
theorem eaS_nil : EvAS tNil σ H (fun vs => vs = []) := fun H1 _ _ q => q [] H1 rfl (Ex.refl H1)
theorem eaS_cons {tr : TA} {R : List V → Prop} (h : EvS te σ H S) (hr : EvAS tr σ H R) : EvAS (tCons te tr) σ H (fun vs => ∃ v r, vs = v :: r ∧ S v ∧ R r) := fun H1 e _ q =>
  h H1 e _ fun v H2 s e2 => hr H2 (e.trans e2) _ fun vs H3 r e3 => q _ H3 ⟨v, vs, rfl, s, r⟩ (e2.trans e3)
theorem eaS_weak {ta : TA} {R R' : List V → Prop} (h : EvAS ta σ H R) (w : ∀ vs, R vs → R' vs) : EvAS ta σ H R' := fun H1 e Q q => h H1 e Q fun vs H2 r e2 => q vs H2 (w vs r) e2
theorem evS_call {sp : Sp} {dvs vs : List V} {E : XK} {ta : TA} (h : EvA ta σ H vs) (hs : SpS sp (vs ++ dvs) H S) : EvS (tCall sp dvs E ta) σ H S := fun H1 e Q q =>
  h H1 e _ fun H2 e2 => hs H2 (e.trans e2) Q (fun v H3 s e3 => q v H3 s (e2.trans e3)) E
theorem evS_callS {sp : Sp} {dvs : List V} {R : List V → Prop} {E : XK} {ta : TA} (h : EvAS ta σ H R) (hs : ∀ vs, R vs → SpS sp (vs ++ dvs) H S) : EvS (tCall sp dvs E ta) σ H S := fun H1 e Q q =>
  h H1 e _ fun vs H2 r e2 => hs vs r H2 (e.trans e2) Q (fun v H3 s e3 => q v H3 s (e2.trans e3)) E
theorem IsS.up {n m : Nat} {v : V} (h : IsS n v) (e : n ≤ m) : IsS m v := by
  obtain ⟨z, e1, e2⟩ := h
  exact ⟨z, e1, by omega⟩
theorem evS_addS {a b : Nat} (ha : EvS ta σ H (IsS a)) (hb : EvS tb σ H (IsS b)) (h : a + b ≤ 100000) : EvS (tOp (fun x y H Q => ∃ i j, x = V.str i ∧ y = .str j ∧ i.length + j.length ≤ sizeLine ∧ Q (.str (i ++ j)) H) ta tb) σ H (IsS (a + b)) :=
  evS_op ha hb fun x y ⟨z, e1, h1⟩ ⟨z', e2, h2⟩ => by
    subst e1 e2
    refine ⟨_, ⟨z ++ z', rfl, ?_⟩, rv_addS (sz_of (by omega))⟩
    rw [Str.length_append]
    omega
def IsE (n : Nat) (v : V) : Prop := ∃ z : Str, v = .str z ∧ z.length = n
theorem IsE.toS {n m : Nat} {v : V} (h : IsE n v) (e : n ≤ m) : IsS m v := by
  obtain ⟨z, e1, e2⟩ := h
  exact ⟨z, e1, by omega⟩
theorem evS_addE {a b : Nat} (ha : EvS ta σ H (IsE a)) (hb : EvS tb σ H (IsE b)) (h : a + b ≤ 100000) : EvS (tOp (fun x y H Q => ∃ i j, x = V.str i ∧ y = .str j ∧ i.length + j.length ≤ sizeLine ∧ Q (.str (i ++ j)) H) ta tb) σ H (IsE (a + b)) :=
  evS_op ha hb fun x y ⟨z, e1, h1⟩ ⟨z', e2, h2⟩ => by
    subst e1 e2
    refine ⟨_, ⟨z ++ z', rfl, ?_⟩, rv_addS (sz_of (by omega))⟩
    rw [Str.length_append]
    omega
theorem s_asgS {i : Nat} (h : EvS te σ H S) (k : ∀ v H1, S v → Ex H H1 → D.nx (σ.set i (some v)) H1) : tAsg te (gName i) D σ H := h H (Ex.refl H) _ fun v H1 s e => k v H1 s e
theorem q_asgS {i : Nat} (h : EvS te σ H S) (k : ∀ v H1, S v → Ex H H1 → tz D (σ.set i (some v)) H1) : tSeq (tAsg te (gName i)) tz D σ H := s_asgS (D := { D with nx := tz D }) h k
theorem s_retS (h : EvS te σ H S) (k : ∀ v H1, S v → Ex H H1 → D.rt v H1) : tRet te D σ H := h H (Ex.refl H) _ fun v H1 s e => k v H1 s e
/-! ### lists of things of a kind -/
def EvLS (te : TE) (σ : L2.St) (H : Hp) (R : List V → Prop) : Prop := ∀ H1, Ex H H1 → ∀ Q : VK, (∀ xs p H2, R xs → H1 p = none → Ex H1 H2 → H2 p = some (.lst xs) → Q (.ref p) H2) → te σ H1 Q
theorem elS_of {xs : List V} {R : List V → Prop} (h : EvL te σ H xs) (r : R xs) : EvLS te σ H R := fun H1 e Q q => h H1 e Q fun p H2 hp e2 h2 => q xs p H2 r hp e2 h2
theorem elS_sl {tl th : TO} {R R' : List V → Prop} {lo hi : Option Int} (h : EvLS te σ H R) (h1 : EvO tl σ H lo) (h2 : EvO th σ H hi) (w : ∀ xs, R xs → R' (cutV xs lo hi)) : EvLS (tSl (rSlL K) te tl th) σ H R' := fun H1 e Q q =>
  h H1 e _ fun xs a H2 rx ha e2 hx => h1 H2 (e.trans e2) _ fun H3 e3 => h2 H3 ((e.trans e2).trans e3) _ fun H4 e4 =>
    ⟨a, xs, rfl, sq_of (e4 _ _ (e3 _ _ hx)), fun p hp => q _ p _ (w xs rx) (fresh_back ((e2.trans e3).trans e4) hp) (((e2.trans e3).trans e4).trans (Ex.new hp)) upd_same⟩
theorem elS_lcR1 {ta : TA} {j : Nat} {vs : List Nat} {n : Int} (h : EvA ta σ H [.int n]) (hn : 0 ≤ n ∧ n ≤ 40000) (hw : ∀ x, wipe ((wipe σ vs).set j (some x)) vs = wipe σ vs)
    (he : ∀ (i : Nat) H1, Ex H H1 → (i : Int) < n → EvS te ((wipe σ vs).set j (some (.int (i : Int)))) H1 S) :
    EvLS (tLc (iRng1 ta) (gName j) tYes te vs) σ H (fun xs => xs.length = n.toNat ∧ ∀ x ∈ xs, S x) := fun H0 e Q q => h H0 e _ fun H1 e1 => ⟨n, rfl, by omega, by omega, fun Dl hD =>
  lc_range (lo := 0) (n := n.toNat) (fun i H' => Ex H1 H' ∧ ∃ xs, H' Dl = some (.lst xs) ∧ xs.length = i ∧ ∀ x ∈ xs, S x) ⟨Ex.new hD, [], upd_same, rfl, fun x hx => by cases hx⟩ (fun i H' hi ⟨x1, xs, x2, x3, x4⟩ => by
    have e0 : (0 : Int) + (i : Int) = (i : Int) := Int.zero_add _
    refine ⟨(by rw [e0]; exact hw _ : wipe ((wipe σ vs).set j (some (.int ((0 : Int) + (i : Int))))) vs = wipe σ vs), ?_⟩
    refine iteT (B := Ex H1 H' ∧ ∃ xs, H' Dl = some (.lst xs) ∧ xs.length = i + 1 ∧ ∀ x ∈ xs, S x) ?_
    show te ((wipe σ vs).set j (some (.int ((0 : Int) + (i : Int))))) H' _
    rw [e0]
    refine he i H' ((e.trans e1).trans x1) (by omega) H' (Ex.refl H') _ fun v H2 s e2 => ⟨xs, e2 _ _ x2, sz_lt (by omega), Ex.mut (x1.trans e2) hD, xs ++ [v], upd_same, by rw [List.length_append, x3]; rfl, fun x hx => ?_⟩
    rcases List.mem_append.mp hx with hx | hx
    · exact x4 x hx
    · rw [List.mem_singleton.mp hx]
      exact s) (fun H' ⟨x1, xs, x2, x3, x4⟩ => q xs Dl H' ⟨x3, x4⟩ (fresh_back e1 hD) (e1.trans x1) x2)⟩
/-- arguments, with what is known of the heap behind them -/
def EvAH (ta : TA) (σ : L2.St) (H : Hp) (P : List V → Hp → Prop) : Prop := ∀ H1, Ex H H1 → ∀ Q : List V → Hp → Prop, (∀ vs H2, P vs H2 → Ex H1 H2 → Q vs H2) → ta σ H1 Q
theorem eaH_of {ta : TA} {vs : List V} {P : List V → Hp → Prop} (h : EvA ta σ H vs) (p : ∀ H1, Ex H H1 → P vs H1) : EvAH ta σ H P := fun H1 e Q q => h H1 e Q fun H2 e2 => q vs H2 (p H2 (e.trans e2)) e2
theorem eaH_weak {ta : TA} {P P' : List V → Hp → Prop} (h : EvAH ta σ H P) (w : ∀ vs H1, P vs H1 → P' vs H1) : EvAH ta σ H P' := fun H1 e Q q => h H1 e Q fun vs H2 r e2 => q vs H2 (w vs H2 r) e2
theorem elS_weak {R R' : List V → Prop} (h : EvLS te σ H R) (w : ∀ xs, R xs → R' xs) : EvLS te σ H R' := fun H1 e Q q => h H1 e Q fun xs p H2 r hp e2 h2 => q xs p H2 (w xs r) hp e2 h2
theorem eaH_consL {tr : TA} {xs : List V} {P : List V → Hp → Prop} (h : EvL te σ H xs) (hr : EvAH tr σ H P) : EvAH (tCons te tr) σ H (fun vs H2 => ∃ p r, vs = .ref p :: r ∧ H2 p = some (.lst xs) ∧ P r H2) := fun H1 e Q q =>
  h H1 e _ fun p H2 hp e2 h2 => hr H2 (e.trans e2) _ fun vs H3 hP e3 => q _ H3 ⟨p, vs, rfl, e3 _ _ h2, hP⟩ (e2.trans e3)
theorem eaH_cons {tr : TA} {P : List V → Hp → Prop} (h : EvS te σ H S) (hr : EvAH tr σ H P) : EvAH (tCons te tr) σ H (fun vs H2 => ∃ v r, vs = v :: r ∧ S v ∧ P r H2) := fun H1 e Q q =>
  h H1 e _ fun v H2 s e2 => hr H2 (e.trans e2) _ fun vs H3 hP e3 => q _ H3 ⟨v, vs, rfl, s, hP⟩ (e2.trans e3)
def SpLS (sp : Sp) (vs : List V) (H : Hp) (R : List V → Prop) : Prop := ∀ Q : VK, (∀ xs p H2, R xs → H p = none → Ex H H2 → H2 p = some (.lst xs) → Q (.ref p) H2) → ∀ E : XK, sp vs H Q E
theorem elS_call {sp : Sp} {dvs : List V} {P : List V → Hp → Prop} {R : List V → Prop} {E : XK} {ta : TA} (h : EvAH ta σ H P) (hs : ∀ vs H1, Ex H H1 → P vs H1 → SpLS sp (vs ++ dvs) H1 R) : EvLS (tCall sp dvs E ta) σ H R := fun H1 e Q q =>
  h H1 e _ fun vs H2 p e2 => hs vs H2 (e.trans e2) p Q (fun xs a H3 r ha e3 h3 => q xs a H3 r (fresh_back e2 ha) (e2.trans e3) h3) E
theorem s_asgLS {i : Nat} {R : List V → Prop} (h : EvLS te σ H R) (k : ∀ xs p H1, R xs → H p = none → Ex H H1 → H1 p = some (.lst xs) → D.nx (σ.set i (some (.ref p))) H1) : tAsg te (gName i) D σ H := h H (Ex.refl H) _ fun xs p H1 r hp e h1 => k xs p H1 r hp e h1
theorem q_asgLS {i : Nat} {R : List V → Prop} (h : EvLS te σ H R) (k : ∀ xs p H1, R xs → H p = none → Ex H H1 → H1 p = some (.lst xs) → tz D (σ.set i (some (.ref p))) H1) : tSeq (tAsg te (gName i)) tz D σ H := s_asgLS (D := { D with nx := tz D }) h k
theorem elS_catV {p : Addr} {xs : List V} {R R' : List V → Prop} (ha : Ev ta σ H (.ref p)) (hx : H p = some (.lst xs)) (hb : EvLS tb σ H R) (w : ∀ ys, R ys → xs.length + ys.length ≤ 100000 ∧ R' (xs ++ ys)) : EvLS (tOp rCat ta tb) σ H R' := fun H1 e Q q =>
  ha H1 e _ fun H2 e2 => hb H2 (e.trans e2) _ fun ys p' H3 r hp' e3 h3 => ⟨p, p', xs, ys, rfl, rfl, ((e.trans e2).trans e3) _ _ hx, h3, sz_of (w ys r).1, fun l hl => q _ l _ (w ys r).2 (fresh_back (e2.trans e3) hl) ((e2.trans e3).trans (Ex.new hl)) upd_same⟩
theorem elS_lst {ta : TA} {R : List V → Prop} (h : EvAS ta σ H R) (hl : ∀ vs, R vs → vs.length ≤ 100000) : EvLS (tLst ta) σ H R := fun H1 e _ q =>
  h H1 e _ fun vs H2 r e2 => ⟨sz_of (hl vs r), fun p hp => q vs p _ r (fresh_back e2 hp) (e2.trans (Ex.new hp)) upd_same⟩
theorem mem_cut {xs : List V} {lo hi : Option Int} {x : V} (h : x ∈ cutV xs lo hi) : x ∈ xs := by
  unfold cutV at h
  exact List.mem_of_mem_drop (List.mem_of_mem_take h)
theorem cut_le (xs : List V) (n : Nat) : (cutV xs none (some (n : Int))).length ≤ n := by
  unfold cutV
  rw [List.length_take]
  refine Nat.le_trans (Nat.min_le_left _ _) ?_
  have h1 : HT.sIx xs.length xs.length (some (n : Int)) ≤ n := by
    unfold HT.sIx
    simp only []
    split <;> omega
  omega
theorem strs_of {n : Nat} : ∀ {xs : List V}, (∀ x ∈ xs, IsS n x) → ∃ ys : List Str, xs = ys.map V.str ∧ ∀ y ∈ ys, y.length ≤ n
  | [], _ => ⟨[], rfl, fun y hy => by cases hy⟩
  | x :: xs, h => by
    obtain ⟨ys, rfl, hy⟩ := strs_of (xs := xs) fun x hx => h x (List.mem_cons_of_mem _ hx)
    obtain ⟨z, rfl, hz⟩ := h x List.mem_cons_self
    refine ⟨z :: ys, rfl, fun y h => ?_⟩
    rcases List.mem_cons.mp h with rfl | h
    · exact hz
    · exact hy y h
theorem join_len (a : Str) (ys : List Str) : (Txt.join a ys).length ≤ (ys.map (·.length)).sum + ys.length * a.length := by
  unfold Txt.join
  rw [StrLaws.glued_eq_join]
  exact StrLaws.join_length_le a ys
theorem sum_le {n : Nat} : ∀ {ys : List Str}, (∀ y ∈ ys, y.length ≤ n) → (ys.map (·.length)).sum ≤ ys.length * n
  | [], _ => Nat.zero_le _
  | y :: ys, h => by
    have ih := sum_le (ys := ys) fun y hy => h y (List.mem_cons_of_mem _ hy)
    have h1 := h y List.mem_cons_self
    show y.length + (ys.map (·.length)).sum ≤ (ys.length + 1) * n
    rw [Nat.succ_mul]
    omega
theorem evS_joinL {to : TE} {a : Str} {m n : Nat} {R : List V → Prop} (ho : Ev to σ H (.str a)) (he : EvLS te σ H R) (hR : ∀ xs, R xs → xs.length ≤ m ∧ ∀ x ∈ xs, IsS n x) (hz : m * n + m * a.length ≤ 16777216) :
    EvS (tM1 (fun x xs H Q => ∃ a p, ∃ ys : List Str, x = .str a ∧ xs = [.ref p] ∧ (SqL K H p (ys.map V.str) ∨ SqT K H p (ys.map V.str)) ∧ (ys.map (·.length)).sum + ys.length * a.length ≤ 16777216 ∧ Q (.str (Txt.join a ys)) H) to te) σ H (IsS (m * n + m * a.length)) := fun H1 e Q q =>
  ho H1 e _ fun H2 e2 => ⟨⟨a, rfl⟩, he H2 (e.trans e2) _ fun xs p H3 rx hp e3 hx => by
    obtain ⟨hm, hs⟩ := hR xs rx
    obtain ⟨ys, rfl, hy⟩ := strs_of hs
    rw [List.length_map] at hm
    have h1 := sum_le hy
    have h2 := Nat.mul_le_mul_right n hm
    have h3 := Nat.mul_le_mul_right a.length hm
    exact ⟨a, p, ys, rfl, rfl, .inl (sq_of hx), by omega, q _ H3 ⟨_, rfl, Nat.le_trans (join_len a ys) (by omega)⟩ (e2.trans e3)⟩⟩
theorem s_appS {l : Addr} {xs : List V} (hl : H l = some (.lst xs)) (ha : Ev ta σ H (.ref l)) (h : EvS te σ H S) (hz : xs.length < 100000) (k : ∀ v H1, S v → Ex H H1 → D.nx σ (upd H1 l (.lst (xs ++ [v])))) :
    tDrop (tBM K "list" rAppend ta (tCons te tNil)) D σ H := ha H (Ex.refl H) _ fun H1 e1 =>
  ⟨Or.inl ⟨rfl, xs, sq_of (e1 l _ hl)⟩, h H1 e1 _ fun v H2 s e2 => ⟨l, xs, v, rfl, rfl, e2 l _ (e1 l _ hl), sz_lt hz, k v H2 s (e1.trans e2)⟩⟩
theorem q_appS {l : Addr} {xs : List V} (hl : H l = some (.lst xs)) (ha : Ev ta σ H (.ref l)) (h : EvS te σ H S) (hz : xs.length < 100000) (k : ∀ v H1, S v → Ex H H1 → tz D σ (upd H1 l (.lst (xs ++ [v])))) :
    tSeq (tDrop (tBM K "list" rAppend ta (tCons te tNil))) tz D σ H := s_appS (D := { D with nx := tz D }) hl ha h hz k
/-! ### lists made of lists -/
theorem el_cat {xs ys : List V} (ha : EvL ta σ H xs) (hb : EvL tb σ H ys) (h : xs.length + ys.length ≤ 100000) : EvL (tOp rCat ta tb) σ H (xs ++ ys) := fun H1 e Q q =>
  ha H1 e _ fun p H2 hp e2 h2 => hb H2 (e.trans e2) _ fun p' H3 hp' e3 h3 => ⟨p, p', xs, ys, rfl, rfl, e3 _ _ h2, h3, sz_of h, fun l hl => q l _ (fresh_back (e2.trans e3) hl) ((e2.trans e3).trans (Ex.new hl)) upd_same⟩
theorem el_catV {p : Addr} {xs ys : List V} (ha : Ev ta σ H (.ref p)) (hx : H p = some (.lst xs)) (hb : EvL tb σ H ys) (h : xs.length + ys.length ≤ 100000) : EvL (tOp rCat ta tb) σ H (xs ++ ys) := fun H1 e Q q =>
  ha H1 e _ fun H2 e2 => hb H2 (e.trans e2) _ fun p' H3 hp' e3 h3 => ⟨p, p', xs, ys, rfl, rfl, ((e.trans e2).trans e3) _ _ hx, h3, sz_of h, fun l hl => q l _ (fresh_back (e2.trans e3) hl) ((e2.trans e3).trans (Ex.new hl)) upd_same⟩
theorem el_rep {xs : List V} {k : Int} (ha : EvL ta σ H xs) (hb : Ev tb σ H (.int k)) (h0 : 0 ≤ k) (h1 : k < 100000) (h : xs.length * k.toNat ≤ 100000) : EvL (tOp rRep ta tb) σ H (List.replicate k.toNat xs).flatten := fun H1 e Q q =>
  ha H1 e _ fun p H2 hp e2 h2 => hb H2 (e.trans e2) _ fun H3 e3 => ⟨p, k, xs, rfl, rfl, e3 _ _ h2, by omega, by omega, sz_of h, fun l hl => q l _ (fresh_back (e2.trans e3) hl) ((e2.trans e3).trans (Ex.new hl)) upd_same⟩
end
theorem at_map {α : Type} {f : α → V} {xs : List α} {j : Nat} {x : α} (h : xs[j]? = some x) : atI (xs.map f) (j : Int) = some (f x) := by
  refine atI_nat ?_
  rw [List.getElem?_map, h]
  rfl
theorem at_get {α : Type} {l : List α} {j : Nat} {d : α} (h : j < l.length) : atI l (j : Int) = some (l.getD j d) := by
  refine atI_nat ?_
  rw [List.getD_eq_getElem?_getD, List.getElem?_eq_getElem h]
  rfl
theorem at_intsI {ns : List Int} {i : Int} (h0 : 0 ≤ i) (h : i < (ns.length : Int)) : atI (ns.map V.int) i = some (.int (ns.getD i.toNat 0)) := by
  obtain ⟨j, rfl⟩ : ∃ j : Nat, i = (j : Int) := ⟨i.toNat, by omega⟩
  refine atI_nat ?_
  rw [List.getElem?_map, List.getD_eq_getElem?_getD, Int.toNat_natCast, List.getElem?_eq_getElem (by omega)]
  rfl
theorem at_ints {ns : List Int} {j : Nat} (h : j < ns.length) : atI (ns.map V.int) (j : Int) = some (.int (ns.getD j 0)) := by
  refine at_map ?_
  rw [List.getD_eq_getElem?_getD, List.getElem?_eq_getElem h]
  rfl
theorem getD_of {α : Type} {l : List α} {j : Nat} {x d : α} (h : l[j]? = some x) : l.getD j d = x := by
  rw [List.getD_eq_getElem?_getD, h]
  rfl
theorem str_len (z : Str) : z.length = z.cps.toList.length := Array.length_toList.symm
theorem all_take_succ {α : Type} {p : α → Bool} : ∀ {l : List α} {i : Nat} {c : α}, l[i]? = some c → (l.take (i + 1)).all p = ((l.take i).all p && p c) := by
  intro l i c h
  have e : l.take (i + 1) = l.take i ++ [c] := by
    rw [List.take_add_one, h]
    rfl
  rw [e, List.all_append, List.all_cons, List.all_nil, Bool.and_true]
end Own

/-! own rules: xs.extend(a tuple) -/
namespace Own
open PySem L2 Evl PySem.Spec PyProof.Rows
/-- list.extend of a list by a tuple, whatever else the tuple's record holds -/
theorem own_extend_tup (x : Addr) (had : Array Value) (m : Nat) (t : Addr) (ot : Obj) (more : Array Value) (m2 : Nat) (hc : ot.cls = .type "tuple") (hd : ot.data = .seq more m2)
    (g0 : ¬(!had.isEmpty && Builtin.List.listTooLong (had.size + more.size)) = true) (g1 : had.size ≤ sizeLine) (g2 : had.size + more.size ≤ sizeLine + 1) :
    Meets (Builtin.«list.extend» ⟨[.ref x, .ref t], []⟩) (fun _ R s => s.heap.get? x = some { cls := .type "list", dict := none, data := .seq had m, slots := #[] } ∧ s.heap.get? t = some ot ∧
      R (.ok (.ret Value.none)) { s with heap := s.heap.update x (Obj.mapSeq fun q => q ++ more), toks := s.toks }) := by
  obtain ⟨ck, dk, dt, sk⟩ := ot
  simp only at hc hd
  subst hc hd
  refine .of_wp fun prog w A R s h => ?_
  obtain ⟨hp, g, d, tk, os⟩ := s
  obtain ⟨hx, ht, h⟩ := h
  have f1 := AutoSeq1.idx_int
  have f2 := AutoSeq1.sub_tuple_tuple
  have f3 := AutoSeq1.sub_list_list
  have f4 := AutoSeq1.sub_tuple_list
  have f5 := AutoSeq1.sub_list_tuple
  have z2 : (had ++ more).size ≤ sizeLine + 1 := by
    rw [Array.size_append]
    exact g2
  wp_walk using (wpAny_updateSeq hx rfl (hz := g1) (_hz' := z2)), AutoSeq1.wpAny_loadPart' hx, AutoSeq1.wpAny_loadPart' ht
  exact ⟨_, rfl, h⟩
section
variable {X : Cx}
def rExtT (K : PySem.W.Frag) : V → List V → Hp → VK → Prop := fun x vs H Q => ∃ l b xs zs, x = .ref l ∧ vs = [.ref b] ∧ H l = some (.lst xs) ∧ SqT K H b zs ∧ xs.length + zs.length ≤ sizeLine ∧ Q .non (upd H l (.lst (xs ++ zs)))
theorem mt_extT : MtM X "list.extend" (rExtT X.K) := by
  intro pins s σ H x vs v us Q I rx rv ⟨l, b, xs, zs, e1, e2, hl, hb, hz, q⟩
  subst e1 e2
  cases rx
  obtain ⟨u, rfl, ru⟩ := rv.one
  cases ru
  obtain ⟨_, had, m, ra, ha, ga⟩ := I.lstM hl
  obtain ⟨more, rm, ⟨ot, go, gc, m2, gd⟩, _⟩ := I.tuple hb
  have hm := rm.length
  have small : had.toArray.size + more.toArray.size ≤ sizeLine := by
    rw [List.size_toArray, List.size_toArray]
    omega
  have roomy : ¬ (!had.toArray.isEmpty && Builtin.List.listTooLong (had.toArray.size + more.toArray.size)) = true := by
    rw [notLongL small, Bool.and_false]
    decide
  refine call_meets F.slot_list_extend ⟨_, ga, rfl⟩ F.entry_list_extend (F.args_list_extend_2 _ _) (own_extend_tup l had.toArray m b ot more.toArray m2 gc gd roomy (by omega) (by omega)) ⟨ga, go, .non, _, ?_, rfl, q⟩
  exact I.lset (its' := had ++ more) hl ga (by simp) (ra.append rm) (by rw [List.length_append]; omega)
end
section
variable {prog : Program} {w : World} {A : Around} {E : Value → Shared → Prop} {s : Shared}
theorem tail_bounds {a n : Nat} (h : a ≤ n) : sliceBounds (some (a : Int)) none none n = ((a : Int), (n : Int), 1) := by
  have na : ¬ (a : Int) < 0 := by omega
  have e : max (0 : Int) (min (a : Int) (n : Int)) = (a : Int) := by omega
  simp only [sliceBounds, Option.getD_none, na, if_false, show (1 : Int) > 0 by decide, if_true, e]
theorem own_set_tail {l b sl : Addr} {had new : Array Value} {n n2 : Nat} {vl vu : Value} {a : Nat} {Q : Unit → Shared → Prop}
    (gl : s.heap.get? l = some { cls := .type "list", data := .seq had n }) (gb : s.heap.get? b = some { cls := .type "list", data := .seq new n2 }) (ne : l ≠ b)
    (hs : s.heap.IsSliceOf sl vl vu .none) (pl : IsPart vl (some (a : Int))) (pu : IsPart vu none) (ha : a ≤ had.size) (hz : had.size + new.size ≤ sizeLine)
    (h : Q () { s with heap := s.heap.update l (Obj.mapSeq fun q => q.extract 0 a ++ new ++ q.extract had.size q.size) }) : wpAny (model prog w) A (setItem (.ref l) (.ref sl) (.ref b)) Q E s := by
  have il := PySem.IsL.isList gl
  have ib := PySem.IsL.isList gb
  obtain ⟨os, gs, cs, ds⟩ := id hs
  have ts : s.TypeIs (.ref sl) "slice" := ⟨os, gs, cs⟩
  have other : Builtin.List.listSameRef (.ref l) (.ref b) = false := beq_eq_false_iff_ne.mpr ne
  have top : (max (a : Int) (had.size : Int)).toNat = had.size := by omega
  have zz : (had.extract 0 a ++ new ++ had.extract had.size had.size).size ≤ sizeLine + 1 := by
    rw [Array.size_append, Array.size_append, Array.size_extract, Array.size_extract]
    omega
  unfold setItem
  refine wpAny_holding (wpAny_bind (wpAny_sequenceKey il.typeIs (by decide) (wpAny_bind (wpAny_callSpecial?_slot (name := Str.ofString "__setitem__") il.typeIs slot_list_setitem (wpAny_call_entry slot_list_setitem il.typeIs entry_list_setitem ?_ (args_list_setitem _ _ _))))))
  change wpAny _ _ (Builtin.List.listSubscript? (.ref sl) >>= _) _ _ s
  unfold Builtin.List.listSubscript?
  refine wpAny_bind (wpAny_bind (wpAny_specialOf ts slice_no_index ?_))
  rw [Option.isNone_none, if_pos rfl]
  refine wpAny_pure ?_
  change wpAny _ _ (typeOf (.ref sl) >>= _) _ _ s
  refine wpAny_bind (wpAny_typeOf ts ?_)
  first | refine PySem.W.KFB.if_not (by decide) ?_ | rw [if_neg (by decide)]
  rw [listSliceParts_eq]
  have stp : ¬ ((rawPart none == rawInt 0) = true) := Bool.false_ne_true
  refine wpAny_bind (wpAny_bind (wpAny_field gs ds (x := .none) rfl (wpAny_bind (wpAny_listPart IsPart.none ?_))))
  rw [if_neg stp]
  refine wpAny_bind (wpAny_field gs ds (x := vl) rfl (wpAny_bind (wpAny_listPart pl (wpAny_bind (wpAny_field gs ds (x := vu) rfl (wpAny_bind (wpAny_listPart pu (wpAny_pure ?_))))))))
  first | refine PySem.W.KFB.if_not other ?_ | simp only [other, Bool.false_eq_true, if_false]
  refine wpAny_bind (m := Builtin.List.listAllItems (.ref b) _) ?_
  unfold Builtin.List.listAllItems
  refine wpAny_bind (wpAny_typeOf ib.typeIs ?_)
  first | refine PySem.W.KFB.if_so (by decide) ?_ | rw [if_pos (by decide)]
  unfold Builtin.List.listItems
  refine wpAny_bind (wpAny_seqItems gb rfl (wpAny_pure (wpAny_bind (wpAny_bind (wpAny_seqItems gl rfl (wpAny_pure ?_))))))
  refine wpAny_bind (wpAny_of_eq ((sliceIndices_raw (some (a : Int)) none none had.size (by simp)).trans (congrArg (pure : Int × Int × Int → Sem (Int × Int × Int)) (tail_bounds ha))) ?_)
  change wpAny _ _ (if ((1 : Int) == 1) = true then _ else _) _ _ s
  rw [if_pos (by decide)]
  refine wpAny_bind (wpAny_rule ?_)
  first | refine PySem.W.KFB.if_not (notLongL hz) ?_ | simp only [notLongL hz, Bool.false_eq_true, if_false]
  first | refine wpAny_bind (wpAny_pure ?_) | skip
  change wpAny _ _ (updateSeq l (fun q => q.extract 0 ((a : Int)).toNat ++ new ++ q.extract (max (a : Int) (had.size : Int)).toNat q.size) >>= _) _ _ s
  rw [top, Int.toNat_natCast]
  refine wpAny_bind (wpAny_updateSeq (hz := Nat.le_trans (Nat.le_add_right _ _) hz) (_hz' := zz) gl rfl (wpAny_bind (wpAny_letGo ?_)))
  first | exact wpAny_pure ⟨.none, rfl, wpAny_pure h⟩ | exact wpAny_bind (wpAny_pure (wpAny_pure ⟨.none, rfl, wpAny_pure h⟩))
end
section
variable {X : Cx}
/-- xs[a:] = e -/
def gTail (to : TE) (tl : TO) : TG := fun v σ H Q => to σ H fun o H1 => tl σ H1 fun z H2 => ∃ l b xs ys, ∃ a : Nat, o = .ref l ∧ z = some (a : Int) ∧ v = .ref b ∧ H2 l = some (.lst xs) ∧ H2 b = some (.lst ys) ∧ l ≠ b ∧ a ≤ xs.length ∧ xs.length + ys.length ≤ sizeLine ∧
  Q σ (upd H2 l (.lst (xs.take a ++ ys)))
theorem pg_tail {o : Expr} {lo : Option Expr} {to : TE} {tl : TO} {pos p2 : Pos} (ho : PE X o to) (hl : PO X lo tl)
    (ha : ∀ v, assign (.Subscript o (.Slice lo none none p2) pos) X.env v = (do
      let ov ← holding [v] (eval o X.env)
      let iv ← holding [v, ov] (eval (.Slice lo none none p2) X.env)
      standAt pos
      holding [v, ov, iv] (setItem ov iv v)
      release [iv, v, ov] []) := by intro _; rfl) : PG X (.Subscript o (.Slice lo none none p2) pos) (gTail to tl) := by
  refine ⟨fun pins s σ H v u Q I r h => ?_⟩
  rw [ha]
  refine wpAny_bind (wpAny_holding (thn (ho.run pins s σ H _ I h) fun ov s1 ⟨x, H1, I1, r1, q1⟩ => wpAny_bind (wpAny_holding (wpAny_Slice ?_))))
  refine thn (hl.run pins s1 σ H1 _ I1 q1) fun vl s2 ⟨z, H2, I2, pl, l, b, xs, ys, a, e1, e2, e3, gl, gb, ne, hle, hz, q2⟩ => ?_
  subst e1 e2 e3
  rw [evalPart_none]
  refine wpAny_pure (wpAny_pure ?_)
  cases r1
  cases r
  have I3 : Inv X pins σ H2 { s2 with heap := s2.heap.push { cls := .type "slice", data := .fields #[vl, .none, .none] } } := I2.kept (t' := s2.toks) fun _ _ q => Heap.get?_push_of_some _ q
  refine wpAny_bind (wpAny_standAt (wpAny_bind (wpAny_holding ?_)))
  obtain ⟨_, had, m, ra, hn, ga⟩ := I3.lstM gl
  obtain ⟨_, new, m2, rb, hm, gb2⟩ := I3.lstM gb
  refine own_set_tail (a := a) ga gb2 ne (Heap.IsSliceOf.new ..) pl IsPart.none (by rw [List.size_toArray]; omega) (by rw [List.size_toArray, List.size_toArray]; omega) ?_
  refine wpAny_release ⟨σ, _, ?_, q2⟩
  refine I3.lset (its' := had.take a ++ new) gl ga ?_ (Vals.append (ra.take _) rb) ?_
  · rw [List.size_toArray]
    simp
  · rw [List.length_append, List.length_take]
    omega
end
end Own

/-! isinstance, types of tuples -/
namespace Own
open PySem L2 Evl
section
variable {K : PySem.W.Frag} {σ : L2.St} {H H' : Hp} {te : TE} {ta : TA} {x : V}
theorem tyX_tup {a : Addr} {xs : List V} (h : SqT K H a xs) : TyX K H (.ref a) (.type "tuple") := by
  rcases h with (h | ⟨o, h⟩) | ⟨o, its, n, h, hc, _⟩
  · exact .base (.tup h)
  · exact .fTuple h
  · exact .kTuple h hc
theorem tyX_lst {a : Addr} {xs : List V} (h : H a = some (.lst xs)) : TyX K H (.ref a) (.type "list") := .base (.lst h)
theorem ev_isiT {t : Value} {us : List Value} {cs : List V} {b : Bool} (hx : Ev te σ H x) (hc : EvA ta σ H cs) (hp : Paired ClsV cs us) (hz : cs.length ≤ 1000) (ty : ∀ H1, Ex H H1 → TyX K H1 x t) (k : PySem.W.kitAny K t us = some b) :
    Ev (tCB (rIsiT K) (tCons te (tCons (tTup ta) tNil))) σ H (.bl b) := fun H1 e Q q =>
  hx H1 e _ fun H2 e2 => hc H2 (e.trans e2) _ fun H3 e3 => ⟨sz_of (by omega), fun p hp3 => ⟨x, p, cs, t, us, b, rfl, upd_same, hp, ty _ (((e.trans e2).trans e3).trans (Ex.new hp3)), k, q _ ((e2.trans e3).trans (Ex.new hp3))⟩⟩
theorem ev_isi {t u : Value} {c : V} {b : Bool} {tc : TE} (hx : Ev te σ H x) (hc : Ev tc σ H c) (hp : ClsV c u) (ty : ∀ H1, Ex H H1 → TyX K H1 x t) (k : PySem.W.kitOne K t u = some b) :
    Ev (tCB (rIsi K) (tCons te (tCons tc tNil))) σ H (.bl b) := fun H1 e Q q =>
  hx H1 e _ fun H2 e2 => hc H2 (e.trans e2) _ fun H3 e3 => ⟨x, c, t, u, b, rfl, hp, ty _ ((e.trans e2).trans e3), k, q _ (e2.trans e3)⟩
theorem kit2 {t u1 u2 : String} {b1 b2 : Bool} (h1 : kitB t u1 = some b1) (h2 : kitB t u2 = some b2) : PySem.W.kitAny K (.type t) [.type u1, .type u2] = some (b1 || b2) := by
  refine kitAny_cons (kit_ty h1) (fun e => ?_) (fun e => by rw [e]; rfl)
  rw [e, Bool.false_or]
  refine kitAny_cons (kit_ty h2) (fun e2 => ?_) (fun e2 => e2)
  rw [e2]
  exact kitAny_nil
theorem intStr_int : PySem.W.kitAny K (.type "int") [.type "int", .type "str"] = some true := kit2 (b1 := true) (b2 := false) (by decide +kernel) (by decide +kernel)
theorem intStr_str : PySem.W.kitAny K (.type "str") [.type "int", .type "str"] = some true := kit2 (b1 := false) (b2 := true) (by decide +kernel) (by decide +kernel)
theorem intStr_tup : PySem.W.kitAny K (.type "tuple") [.type "int", .type "str"] = some false := kit2 (b1 := false) (b2 := false) (by decide +kernel) (by decide +kernel)
theorem clsIS : Paired ClsV [.ty "int", .ty "str"] [.type "int", .type "str"] := .cons (.ty _) (.cons (.ty _) .nil)
theorem str_dec {i j : Str} : decide (V.str i = V.str j) = decide (i = j) := by
  by_cases e : i = j
  · subst e
    rw [decide_eq_true rfl, decide_eq_true rfl]
  · rw [decide_eq_false e, decide_eq_false (fun h => e (V.str.inj h))]
theorem rv_eqS {i j : Str} : RV rEq (.str i) (.str j) H (.bl (decide (i = j))) := by
  rw [← str_dec]
  exact rv_eq rfl
theorem rv_neS {i j : Str} : RV rNe (.str i) (.str j) H (.bl (!decide (i = j))) := by
  rw [← str_dec]
  exact rv_ne rfl
theorem not_whole {xs : List V} {A : Prop} (h : 1 ≤ xs.length) : ¬ (HT.sIx xs.length 0 (some 1) = 0 ∧ A) := fun z => by
  have z1 := z.1
  rw [show (1 : Int) = ((1 : Nat) : Int) from rfl, HT.sIx_nat] at z1
  omega
theorem ev_slT {tl th : TO} {p : Addr} {xs : List V} {lo hi : Option Int} (h : Ev te σ H (.ref p)) (h1 : EvO tl σ H lo) (h2 : EvO th σ H hi) (hx : SqT K H p xs) (hw : ¬ (HT.sIx xs.length 0 lo = 0 ∧ HT.sIx xs.length xs.length hi = xs.length)) :
    EvU (tSl (rSlT K) te tl th) σ H (cutV xs lo hi) := fun H1 e Q q =>
  h H1 e _ fun H2 e2 => h1 H2 (e.trans e2) _ fun H3 e3 => h2 H3 ((e.trans e2).trans e3) _ fun H4 e4 =>
    ⟨p, xs, rfl, ex_t (((e.trans e2).trans e3).trans e4) hx, hw, fun l hl => q l _ (fresh_back ((e2.trans e3).trans e4) hl) (((e2.trans e3).trans e4).trans (Ex.new hl)) upd_same⟩
end
end Own
/-! truth of lists, pop, extend by a tuple, the list turned round -/
namespace Own
open PySem L2 Evl
section
variable {K : PySem.W.Frag} {σ : L2.St} {H H' : Hp} {ta te : TE} {D : Ends} {tz : TS}
theorem et_truL {p : Addr} {xs : List V} (h : Ev te σ H (.ref p)) (hx : SqL K H p xs) : EvT (fun σ H Q => te σ H fun x H' => ∃ k, TruV K x H' k ∧ Q k H') σ H (!xs.isEmpty) := fun H1 e Q q =>
  h H1 e _ fun H2 e2 => ⟨_, Or.inl ⟨xs, ex_l (e.trans e2) hx, rfl⟩, q H2 e2⟩
theorem q_pop {l : Addr} {i : Nat} {xs : List V} {v : V} (hl : H l = some (.lst (xs ++ [v]))) (ha : Ev ta σ H (.ref l)) (k : ∀ H1, Ex H H1 → tz D (σ.set i (some v)) (upd H1 l (.lst xs))) : tSeq (tAsg (tBM0 K "list" rPop ta) (gName i)) tz D σ H :=
  ha H (Ex.refl H) _ fun H1 e1 => ⟨Or.inl ⟨rfl, _, sq_of (e1 l _ hl)⟩, l, xs ++ [v], v, rfl, rfl, e1 l _ hl, by rw [List.length_append]; simp, by
    show tz D (σ.set i (some v)) (upd H1 l (.lst (xs ++ [v]).dropLast))
    rw [List.dropLast_concat]
    exact k H1 e1⟩
/-- something that hands back a tuple of which R holds -/
def EvTup (K : PySem.W.Frag) (te : TE) (σ : L2.St) (H : Hp) (R : List V → Hp → Prop) : Prop := ∀ H1, Ex H H1 → ∀ Q : VK, (∀ p ws H2, Ex H1 H2 → SqT K H2 p ws → R ws H2 → Q (.ref p) H2) → te σ H1 Q
theorem s_extT {l : Addr} {xs : List V} {R : List V → Hp → Prop} (hl : H l = some (.lst xs)) (ha : Ev ta σ H (.ref l)) (h : EvTup K te σ H R) (k : ∀ ws H2, Ex H H2 → R ws H2 → xs.length + ws.length ≤ 100000 ∧ D.nx σ (upd H2 l (.lst (xs ++ ws)))) :
    tDrop (tBM K "list" (rExtT K) ta (tCons te tNil)) D σ H := ha H (Ex.refl H) _ fun H1 e1 =>
  ⟨Or.inl ⟨rfl, xs, sq_of (e1 l _ hl)⟩, h H1 e1 _ fun p ws H2 e2 hp r => ⟨l, p, xs, ws, rfl, rfl, e2 l _ (e1 l _ hl), hp, sz_of (k ws H2 (e1.trans e2) r).1, (k ws H2 (e1.trans e2) r).2⟩⟩
theorem el_rev {p : Addr} {xs : List V} (h : Ev te σ H (.ref p)) (hx : SqL K H p xs) : EvL (tRevL K te) σ H xs.reverse := fun H1 e Q q =>
  h H1 e _ fun H2 e2 => ⟨p, xs, rfl, ex_l (e.trans e2) hx, fun l hl => q l _ (fresh_back e2 hl) (e2.trans (Ex.new hl)) upd_same⟩
/-- something that hands back a new list of which R holds -/
def EvLH (te : TE) (σ : L2.St) (H : Hp) (R : List V → Hp → Prop) : Prop := ∀ H1, Ex H H1 → ∀ Q : VK, (∀ p ws H2, H1 p = none → Ex H1 H2 → H2 p = some (.lst ws) → R ws H2 → Q (.ref p) H2) → te σ H1 Q
theorem q_forLS {tl : TE} {j : Nat} {tu : TS} {R : List V → Hp → Prop} (h : EvLH tl σ H R)
    (k : ∀ p ws H1, H p = none → Ex H H1 → H1 p = some (.lst ws) → R ws H1 → ∃ Pv : Nat → L2.St → Hp → Prop, Pv 0 σ H1 ∧ (∀ i σ' H', Pv i σ' H' → SqL K H' p ws) ∧
      (∀ i x σ' H', ws[i]? = some x → Pv i σ' H' → tu { D with nx := Pv (i + 1), ct := Pv (i + 1), bk := tz D } (σ'.set j (some x)) H') ∧ (∀ σ' H', Pv ws.length σ' H' → tz D σ' H')) : tSeq (tFor (iList K tl) (gName j) tu) tz D σ H :=
  h H (Ex.refl H) _ fun p ws H1 hp e h1 r => by
    obtain ⟨Pv, h0, hl, hs, hd⟩ := k p ws H1 hp e h1 r
    exact ⟨p, rfl, ⟨ws, sq_of h1⟩, for_list (D := { D with nx := tz D }) Pv h0 (fun i σ' H' _ q => hl i σ' H' q) hs hd⟩
theorem ev_lenTup {R : List V → Hp → Prop} {n : Nat} (h : EvTup K te σ H R) (hn : ∀ ws H2, R ws H2 → ws.length = n) : Ev (tCB (fun xs H Q => ∃ p ys, xs = [V.ref p] ∧ (SqL K H p ys ∨ SqT K H p ys) ∧ Q (.int ys.length) H) (tCons te tNil)) σ H (.int (n : Int)) := fun H1 e Q q =>
  h H1 e _ fun p ws H2 e2 hp r => ⟨p, ws, rfl, .inr hp, by rw [hn ws H2 r]; exact q H2 e2⟩
/-- xs[n:] = [e] -/
theorem s_tail {to te : TE} {tl : TO} {y : Addr} {xs : List V} {n : Nat} {R : V → Hp → Prop} (hl : H y = some (.lst xs)) (hn : n ≤ xs.length) (ho : Ev to σ H (.ref y)) (hi : EvO tl σ H (some (n : Int)))
    (h : ∀ H1, Ex H H1 → ∀ Q : VK, (∀ v H2, Ex H1 H2 → R v H2 → Q v H2) → te σ H1 Q) (hz : xs.length ≤ 50000) (keep : ∀ {v} H1 H2, Ex H1 H2 → R v H1 → R v H2) (k : ∀ v H1, Ex H H1 → R v H1 → D.nx σ (upd H1 y (.lst (xs.take n ++ [v])))) :
    tAsg (tLst (tCons te tNil)) (gTail to tl) D σ H := by
  refine h H (Ex.refl H) _ fun v H1 e1 r => ⟨sz_of (by show 1 ≤ 100000; decide), fun p hp => ?_⟩
  have e2 : Ex H (upd H1 p (.lst [v])) := e1.trans (Ex.new hp)
  refine ho _ e2 _ fun H3 e3 => hi H3 (e2.trans e3) _ fun H4 e4 => ?_
  have x1 : Ex H1 (upd H1 p (.lst [v])) := Ex.new hp
  have hy : H4 y = some (.lst xs) := e4 _ _ (e3 _ _ (e2 _ _ hl))
  have hp4 : H4 p = some (.lst [v]) := e4 _ _ (e3 _ _ upd_same)
  have ne : y ≠ p := ne_of_none (e1 _ _ hl) hp
  exact ⟨y, p, xs, [v], n, rfl, rfl, rfl, hy, hp4, ne, hn, sz_of (by show xs.length + 1 ≤ 100000; omega), k v H4 ((e2.trans e3).trans e4) (keep _ _ ((x1.trans e3).trans e4) r)⟩
end
end Own
/-! expressions as trees: what stands at an address, parts, the order in which a stack meets them -/
namespace Own
open PySem L2 Evl
inductive Tr where
  | int (i : Int)
  | nm (z : Str)
  | nt (e : Tr)
  | bin (op : Str) (l r : Tr)
  | call (n : Str) (es : List Tr)
def Tr.parts : Tr → List Tr
  | .int _ => []
  | .nm _ => []
  | .nt e => [e]
  | .bin _ l r => [l, r]
  | .call _ es => es
def Tr.leaf : Tr → Bool
  | .int _ => true
  | .nm _ => true
  | _ => false
mutual
def Tr.size : Tr → Nat
  | .int _ => 1
  | .nm _ => 1
  | .nt e => 1 + e.size
  | .bin _ l r => 1 + l.size + r.size
  | .call _ es => 1 + Tr.sizes es
def Tr.sizes : List Tr → Nat
  | [] => 0
  | e :: es => e.size + Tr.sizes es
end
mutual
/-- each part behind its own parts, left to right -/
def Tr.post : Tr → List Tr
  | .int i => [.int i]
  | .nm z => [.nm z]
  | .nt e => e.post ++ [.nt e]
  | .bin op l r => l.post ++ r.post ++ [.bin op l r]
  | .call n es => Tr.posts es ++ [.call n es]
def Tr.posts : List Tr → List Tr
  | [] => []
  | e :: es => e.post ++ Tr.posts es
end
mutual
/-- no operator is spelled as a call or as `not` -/
def Tr.plain : Tr → Prop
  | .int _ => True
  | .nm _ => True
  | .nt e => e.plain
  | .bin op l r => op ≠ "call" ∧ op ≠ "not" ∧ l.plain ∧ r.plain
  | .call _ es => Tr.plains es
def Tr.plains : List Tr → Prop
  | [] => True
  | e :: es => e.plain ∧ Tr.plains es
end
mutual
inductive TrAt (K : PySem.W.Frag) (H : Hp) : V → Tr → Prop
  | int (i : Int) : TrAt K H (.int i) (.int i)
  | nm (z : Str) : TrAt K H (.str z) (.nm z)
  | nt {a : Addr} {v : V} {e : Tr} : SqT K H a [.str "not", v] → TrAt K H v e → TrAt K H (.ref a) (.nt e)
  | bin {a : Addr} {v w : V} {op : Str} {l r : Tr} : SqT K H a [.str op, v, w] → TrAt K H v l → TrAt K H w r → TrAt K H (.ref a) (.bin op l r)
  | call {a b : Addr} {vs : List V} {n : Str} {es : List Tr} : SqT K H a [.str "call", .str n, .ref b] → SqT K H b vs → TrsAt K H vs es → TrAt K H (.ref a) (.call n es)
inductive TrsAt (K : PySem.W.Frag) (H : Hp) : List V → List Tr → Prop
  | nil : TrsAt K H [] []
  | cons {v : V} {vs : List V} {e : Tr} {es : List Tr} : TrAt K H v e → TrsAt K H vs es → TrsAt K H (v :: vs) (e :: es)
end
def TupKeep (K : PySem.W.Frag) (H H' : Hp) : Prop := ∀ a xs, SqT K H a xs → SqT K H' a xs
theorem TupKeep.of {K : PySem.W.Frag} {H H' : Hp} (e : Ex H H') : TupKeep K H H' := fun _ _ h => ex_t e h
theorem TupKeep.trans {K : PySem.W.Frag} {H H1 H2 : Hp} (a : TupKeep K H H1) (b : TupKeep K H1 H2) : TupKeep K H H2 := fun x xs h => b x xs (a x xs h)
theorem TupKeep.updL {K : PySem.W.Frag} {H : Hp} {l : Addr} {o : HO} {ys : List V} (h : H l = some (.lst ys)) : TupKeep K H (upd H l o) := fun a xs q => by
  rcases q with (q | ⟨u, q⟩) | q
  · exact .inl (.inl (by rw [upd_ne (ne_of q h (by intro z; cases z))]; exact q))
  · exact .inl (.inr ⟨u, by rw [upd_ne (ne_of q h (by intro z; cases z))]; exact q⟩)
  · exact .inr q
mutual
theorem TrAt.keep {K : PySem.W.Frag} {H H' : Hp} (f : TupKeep K H H') : ∀ {v : V} {e : Tr}, TrAt K H v e → TrAt K H' v e
  | _, _, .int i => .int i
  | _, _, .nm z => .nm z
  | _, _, .nt h t => .nt (f _ _ h) (t.keep f)
  | _, _, .bin h t u => .bin (f _ _ h) (t.keep f) (u.keep f)
  | _, _, .call h g ts => .call (f _ _ h) (f _ _ g) (ts.keep f)
theorem TrsAt.keep {K : PySem.W.Frag} {H H' : Hp} (f : TupKeep K H H') : ∀ {vs : List V} {es : List Tr}, TrsAt K H vs es → TrsAt K H' vs es
  | _, _, .nil => .nil
  | _, _, .cons t ts => .cons (t.keep f) (ts.keep f)
end
theorem TrsAt.len {K : PySem.W.Frag} {H : Hp} : ∀ {vs : List V} {es : List Tr}, TrsAt K H vs es → vs.length = es.length
  | _, _, .nil => rfl
  | _, _, .cons _ ts => congrArg (· + 1) ts.len
theorem TrsAt.get {K : PySem.W.Frag} {H : Hp} : ∀ {vs : List V} {es : List Tr} {i : Nat} {v : V}, TrsAt K H vs es → vs[i]? = some v → ∃ e, es[i]? = some e ∧ TrAt K H v e
  | _, _, 0, v, .cons t ts, h => by
    cases h
    exact ⟨_, rfl, t⟩
  | _, _, i + 1, v, .cons t ts, h => ts.get (i := i) h
theorem TrsAt.append {K : PySem.W.Frag} {H : Hp} : ∀ {vs ws : List V} {es fs : List Tr}, TrsAt K H vs es → TrsAt K H ws fs → TrsAt K H (vs ++ ws) (es ++ fs)
  | _, _, _, _, .nil, h => h
  | _, _, _, _, .cons t ts, h => .cons t (ts.append h)
theorem TrsAt.snoc {K : PySem.W.Frag} {H : Hp} {vs : List V} {es : List Tr} {v : V} {e : Tr} (h : TrsAt K H vs es) (t : TrAt K H v e) : TrsAt K H (vs ++ [v]) (es ++ [e]) := h.append (.cons t .nil)
/-- the last one, apart -/
theorem TrsAt.last {K : PySem.W.Frag} {H : Hp} : ∀ {vs : List V} {es : List Tr} {e : Tr}, TrsAt K H vs (es ++ [e]) → ∃ ws v, vs = ws ++ [v] ∧ TrsAt K H ws es ∧ TrAt K H v e
  | _, [], e, .cons t .nil => ⟨[], _, rfl, .nil, t⟩
  | _, f :: es, e, .cons t ts => by
    obtain ⟨ws, v, h, a, b⟩ := ts.last (es := es)
    exact ⟨_ :: ws, v, by rw [h]; rfl, .cons t a, b⟩
theorem TrsAt.rev {K : PySem.W.Frag} {H : Hp} : ∀ {vs : List V} {es : List Tr}, TrsAt K H vs es → TrsAt K H vs.reverse es.reverse
  | _, _, .nil => .nil
  | _, _, .cons t ts => by
    rw [List.reverse_cons, List.reverse_cons]
    exact ts.rev.snoc t
theorem Tr.plains_iff : ∀ {es : List Tr}, Tr.plains es ↔ ∀ e ∈ es, e.plain
  | [] => ⟨fun _ e h => (List.not_mem_nil h).elim, fun _ => True.intro⟩
  | e :: es => by
    show e.plain ∧ Tr.plains es ↔ _
    rw [Tr.plains_iff (es := es)]
    simp
theorem Tr.plain_parts {e : Tr} (h : e.plain) : ∀ p ∈ e.parts, p.plain := by
  cases e with
  | int i => intro p hp; cases hp
  | nm z => intro p hp; cases hp
  | nt e => intro p hp; rw [List.mem_singleton.mp hp]; exact h
  | bin op l r =>
    intro p hp
    simp only [Tr.parts, List.mem_cons, List.not_mem_nil, or_false] at hp
    rcases hp with rfl | rfl
    · exact h.2.2.1
    · exact h.2.2.2
  | call n es => exact Tr.plains_iff.mp h
theorem Tr.posts_eq : ∀ es : List Tr, Tr.posts es = es.flatMap Tr.post
  | [] => rfl
  | e :: es => by
    show e.post ++ Tr.posts es = _
    rw [Tr.posts_eq es]
    rfl
theorem Tr.post_eq (e : Tr) : e.post = e.parts.flatMap Tr.post ++ [e] := by
  cases e with
  | int i => rfl
  | nm z => rfl
  | nt e => show e.post ++ [.nt e] = ([e] : List Tr).flatMap Tr.post ++ _; simp
  | bin op l r => show l.post ++ r.post ++ [_] = ([l, r] : List Tr).flatMap Tr.post ++ _; simp
  | call n es => show Tr.posts es ++ [_] = es.flatMap Tr.post ++ _; rw [Tr.posts_eq]
theorem Tr.size_pos (e : Tr) : 0 < e.size := by
  cases e <;> simp only [Tr.size] <;> omega
theorem Tr.sizes_eq : ∀ es : List Tr, Tr.sizes es = (es.map Tr.size).sum
  | [] => rfl
  | e :: es => by
    show e.size + Tr.sizes es = _
    rw [Tr.sizes_eq es]
    rfl
theorem Tr.size_eq (e : Tr) : e.size = 1 + (e.parts.map Tr.size).sum := by
  cases e with
  | int i => rfl
  | nm z => rfl
  | nt e => show 1 + e.size = 1 + (e.size + 0); omega
  | bin op l r => show 1 + l.size + r.size = 1 + (l.size + (r.size + 0)); omega
  | call n es => show 1 + Tr.sizes es = _; rw [Tr.sizes_eq]; rfl
mutual
theorem Tr.post_len : ∀ e : Tr, e.post.length = e.size
  | .int _ => rfl
  | .nm _ => rfl
  | .nt e => by
    show (e.post ++ [_]).length = 1 + e.size
    rw [List.length_append, Tr.post_len e]
    exact Nat.add_comm _ _
  | .bin _ l r => by
    show (l.post ++ r.post ++ [_]).length = 1 + l.size + r.size
    rw [List.length_append, List.length_append, Tr.post_len l, Tr.post_len r]
    show l.size + r.size + 1 = _
    omega
  | .call _ es => by
    show (Tr.posts es ++ [_]).length = 1 + Tr.sizes es
    rw [List.length_append, Tr.posts_len es]
    exact Nat.add_comm _ _
theorem Tr.posts_len : ∀ es : List Tr, (Tr.posts es).length = Tr.sizes es
  | [] => rfl
  | e :: es => by
    show (e.post ++ Tr.posts es).length = e.size + Tr.sizes es
    rw [List.length_append, Tr.post_len e, Tr.posts_len es]
end
theorem sum_append_nat (a b : List Nat) : (a ++ b).sum = a.sum + b.sum := by
  induction a with
  | nil => simp
  | cons x a ih => simp [ih, Nat.add_assoc]
theorem parts_le (e : Tr) : e.parts.length ≤ e.size := by
  rw [Tr.size_eq]
  have : ∀ ts : List Tr, ts.length ≤ (ts.map Tr.size).sum := fun ts => by
    induction ts with
    | nil => exact Nat.le_refl _
    | cons t ts ih =>
      have := Tr.size_pos t
      show ts.length + 1 ≤ t.size + (ts.map Tr.size).sum
      omega
  have := this e.parts
  omega
theorem sizes_ge (ts : List Tr) : ts.length ≤ (ts.map Tr.size).sum := by
  induction ts with
  | nil => exact Nat.le_refl _
  | cons t ts ih =>
    have := Tr.size_pos t
    show ts.length + 1 ≤ t.size + (ts.map Tr.size).sum
    omega
theorem part_lt (e p : Tr) (h : p ∈ e.parts) : p.size < e.size := by
  rw [Tr.size_eq e]
  have : ∀ ts : List Tr, p ∈ ts → p.size ≤ (ts.map Tr.size).sum := fun ts => by
    induction ts with
    | nil => intro h; cases h
    | cons t ts ih =>
      intro h
      show p.size ≤ t.size + (ts.map Tr.size).sum
      rcases List.mem_cons.mp h with rfl | h
      · omega
      · have := ih h
        omega
  have := this _ h
  omega
theorem paired_len {α β : Type} {R : α → β → Prop} : ∀ {xs : List α} {ys : List β}, Paired R xs ys → xs.length = ys.length
  | _, _, .nil => rfl
  | _, _, .cons _ h => congrArg (· + 1) (paired_len h)
theorem paired_split {α β : Type} {R : α → β → Prop} : ∀ {xs zs : List α} {ys : List β}, Paired R (xs ++ zs) ys → ∃ a b, ys = a ++ b ∧ Paired R xs a ∧ Paired R zs b
  | [], _, ys, h => ⟨[], ys, rfl, .nil, h⟩
  | x :: xs, zs, _, .cons r h => by
    obtain ⟨a, b, e, h1, h2⟩ := paired_split (xs := xs) h
    exact ⟨_ :: a, b, by rw [e]; rfl, .cons r h1, h2⟩
theorem paired_app {α β : Type} {R : α → β → Prop} : ∀ {xs zs : List α} {ys ws : List β}, Paired R xs ys → Paired R zs ws → Paired R (xs ++ zs) (ys ++ ws)
  | _, _, _, _, .nil, h => h
  | _, _, _, _, .cons r g, h => .cons r (paired_app g h)
theorem paired_weak {α β : Type} {R R' : α → β → Prop} (f : ∀ a b, R a b → R' a b) : ∀ {xs : List α} {ys : List β}, Paired R xs ys → Paired R' xs ys
  | _, _, .nil => .nil
  | _, _, .cons r g => .cons (f _ _ r) (paired_weak f g)
theorem cut_drop {xs : List V} {n : Nat} (h : n ≤ xs.length) : cutV xs (some (n : Int)) none = xs.drop n := by
  unfold cutV
  rw [HT.sIx_nat, HT.sIx_none, Nat.min_eq_left h]
  exact List.take_of_length_le (by rw [List.length_drop]; exact Nat.le_refl _)
theorem paired_get {α β : Type} {R : α → β → Prop} : ∀ {xs : List α} {ys : List β} {i : Nat} {y : β}, Paired R xs ys → ys[i]? = some y → ∃ x, xs[i]? = some x ∧ R x y
  | _, _, 0, y, .cons r _, h => by
    cases h
    exact ⟨_, rfl, r⟩
  | _, _, i + 1, y, .cons _ t, h => paired_get (i := i) t h
end Own
/-! texts: append, f-strings -/
namespace Own
open PySem L2 Evl
theorem s_ext {a b : Str} (h : a.cps.toList = b.cps.toList) : a = b := by
  obtain ⟨a⟩ := a
  obtain ⟨b⟩ := b
  exact congrArg Str.mk (Array.toList_inj.mp h)
theorem s_cps (a b : Str) : (a ++ b).cps.toList = a.cps.toList ++ b.cps.toList := by
  rw [Str.cps_append, Array.toList_append]
theorem s_empty : Str.empty.cps.toList = [] := rfl
theorem s_nil (a : Str) : Str.empty ++ a = a := s_ext (by rw [s_cps]; rfl)
theorem s_nil' (a : Str) : a ++ Str.empty = a := s_ext (by rw [s_cps, s_empty, List.append_nil])
theorem s_assoc (a b c : Str) : a ++ b ++ c = a ++ (b ++ c) := s_ext (by rw [s_cps, s_cps, s_cps, s_cps, List.append_assoc])
section
variable {K : PySem.W.Frag} {σ : L2.St} {H H' : Hp} {te : TE}
theorem ev_fmtS {y : Str} (h : Ev te σ H (.str y)) (hz : y.length ≤ 100000) : Ev (tFmt te) σ H (.str y) := fun H1 e Q q => h H1 e _ fun H2 e2 => .inl ⟨y, rfl, sz_of hz, q H2 e2⟩
def EvJ (ts : List TE) (σ : L2.St) (H : Hp) (ys : List Str) : Prop := ∀ (acc : Str), acc.length + (ys.map (·.length)).sum ≤ 100000 → ∀ H1, Ex H H1 → ∀ Q : Str → Hp → Prop, (∀ H2, Ex H1 H2 → Q (ys.foldl (· ++ ·) acc) H2) → tJs ts acc σ H1 Q
theorem ej_nil : EvJ [] σ H [] := fun acc _ H1 _ Q q => q H1 (Ex.refl H1)
theorem ej_cons {ts : List TE} {y : Str} {ys : List Str} (h : Ev te σ H (.str y)) (r : EvJ ts σ H ys) : EvJ (te :: ts) σ H (y :: ys) := fun acc hz H1 e Q q =>
  h H1 e _ fun H2 e2 => ⟨y, rfl, sz_of (by rw [Str.length_append]; have : ((y :: ys).map (·.length)).sum = y.length + (ys.map (·.length)).sum := rfl; omega), r (acc ++ y) (by rw [Str.length_append]; have : ((y :: ys).map (·.length)).sum = y.length + (ys.map (·.length)).sum := rfl; omega) H2 (e.trans e2) Q fun H3 e3 => q H3 (e2.trans e3)⟩
theorem ev_joined {ts : List TE} {ys : List Str} (h : EvJ ts σ H ys) (hz : (ys.map (·.length)).sum ≤ 100000) : Ev (fun σ H Q => tJs ts Str.empty σ H fun out H1 => Q (.str out) H1) σ H (.str (ys.foldl (· ++ ·) Str.empty)) := fun H1 e Q q =>
  h Str.empty (by show 0 + _ ≤ _; omega) H1 e _ fun H2 e2 => q H2 e2
end
end Own
namespace Own
open PySem L2 Evl
section
variable {K : PySem.W.Frag} {σ : L2.St} {H H' : Hp} {te : TE} {D : Ends} {tz : TS}
/-- x, y = e, e a tuple of two -/
theorem q_unpack2 {i j : Nat} {p : Addr} {v u : V} (h : Ev te σ H (.ref p)) (hp : SqT K H p [v, u]) (k : ∀ H1, Ex H H1 → tz D ((σ.set i (some v)).set j (some u)) H1) : tSeq (tAsg te (gTup K 2 (gCons (gName i) (gCons (gName j) gNil)))) tz D σ H :=
  h H (Ex.refl H) _ fun H1 e1 => ⟨p, [v, u], rfl, ex_t e1 hp, rfl, v, [u], rfl, u, [], rfl, rfl, k H1 e1⟩
/-- return f(..), by the promise -/
theorem s_retC {sp : Sp} {dvs vs : List V} {E : XK} {ta : TA} (h : EvA ta σ H vs) (k : ∀ H1, Ex H H1 → sp (vs ++ dvs) H1 D.rt E) : tRet (tCall sp dvs E ta) D σ H := h H (Ex.refl H) _ fun H1 e1 => k H1 e1
/-- sep.join(a list of texts that are known) -/
theorem ev_joinL {to : TE} {a : Str} {ys : List Str} (ho : Ev to σ H (.str a)) (he : EvL te σ H (ys.map V.str)) (hz : (ys.map (·.length)).sum + ys.length * a.length ≤ 16777216) :
    Ev (tM1 (fun x xs H Q => ∃ a p, ∃ ys : List Str, x = .str a ∧ xs = [.ref p] ∧ (SqL K H p (ys.map V.str) ∨ SqT K H p (ys.map V.str)) ∧ (ys.map (·.length)).sum + ys.length * a.length ≤ 16777216 ∧ Q (.str (Txt.join a ys)) H) to te) σ H (.str (Txt.join a ys)) := fun H1 e Q q =>
  ho H1 e _ fun H2 e2 => ⟨⟨a, rfl⟩, he H2 (e.trans e2) _ fun p H3 hp e3 hx => ⟨a, p, ys, rfl, rfl, .inl (sq_of hx), hz, q H3 (e2.trans e3)⟩⟩
theorem ev_yes (σ : L2.St) (H : Hp) : EvT tYes σ H true := fun H2 _ Q q => q H2 (Ex.refl H2)
/-- a comprehension over a list whose elements give these texts -/
theorem el_lcLx {a : Addr} {xs : List V} {tl : TE} {j : Nat} {vs : List Nat} {n : List Str} (h : Ev tl σ H (.ref a)) (hx : SqL K H a xs) (hz : xs.length ≤ 40000) (hw : ∀ x, wipe ((wipe σ vs).set j (some x)) vs = wipe σ vs) (hn : xs.length = n.length)
    (he : ∀ (i : Nat) (x : V) H1, Ex H H1 → xs[i]? = some x → Ev te ((wipe σ vs).set j (some x)) H1 (.str (n.getD i ""))) : EvL (tLc (iList K tl) (gName j) tYes te vs) σ H (n.map V.str) := by
  have g := el_lcL (fun _ => true) (fun i => V.str (n.getD i "")) h hx hz hw (fun i x H1 e hi => ev_yes _ _) (fun i x H1 e hi _ => he i x H1 e hi)
  have e : given xs.length (fun _ => true) (fun i => V.str (n.getD i "")) = n.map V.str := by
    unfold given
    rw [hn, List.filter_eq_self.mpr (fun _ _ => rfl)]
    refine List.ext_getElem (by simp) fun i h1 h2 => ?_
    simp at h1 h2 ⊢
    rw [List.getElem?_eq_getElem h1]
    rfl
  rw [← e]
  exact g
end
end Own
/-! written expressions: levels, brackets, the written form -/
namespace Own
open PySem L2 Evl
def levels : List (Str × V) := [("or", .int 1), ("and", .int 2), ("not", .int 3), ("=", .int 4), ("!=", .int 4), ("<", .int 4), ("<=", .int 4), (">", .int 4), (">=", .int 4), ("+", .int 5), ("-", .int 5), ("*", .int 6), ("div", .int 6), ("mod", .int 6)]
def ops13 : List Str := ["or", "and", "=", "!=", "<", "<=", ">", ">=", "+", "-", "*", "div", "mod"]
def lvl (op : Str) : Int := match levels.lookup op with
  | some (.int n) => n
  | _ => 0
theorem lvl_look : ∀ op ∈ ops13, levels.lookup op = some (.int (lvl op)) := by decide +kernel
theorem lvl_rng : ∀ op ∈ ops13, 1 ≤ lvl op ∧ lvl op ≤ 6 ∧ lvl op ≠ 3 := by decide +kernel
theorem op_len : ∀ op ∈ ops13, op.length ≤ 3 := by decide +kernel
theorem op_call : ∀ op ∈ ops13, op ≠ "call" ∧ op ≠ "not" := by decide +kernel
def brk (z : Str) (b : Bool) : Str := if b then "(" ++ z ++ ")" else z
theorem brk_len (z : Str) (b : Bool) : (brk z b).length ≤ z.length + 2 := by
  cases b
  · exact Nat.le_add_right _ _
  · show ("(" ++ z ++ ")" : Str).length ≤ _
    rw [Str.length_append, Str.length_append, show ("(" : Str).length = 1 from rfl, show (")" : Str).length = 1 from rfl]
    omega
def pairText (op lt : Str) (ll : Int) (rt : Str) (rl : Int) : Str := brk lt (decide (ll < lvl op) || (decide (ll = 4) && decide (lvl op = 4))) ++ " " ++ op ++ " " ++ brk rt (decide (rl ≤ lvl op))
def Tr.lv : Tr → Int
  | .nt _ => 3
  | .bin op _ _ => lvl op
  | _ => 7
mutual
def Tr.wr : Tr → Str
  | .int i => toString i
  | .nm z => z
  | .nt e => "not " ++ brk e.wr (decide (e.lv < 3))
  | .bin op l r => pairText op l.wr l.lv r.wr r.lv
  | .call n es => n ++ "(" ++ Txt.join ", " (Tr.wrs es) ++ ")"
def Tr.wrs : List Tr → List Str
  | [] => []
  | e :: es => e.wr :: Tr.wrs es
end
mutual
def Tr.good : Tr → Prop
  | .int i => -999 ≤ i ∧ i ≤ 999
  | .nm z => z.length ≤ 8
  | .nt e => e.good
  | .bin op l r => op ∈ ops13 ∧ l.good ∧ r.good
  | .call n es => n.length ≤ 8 ∧ es.length ≤ 3 ∧ Tr.goods es
def Tr.goods : List Tr → Prop
  | [] => True
  | e :: es => e.good ∧ Tr.goods es
end
theorem Tr.goods_iff : ∀ {es : List Tr}, Tr.goods es ↔ ∀ e ∈ es, e.good
  | [] => ⟨fun _ e h => (List.not_mem_nil h).elim, fun _ => True.intro⟩
  | e :: es => by
    show e.good ∧ Tr.goods es ↔ _
    rw [Tr.goods_iff (es := es)]
    simp
mutual
theorem Tr.good_plain : ∀ {e : Tr}, e.good → e.plain
  | .int _, _ => True.intro
  | .nm _, _ => True.intro
  | .nt e, h => Tr.good_plain (e := e) h
  | .bin op l r, ⟨h, a, b⟩ => ⟨(op_call op h).1, (op_call op h).2, Tr.good_plain a, Tr.good_plain b⟩
  | .call n es, ⟨_, _, a⟩ => Tr.goods_plains a
theorem Tr.goods_plains : ∀ {es : List Tr}, Tr.goods es → Tr.plains es
  | [], _ => True.intro
  | _ :: _, ⟨a, b⟩ => ⟨Tr.good_plain a, Tr.goods_plains b⟩
end
theorem Tr.wrs_eq : ∀ es : List Tr, Tr.wrs es = es.map Tr.wr
  | [] => rfl
  | e :: es => congrArg (e.wr :: ·) (Tr.wrs_eq es)
theorem int_len : ∀ i : Int, -999 ≤ i → i ≤ 999 → ((toString i : String) : Str).length ≤ 4 := by
  have key : ∀ n : Fin 1999, ((toString ((n.val : Int) - 999) : String) : Str).length ≤ 4 := by decide +kernel
  intro i h0 h1
  have := key ⟨(i + 999).toNat, by omega⟩
  rw [show (((⟨(i + 999).toNat, by omega⟩ : Fin 1999).val : Nat) : Int) - 999 = i by show ((i + 999).toNat : Int) - 999 = i; omega] at this
  exact this
mutual
theorem Tr.wr_len : ∀ {e : Tr}, e.good → e.wr.length + 2 ≤ 16 * e.size
  | .int i, h => by
    have := int_len i h.1 h.2
    show (Tr.wr (.int i)).length + 2 ≤ 16 * 1
    have e : Tr.wr (.int i) = ((toString i : String) : Str) := rfl
    rw [e]
    omega
  | .nm z, h => by
    have h : z.length ≤ 8 := h
    show z.length + 2 ≤ 16 * 1
    omega
  | .nt e, h => by
    have ih := Tr.wr_len (e := e) h
    have b := brk_len e.wr (decide (e.lv < 3))
    show ("not " ++ brk e.wr (decide (e.lv < 3)) : Str).length + 2 ≤ 16 * (1 + e.size)
    rw [Str.length_append, show ("not " : Str).length = 4 from rfl]
    omega
  | .bin op l r, ⟨h, a, b⟩ => by
    have i1 := Tr.wr_len a
    have i2 := Tr.wr_len b
    have o := op_len op h
    have b1 := brk_len l.wr (decide (l.lv < lvl op) || (decide (l.lv = 4) && decide (lvl op = 4)))
    have b2 := brk_len r.wr (decide (r.lv ≤ lvl op))
    show (pairText op l.wr l.lv r.wr r.lv).length + 2 ≤ 16 * (1 + l.size + r.size)
    unfold pairText
    rw [Str.length_append, Str.length_append, Str.length_append, Str.length_append, show (" " : Str).length = 1 from rfl]
    omega
  | .call n es, ⟨h1, h2, a⟩ => by
    have ih := Tr.wrs_len a
    have j := join_len ", " (Tr.wrs es)
    have l : (Tr.wrs es).length = es.length := by rw [Tr.wrs_eq, List.length_map]
    show (n ++ "(" ++ Txt.join ", " (Tr.wrs es) ++ ")" : Str).length + 2 ≤ 16 * (1 + Tr.sizes es)
    rw [Str.length_append, Str.length_append, Str.length_append, show ("(" : Str).length = 1 from rfl, show (")" : Str).length = 1 from rfl]
    rw [show (", " : Str).length = 2 from rfl] at j
    omega
theorem Tr.wrs_len : ∀ {es : List Tr}, Tr.goods es → ((Tr.wrs es).map (·.length)).sum + 2 * es.length ≤ 16 * Tr.sizes es
  | [], _ => Nat.le_refl _
  | e :: es, ⟨a, b⟩ => by
    have i1 := Tr.wr_len a
    have i2 := Tr.wrs_len b
    show e.wr.length + ((Tr.wrs es).map (·.length)).sum + 2 * (es.length + 1) ≤ 16 * (e.size + Tr.sizes es)
    omega
end
theorem Tr.good_parts {e : Tr} (h : e.good) : ∀ p ∈ e.parts, p.good := by
  cases e with
  | int i => intro p hp; cases hp
  | nm z => intro p hp; cases hp
  | nt e => intro p hp; rw [List.mem_singleton.mp hp]; exact h
  | bin op l r =>
    intro p hp
    simp only [Tr.parts, List.mem_cons, List.not_mem_nil, or_false] at hp
    rcases hp with rfl | rfl
    · exact h.2.1
    · exact h.2.2
  | call n es => exact Tr.goods_iff.mp h.2.2
theorem small_log {i : Int} (h0 : -999 ≤ i) (h1 : i ≤ 999) : i.natAbs.log2 < 1920 := by
  have h : i.natAbs < 2 ^ 10 := by omega
  by_cases z : i.natAbs = 0
  · rw [z]
    decide
  · have := (Nat.log2_lt z).mpr h
    omega
end Own

/-! texts cut into tokens: the plain functions -/
namespace Own
open PySem L2 Evl
def inS (ss : Str) (c : Nat) : Bool := decide (c ∈ ss.cps.toList)
def runEnd (cs : List Nat) (at_ : Nat) (ss : Str) : Nat := at_ + ((cs.drop at_).takeWhile (inS ss)).length
theorem runEnd_le {cs : List Nat} {a : Nat} {ss : Str} (h : a ≤ cs.length) : runEnd cs a ss ≤ cs.length := by
  unfold runEnd
  have h1 := (List.takeWhile_prefix (p := inS ss) (l := cs.drop a)).length_le
  rw [List.length_drop] at h1
  omega
theorem runEnd_ge (cs : List Nat) (a : Nat) (ss : Str) : a ≤ runEnd cs a ss := Nat.le_add_right _ _
theorem take_while_len {p : Nat → Bool} : ∀ {l : List Nat} {j : Nat}, j ≤ l.length → (l.take j).all p = true → (∀ c, l[j]? = some c → p c = false) → (l.takeWhile p).length = j
  | [], 0, _, _, _ => rfl
  | c :: l, 0, _, _, h => by
    have := h c rfl
    rw [List.takeWhile_cons, if_neg (by rw [this]; decide)]
    rfl
  | c :: l, j + 1, hj, ha, h => by
    rw [List.take_succ_cons, List.all_cons, Bool.and_eq_true] at ha
    rw [List.takeWhile_cons, if_pos ha.1]
    show _ + 1 = j + 1
    rw [take_while_len (l := l) (j := j) (by simpa using hj) ha.2 fun c' h' => h c' (by simpa using h')]
def letDig : Str := "abcdefghijklmnopqrstuvwxyz" ++ "0123456789"
def tokenEnd (cs : List Nat) (a : Nat) : Nat :=
  if inS "0123456789" (cs.getD a 0) then runEnd cs a "0123456789"
  else if inS "abcdefghijklmnopqrstuvwxyz" (cs.getD a 0) then runEnd cs a letDig
  else if inV (.str ⟨((cs.drop a).take 2).toArray⟩) ((["!=", "<=", ">="] : List Str).map V.str) then a + 2 else a + 1
def isNum (z : Str) (most : Nat) : Bool := decide (1 ≤ z.length) && decide (z.length ≤ most) && z.cps.toList.all (inS "0123456789") && (decide (z = "0") || !decide (z.cps.toList.head? = some 48))
def signs12 : List Str := ["!=", "<=", ">=", "<", ">", "=", "+", "-", "*", "(", ")", ","]
def isTok (z : Str) : Bool := match z.cps.toList with
  | [] => false
  | c :: _ => if inS "0123456789" c then isNum z 3 else if inS "abcdefghijklmnopqrstuvwxyz" c then decide (z.length ≤ 8) else inV (.str z) (signs12.map V.str)
def cutC (cs : List Nat) (a b : Nat) : Str := ⟨((cs.drop a).take (b - a)).toArray⟩
def lexs : Nat → List Nat → Nat → Except Nat (List (Nat × Str))
  | 0, _, _ => .ok []
  | n + 1, cs, a =>
    if a < cs.length then
      if isTok (cutC cs a (tokenEnd cs a)) then
        match lexs n cs (runEnd cs (tokenEnd cs a) " ") with
        | .ok ts => .ok ((a, cutC cs a (tokenEnd cs a)) :: ts)
        | .error i => .error i
      else .error a
    else .ok []
def lexAll (z : Str) : Except Nat (List (Nat × Str)) := lexs (z.length + 1) z.cps.toList (runEnd z.cps.toList 0 " ")
theorem tokenEnd_gt {cs : List Nat} {a : Nat} (h : a < cs.length) : a < tokenEnd cs a := by
  have e : cs.drop a = cs[a] :: cs.drop (a + 1) := List.drop_eq_getElem_cons h
  have g : cs.getD a 0 = cs[a] := by rw [List.getD_eq_getElem?_getD, List.getElem?_eq_getElem h]; rfl
  unfold tokenEnd
  split
  · rename_i hc
    unfold runEnd
    rw [e, List.takeWhile_cons, if_pos (by rw [← g]; exact hc)]
    show a < a + (_ + 1)
    omega
  · split
    · rename_i hc
      unfold runEnd
      have hc2 : inS letDig (cs[a]) = true := by
        rw [← g]
        unfold inS letDig at *
        rw [s_cps]
        exact decide_eq_true (List.mem_append.mpr (.inl (of_decide_eq_true hc)))
      rw [e, List.takeWhile_cons, if_pos hc2]
      show a < a + (_ + 1)
      omega
    · split <;> omega
theorem long2 {cs : List Nat} {a : Nat} (h : inV (.str ⟨((cs.drop a).take 2).toArray⟩) ((["!=", "<=", ">="] : List Str).map V.str) = true) : a + 2 ≤ cs.length := by
  have l : ((cs.drop a).take 2).length = 2 := by
    unfold inV at h
    rw [List.any_map, List.any_eq_true] at h
    obtain ⟨z, hz, e⟩ := h
    have e2 : z = ⟨((cs.drop a).take 2).toArray⟩ := by
      have : eqV (V.str z) (V.str ⟨((cs.drop a).take 2).toArray⟩) = true := e
      simpa [eqV] using this
    have e3 : z.cps.toList = (cs.drop a).take 2 := by rw [e2]
    rw [← e3]
    exact (by decide +kernel : ∀ z ∈ (["!=", "<=", ">="] : List Str), z.cps.toList.length = 2) z hz
  rw [List.length_take, List.length_drop] at l
  omega
theorem tokenEnd_le {cs : List Nat} {a : Nat} (h : a < cs.length) : tokenEnd cs a ≤ cs.length := by
  unfold tokenEnd
  split
  · exact runEnd_le (Nat.le_of_lt h)
  · split
    · exact runEnd_le (Nat.le_of_lt h)
    · split
      · rename_i hl
        exact long2 hl
      · exact h
end Own
namespace Own
open PySem L2 Evl
/-- a slice by numbers in order; the end may lie beyond -/
theorem cutS_nat {z : Str} {a b : Nat} (h : a ≤ b) : cutS z (some (a : Int)) (some (b : Int)) = ⟨((z.cps.toList.drop a).take (b - a)).toArray⟩ := by
  unfold cutS
  rw [HT.sIx_nat, HT.sIx_nat]
  have l := str_len z
  refine congrArg (fun q : List Nat => (⟨q.toArray⟩ : Str)) ?_
  by_cases ha : a ≤ z.length
  · rw [Nat.min_eq_left ha]
    by_cases hb : b ≤ z.length
    · rw [Nat.min_eq_left hb]
    · rw [Nat.min_eq_right (by omega)]
      rw [List.take_of_length_le (by rw [List.length_drop]; omega), List.take_of_length_le (by rw [List.length_drop]; omega)]
  · rw [List.drop_eq_nil_of_le (by omega : z.cps.toList.length ≤ a), List.take_nil]
    rw [Nat.min_eq_right (by omega), List.drop_eq_nil_of_le (by omega), List.take_nil]
end Own

/-! the reader of expression texts: brackets, fields, what is kept -/
namespace Own
open PySem L2 Evl
def ops14 : List Str := "not" :: ops13
theorem lvl_look14 : ∀ op ∈ ops14, levels.lookup op = some (.int (lvl op)) := by decide +kernel
theorem lvl_rng14 : ∀ op ∈ ops14, 1 ≤ lvl op ∧ lvl op ≤ 6 := by decide +kernel
structure Br where
  caller : Option Str
  args : List Tr
  ops : List Str
  vals : List Tr
structure Ba where
  b : Addr
  al : Addr
  ol : Addr
  dl : Addr
def Ba.all (β : Ba) : List Addr := [β.b, β.al, β.ol, β.dl]
def cvO : Option Str → V
  | none => .non
  | some z => .str z
def bf (c : V) (al ol dl : Addr) : List (Str × V) := [("caller", c), ("arguments", .ref al), ("operators", .ref ol), ("operands", .ref dl)]
def rf (tl : Addr) (i : Int) (bl : Addr) : List (Str × V) := [("tokens", .ref tl), ("at", .int i), ("brackets", .ref bl)]
section
variable {c : V} {al ol dl tl bl : Addr} {i j : Int}
theorem bf_caller : (bf c al ol dl).lookup ("caller" : Str) = some c := rfl
theorem bf_args : (bf c al ol dl).lookup ("arguments" : Str) = some (.ref al) := rfl
theorem bf_ops : (bf c al ol dl).lookup ("operators" : Str) = some (.ref ol) := rfl
theorem bf_vals : (bf c al ol dl).lookup ("operands" : Str) = some (.ref dl) := rfl
theorem rf_tokens : (rf tl i bl).lookup ("tokens" : Str) = some (.ref tl) := rfl
theorem rf_at : (rf tl i bl).lookup ("at" : Str) = some (.int i) := rfl
theorem rf_brackets : (rf tl i bl).lookup ("brackets" : Str) = some (.ref bl) := rfl
theorem rf_put : putF "at" (.int j) (rf tl i bl) = rf tl j bl := rfl
theorem bf_mk : putF "operands" (.ref dl) (putF "operators" (.ref ol) (putF "arguments" (.ref al) (putF "caller" c []))) = bf c al ol dl := rfl
theorem rf_mk : putF "brackets" (.ref bl) (putF "at" (.int i) (putF "tokens" (.ref tl) [])) = rf tl i bl := rfl
end
/-- operators are joined as long as they hold as firmly as m; the last ones stand first -/
def foldB (m : Int) : List Str → List Tr → Option (List Str × List Tr)
  | [], vs => some ([], vs)
  | op :: ops, vs =>
    if lvl op < m then some (op :: ops, vs)
    else if op = "not" then match vs with
      | r :: vs => foldB m ops (.nt r :: vs)
      | [] => none
    else match vs with
      | r :: l :: vs => foldB m ops (.bin op l r :: vs)
      | _ => none
theorem foldB_len {m : Int} : ∀ {ops : List Str} {vs : List Tr} {ops' : List Str} {vs' : List Tr}, foldB m ops vs = some (ops', vs') → ops'.length ≤ ops.length ∧ vs'.length ≤ vs.length ∧ (∀ o ∈ ops', o ∈ ops)
  | [], vs, ops', vs', h => by
    cases h
    exact ⟨Nat.le_refl _, Nat.le_refl _, fun _ h => h⟩
  | op :: ops, vs, ops', vs', h => by
    unfold foldB at h
    split at h
    · cases h
      exact ⟨Nat.le_refl _, Nat.le_refl _, fun _ h => h⟩
    · split at h
      · cases vs with
        | nil => cases h
        | cons r vs =>
          obtain ⟨a, b, c⟩ := foldB_len (ops := ops) h
          exact ⟨Nat.le_succ_of_le a, b, fun o ho => List.mem_cons_of_mem _ (c o ho)⟩
      · cases vs with
        | nil => cases h
        | cons r vs =>
          cases vs with
          | nil => cases h
          | cons l vs =>
            obtain ⟨a, b, c⟩ := foldB_len (ops := ops) h
            exact ⟨Nat.le_succ_of_le a, Nat.le_succ_of_le b, fun o ho => List.mem_cons_of_mem _ (c o ho)⟩
/-- what is kept while the lists and objects at S change -/
structure Kp (K : PySem.W.Frag) (S : List Addr) (H H' : Hp) : Prop where
  t : TupKeep K H H'
  k : ∀ a o, H a = some o → a ∉ S → H' a = some o
section
variable {K : PySem.W.Frag} {S T : List Addr} {H H1 H2 : Hp}
theorem Kp.of (e : Ex H H1) : Kp K S H H1 := ⟨TupKeep.of e, fun a o h _ => e a o h⟩
theorem Kp.trans (a : Kp K S H H1) (b : Kp K S H1 H2) : Kp K S H H2 := ⟨a.t.trans b.t, fun x o h n => b.k x o (a.k x o h n) n⟩
theorem Kp.mono (a : Kp K S H H1) (h : ∀ x ∈ S, x ∈ T) : Kp K T H H1 := ⟨a.t, fun x o q n => a.k x o q fun z => n (h x z)⟩
theorem Kp.updL {l : Addr} {o : HO} {ys : List V} (h : H l = some (.lst ys)) (m : l ∈ S) : Kp K S H (upd H l o) := ⟨TupKeep.updL h, fun x u q n => by
  rw [upd_ne (fun e => n (by rw [e]; exact m))]
  exact q⟩
theorem TupKeep.updI {a C dx : Addr} {o : HO} {fs : List (Str × V)} (h : H a = some (.ins C dx fs)) : TupKeep K H (upd H a o) := fun x xs q => by
  rcases q with (q | ⟨u, q⟩) | q
  · exact .inl (.inl (by rw [upd_ne (ne_of q h (by intro z; cases z))]; exact q))
  · exact .inl (.inr ⟨u, by rw [upd_ne (ne_of q h (by intro z; cases z))]; exact q⟩)
  · exact .inr q
theorem Kp.updI {a C dx : Addr} {o : HO} {fs : List (Str × V)} (h : H a = some (.ins C dx fs)) (m : a ∈ S) : Kp K S H (upd H a o) := ⟨TupKeep.updI h, fun x u q n => by
  rw [upd_ne (fun e => n (by rw [e]; exact m))]
  exact q⟩
end
/-- a bracket stands at its four addresses; n bounds its lists -/
structure BrAt (K : PySem.W.Frag) (C : Addr) (n : Nat) (H : Hp) (β : Ba) (x : Br) : Prop where
  ob : ∃ dx, H β.b = some (.ins C dx (bf (cvO x.caller) β.al β.ol β.dl))
  al : ∃ vs, H β.al = some (.lst vs) ∧ TrsAt K H vs x.args
  ol : H β.ol = some (.lst (x.ops.reverse.map V.str))
  dl : ∃ vs, H β.dl = some (.lst vs.reverse) ∧ TrsAt K H vs x.vals
  ok : ∀ o ∈ x.ops, o ∈ ops14
  sz : x.args.length ≤ n ∧ x.ops.length ≤ n ∧ x.vals.length ≤ n
  nd : β.al ≠ β.ol ∧ β.al ≠ β.dl ∧ β.ol ≠ β.dl
section
variable {K : PySem.W.Frag} {C : Addr} {S : List Addr} {n m : Nat} {H H1 : Hp} {β : Ba} {x : Br}
theorem BrAt.keep (h : BrAt K C n H β x) (k : Kp K S H H1) (d : ∀ a ∈ β.all, a ∉ S) (le : n ≤ m) : BrAt K C m H1 β x := by
  obtain ⟨dx, ob⟩ := h.ob
  obtain ⟨vs, al, ta⟩ := h.al
  obtain ⟨ws, dl, td⟩ := h.dl
  obtain ⟨s1, s2, s3⟩ := h.sz
  exact ⟨⟨dx, k.k _ _ ob (d _ (by simp [Ba.all]))⟩, ⟨vs, k.k _ _ al (d _ (by simp [Ba.all])), ta.keep k.t⟩, k.k _ _ h.ol (d _ (by simp [Ba.all])), ⟨ws, k.k _ _ dl (d _ (by simp [Ba.all])), td.keep k.t⟩, h.ok, ⟨Nat.le_trans s1 le, Nat.le_trans s2 le, Nat.le_trans s3 le⟩, h.nd⟩
theorem BrAt.ex (h : BrAt K C n H β x) (e : Ex H H1) : BrAt K C n H1 β x := h.keep (S := []) (Kp.of e) (fun _ _ => by simp) (Nat.le_refl _)
end
end Own
namespace Own
open PySem L2 Evl
section
variable {K : PySem.W.Frag} {σ : L2.St} {H H' : Hp} {te ta tp t1 t3 : TE} {D : Ends} {tz : TS}
theorem ev_fld {a C dx : Addr} {fs : List (Str × V)} {f : Str} {v : V} (h : Ev te σ H (.ref a)) (ho : H a = some (.ins C dx fs)) (hc : Cls K C) (hn : NoAttr K C f) (hl : fs.lookup f = some v) : Ev (tFld K te f) σ H v := fun H1 e Q q =>
  h H1 e _ fun H2 e2 => ⟨a, C, dx, fs, v, rfl, e2 _ _ (e _ _ ho), hc, hn, hl, q H2 e2⟩
theorem ev_meth {a C dx : Addr} {fs : List (Str × V)} {m : Str} {sp : Sp} {vs : List V} {E : XK} {t : TA} {v : V} (h : Ev te σ H (.ref a)) (ho : H a = some (.ins C dx fs)) (hl : fs.lookup m = none) (ha : EvA t σ H vs) (hs : SpV sp (.ref a :: vs) H v) :
    Ev (tMeth C m sp [] E te t) σ H v := fun H1 e Q q => h H1 e _ fun H2 e2 => ⟨a, dx, fs, rfl, e2 _ _ (e _ _ ho), hl, ha H2 (e.trans e2) _ fun H3 e3 => by
      rw [List.append_nil]
      exact hs H3 ((e.trans e2).trans e3) Q (fun H4 e4 => q H4 ((e2.trans e3).trans e4)) E⟩
/-- a call of a method that changes the heap, for what it does -/
theorem s_meth {a C dx : Addr} {fs : List (Str × V)} {m : Str} {sp : Sp} {vs : List V} {E : XK} {t : TA} (h : Ev te σ H (.ref a)) (ho : H a = some (.ins C dx fs)) (hl : fs.lookup m = none) (ha : EvA t σ H vs)
    (k : ∀ H1, Ex H H1 → sp (.ref a :: vs) H1 (fun _ H2 => D.nx σ H2) E) : tDrop (tMeth C m sp [] E te t) D σ H := h H (Ex.refl H) _ fun H1 e1 => ⟨a, dx, fs, rfl, e1 _ _ ho, hl, ha H1 e1 _ fun H2 e2 => by
      rw [List.append_nil]
      exact k H2 (e1.trans e2)⟩
theorem q_meth {a C dx : Addr} {fs : List (Str × V)} {m : Str} {sp : Sp} {vs : List V} {E : XK} {t : TA} (h : Ev te σ H (.ref a)) (ho : H a = some (.ins C dx fs)) (hl : fs.lookup m = none) (ha : EvA t σ H vs)
    (k : ∀ H1, Ex H H1 → sp (.ref a :: vs) H1 (fun _ H2 => tz D σ H2) E) : tSeq (tDrop (tMeth C m sp [] E te t)) tz D σ H := s_meth (D := { D with nx := tz D }) h ho hl ha k
theorem s_retM {a C dx : Addr} {fs : List (Str × V)} {m : Str} {sp : Sp} {vs : List V} {E : XK} {t : TA} (h : Ev te σ H (.ref a)) (ho : H a = some (.ins C dx fs)) (hl : fs.lookup m = none) (ha : EvA t σ H vs)
    (k : ∀ H1, Ex H H1 → sp (.ref a :: vs) H1 D.rt E) : tRet (tMeth C m sp [] E te t) D σ H := h H (Ex.refl H) _ fun H1 e1 => ⟨a, dx, fs, rfl, e1 _ _ ho, hl, ha H1 e1 _ fun H2 e2 => by
      rw [List.append_nil]
      exact k H2 (e1.trans e2)⟩
theorem s_fld {a C dx : Addr} {fs : List (Str × V)} {f : Str} {v : V} (hv : Ev te σ H v) (h : Ev ta σ H (.ref a)) (ho : H a = some (.ins C dx fs)) (hc : Cls K C) (hn : NoAttr K C f) (hz : fs.length < 1000)
    (k : ∀ H1, Ex H H1 → D.nx σ (upd H1 a (.ins C dx (putF f v fs)))) : sFld K ta te f D σ H := hv H (Ex.refl H) _ fun H1 e1 => h H1 e1 _ fun H2 e2 => ⟨a, C, dx, fs, rfl, e2 _ _ (e1 _ _ ho), hc, hn, hz, k H2 (e1.trans e2)⟩
theorem q_fld {a C dx : Addr} {fs : List (Str × V)} {f : Str} {v : V} (hv : Ev te σ H v) (h : Ev ta σ H (.ref a)) (ho : H a = some (.ins C dx fs)) (hc : Cls K C) (hn : NoAttr K C f) (hz : fs.length < 1000)
    (k : ∀ H1, Ex H H1 → tz D σ (upd H1 a (.ins C dx (putF f v fs)))) : tSeq (sFld K ta te f) tz D σ H := s_fld (D := { D with nx := tz D }) hv h ho hc hn hz k
theorem q_fldL {a C dx : Addr} {fs : List (Str × V)} {f : Str} {xs : List V} (hv : EvL te σ H xs) (h : Ev ta σ H (.ref a)) (ho : H a = some (.ins C dx fs)) (hc : Cls K C) (hn : NoAttr K C f) (hz : fs.length < 1000)
    (k : ∀ p H1, H p = none → Ex H H1 → H1 p = some (.lst xs) → tz D σ (upd H1 a (.ins C dx (putF f (.ref p) fs)))) : tSeq (sFld K ta te f) tz D σ H := hv H (Ex.refl H) _ fun p H1 hp e1 h1 => h H1 e1 _ fun H2 e2 => ⟨a, C, dx, fs, rfl, e2 _ _ (e1 _ _ ho), hc, hn, hz, k p H2 hp (e1.trans e2) (e2 _ _ h1)⟩
theorem s_fldL {a C dx : Addr} {fs : List (Str × V)} {f : Str} {xs : List V} (hv : EvL te σ H xs) (h : Ev ta σ H (.ref a)) (ho : H a = some (.ins C dx fs)) (hc : Cls K C) (hn : NoAttr K C f) (hz : fs.length < 1000)
    (k : ∀ p H1, H p = none → Ex H H1 → H1 p = some (.lst xs) → D.nx σ (upd H1 a (.ins C dx (putF f (.ref p) fs)))) : sFld K ta te f D σ H := hv H (Ex.refl H) _ fun p H1 hp e1 h1 => h H1 e1 _ fun H2 e2 => ⟨a, C, dx, fs, rfl, e2 _ _ (e1 _ _ ho), hc, hn, hz, k p H2 hp (e1.trans e2) (e2 _ _ h1)⟩
/-- l.append((x, l.pop(), y)) -/
theorem s_appPop {l : Addr} {xs : List V} {v x1 x3 : V} (hl : H l = some (.lst (xs ++ [v]))) (ha : Ev ta σ H (.ref l)) (h1 : Ev t1 σ H x1) (hp : Ev tp σ H (.ref l)) (h3 : ∀ H1, Ev t3 σ H1 x3) (hz : xs.length < 100000)
    (k : ∀ p H1 H2, Ex H H1 → Ex (upd H1 l (.lst xs)) H2 → H p = none → p ≠ l → H2 p = some (.tup [x1, v, x3]) → H2 l = some (.lst xs) → D.nx σ (upd H2 l (.lst (xs ++ [.ref p])))) :
    tDrop (tBM K "list" rAppend ta (tCons (tTup (tCons t1 (tCons (tBM0 K "list" rPop tp) (tCons t3 tNil)))) tNil)) D σ H := ha H (Ex.refl H) _ fun H1 e1 =>
  ⟨Or.inl ⟨rfl, _, sq_of (e1 l _ hl)⟩, h1 H1 e1 _ fun H2 e2 => hp H2 (e1.trans e2) _ fun H3 e3 => ⟨Or.inl ⟨rfl, _, sq_of (e3 _ _ (e2 _ _ (e1 l _ hl)))⟩, l, xs ++ [v], v, rfl, rfl, e3 _ _ (e2 _ _ (e1 l _ hl)), by rw [List.length_append]; simp, by
    show tCons t3 tNil σ (upd H3 l (.lst (xs ++ [v]).dropLast)) _
    rw [List.dropLast_concat]
    refine h3 _ _ (Ex.refl _) _ fun H4 e4 => ⟨(by show 3 ≤ sizeLine; decide), fun p hp4 => ?_⟩
    have hl4 : H4 l = some (.lst xs) := e4 _ _ upd_same
    have npl : p ≠ l := fun e => by rw [e, hl4] at hp4; cases hp4
    have hp3 : (upd H3 l (.lst xs)) p = none := fresh_back e4 hp4
    rw [upd_ne npl] at hp3
    refine ⟨l, xs, .ref p, rfl, rfl, by rw [upd_ne npl.symm]; exact hl4, sz_lt hz, ?_⟩
    exact k p H3 _ ((e1.trans e2).trans e3) (e4.trans (Ex.new hp4)) (fresh_back ((e1.trans e2).trans e3) hp3) npl upd_same (by rw [upd_ne npl.symm]; exact hl4)⟩⟩
end
section
variable {K : PySem.W.Frag} {σ : L2.St} {H : Hp} {ta : TE}
theorem ev_notL {p : Addr} {xs : List V} (h : Ev ta σ H (.ref p)) (hx : SqL K H p xs) : Ev (tNotT K ta) σ H (.bl xs.isEmpty) := fun H1 e Q q =>
  h H1 e _ fun H2 e2 => ⟨_, Or.inl ⟨xs, ex_l (e.trans e2) hx, rfl⟩, by
    rw [Bool.not_not]
    exact q H2 e2⟩
end
section
variable {K : PySem.W.Frag} {σ : L2.St} {H : Hp} {te : TE}
/-- a comprehension over a list whose elements give these values -/
theorem el_lcLv {a : Addr} {xs : List V} {tl : TE} {j : Nat} {vs : List Nat} {n : List V} (h : Ev tl σ H (.ref a)) (hx : SqL K H a xs) (hz : xs.length ≤ 40000) (hw : ∀ x, wipe ((wipe σ vs).set j (some x)) vs = wipe σ vs) (hn : xs.length = n.length)
    (he : ∀ (i : Nat) (x : V) H1, Ex H H1 → xs[i]? = some x → Ev te ((wipe σ vs).set j (some x)) H1 (n.getD i .non)) : EvL (tLc (iList K tl) (gName j) tYes te vs) σ H n := by
  have g := el_lcL (fun _ => true) (fun i => n.getD i .non) h hx hz hw (fun i x H1 e hi => ev_yes _ _) (fun i x H1 e hi _ => he i x H1 e hi)
  have e : given xs.length (fun _ => true) (fun i => n.getD i .non) = n := by
    unfold given
    rw [hn, List.filter_eq_self.mpr (fun _ _ => rfl)]
    refine List.ext_getElem (by simp) fun i h1 h2 => ?_
    simp at h1 h2 ⊢
    rw [List.getElem?_eq_getElem h1]
    rfl
  rw [← e]
  exact g
end
section
variable {K : PySem.W.Frag} {σ : L2.St} {H : Hp} {ta tp : TE} {D : Ends}
/-- l.append(d.pop()) of two lists -/
theorem s_appPopL {l d : Addr} {xs ys : List V} {v : V} (hl : H l = some (.lst xs)) (ha : Ev ta σ H (.ref l)) (hd : H d = some (.lst (ys ++ [v]))) (hp : Ev tp σ H (.ref d)) (hne : l ≠ d) (hz : xs.length < 100000)
    (k : ∀ H1, Ex H H1 → D.nx σ (upd (upd H1 d (.lst ys)) l (.lst (xs ++ [v])))) :
    tDrop (tBM K "list" rAppend ta (tCons (tBM0 K "list" rPop tp) tNil)) D σ H := ha H (Ex.refl H) _ fun H1 e1 =>
  ⟨Or.inl ⟨rfl, _, sq_of (e1 l _ hl)⟩, hp H1 e1 _ fun H2 e2 => ⟨Or.inl ⟨rfl, _, sq_of (e2 _ _ (e1 d _ hd))⟩, d, ys ++ [v], v, rfl, rfl, e2 _ _ (e1 d _ hd), by rw [List.length_append]; simp, by
    show tNil σ (upd H2 d (.lst (ys ++ [v]).dropLast)) _
    rw [List.dropLast_concat]
    exact ⟨l, xs, v, rfl, rfl, by rw [upd_ne hne]; exact e2 _ _ (e1 _ _ hl), sz_lt hz, k H2 (e1.trans e2)⟩⟩⟩
end
section
variable {K : PySem.W.Frag} {σ : L2.St} {H : Hp} {te : TE} {t : TA} {x : V}
theorem rv_isN : RV (fun x y H Q => y = .non ∧ Q (.bl (decide (x = .non))) H) x .non H (.bl (decide (x = .non))) := fun H1 _ _ q => ⟨rfl, q H1 (Ex.refl H1)⟩
theorem rv_notN : RV (fun x y H Q => y = .non ∧ Q (.bl (!decide (x = .non))) H) x .non H (.bl (!decide (x = .non))) := fun H1 _ _ q => ⟨rfl, q H1 (Ex.refl H1)⟩
theorem ea_starL {p : Addr} {xs vs : List V} (h : Ev te σ H (.ref p)) (hx : SqL K H p xs) (hr : EvA t σ H vs) : EvA (StX.tStar K te t) σ H (xs ++ vs) := fun H1 e Q q =>
  h H1 e _ fun H2 e2 => ⟨p, xs, rfl, .inr (ex_l (e.trans e2) hx), hr H2 (e.trans e2) _ fun H3 e3 => q H3 (e2.trans e3)⟩
end
theorem isN_cvO (c : Option Str) : V.bl (decide (cvO c = .non)) = V.bl c.isNone := by
  cases c with
  | none => rfl
  | some z => exact congrArg V.bl (decide_eq_false (by intro h; cases h))
theorem notN_cvO (c : Option Str) : V.bl (!decide (cvO c = .non)) = V.bl c.isSome := by
  cases c with
  | none => rfl
  | some z => exact congrArg V.bl (by rw [decide_eq_false (by intro h; cases h)]; rfl)
section
variable {σ : L2.St} {H : Hp} {t1 t2 : TE} {t : TA} {D : Ends} {x y : V}
/-- return (x, y, (..)) -/
theorem s_retCallT {vs : List V} (h1 : Ev t1 σ H x) (h2 : Ev t2 σ H y) (h : EvA t σ H vs) (hz : vs.length ≤ 100000) (k : ∀ p p2 H1, Ex H H1 → H1 p2 = some (.tup vs) → H1 p = some (.tup [x, y, .ref p2]) → D.rt (.ref p) H1) :
    tRet (tTup (tCons t1 (tCons t2 (tCons (tTup t) tNil)))) D σ H := h1 H (Ex.refl H) _ fun H1 e1 => h2 H1 e1 _ fun H2 e2 => h H2 (e1.trans e2) _ fun H3 e3 => ⟨sz_of hz, fun p2 hp2 => ⟨(by show 3 ≤ sizeLine; decide), fun p hp =>
      k p p2 _ ((((e1.trans e2).trans e3).trans (Ex.new hp2)).trans (Ex.new hp)) ((Ex.new hp) _ _ upd_same) upd_same⟩⟩
end
theorem rc_intS {a : Str} {n : Int} {H : Hp} (h : PySem.intText? a = some n) (hz : a.length ≤ 640) : RC (fun xs H Q => ∃ a n, xs = [V.str a] ∧ PySem.intText? a = some n ∧ a.length ≤ 640 ∧ Q (.int n) H) [.str a] H (.int n) := fun H1 _ Q q => ⟨a, n, rfl, h, hz, q H1 (Ex.refl H1)⟩
theorem mul_small {sg n : Int} (hs : sg = 1 ∨ sg = -1) (hn : 0 ≤ n ∧ n ≤ 999) : CMul sg n := by
  unfold CMul
  rcases hs with rfl | rfl <;> omega
theorem ops_signs : ∀ o ∈ ops13, o ≠ "," ∧ o ≠ "not" ∧ o ≠ "" ∧ o ≠ ")" := by decide +kernel
theorem ops13_14 {o : Str} (h : o ∈ ops13) : o ∈ ops14 := List.mem_cons_of_mem _ h
section
variable {K : PySem.W.Frag} {σ : L2.St} {H : Hp} {te : TE}
/-- a comprehension over a tuple whose elements give these values -/
theorem el_lcTv {a : Addr} {xs : List V} {tl : TE} {j : Nat} {vs : List Nat} {n : List V} (h : Ev tl σ H (.ref a)) (hx : SqT K H a xs) (hz : xs.length ≤ 40000) (hw : ∀ x, wipe ((wipe σ vs).set j (some x)) vs = wipe σ vs) (hn : xs.length = n.length)
    (he : ∀ (i : Nat) (x : V) H1, Ex H H1 → xs[i]? = some x → Ev te ((wipe σ vs).set j (some x)) H1 (n.getD i .non)) : EvL (tLc (iTup K tl) (gName j) tYes te vs) σ H n := by
  have e : given xs.length (fun _ => true) (fun i => n.getD i .non) = n := by
    unfold given
    rw [hn, List.filter_eq_self.mpr (fun _ _ => rfl)]
    refine List.ext_getElem (by simp) fun i h1 h2 => ?_
    simp at h1 h2 ⊢
    rw [List.getElem?_eq_getElem h1]
    rfl
  rw [← e]
  exact fun H0 e Q q => h H0 e _ fun H1 e1 => ⟨a, rfl, ⟨xs, ex_t (e.trans e1) hx⟩, fun Dl hD =>
    lc_tup (xs := xs) (Cw H1 (fun _ => true) (fun i => n.getD i .non) Dl) ⟨hD, Ex.new hD, upd_same⟩ (fun i H' _ p => ex_t ((e.trans e1).trans p.2.1) hx) (fun i x H' hi p => ⟨hw x, cw_turn p (by have := (List.getElem?_eq_some_iff.mp hi).1; omega) (ev_yes _ _) (fun hf => he i x H1 (e.trans e1) hi)⟩)
      (fun H' p => q Dl H' (fresh_back e1 p.1) (e1.trans p.2.1) p.2.2)⟩
end
end Own

/-! the reader as it stands in the heap -/
namespace Own
open PySem L2 Evl
/-- the tokens as tuples -/
def TokAt (K : PySem.W.Frag) (H : Hp) (v : V) (t : Nat × Str) : Prop := ∃ a, v = .ref a ∧ SqT K H a [.int (t.1 : Int), .str t.2]
theorem TokAt.keep {K : PySem.W.Frag} {H H' : Hp} {v : V} {t : Nat × Str} (h : TokAt K H v t) (k : TupKeep K H H') : TokAt K H' v t := by
  obtain ⟨a, e, h⟩ := h
  exact ⟨a, e, k _ _ h⟩
theorem TokAt.keeps {K : PySem.W.Frag} {H H' : Hp} (k : TupKeep K H H') : ∀ {ts : List (Nat × Str)} {ws : List V}, Paired (fun t v => TokAt K H v t) ts ws → Paired (fun t v => TokAt K H' v t) ts ws
  | _, _, .nil => .nil
  | _, _, .cons h r => .cons (TokAt.keep h k) (TokAt.keeps k r)
def owned (R TL BL : Addr) (bas : List Ba) : List Addr := R :: TL :: BL :: bas.flatMap Ba.all
structure RdA (K : PySem.W.Frag) (C D : Addr) (H0 H : Hp) (R TL BL : Addr) (bas : List Ba) (toks : List (Nat × Str)) (i : Nat) (bs : List Br) : Prop where
  ob : ∃ dx, H R = some (.ins D dx (rf TL (i : Int) BL))
  tl : ∃ ws, H TL = some (.lst ws) ∧ Paired (fun t v => TokAt K H v t) toks ws
  bl : H BL = some (.lst (bas.reverse.map fun β => V.ref β.b))
  brs : Paired (fun β x => BrAt K C i H β x) bas bs
  nd : (owned R TL BL bas).Nodup
  fr : ∀ a ∈ owned R TL BL bas, H0 a = none
  ex : Ex H0 H
  sz : bs.length ≤ i + 1
section
variable {K : PySem.W.Frag} {C D : Addr} {H0 H H' : Hp} {R TL BL : Addr} {toks : List (Nat × Str)} {i j : Nat}
theorem BrAt.known {n : Nat} {β : Ba} {x : Br} (h : BrAt K C n H β x) : ∀ a ∈ β.all, H a ≠ none := by
  obtain ⟨dx, ob⟩ := h.ob
  obtain ⟨vs, al, _⟩ := h.al
  obtain ⟨ws, dl, _⟩ := h.dl
  have ol := h.ol
  intro a ha
  simp [Ba.all] at ha
  rcases ha with rfl | rfl | rfl | rfl
  · rw [ob]; simp
  · rw [al]; simp
  · rw [ol]; simp
  · rw [dl]; simp
theorem brs_known {n : Nat} : ∀ {bas : List Ba} {bs : List Br}, Paired (fun β x => BrAt K C n H β x) bas bs → ∀ a ∈ bas.flatMap Ba.all, H a ≠ none
  | _, _, .nil, a, h => by simp at h
  | _, _, .cons b r, a, h => by
    rw [List.flatMap_cons] at h
    rcases List.mem_append.mp h with h | h
    · exact b.known a h
    · exact brs_known r a h
theorem brs_keep {n m : Nat} {S : List Addr} (k : Kp K S H H') (le : n ≤ m) : ∀ {bas : List Ba} {bs : List Br}, Paired (fun β x => BrAt K C n H β x) bas bs → (∀ a ∈ bas.flatMap Ba.all, a ∉ S) → Paired (fun β x => BrAt K C m H' β x) bas bs
  | _, _, .nil, _ => .nil
  | _, _, .cons b r, h => .cons (b.keep k (fun a ha => h a (by rw [List.flatMap_cons]; exact List.mem_append.mpr (.inl ha))) le) (brs_keep k le r fun a ha => h a (by rw [List.flatMap_cons]; exact List.mem_append.mpr (.inr ha)))
theorem RdA.gen {pre pre' tail : List Ba} {px px' tx : List Br} (h : RdA K C D H0 H R TL BL (pre ++ tail) toks i (px ++ tx)) (lp : pre.length = px.length) (k : Kp K (R :: BL :: pre.flatMap Ba.all) H H')
    (hR : ∃ dx, H' R = some (.ins D dx (rf TL (j : Int) BL))) (hBL : H' BL = some (.lst ((pre' ++ tail).reverse.map fun β => V.ref β.b))) (hij : i ≤ j) (hb : Paired (fun β x => BrAt K C j H' β x) pre' px')
    (hn : (pre'.flatMap Ba.all).Nodup) (ha : ∀ a ∈ pre'.flatMap Ba.all, a ∈ pre.flatMap Ba.all ∨ H a = none) (hz : (px' ++ tx).length ≤ j + 1) : RdA K C D H0 H' R TL BL (pre' ++ tail) toks j (px' ++ tx) := by
  obtain ⟨dx, ob⟩ := h.ob
  obtain ⟨ws, tl, tt⟩ := h.tl
  have bl := h.bl
  have nd := h.nd
  have fr := h.fr
  unfold owned at nd fr
  rw [List.flatMap_append] at nd fr
  obtain ⟨a1, nd1⟩ := List.nodup_cons.mp nd
  obtain ⟨a2, nd2⟩ := List.nodup_cons.mp nd1
  obtain ⟨a3, nd3⟩ := List.nodup_cons.mp nd2
  obtain ⟨na, nb, nab⟩ := List.nodup_append.mp nd3
  simp only [List.mem_cons, List.mem_append, not_or] at a1 a2 a3
  have brt : Paired (fun β x => BrAt K C i H β x) tail tx := by
    obtain ⟨u, v, e, p1, p2⟩ := paired_split h.brs
    have l1 := paired_len p1
    have e2 : px = u ∧ tx = v := List.append_inj e (by omega)
    rw [e2.2]
    exact p2
  have kn := brs_known brt
  have dis : ∀ a ∈ tail.flatMap Ba.all, a ∉ R :: BL :: pre.flatMap Ba.all := by
    intro a m
    simp only [List.mem_cons, not_or]
    exact ⟨fun e => a1.2.2.2 (e ▸ m), fun e => a3.2 (e ▸ m), fun m2 => nab a m2 a m rfl⟩
  refine ⟨hR, ⟨ws, k.k _ _ tl (by simp only [List.mem_cons, not_or]; exact ⟨fun e => a1.1 e.symm, a2.1, a2.2.1⟩), TokAt.keeps k.t tt⟩, hBL, paired_app hb (brs_keep k hij brt dis), ?_, ?_, ?_, hz⟩
  · unfold owned
    rw [List.flatMap_append]
    have out : ∀ z, H z ≠ none → z ∉ pre.flatMap Ba.all → z ∉ pre'.flatMap Ba.all := fun z hz1 hz2 m => by
      rcases ha z m with m2 | m2
      · exact hz2 m2
      · exact hz1 m2
    refine List.nodup_cons.mpr ⟨?_, List.nodup_cons.mpr ⟨?_, List.nodup_cons.mpr ⟨?_, List.nodup_append.mpr ⟨hn, nb, fun x hx y hy e => ?_⟩⟩⟩⟩
    · simp only [List.mem_cons, List.mem_append, not_or]
      exact ⟨a1.1, a1.2.1, out R (by rw [ob]; simp) a1.2.2.1, a1.2.2.2⟩
    · simp only [List.mem_cons, List.mem_append, not_or]
      exact ⟨a2.1, out TL (by rw [tl]; simp) a2.2.1, a2.2.2⟩
    · simp only [List.mem_append, not_or]
      exact ⟨out BL (by rw [bl]; simp) a3.1, a3.2⟩
    · subst e
      exact out x (kn x hy) (fun m => nab x m x hy rfl) hx
  · intro a m
    unfold owned at m
    rw [List.flatMap_append] at m
    simp only [List.mem_cons, List.mem_append] at m fr
    rcases m with m | m | m | m | m
    · exact fr a (.inl m)
    · exact fr a (.inr (.inl m))
    · exact fr a (.inr (.inr (.inl m)))
    · rcases ha a m with m2 | m2
      · exact fr a (.inr (.inr (.inr (.inl m2))))
      · exact fresh_back h.ex m2
    · exact fr a (.inr (.inr (.inr (.inr m))))
  · intro a o e
    refine k.k _ _ (h.ex a o e) fun m => ?_
    simp only [List.mem_cons, List.mem_append] at m fr
    have : H0 a = none := by
      rcases m with m | m | m
      · exact fr a (.inl m)
      · exact fr a (.inr (.inr (.inl m)))
      · exact fr a (.inr (.inr (.inr (.inl m))))
    rw [this] at e
    cases e
theorem RdA.exx {bas : List Ba} {bs : List Br} (h : RdA K C D H0 H R TL BL bas toks i bs) (e : Ex H H') : RdA K C D H0 H' R TL BL bas toks i bs := by
  obtain ⟨dx, ob⟩ := h.ob
  obtain ⟨ws, tl, tt⟩ := h.tl
  exact ⟨⟨dx, e _ _ ob⟩, ⟨ws, e _ _ tl, TokAt.keeps (TupKeep.of e) tt⟩, e _ _ h.bl, brs_keep (S := []) (Kp.of e) (Nat.le_refl _) h.brs (fun _ _ => by simp), h.nd, h.fr, h.ex.trans e, h.sz⟩
/-- the top bracket changed, and the place -/
theorem RdA.top {β : Ba} {bas : List Ba} {x x' : Br} {bs : List Br} (h : RdA K C D H0 H R TL BL (β :: bas) toks i (x :: bs)) (k : Kp K (R :: β.all) H H') (hR : ∃ dx, H' R = some (.ins D dx (rf TL (j : Int) BL))) (hij : i ≤ j) (hb : BrAt K C j H' β x') :
    RdA K C D H0 H' R TL BL (β :: bas) toks j (x' :: bs) := by
  have nd := h.nd
  unfold owned at nd
  rw [List.flatMap_cons] at nd
  obtain ⟨a1, nd1⟩ := List.nodup_cons.mp nd
  obtain ⟨a2, nd2⟩ := List.nodup_cons.mp nd1
  obtain ⟨a3, nd3⟩ := List.nodup_cons.mp nd2
  simp only [List.mem_cons, List.mem_append, not_or] at a1 a2 a3
  have hBL : H' BL = some (.lst ((β :: bas).reverse.map fun β => V.ref β.b)) := k.k _ _ h.bl (by simp only [List.mem_cons, not_or]; exact ⟨fun e => a1.2.1 e.symm, a3.1⟩)
  have e1 : ([β] : List Ba).flatMap Ba.all = β.all := by simp
  exact RdA.gen (pre := [β]) (pre' := [β]) (px := [x]) (px' := [x']) h rfl (k.mono (by rw [e1]; simp; exact fun a ha => .inr (.inr ha))) hR hBL hij (.cons hb .nil) (by rw [e1]; exact (List.nodup_append.mp nd3).1) (fun a ha => .inl ha) (by have := h.sz; simp at this ⊢; omega)
/-- a new bracket on top -/
theorem RdA.push {β : Ba} {bas : List Ba} {x : Br} {bs : List Br} (h : RdA K C D H0 H R TL BL bas toks i bs) (k : Kp K [R, BL] H H') (hR : ∃ dx, H' R = some (.ins D dx (rf TL (j : Int) BL)))
    (hBL : H' BL = some (.lst ((bas.reverse.map fun β => V.ref β.b) ++ [.ref β.b]))) (hij : i < j) (hb : BrAt K C j H' β x) (hf : ∀ a ∈ β.all, H a = none) : RdA K C D H0 H' R TL BL (β :: bas) toks j (x :: bs) := by
  have e1 : ([β] : List Ba).flatMap Ba.all = β.all := by simp
  have n1 : β.all.Nodup := by
    obtain ⟨dx, ob⟩ := hb.ob
    obtain ⟨vs, al, _⟩ := hb.al
    obtain ⟨ws, dl, _⟩ := hb.dl
    have ol := hb.ol
    obtain ⟨m1, m2, m3⟩ := hb.nd
    have x1 : β.b ≠ β.al := ne_of ob al (by intro q; cases q)
    have x2 : β.b ≠ β.ol := ne_of ob ol (by intro q; cases q)
    have x3 : β.b ≠ β.dl := ne_of ob dl (by intro q; cases q)
    simp [Ba.all, x1, x2, x3, m1, m2, m3]
  exact RdA.gen (pre := []) (pre' := [β]) (px := []) (px' := [x]) h rfl (k.mono (by simp)) hR (by rw [hBL]; simp) (Nat.le_of_lt hij) (.cons hb .nil) (by rw [e1]; exact n1) (fun a ha => .inr (hf a (by rw [e1] at ha; exact ha))) (by have := h.sz; simp; omega)
/-- the top bracket gone, the one below changed -/
theorem RdA.drop {β β2 : Ba} {bas : List Ba} {x x2 x2' : Br} {bs : List Br} (h : RdA K C D H0 H R TL BL (β :: β2 :: bas) toks i (x :: x2 :: bs)) (k : Kp K (R :: BL :: (β.all ++ β2.all)) H H') (hR : ∃ dx, H' R = some (.ins D dx (rf TL (j : Int) BL)))
    (hBL : H' BL = some (.lst ((β2 :: bas).reverse.map fun β => V.ref β.b))) (hij : i ≤ j) (hb : BrAt K C j H' β2 x2') : RdA K C D H0 H' R TL BL (β2 :: bas) toks j (x2' :: bs) := by
  have nd := h.nd
  unfold owned at nd
  rw [List.flatMap_cons, List.flatMap_cons] at nd
  obtain ⟨a1, nd1⟩ := List.nodup_cons.mp nd
  obtain ⟨a2, nd2⟩ := List.nodup_cons.mp nd1
  obtain ⟨a3, nd3⟩ := List.nodup_cons.mp nd2
  have e1 : ([β2] : List Ba).flatMap Ba.all = β2.all := by simp
  have e2 : ([β, β2] : List Ba).flatMap Ba.all = β.all ++ β2.all := by simp
  exact RdA.gen (pre := [β, β2]) (pre' := [β2]) (px := [x, x2]) (px' := [x2']) h rfl (k.mono (by rw [e2]; simp)) hR hBL hij (.cons hb .nil) (by rw [e1]; exact (List.nodup_append.mp (List.nodup_append.mp nd3).2.1).1) (fun a ha => .inl (by rw [e2]; rw [e1] at ha; exact List.mem_append.mpr (.inr ha))) (by have := h.sz; simp at this ⊢; omega)
end
end Own
namespace Own
open PySem L2 Evl
theorem paired_getl {α β : Type} {R : α → β → Prop} : ∀ {xs : List α} {ys : List β} {i : Nat} {x : α}, Paired R xs ys → xs[i]? = some x → ∃ y, ys[i]? = some y ∧ R x y
  | _, _, 0, x, .cons h r, e => by
    cases e
    exact ⟨_, rfl, h⟩
  | _, _, i + 1, x, .cons h r, e => paired_getl (i := i) r e
structure RdX (K : PySem.W.Frag) (C D : Addr) (H0 H : Hp) (R : Addr) (toks : List (Nat × Str)) (i : Nat) (rest : List Str) (bs : List Br) : Prop where
  a : ∃ TL BL bas, RdA K C D H0 H R TL BL bas toks i bs
  r : (toks.drop i).map Prod.snd = rest ++ [("" : Str)]
  z : toks.length ≤ 12000
  l : ∀ t ∈ toks, t.2.length ≤ 8
section
variable {K : PySem.W.Frag} {C D : Addr} {H0 H H1 H2 : Hp} {R TL BL : Addr} {toks : List (Nat × Str)} {i j : Nat} {rest : List Str} {bs : List Br} {x : Br} {β : Ba} {bas : List Ba}
theorem RdX.exx (h : RdX K C D H0 H R toks i rest bs) (e : Ex H H1) : RdX K C D H0 H1 R toks i rest bs := by
  obtain ⟨TL, BL, bas, h1⟩ := h.a
  exact ⟨⟨TL, BL, bas, h1.exx e⟩, h.r, h.z, h.l⟩
theorem RdX.lt (h : RdX K C D H0 H R toks i rest bs) : i < toks.length := by
  have e := congrArg List.length h.r
  rw [List.length_map, List.length_drop, List.length_append] at e
  simp at e
  omega
theorem rest_get {t : Str} {r : List Str} (h : (toks.drop i).map Prod.snd = t :: r) : ∃ n, toks[i]? = some (n, t) ∧ (toks.drop (i + 1)).map Prod.snd = r := by
  cases e : toks.drop i with
  | nil => rw [e] at h; cases h
  | cons y ys =>
    rw [e] at h
    obtain ⟨h1, h2⟩ := List.cons.inj h
    refine ⟨y.1, ?_, ?_⟩
    · have : (toks.drop i)[0]? = some y := by rw [e]; rfl
      rw [List.getElem?_drop] at this
      rw [← h1]
      exact this
    · have : toks.drop (i + 1) = ys := by
        rw [← List.drop_drop, e]
        rfl
      rw [this]
      exact h2
theorem RdX.short (h : RdX K C D H0 H R toks i rest bs) {t : Str} (m : t ∈ rest) : t.length ≤ 8 := by
  have m2 : t ∈ (toks.drop i).map Prod.snd := by rw [h.r]; exact List.mem_append.mpr (.inl m)
  obtain ⟨y, hy, rfl⟩ := List.mem_map.mp m2
  exact h.l y (List.drop_subset _ _ hy)
theorem RdX.next {t : Str} {r : List Str} {bs' : List Br} (h : RdX K C D H0 H R toks i (t :: r) bs) (a : ∃ TL BL bas, RdA K C D H0 H1 R TL BL bas toks (i + 1) bs') : RdX K C D H0 H1 R toks (i + 1) r bs' := by
  obtain ⟨n, _, e⟩ := rest_get h.r
  exact ⟨a, e, h.z, h.l⟩
theorem RdX.next2 {t u : Str} {r : List Str} {bs' : List Br} (h : RdX K C D H0 H R toks i (t :: u :: r) bs) (a : ∃ TL BL bas, RdA K C D H0 H1 R TL BL bas toks (i + 2) bs') : RdX K C D H0 H1 R toks (i + 2) r bs' := by
  obtain ⟨n, _, e⟩ := rest_get h.r
  obtain ⟨m, _, e2⟩ := rest_get e
  exact ⟨a, e2, h.z, h.l⟩
/-- the parts of the state, by name -/
structure RdV (K : PySem.W.Frag) (C D : Addr) (H : Hp) (R TL BL dx : Addr) (β : Ba) (bas : List Ba) (i : Nat) (x : Br) : Prop where
  ob : H R = some (.ins D dx (rf TL (i : Int) BL))
  bl : H BL = some (.lst ((bas.reverse.map fun β => V.ref β.b) ++ [.ref β.b]))
  br : BrAt K C i H β x
  nR : R ∉ β.all
  nB : BL ∉ β.all
  ne : R ≠ BL
theorem RdA.view (h : RdA K C D H0 H R TL BL (β :: bas) toks i (x :: bs)) : ∃ dx, RdV K C D H R TL BL dx β bas i x := by
  obtain ⟨dx, ob⟩ := h.ob
  have nd := h.nd
  unfold owned at nd
  rw [List.flatMap_cons] at nd
  obtain ⟨a1, nd1⟩ := List.nodup_cons.mp nd
  obtain ⟨a2, nd2⟩ := List.nodup_cons.mp nd1
  obtain ⟨a3, nd3⟩ := List.nodup_cons.mp nd2
  simp only [List.mem_cons, List.mem_append, not_or] at a1 a2 a3
  have bl := h.bl
  rw [List.reverse_cons, List.map_append] at bl
  cases h.brs with
  | cons b r => exact ⟨dx, ob, bl, b, a1.2.2.1, a3.1, a1.2.1⟩
theorem RdA.some_top (h : RdA K C D H0 H R TL BL bas toks i (x :: bs)) : ∃ β bas', bas = β :: bas' := by
  cases h.brs with
  | cons b r => exact ⟨_, _, rfl⟩
/-- the top bracket's operands grow by one, and the place moves on -/
theorem RdA.val {dx : Addr} {ws : List V} {v : V} {e : Tr} (h : RdA K C D H0 H R TL BL (β :: bas) toks i (x :: bs)) (ob : H R = some (.ins D dx (rf TL (i : Int) BL))) (hd : H β.dl = some (.lst ws.reverse)) (td : TrsAt K H ws x.vals) (e1 : Ex H H1) (tv : TrAt K H1 v e)
    (e2 : Ex (upd H1 β.dl (.lst (ws.reverse ++ [v]))) H2) (hj : i < j) : H2 R = some (.ins D dx (rf TL (i : Int) BL)) ∧ RdA K C D H0 (upd H2 R (.ins D dx (rf TL (j : Int) BL))) R TL BL (β :: bas) toks j ({ x with vals := e :: x.vals } :: bs) := by
  obtain ⟨dx', w⟩ := h.view
  have nRd : R ≠ β.dl := fun e => w.nR (by rw [e]; simp [Ba.all])
  have hR2 : H2 R = some (.ins D dx (rf TL (i : Int) BL)) := e2 _ _ (by rw [upd_ne nRd]; exact e1 _ _ ob)
  refine ⟨hR2, ?_⟩
  have k1 : Kp K (R :: β.all) H H2 := (Kp.of e1).trans ((Kp.updL (e1 _ _ hd) (by simp [Ba.all])).trans (Kp.of e2))
  have k2 := k1.trans (Kp.updI (S := R :: β.all) (o := .ins D dx (rf TL (j : Int) BL)) hR2 (by simp))
  have b := w.br
  obtain ⟨dy, bob⟩ := b.ob
  obtain ⟨us, ha, ta⟩ := b.al
  have bo := b.ol
  obtain ⟨s1, s2, s3⟩ := b.sz
  obtain ⟨n1, n2, n3⟩ := b.nd
  have q : ∀ a ∈ β.all, R ≠ a := fun a m e => w.nR (e ▸ m)
  have nbd : β.b ≠ β.dl := ne_of bob hd (by intro z; cases z)
  have t2 : TupKeep K H1 (upd H2 R (.ins D dx (rf TL (j : Int) BL))) := ((TupKeep.updL (e1 _ _ hd)).trans (TupKeep.of e2)).trans (TupKeep.updI hR2)
  have keepO : ∀ a o, a ∈ β.all → a ≠ β.dl → H a = some o → (upd H2 R (.ins D dx (rf TL (j : Int) BL))) a = some o := fun a o m n g => by
    rw [upd_ne (q a m).symm]
    exact e2 _ _ (by rw [upd_ne n]; exact e1 _ _ g)
  refine h.top k2 ⟨dx, upd_same⟩ (Nat.le_of_lt hj) ⟨⟨dy, keepO _ _ (by simp [Ba.all]) nbd bob⟩, ⟨us, keepO _ _ (by simp [Ba.all]) n2 ha, ta.keep k2.t⟩, keepO _ _ (by simp [Ba.all]) n3 bo, ⟨v :: ws, ?_, .cons (tv.keep t2) (td.keep k2.t)⟩, b.ok, ⟨Nat.le_trans s1 (Nat.le_of_lt hj), Nat.le_trans s2 (Nat.le_of_lt hj), ?_⟩, ⟨n1, n2, n3⟩⟩
  · rw [List.reverse_cons, upd_ne (q _ (by simp [Ba.all])).symm]
    exact e2 _ _ upd_same
  · show x.vals.length + 1 ≤ j
    omega
/-- the top bracket's operators grow by one, and the place moves on -/
theorem RdA.opr {dx : Addr} {o : Str} (h : RdA K C D H0 H R TL BL (β :: bas) toks i (x :: bs)) (ob : H R = some (.ins D dx (rf TL (i : Int) BL))) (ho : o ∈ ops14) (e1 : Ex H H1)
    (e2 : Ex (upd H1 β.ol (.lst (x.ops.reverse.map V.str ++ [.str o]))) H2) (hj : i < j) : H2 R = some (.ins D dx (rf TL (i : Int) BL)) ∧ RdA K C D H0 (upd H2 R (.ins D dx (rf TL (j : Int) BL))) R TL BL (β :: bas) toks j ({ x with ops := o :: x.ops } :: bs) := by
  obtain ⟨dx', w⟩ := h.view
  have nRd : R ≠ β.ol := fun e => w.nR (by rw [e]; simp [Ba.all])
  have hR2 : H2 R = some (.ins D dx (rf TL (i : Int) BL)) := e2 _ _ (by rw [upd_ne nRd]; exact e1 _ _ ob)
  refine ⟨hR2, ?_⟩
  have b := w.br
  have bo := b.ol
  have k1 : Kp K (R :: β.all) H H2 := (Kp.of e1).trans ((Kp.updL (e1 _ _ bo) (by simp [Ba.all])).trans (Kp.of e2))
  have k2 := k1.trans (Kp.updI (S := R :: β.all) (o := .ins D dx (rf TL (j : Int) BL)) hR2 (by simp))
  obtain ⟨dy, bob⟩ := b.ob
  obtain ⟨us, ha, ta⟩ := b.al
  obtain ⟨ws, hd, td⟩ := b.dl
  obtain ⟨s1, s2, s3⟩ := b.sz
  obtain ⟨n1, n2, n3⟩ := b.nd
  have q : ∀ a ∈ β.all, R ≠ a := fun a m e => w.nR (e ▸ m)
  have nbo : β.b ≠ β.ol := ne_of bob bo (by intro z; cases z)
  have keepO : ∀ a u, a ∈ β.all → a ≠ β.ol → H a = some u → (upd H2 R (.ins D dx (rf TL (j : Int) BL))) a = some u := fun a u m n g => by
    rw [upd_ne (q a m).symm]
    exact e2 _ _ (by rw [upd_ne n]; exact e1 _ _ g)
  refine h.top k2 ⟨dx, upd_same⟩ (Nat.le_of_lt hj) ⟨⟨dy, keepO _ _ (by simp [Ba.all]) nbo bob⟩, ⟨us, keepO _ _ (by simp [Ba.all]) n1 ha, ta.keep k2.t⟩, ?_, ⟨ws, keepO _ _ (by simp [Ba.all]) n3.symm hd, td.keep k2.t⟩, fun z hz => ?_, ⟨Nat.le_trans s1 (Nat.le_of_lt hj), ?_, Nat.le_trans s3 (Nat.le_of_lt hj)⟩, ⟨n1, n2, n3⟩⟩
  · rw [upd_ne (q _ (by simp [Ba.all])).symm, List.reverse_cons, List.map_append]
    exact e2 _ _ upd_same
  · rcases List.mem_cons.mp hz with rfl | hz
    · exact ho
    · exact b.ok z hz
  · show x.ops.length + 1 ≤ j
    omega
end
section
variable {K : PySem.W.Frag} {C D : Addr} {H0 H H1 H2 : Hp} {R TL BL : Addr} {toks : List (Nat × Str)} {i j : Nat} {rest : List Str} {bs : List Br} {x : Br} {β : Ba} {bas : List Ba}
/-- only the place moves on -/
theorem RdA.move {dx : Addr} (h : RdA K C D H0 H R TL BL (β :: bas) toks i (x :: bs)) (ob : H R = some (.ins D dx (rf TL (i : Int) BL))) (e1 : Ex H H1) (hj : i < j) : RdA K C D H0 (upd H1 R (.ins D dx (rf TL (j : Int) BL))) R TL BL (β :: bas) toks j (x :: bs) := by
  obtain ⟨dx', w⟩ := h.view
  have k2 : Kp K [R] H (upd H1 R (.ins D dx (rf TL (j : Int) BL))) := (Kp.of e1).trans (Kp.updI (e1 _ _ ob) (by simp))
  exact h.top (k2.mono (by simp)) ⟨dx, upd_same⟩ (Nat.le_of_lt hj) (w.br.keep k2 (fun a m => by simp; exact fun e => w.nR (e ▸ m)) (Nat.le_of_lt hj))
/-- a new bracket, the place moved on -/
theorem RdA.open_ {dx : Addr} {c : Option Str} {β' : Ba} (h : RdA K C D H0 H R TL BL (β :: bas) toks i (x :: bs)) (ob : H R = some (.ins D dx (rf TL (i : Int) BL))) (k1 : Kp K [β'.b] H H1) (hb : BrAt K C 0 H1 β' ⟨c, [], [], []⟩) (hf : ∀ a ∈ β'.all, H a = none)
    (e2 : Ex (upd H1 BL (.lst (((β :: bas).reverse.map fun β => V.ref β.b) ++ [.ref β'.b]))) H2) (hj : i < j) : H2 R = some (.ins D dx (rf TL (i : Int) BL)) ∧ RdA K C D H0 (upd H2 R (.ins D dx (rf TL (j : Int) BL))) R TL BL (β' :: β :: bas) toks j (⟨c, [], [], []⟩ :: x :: bs) := by
  obtain ⟨dx', w⟩ := h.view
  have hbl := h.bl
  have fr : ∀ a, H a ≠ none → a ∉ β'.all := fun a n m => n (hf a m)
  have kR : R ∉ β'.all := fr R (by rw [ob]; simp)
  have kB : BL ∉ β'.all := fr BL (by rw [hbl]; simp)
  have nb : β'.b ∈ β'.all := by simp [Ba.all]
  have hR1 := k1.k _ _ ob (by simp; exact fun e => kR (e ▸ nb))
  have hB1 := k1.k _ _ hbl (by simp; exact fun e => kB (e ▸ nb))
  have hR2 : H2 R = some (.ins D dx (rf TL (i : Int) BL)) := e2 _ _ (by rw [upd_ne w.ne]; exact hR1)
  refine ⟨hR2, ?_⟩
  have k3 : Kp K [R, BL] H1 (upd H2 R (.ins D dx (rf TL (j : Int) BL))) := (Kp.updL hB1 (by simp)).trans ((Kp.of e2).trans (Kp.updI hR2 (by simp)))
  have k0 : Kp K [R, BL] H H1 := ⟨k1.t, fun a o e _ => k1.k a o e (by simp; exact fun z => fr a (by rw [e]; simp) (z ▸ nb))⟩
  refine h.push (k0.trans k3) ⟨dx, upd_same⟩ ?_ hj (hb.keep k3 (fun a m => by simp; exact ⟨fun e => kR (e ▸ m), fun e => kB (e ▸ m)⟩) (Nat.zero_le _)) hf
  rw [upd_ne w.ne.symm]
  exact e2 _ _ upd_same
end
theorem inV_str (z : Str) (l : List Str) : inV (.str z) (l.map V.str) = decide (z ∈ l) := by
  unfold inV
  rw [List.any_map]
  by_cases h : z ∈ l
  · rw [decide_eq_true h]
    exact List.any_eq_true.mpr ⟨z, h, by show (z == z) = true; exact beq_self_eq_true z⟩
  · rw [decide_eq_false h]
    refine List.any_eq_false.mpr fun a ha e => h ?_
    have e2 : (a == z) = true := e
    rw [← eq_of_beq e2]
    exact ha
/-- while c: .., where c may change the heap -/
theorem q_whileR {t : TT} {tu tz : TS} {D : Ends} {σ : L2.St} {H : Hp} (W : Nat → L2.St → Hp → Prop) (m0 : Nat) (h0 : W m0 σ H)
    (hs : ∀ m σ' H', W m σ' H' → t σ' H' fun b H1 => if b = true then ∃ N : L2.St → Hp → Prop, (∀ σ2 H2, N σ2 H2 → ∃ m', m' < m ∧ W m' σ2 H2) ∧ tu { D with nx := N, ct := N, bk := tz D } σ' H1 else tz D σ' H1) : tSeq (tWhile t tu) tz D σ H :=
  ⟨W, ⟨m0, h0⟩, hs⟩
section
variable {K : PySem.W.Frag} {σ : L2.St} {H : Hp} {te ta : TE} {tz : TS} {D : Ends}
/-- a test that a method makes, which may change the heap -/
theorem tb_meth {a C dx : Addr} {fs : List (Str × V)} {m : Str} {sp : Sp} {E : XK} {Q : Bool → Hp → Prop} (h : Ev te σ H (.ref a)) (ho : H a = some (.ins C dx fs)) (hl : fs.lookup m = none)
    (k : ∀ H1, Ex H H1 → sp [.ref a] H1 (fun v H2 => ∃ b, v = .bl b ∧ Q b H2) E) : tB (tMeth C m sp [] E te tNil) σ H Q := h H (Ex.refl H) _ fun H1 e1 => ⟨a, dx, fs, rfl, e1 _ _ ho, hl, k H1 e1⟩
/-- l.append(o.m()), where m may change the heap -/
theorem q_appM {l a C dx : Addr} {fs : List (Str × V)} {m : Str} {sp : Sp} {E : XK} {xs : List V} (hl : H l = some (.lst xs)) (ha : Ev ta σ H (.ref l)) (h : Ev te σ H (.ref a)) (ho : H a = some (.ins C dx fs)) (hm : fs.lookup m = none) (hz : xs.length < 100000)
    (k : ∀ H1, Ex H H1 → sp [.ref a] H1 (fun v H2 => H2 l = some (.lst xs) ∧ tz D σ (upd H2 l (.lst (xs ++ [v])))) E)
    (hmono : ∀ H1 (Q Q' : VK), (∀ v H2, Q v H2 → Q' v H2) → sp [.ref a] H1 Q E → sp [.ref a] H1 Q' E) :
    tSeq (tDrop (tBM K "list" rAppend ta (tCons (tMeth C m sp [] E te tNil) tNil))) tz D σ H := ha H (Ex.refl H) _ fun H1 e1 =>
  ⟨Or.inl ⟨rfl, _, sq_of (e1 l _ hl)⟩, h H1 e1 _ fun H2 e2 => ⟨a, dx, fs, rfl, e2 _ _ (e1 _ _ ho), hm, hmono H2 _ _ (fun v H3 q => ⟨l, xs, v, rfl, rfl, q.1, sz_lt hz, q.2⟩) (k H2 (e1.trans e2))⟩⟩
end
section
variable {K : PySem.W.Frag} {C D : Addr} {H0 H H1 H2 H3 : Hp} {R TL BL : Addr} {toks : List (Nat × Str)} {i j : Nat} {rest : List Str} {bs : List Br} {x x' : Br} {β : Ba} {bas : List Ba} {S : List Addr}
theorem RdA.topK {dx : Addr} (h : RdA K C D H0 H R TL BL (β :: bas) toks i (x :: bs)) (ob : H R = some (.ins D dx (rf TL (i : Int) BL))) (k : Kp K S H H2) (hS : ∀ a ∈ S, a ∈ β.all) (hB : BrAt K C j H2 β x') (e3 : Ex H2 H3) (hj : i < j) :
    H3 R = some (.ins D dx (rf TL (i : Int) BL)) ∧ RdA K C D H0 (upd H3 R (.ins D dx (rf TL (j : Int) BL))) R TL BL (β :: bas) toks j (x' :: bs) := by
  obtain ⟨dx', w⟩ := h.view
  have hR2 := k.k _ _ ob (fun m => w.nR (hS _ m))
  refine ⟨e3 _ _ hR2, ?_⟩
  have k3 : Kp K [R] H2 (upd H3 R (.ins D dx (rf TL (j : Int) BL))) := (Kp.of e3).trans (Kp.updI (e3 _ _ hR2) (by simp))
  exact h.top ((k.mono (fun a m => List.mem_cons_of_mem _ (hS a m))).trans (k3.mono (by simp))) ⟨dx, upd_same⟩ (Nat.le_of_lt hj) (hB.keep k3 (fun a m => by simp; exact fun e => w.nR (e ▸ m)) (Nat.le_refl _))
theorem RdA.topS {dx : Addr} (h : RdA K C D H0 H R TL BL (β :: bas) toks i (x :: bs)) (ob : H R = some (.ins D dx (rf TL (i : Int) BL))) (k : Kp K S H H2) (hS : ∀ a ∈ S, a ∈ β.all) (hB : BrAt K C i H2 β x') :
    RdA K C D H0 H2 R TL BL (β :: bas) toks i (x' :: bs) := by
  obtain ⟨dx', w⟩ := h.view
  exact h.top (k.mono (fun a m => List.mem_cons_of_mem _ (hS a m))) ⟨dx, k.k _ _ ob (fun m => w.nR (hS _ m))⟩ (Nat.le_refl _) hB
theorem RdA.exK (h : RdA K C D H0 H R TL BL (β :: bas) toks i (x :: bs)) (k : Kp K S H H2) (hS : ∀ a ∈ S, a ∈ β.all) : Ex H0 H2 := fun a o e => k.k _ _ (h.ex a o e) fun m => by
  have : H0 a = none := h.fr a (by unfold owned; rw [List.flatMap_cons]; simp [hS a m])
  rw [this] at e
  cases e
/-- a bracket is closed: what it holds goes to the one below -/
theorem RdA.close_ {dx : Addr} {β2 : Ba} {y : Br} {v : V} {e : Tr} {ws : List V} (h : RdA K C D H0 H R TL BL (β :: β2 :: bas) toks i (x :: y :: bs)) (ob : H R = some (.ins D dx (rf TL (i : Int) BL))) (k1 : Kp K (BL :: β.all) H H1) (hB : H1 BL = some (.lst ((β2 :: bas).reverse.map fun β => V.ref β.b)))
    (hd : H β2.dl = some (.lst ws.reverse)) (td : TrsAt K H ws y.vals) (tv : TrAt K H1 v e) (e2 : Ex (upd H1 β2.dl (.lst (ws.reverse ++ [v]))) H2) (hj : i < j) :
    H1 β2.dl = some (.lst ws.reverse) ∧ H2 R = some (.ins D dx (rf TL (i : Int) BL)) ∧ RdA K C D H0 (upd H2 R (.ins D dx (rf TL (j : Int) BL))) R TL BL (β2 :: bas) toks j ({ y with vals := e :: y.vals } :: bs) := by
  have nd := h.nd
  unfold owned at nd
  rw [List.flatMap_cons, List.flatMap_cons] at nd
  obtain ⟨a1, nd1⟩ := List.nodup_cons.mp nd
  obtain ⟨a2, nd2⟩ := List.nodup_cons.mp nd1
  obtain ⟨a3, nd3⟩ := List.nodup_cons.mp nd2
  obtain ⟨na, nb, nab⟩ := List.nodup_append.mp nd3
  simp only [List.mem_cons, List.mem_append, not_or] at a1 a2 a3
  have nR2 : ∀ a ∈ β2.all, R ≠ a := fun a m e => a1.2.2.2.1 (e ▸ m)
  have nB2 : ∀ a ∈ β2.all, BL ≠ a := fun a m e => a3.2.1 (e ▸ m)
  have n12 : ∀ a ∈ β2.all, a ∉ β.all := fun a m m2 => nab a m2 a (List.mem_append.mpr (.inl m)) rfl
  have mdl : β2.dl ∈ β2.all := by simp [Ba.all]
  have hRx : R ∉ BL :: β.all := by simp only [List.mem_cons, not_or]; exact ⟨a1.2.1, a1.2.2.1⟩
  have hd1 : H1 β2.dl = some (.lst ws.reverse) := k1.k _ _ hd (by simp only [List.mem_cons, not_or]; exact ⟨(nB2 _ mdl).symm, n12 _ mdl⟩)
  have hR1 := k1.k _ _ ob hRx
  have hR2 : H2 R = some (.ins D dx (rf TL (i : Int) BL)) := e2 _ _ (by rw [upd_ne (nR2 _ mdl)]; exact hR1)
  refine ⟨hd1, hR2, ?_⟩
  have k2 : Kp K [R, β2.dl] H1 (upd H2 R (.ins D dx (rf TL (j : Int) BL))) := (Kp.updL hd1 (by simp)).trans ((Kp.of e2).trans (Kp.updI hR2 (by simp)))
  cases h.brs with
  | cons b0 r0 =>
  cases r0 with
  | cons b r1 =>
  obtain ⟨dy, bob⟩ := b.ob
  obtain ⟨us, ha, ta⟩ := b.al
  have bo := b.ol
  obtain ⟨s1, s2, s3⟩ := b.sz
  obtain ⟨n1, n2, n3⟩ := b.nd
  have nbd : β2.b ≠ β2.dl := ne_of bob hd (by intro z; cases z)
  have keepO : ∀ a o, a ∈ β2.all → a ≠ β2.dl → H a = some o → (upd H2 R (.ins D dx (rf TL (j : Int) BL))) a = some o := fun a o m n g =>
    k2.k _ _ (k1.k _ _ g (by simp only [List.mem_cons, not_or]; exact ⟨(nB2 _ m).symm, n12 _ m⟩)) (by simp only [List.mem_cons, List.not_mem_nil, or_false, not_or]; exact ⟨(nR2 _ m).symm, n⟩)
  have kk : Kp K (R :: BL :: (β.all ++ β2.all)) H (upd H2 R (.ins D dx (rf TL (j : Int) BL))) := (k1.mono (fun a m => by
    rcases List.mem_cons.mp m with h | h
    · simp [h]
    · simp [h])).trans (k2.mono (fun a m => by
    simp only [List.mem_cons, List.not_mem_nil, or_false] at m
    rcases m with h | h
    · simp [h]
    · simp [h, mdl]))
  refine h.drop kk ⟨dx, upd_same⟩ ?_ (Nat.le_of_lt hj) ⟨⟨dy, keepO _ _ (by simp [Ba.all]) nbd bob⟩, ⟨us, keepO _ _ (by simp [Ba.all]) n2 ha, ta.keep kk.t⟩, keepO _ _ (by simp [Ba.all]) n3 bo, ⟨v :: ws, ?_, .cons (tv.keep k2.t) (td.keep kk.t)⟩, b.ok, ⟨Nat.le_trans s1 (Nat.le_of_lt hj), Nat.le_trans s2 (Nat.le_of_lt hj), ?_⟩, ⟨n1, n2, n3⟩⟩
  · exact k2.k _ _ hB (by simp only [List.mem_cons, List.not_mem_nil, or_false, not_or]; exact ⟨fun e => a1.2.1 e.symm, nB2 _ mdl⟩)
  · rw [List.reverse_cons, upd_ne (nR2 _ mdl).symm]
    exact e2 _ _ upd_same
  · show y.vals.length + 1 ≤ j
    omega
end
section
variable {K : PySem.W.Frag} {σ : L2.St} {H : Hp} {te tu ta : TE} {tz : TS} {D : Ends}
/-- [*xs, (..)] where what xs holds is known by R0 -/
theorem elh_star {R0 : List V → Hp → Prop} {us : List V} (hc : EvLH te σ H R0) (mono : ∀ ws H1 H2, R0 ws H1 → Ex H1 H2 → R0 ws H2) (hu : EvU tu σ H us) (hz : ∀ ws H1, R0 ws H1 → ws.length ≤ 50000) :
    EvLH (tLst (StX.tStar K te (tCons tu tNil))) σ H (fun ws H => ∃ ws0 p2, ws = ws0 ++ [.ref p2] ∧ R0 ws0 H ∧ H p2 = some (.tup us)) := fun H1 e1 Q q =>
  hc H1 e1 _ fun p ws H2 hp e2 h2 r => ⟨p, ws, rfl, .inr (sq_of h2), hu H2 (e1.trans e2) _ fun p2 H3 hp2 e3 h3 => ⟨by rw [List.length_append]; have := hz ws H2 r; exact sz_of (by show ws.length + 1 ≤ 100000; omega), fun l hl =>
    q l _ _ (fresh_back (e2.trans e3) hl) ((e2.trans e3).trans (Ex.new hl)) upd_same ⟨ws, p2, rfl, mono _ _ _ r (e3.trans (Ex.new hl)), (Ex.new hl) _ _ h3⟩⟩⟩
theorem q_fldLH {a C dx : Addr} {fs : List (Str × V)} {f : Str} {R : List V → Hp → Prop} (hv : EvLH te σ H R) (h : Ev ta σ H (.ref a)) (ho : H a = some (.ins C dx fs)) (hc : Cls K C) (hn : NoAttr K C f) (hz : fs.length < 1000)
    (k : ∀ p ws H1 H2, H p = none → Ex H H1 → H1 p = some (.lst ws) → R ws H1 → Ex H1 H2 → tz D σ (upd H2 a (.ins C dx (putF f (.ref p) fs)))) : tSeq (sFld K ta te f) tz D σ H := hv H (Ex.refl H) _ fun p ws H1 hp e1 h1 r => h H1 e1 _ fun H2 e2 => ⟨a, C, dx, fs, rfl, e2 _ _ (e1 _ _ ho), hc, hn, hz, k p ws H1 H2 hp e1 h1 r e2⟩
end
/-- x = C(..) -/
theorem q_asgMk {C : Addr} {sp : Sp} {E : XK} {t : TA} {vs : List V} {i : Nat} {tz : TS} {D : Ends} {σ : L2.St} {H : Hp} (ha : EvA t σ H vs)
    (k : ∀ H1, Ex H H1 → ∀ x dx, H1 x = none → H1 dx = none → dx ≠ x → sp (.ref x :: vs) (upd (upd H1 dx (.own x)) x (.ins C dx [])) (fun v H2 => v = .non ∧ tz D (σ.set i (some (.ref x))) H2) E) :
    tSeq (tAsg (tMake C sp [] E t) (gName i)) tz D σ H := ha H (Ex.refl H) _ fun H1 e1 x dx h1 h2 h3 => by
  rw [List.append_nil]
  exact k H1 e1 x dx h1 h2 h3
end Own

/-! " " * n -/
namespace Own
open PySem L2 Evl
def spS (n : Nat) : Str := ⟨(List.replicate n 32).toArray⟩
def rRepS : R2 := fun x y H Q => ∃ n : Nat, x = .str " " ∧ y = .int (n : Int) ∧ n ≤ 1000 ∧ Q (.str (spS n)) H
theorem fold_rep (n : Nat) (acc : Array Nat) : (List.replicate n (#[32] : Array Nat)).foldl (· ++ ·) acc = acc ++ (List.replicate n 32).toArray := by
  induction n generalizing acc with
  | zero => simp
  | succ n ih =>
    rw [List.replicate_succ, List.foldl_cons, ih, List.replicate_succ]
    apply Array.toList_inj.mp
    simp
section
variable {X : Cx}
theorem op_repS : OpR X (binaryOp .Mult) rRepS := by
  intro pins s σ H x y v u Q I rx ry h
  obtain ⟨n, rfl, rfl, hn, q⟩ := h
  obtain ⟨t, rfl⟩ := rx
  obtain ⟨t', rfl⟩ := ry
  have l1 : (" " : Str).length = 1 := rfl
  refine P.mul_str (by
    rw [decide_eq_false (by omega), decide_eq_false (by omega)]; rfl) (fun h1 h2 => ?_) (fun h1 h2 => ?_) ?_
  · rw [l1]
    intro z
    have : ((2 : Int) ^ 63 - 1) / (n : Int) ≥ 1 := by
      apply Int.le_ediv_of_mul_le <;> omega
    omega
  · rw [l1]
    exact PyProof.Rows.short24 (by omega)
  · match n, hn, q with
    | 0, _, q =>
      rw [if_pos (by decide)]
      exact ⟨by decide, ⟨.str Str.empty, H, I.tok _, ⟨_, rfl⟩, q⟩⟩
    | 1, _, q =>
      rw [if_neg (by decide), if_pos (by decide)]
      exact ⟨.str " ", H, I, ⟨_, rfl⟩, by rw [show (" " : Str) = spS 1 by decide +kernel]; exact q⟩
    | n + 2, hn, q =>
      rw [if_neg (by omega), if_neg (by simp; omega)]
      have e : (⟨(List.replicate ((n + 2 : Nat) : Int).toNat (" " : Str).cps).foldl (· ++ ·) #[]⟩ : Str) = spS (n + 2) := by
        rw [Int.toNat_natCast]
        have := fold_rep (n + 2) #[]
        unfold spS
        rw [show (" " : Str).cps = #[32] by decide +kernel, this]
        simp
      rw [e]
      exact ⟨by
        have l : (spS (n + 2)).length = n + 2 := by show ((List.replicate (n + 2) 32).toArray).size = _; simp
        rw [l]
        exact sz_of (by omega), ⟨.str (spS (n + 2)), H, I.tok _, ⟨_, rfl⟩, q⟩⟩
end
end Own

namespace K02
open PySem L2 Evl Own
local macro_rules | `(tactic| walk_at "ev") => `(tactic| first
  | exact ev_c
  | with_reducible exact ea_nil
  | ((with_reducible refine' ev_op ?_ ?_ ?_) <;> walk_at "ev")
  | ((with_reducible refine' ea_cons ?_ ?_) <;> walk_at "ev")
  | ((with_reducible refine' ev_un ?_ ?_) <;> walk_at "ev")
  | ((with_reducible refine' et_test ?_); walk_at "ev")
  | ((with_reducible refine' et_B ?_); walk_at "ev")
  | ((with_reducible refine' et_not ?_); walk_at "ev")
  | ((with_reducible refine' ev_slS ?_ ?_ ?_ ?_) <;> walk_at "ev")
  | with_reducible exact eo_none
  | ((with_reducible refine' eo_some ?_) <;> walk_at "ev")
  | exact ev_var rfl
  | exact rv_I0
  | exact rc_int1
  | exact rv_eqI
  | exact rv_neI
  | exact rc_min2
  | exact rc_max2
  | exact rv_niS
  | exact rv_inS
  | exact rv_isB
  | exact rc_lenS (by first | assumption | exact sz_of (by omega))
  | (apply rc_lenL; assumption)
  | (apply rv_ixL; (focus assumption); first | assumption | exact at_map (by assumption) | exact at_ints (by omega) | exact at_intsI (by omega) (by omega) | skip)
  | ((with_reducible refine' ev_cb ?_ ?_) <;> walk_at "ev")
  | (refine' rv_I ?_; first | omega | assumption | (unfold CMul; omega) | (unfold CDiv; omega) | (unfold CPow; decide))
  | skip)

def top (i : Nat) : Stmt := PySem.Challenge.pw_sameroom_k02_expression_texts.main.body.getD i (.Pass ⟨0, 0, 0, 0⟩)
abbrev s_told : Stmt := top 2
abbrev N_told : List Str := ["number"]
theorem sc_told : FnScope ["number"] ["number"] (defScope s_told) := ⟨rfl, rfl, rfl, by decide +kernel, rfl, by decide +kernel, by decide +kernel⟩
abbrev s_is_name : Stmt := top 11
abbrev N_is_name : List Str := ["text", "sign"]
theorem sc_is_name : FnScope ["text", "sign"] ["text"] (defScope s_is_name) := ⟨rfl, rfl, rfl, by decide +kernel, rfl, by decide +kernel, by decide +kernel⟩
abbrev s_parts_of : Stmt := top 12
abbrev N_parts_of : List Str := ["expression"]
theorem sc_parts_of : FnScope ["expression"] ["expression"] (defScope s_parts_of) := ⟨rfl, rfl, rfl, by decide +kernel, rfl, by decide +kernel, by decide +kernel⟩
abbrev s_inner_first : Stmt := top 13
abbrev N_inner_first : List Str := ["expression", "todo", "found", "part"]
theorem sc_inner_first : FnScope ["expression", "todo", "found", "part"] ["expression"] (defScope s_inner_first) := ⟨rfl, rfl, rfl, by decide +kernel, rfl, by decide +kernel, by decide +kernel⟩
abbrev s_folded : Stmt := top 14
abbrev N_folded : List Str := ["expression", "combine", "results", "part", "first"]
theorem sc_folded : FnScope ["expression", "combine", "results", "part", "first"] ["expression", "combine"] (defScope s_folded) := ⟨rfl, rfl, rfl, by decide +kernel, rfl, by decide +kernel, by decide +kernel⟩
abbrev s_is_number : Stmt := top 19
abbrev N_is_number : List Str := ["text", "most_digits", "sign"]
theorem sc_is_number : FnScope ["text", "most_digits", "sign"] ["text", "most_digits"] (defScope s_is_number) := ⟨rfl, rfl, rfl, by decide +kernel, rfl, by decide +kernel, by decide +kernel⟩
abbrev s_run_end : Stmt := top 20
abbrev N_run_end : List Str := ["text", "at", "signs", "end"]
theorem sc_run_end : FnScope ["text", "at", "signs", "end"] ["text", "at", "signs"] (defScope s_run_end) := ⟨rfl, rfl, rfl, by decide +kernel, rfl, by decide +kernel, by decide +kernel⟩
abbrev s_token_end : Stmt := top 21
abbrev N_token_end : List Str := ["text", "at"]
theorem sc_token_end : FnScope ["text", "at"] ["text", "at"] (defScope s_token_end) := ⟨rfl, rfl, rfl, by decide +kernel, rfl, by decide +kernel, by decide +kernel⟩
abbrev s_is_token : Stmt := top 22
abbrev N_is_token : List Str := ["text"]
theorem sc_is_token : FnScope ["text"] ["text"] (defScope s_is_token) := ⟨rfl, rfl, rfl, by decide +kernel, rfl, by decide +kernel, by decide +kernel⟩
abbrev s_tokens_of : Stmt := top 23
abbrev N_tokens_of : List Str := ["text", "tokens", "at", "end"]
theorem sc_tokens_of : FnScope ["text", "tokens", "at", "end"] ["text"] (defScope s_tokens_of) := ⟨rfl, rfl, rfl, by decide +kernel, rfl, by decide +kernel, by decide +kernel⟩
abbrev s_in_brackets : Stmt := top 30
abbrev N_in_brackets : List Str := ["text", "needed"]
theorem sc_in_brackets : FnScope ["text", "needed"] ["text", "needed"] (defScope s_in_brackets) := ⟨rfl, rfl, rfl, by decide +kernel, rfl, by decide +kernel, by decide +kernel⟩
abbrev s_written_pair : Stmt := top 31
abbrev N_written_pair : List Str := ["op", "left", "right", "level", "left_text", "left_level", "right_text", "right_level", "both_compare"]
theorem sc_written_pair : FnScope ["op", "left", "right", "level", "left_text", "left_level", "right_text", "right_level", "both_compare"] ["op", "left", "right"] (defScope s_written_pair) := ⟨rfl, rfl, rfl, by decide +kernel, rfl, by decide +kernel, by decide +kernel⟩
abbrev s_written : Stmt := top 32
abbrev N_written : List Str := ["part", "parts", "inner", "text", "level", "argument"]
theorem sc_written : FnScope ["part", "parts", "inner", "text", "level", "argument"] ["part", "parts"] (defScope s_written) := ⟨rfl, rfl, rfl, by decide +kernel, rfl, by decide +kernel, by decide +kernel⟩
abbrev s_write_expression : Stmt := top 33
abbrev N_write_expression : List Str := ["expression"]
theorem sc_write_expression : FnScope ["expression"] ["expression"] (defScope s_write_expression) := ⟨rfl, rfl, rfl, by decide +kernel, rfl, by decide +kernel, by decide +kernel⟩
abbrev s_Bracket___init__ : Stmt := inClass (top 34) 0
abbrev N_Bracket___init__ : List Str := ["self", "caller"]
theorem sc_Bracket___init__ : FnScope ["self", "caller"] ["self", "caller"] (defScope s_Bracket___init__) := ⟨rfl, rfl, rfl, by decide +kernel, rfl, by decide +kernel, by decide +kernel⟩
abbrev s_Bracket_test_may_begin : Stmt := inClass (top 34) 1
abbrev N_Bracket_test_may_begin : List Str := ["self"]
theorem sc_Bracket_test_may_begin : FnScope ["self"] ["self"] (defScope s_Bracket_test_may_begin) := ⟨rfl, rfl, rfl, by decide +kernel, rfl, by decide +kernel, by decide +kernel⟩
abbrev s_Bracket_compares : Stmt := inClass (top 34) 2
abbrev N_Bracket_compares : List Str := ["self", "op"]
theorem sc_Bracket_compares : FnScope ["self", "op"] ["self"] (defScope s_Bracket_compares) := ⟨rfl, rfl, rfl, by decide +kernel, rfl, by decide +kernel, by decide +kernel⟩
abbrev s_Bracket_fold : Stmt := inClass (top 34) 3
abbrev N_Bracket_fold : List Str := ["self", "level", "op", "right"]
theorem sc_Bracket_fold : FnScope ["self", "level", "op", "right"] ["self", "level"] (defScope s_Bracket_fold) := ⟨rfl, rfl, rfl, by decide +kernel, rfl, by decide +kernel, by decide +kernel⟩
abbrev s_Bracket_end_argument : Stmt := inClass (top 34) 4
abbrev N_Bracket_end_argument : List Str := ["self"]
theorem sc_Bracket_end_argument : FnScope ["self"] ["self"] (defScope s_Bracket_end_argument) := ⟨rfl, rfl, rfl, by decide +kernel, rfl, by decide +kernel, by decide +kernel⟩
abbrev s_Bracket_whole : Stmt := inClass (top 34) 5
abbrev N_Bracket_whole : List Str := ["self"]
theorem sc_Bracket_whole : FnScope ["self"] ["self"] (defScope s_Bracket_whole) := ⟨rfl, rfl, rfl, by decide +kernel, rfl, by decide +kernel, by decide +kernel⟩
abbrev s_Reader___init__ : Stmt := inClass (top 35) 0
abbrev N_Reader___init__ : List Str := ["self", "text"]
theorem sc_Reader___init__ : FnScope ["self", "text"] ["self", "text"] (defScope s_Reader___init__) := ⟨rfl, rfl, rfl, by decide +kernel, rfl, by decide +kernel, by decide +kernel⟩
abbrev s_Reader_token : Stmt := inClass (top 35) 1
abbrev N_Reader_token : List Str := ["self"]
theorem sc_Reader_token : FnScope ["self"] ["self"] (defScope s_Reader_token) := ⟨rfl, rfl, rfl, by decide +kernel, rfl, by decide +kernel, by decide +kernel⟩
abbrev s_Reader_next_token : Stmt := inClass (top 35) 2
abbrev N_Reader_next_token : List Str := ["self"]
theorem sc_Reader_next_token : FnScope ["self"] ["self"] (defScope s_Reader_next_token) := ⟨rfl, rfl, rfl, by decide +kernel, rfl, by decide +kernel, by decide +kernel⟩
abbrev s_Reader_refuse : Stmt := inClass (top 35) 3
abbrev N_Reader_refuse : List Str := ["self"]
theorem sc_Reader_refuse : FnScope ["self"] ["self"] (defScope s_Reader_refuse) := ⟨rfl, rfl, rfl, by decide +kernel, rfl, by decide +kernel, by decide +kernel⟩
abbrev s_Reader_close_bracket : Stmt := inClass (top 35) 4
abbrev N_Reader_close_bracket : List Str := ["self", "bracket"]
theorem sc_Reader_close_bracket : FnScope ["self", "bracket"] ["self"] (defScope s_Reader_close_bracket) := ⟨rfl, rfl, rfl, by decide +kernel, rfl, by decide +kernel, by decide +kernel⟩
abbrev s_Reader_read_number : Stmt := inClass (top 35) 5
abbrev N_Reader_read_number : List Str := ["self", "sign"]
theorem sc_Reader_read_number : FnScope ["self", "sign"] ["self", "sign"] (defScope s_Reader_read_number) := ⟨rfl, rfl, rfl, by decide +kernel, rfl, by decide +kernel, by decide +kernel⟩
abbrev s_Reader_read_atom : Stmt := inClass (top 35) 6
abbrev N_Reader_read_atom : List Str := ["self", "token"]
theorem sc_Reader_read_atom : FnScope ["self", "token"] ["self"] (defScope s_Reader_read_atom) := ⟨rfl, rfl, rfl, by decide +kernel, rfl, by decide +kernel, by decide +kernel⟩
abbrev s_Reader_read_opening : Stmt := inClass (top 35) 7
abbrev N_Reader_read_opening : List Str := ["self", "token"]
theorem sc_Reader_read_opening : FnScope ["self", "token"] ["self"] (defScope s_Reader_read_opening) := ⟨rfl, rfl, rfl, by decide +kernel, rfl, by decide +kernel, by decide +kernel⟩
abbrev s_Reader_is_empty_call : Stmt := inClass (top 35) 8
abbrev N_Reader_is_empty_call : List Str := ["self", "bracket"]
theorem sc_Reader_is_empty_call : FnScope ["self", "bracket"] ["self"] (defScope s_Reader_is_empty_call) := ⟨rfl, rfl, rfl, by decide +kernel, rfl, by decide +kernel, by decide +kernel⟩
abbrev s_Reader_read_operand : Stmt := inClass (top 35) 9
abbrev N_Reader_read_operand : List Str := ["self"]
theorem sc_Reader_read_operand : FnScope ["self"] ["self"] (defScope s_Reader_read_operand) := ⟨rfl, rfl, rfl, by decide +kernel, rfl, by decide +kernel, by decide +kernel⟩
abbrev s_Reader_read_operator : Stmt := inClass (top 35) 10
abbrev N_Reader_read_operator : List Str := ["self", "token", "bracket"]
theorem sc_Reader_read_operator : FnScope ["self", "token", "bracket"] ["self"] (defScope s_Reader_read_operator) := ⟨rfl, rfl, rfl, by decide +kernel, rfl, by decide +kernel, by decide +kernel⟩
abbrev s_Reader_read_whole : Stmt := inClass (top 35) 11
abbrev N_Reader_read_whole : List Str := ["self"]
theorem sc_Reader_read_whole : FnScope ["self"] ["self"] (defScope s_Reader_read_whole) := ⟨rfl, rfl, rfl, by decide +kernel, rfl, by decide +kernel, by decide +kernel⟩
abbrev s_read_expression : Stmt := top 36
abbrev N_read_expression : List Str := ["text", "reader"]
theorem sc_read_expression : FnScope ["text", "reader"] ["text"] (defScope s_read_expression) := ⟨rfl, rfl, rfl, by decide +kernel, rfl, by decide +kernel, by decide +kernel⟩
abbrev s_law_whole : Stmt := top 38
abbrev N_law_whole : List Str := ["value"]
theorem sc_law_whole : FnScope ["value"] ["value"] (defScope s_law_whole) := ⟨rfl, rfl, rfl, by decide +kernel, rfl, by decide +kernel, by decide +kernel⟩
abbrev s_law_cell : Stmt := top 39
abbrev N_law_cell : List Str := ["script", "k", "seed", "cell"]
theorem sc_law_cell : FnScope ["script", "k", "seed", "cell"] ["script", "k"] (defScope s_law_cell) := ⟨rfl, rfl, rfl, by decide +kernel, rfl, by decide +kernel, by decide +kernel⟩
abbrev s_law_digits : Stmt := top 40
abbrev N_law_digits : List Str := ["cell", "sizes", "row", "rest", "size", "seed", "k", "twice"]
theorem sc_law_digits : FnScope ["cell", "sizes", "row", "rest", "size", "seed", "k", "twice"] ["cell", "sizes"] (defScope s_law_digits) := ⟨rfl, rfl, rfl, by decide +kernel, rfl, by decide +kernel, by decide +kernel⟩
abbrev s_law_reserved : Stmt := top 41
abbrev N_law_reserved : List Str := ["words"]
theorem sc_law_reserved : FnScope ["words"] [] (defScope s_law_reserved) := ⟨rfl, rfl, rfl, by decide +kernel, rfl, by decide +kernel, by decide +kernel⟩
abbrev s_law_fresh : Stmt := top 42
abbrev N_law_fresh : List Str := ["text", "names", "signs", "reserved", "sign", "other"]
theorem sc_law_fresh : FnScope ["text", "names", "signs", "reserved", "sign", "other"] ["text", "names"] (defScope s_law_fresh) := ⟨rfl, rfl, rfl, by decide +kernel, rfl, by decide +kernel, by decide +kernel⟩
abbrev s_law_names : Stmt := top 43
abbrev N_law_names : List Str := ["cell", "many", "signs", "row", "names", "k", "at", "word", "j", "place"]
theorem sc_law_names : FnScope ["cell", "many", "signs", "row", "names", "k", "at", "word", "j", "place"] ["cell", "many"] (defScope s_law_names) := ⟨rfl, rfl, rfl, by decide +kernel, rfl, by decide +kernel, by decide +kernel⟩
abbrev s_law_ops : Stmt := top 44
abbrev N_law_ops : List Str := []
theorem sc_law_ops : FnScope [] [] (defScope s_law_ops) := ⟨rfl, rfl, rfl, by decide +kernel, rfl, by decide +kernel, by decide +kernel⟩
abbrev s_law_leaf : Stmt := top 45
abbrev N_law_leaf : List Str := ["form", "pick", "names", "small"]
theorem sc_law_leaf : FnScope ["form", "pick", "names", "small"] ["form", "pick", "names", "small"] (defScope s_law_leaf) := ⟨rfl, rfl, rfl, by decide +kernel, rfl, by decide +kernel, by decide +kernel⟩
abbrev s_law_joined : Stmt := top 46
abbrev N_law_joined : List Str := ["form", "name", "parts", "part"]
theorem sc_law_joined : FnScope ["form", "name", "parts", "part"] ["form", "name", "parts"] (defScope s_law_joined) := ⟨rfl, rfl, rfl, by decide +kernel, rfl, by decide +kernel, by decide +kernel⟩
abbrev s_law_trees : Stmt := top 47
abbrev N_law_trees : List Str := ["row", "names", "calls", "small", "left", "found", "k", "form", "pick", "call", "need", "parts", "deep", "made", "root", "other", "op", "part"]
theorem sc_law_trees : FnScope ["row", "names", "calls", "small", "left", "found", "k", "form", "pick", "call", "need", "parts", "deep", "made", "root", "other", "op", "part"] ["row", "names", "calls", "small"] (defScope s_law_trees) := ⟨rfl, rfl, rfl, by decide +kernel, rfl, by decide +kernel, by decide +kernel⟩
abbrev s_law_chain : Stmt := top 48
abbrev N_law_chain : List Str := ["row", "names", "calls", "small", "e", "found", "k", "form", "pick", "leaf", "call", "j"]
theorem sc_law_chain : FnScope ["row", "names", "calls", "small", "e", "found", "k", "form", "pick", "leaf", "call", "j"] ["row", "names", "calls", "small"] (defScope s_law_chain) := ⟨rfl, rfl, rfl, by decide +kernel, rfl, by decide +kernel, by decide +kernel⟩
abbrev s_law_level : Stmt := top 49
abbrev N_law_level : List Str := ["e"]
theorem sc_law_level : FnScope ["e"] ["e"] (defScope s_law_level) := ⟨rfl, rfl, rfl, by decide +kernel, rfl, by decide +kernel, by decide +kernel⟩
abbrev s_law_left : Stmt := top 50
abbrev N_law_left : List Str := ["e", "level"]
theorem sc_law_left : FnScope ["e", "level"] ["e"] (defScope s_law_left) := ⟨rfl, rfl, rfl, by decide +kernel, rfl, by decide +kernel, by decide +kernel⟩
abbrev s_law_boxed : Stmt := top 51
abbrev N_law_boxed : List Str := ["e", "need"]
theorem sc_law_boxed : FnScope ["e", "need"] ["e", "need"] (defScope s_law_boxed) := ⟨rfl, rfl, rfl, by decide +kernel, rfl, by decide +kernel, by decide +kernel⟩
abbrev s_law_written : Stmt := top 52
abbrev N_law_written : List Str := ["e", "right", "part"]
theorem sc_law_written : FnScope ["e", "right", "part"] ["e"] (defScope s_law_written) := ⟨rfl, rfl, rfl, by decide +kernel, rfl, by decide +kernel, by decide +kernel⟩
abbrev s_law_listed : Stmt := top 53
abbrev N_law_listed : List Str := ["parts", "row", "at", "tokens", "after", "k", "found"]
theorem sc_law_listed : FnScope ["parts", "row", "at", "tokens", "after", "k", "found"] ["parts", "row", "at"] (defScope s_law_listed) := ⟨rfl, rfl, rfl, by decide +kernel, rfl, by decide +kernel, by decide +kernel⟩
abbrev s_law_sole : Stmt := top 54
abbrev N_law_sole : List Str := ["e", "more"]
theorem sc_law_sole : FnScope ["e", "more"] ["e", "more"] (defScope s_law_sole) := ⟨rfl, rfl, rfl, by decide +kernel, rfl, by decide +kernel, by decide +kernel⟩
abbrev s_law_tokens : Stmt := top 55
abbrev N_law_tokens : List Str := ["e", "need", "row", "at", "found", "one", "two", "pairs"]
theorem sc_law_tokens : FnScope ["e", "need", "row", "at", "found", "one", "two", "pairs"] ["e", "need", "row", "at"] (defScope s_law_tokens) := ⟨rfl, rfl, rfl, by decide +kernel, rfl, by decide +kernel, by decide +kernel⟩
abbrev s_law_spaced : Stmt := top 56
abbrev N_law_spaced : List Str := ["tokens", "row", "signs", "text", "k", "gap"]
theorem sc_law_spaced : FnScope ["tokens", "row", "signs", "text", "k", "gap"] ["tokens", "row"] (defScope s_law_spaced) := ⟨rfl, rfl, rfl, by decide +kernel, rfl, by decide +kernel, by decide +kernel⟩
abbrev s_law_nodes : Stmt := top 57
abbrev N_law_nodes : List Str := ["e", "parts", "part"]
theorem sc_law_nodes : FnScope ["e", "parts", "part"] ["e"] (defScope s_law_nodes) := ⟨rfl, rfl, rfl, by decide +kernel, rfl, by decide +kernel, by decide +kernel⟩
abbrev s_law_fits : Stmt := top 58
abbrev N_law_fits : List Str := ["text", "deep", "sign"]
theorem sc_law_fits : FnScope ["text", "deep", "sign"] ["text"] (defScope s_law_fits) := ⟨rfl, rfl, rfl, by decide +kernel, rfl, by decide +kernel, by decide +kernel⟩
abbrev s_law_same : Stmt := top 59
abbrev N_law_same : List Str := ["told", "due", "k"]
theorem sc_law_same : FnScope ["told", "due", "k"] ["told", "due"] (defScope s_law_same) := ⟨rfl, rfl, rfl, by decide +kernel, rfl, by decide +kernel, by decide +kernel⟩
abbrev s_law_asked : Stmt := top 60
abbrev N_law_asked : List Str := ["e", "plan", "script", "at", "written", "told", "k", "more", "pairs", "gaps", "text", "digit"]
theorem sc_law_asked : FnScope ["e", "plan", "script", "at", "written", "told", "k", "more", "pairs", "gaps", "text", "digit"] ["e", "plan", "script", "at"] (defScope s_law_asked) := ⟨rfl, rfl, rfl, by decide +kernel, rfl, by decide +kernel, by decide +kernel⟩
abbrev s_law : Stmt := top 61
abbrev N_law : List Str := ["script", "plan", "words", "own", "names", "called", "calls", "many", "trees", "k"]
theorem sc_law : FnScope ["script", "plan", "words", "own", "names", "called", "calls", "many", "trees", "k"] ["script"] (defScope s_law) := ⟨rfl, rfl, rfl, by decide +kernel, rfl, by decide +kernel, by decide +kernel⟩
/-! names -/
def reserved : List Str := ["and", "answer", "answers", "begin", "book", "case", "cell", "div", "do", "else", "end", "fail", "finger", "from", "given", "helper", "if", "line", "mark", "mod", "not", "or", "pick", "places", "procedure", "program", "set", "stop", "to", "when", "while"]
def letters : Str := "abcdefghijklmnopqrstuvwxyz"
def digits : Str := "0123456789"
def signOk (c : Nat) : Bool := decide (c ∈ letters.cps.toList) || decide (c ∈ digits.cps.toList)
def firstOk (z : Str) : Bool := match z.cps.toList with
  | [] => false
  | c :: _ => decide (c ∈ letters.cps.toList)
def isName (z : Str) : Bool := decide (1 ≤ z.length) && decide (z.length ≤ 8) && firstOk z && !inV (.str z) (reserved.map V.str) && z.cps.toList.all signOk

structure DefOk (K : PySem.W.Frag) (mg : Str → Option Value) (x : Str) (st : Stmt) (ps : List Str) (f : Addr) (fd : FuncData) : Prop where
  F : Fun K x x st f fd
  g : mg x = some (.ref f)
  k : PySem.W.keepIn K (.ref f) = true
  b : Binds K fd ps []
/-- a dict of the module's top with text keys -/
structure DctOk (K : PySem.W.Frag) (w : World) (a : Addr) (d : List (Str × V)) : Prop where
  at_ : ∃ es n, KDict K w a es n
  get : ∀ z v, d.lookup z = some v → ∃ u, PySem.W.nsIn K a z = some (some u) ∧ RelV v u
structure MethOk (K : PySem.W.Frag) (x qual : Str) (st : Stmt) (ps : List Str) (f : Addr) (fd : FuncData) : Prop where
  F : Fun K x qual st f fd
  b : Binds K fd ps []
structure Txt (w : World) (K : PySem.W.Frag) (mg : Str → Option Value) (fa : Nat → Addr) (fd : Nat → FuncData) (cv : Nat → Value) : Prop where
  b_bool : mg "bool" = none
  b_int : mg "int" = none
  b_isinstance : mg "isinstance" = none
  b_len : mg "len" = none
  b_max : mg "max" = none
  b_min : mg "min" = none
  b_range : mg "range" = none
  b_str : mg "str" = none
  b_sum : mg "sum" = none
  b_tuple : mg "tuple" = none
  c_ATOM_LEVEL : mg "ATOM_LEVEL" = some (cv 0)
  r_ATOM_LEVEL : RelV (.int (7)) (cv 0)
  c_COMPARISON_LEVEL : mg "COMPARISON_LEVEL" = some (cv 1)
  r_COMPARISON_LEVEL : RelV (.int (4)) (cv 1)
  c_DIGITS : mg "DIGITS" = some (cv 2)
  r_DIGITS : RelV (.str digits) (cv 2)
  c_LETTERS : mg "LETTERS" = some (cv 3)
  r_LETTERS : RelV (.str letters) (cv 3)
  c_LEVELS : mg "LEVELS" = some (cv 4)
  r_LEVELS : RelV (.ref (fa 104)) (cv 4)
  q_LEVELS : DctOk K w (fa 104) levels
  c_LONGEST_NAME : mg "LONGEST_NAME" = some (cv 5)
  r_LONGEST_NAME : RelV (.int (8)) (cv 5)
  c_LONG_SIGNS : mg "LONG_SIGNS" = some (cv 6)
  r_LONG_SIGNS : RelV (.ref (fa 106)) (cv 6)
  q_LONG_SIGNS : ∀ H, SqT K H (fa 106) ((["!=", "<=", ">="] : List Str).map V.str)
  c_MOST_ARGUMENTS : mg "MOST_ARGUMENTS" = some (cv 7)
  r_MOST_ARGUMENTS : RelV (.int (3)) (cv 7)
  c_MOST_DIGITS : mg "MOST_DIGITS" = some (cv 8)
  r_MOST_DIGITS : RelV (.int (3)) (cv 8)
  c_NOT_LEVEL : mg "NOT_LEVEL" = some (cv 9)
  r_NOT_LEVEL : RelV (.int (3)) (cv 9)
  c_OWN_NAMES : mg "OWN_NAMES" = some (cv 10)
  r_OWN_NAMES : RelV (.ref (fa 110)) (cv 10)
  q_OWN_NAMES : ∀ H, SqT K H (fa 110) ((["answer", "mark", "line", "finger"] : List Str).map V.str)
  c_RESERVED : mg "RESERVED" = some (cv 11)
  r_RESERVED : RelV (.ref (fa 111)) (cv 11)
  q_RESERVED : ∀ H, SqT K H (fa 111) (reserved.map V.str)
  c_SIGNS : mg "SIGNS" = some (cv 12)
  r_SIGNS : RelV (.ref (fa 112)) (cv 12)
  q_SIGNS : ∀ H, SqT K H (fa 112) ((["!=", "<=", ">=", "<", ">", "=", "+", "-", "*", "(", ")", ","] : List Str).map V.str)
  c_VERY_LARGE : mg "VERY_LARGE" = some (cv 13)
  r_VERY_LARGE : RelV (.int (1000000000000000000)) (cv 13)
  d_told : DefOk K mg "_told" s_told ["number"] (fa 0) (fd 0)
  d_is_name : DefOk K mg "is_name" s_is_name ["text"] (fa 1) (fd 1)
  d_parts_of : DefOk K mg "parts_of" s_parts_of ["expression"] (fa 2) (fd 2)
  d_inner_first : DefOk K mg "inner_first" s_inner_first ["expression"] (fa 3) (fd 3)
  d_folded : DefOk K mg "folded" s_folded ["expression", "combine"] (fa 4) (fd 4)
  d_is_number : DefOk K mg "is_number" s_is_number ["text", "most_digits"] (fa 5) (fd 5)
  d_run_end : DefOk K mg "_run_end" s_run_end ["text", "at", "signs"] (fa 6) (fd 6)
  d_token_end : DefOk K mg "_token_end" s_token_end ["text", "at"] (fa 7) (fd 7)
  d_is_token : DefOk K mg "_is_token" s_is_token ["text"] (fa 8) (fd 8)
  d_tokens_of : DefOk K mg "tokens_of" s_tokens_of ["text"] (fa 9) (fd 9)
  d_in_brackets : DefOk K mg "_in_brackets" s_in_brackets ["text", "needed"] (fa 10) (fd 10)
  d_written_pair : DefOk K mg "_written_pair" s_written_pair ["op", "left", "right"] (fa 11) (fd 11)
  d_written : DefOk K mg "_written" s_written ["part", "parts"] (fa 12) (fd 12)
  d_write_expression : DefOk K mg "write_expression" s_write_expression ["expression"] (fa 13) (fd 13)
  d_read_expression : DefOk K mg "read_expression" s_read_expression ["text"] (fa 32) (fd 32)
  d_law_whole : DefOk K mg "_law_whole" s_law_whole ["value"] (fa 33) (fd 33)
  d_law_cell : DefOk K mg "_law_cell" s_law_cell ["script", "k"] (fa 34) (fd 34)
  d_law_digits : DefOk K mg "_law_digits" s_law_digits ["cell", "sizes"] (fa 35) (fd 35)
  d_law_reserved : DefOk K mg "_law_reserved" s_law_reserved [] (fa 36) (fd 36)
  d_law_fresh : DefOk K mg "_law_fresh" s_law_fresh ["text", "names"] (fa 37) (fd 37)
  d_law_names : DefOk K mg "_law_names" s_law_names ["cell", "many"] (fa 38) (fd 38)
  d_law_ops : DefOk K mg "_law_ops" s_law_ops [] (fa 39) (fd 39)
  d_law_leaf : DefOk K mg "_law_leaf" s_law_leaf ["form", "pick", "names", "small"] (fa 40) (fd 40)
  d_law_joined : DefOk K mg "_law_joined" s_law_joined ["form", "name", "parts"] (fa 41) (fd 41)
  d_law_trees : DefOk K mg "_law_trees" s_law_trees ["row", "names", "calls", "small"] (fa 42) (fd 42)
  d_law_chain : DefOk K mg "_law_chain" s_law_chain ["row", "names", "calls", "small"] (fa 43) (fd 43)
  d_law_level : DefOk K mg "_law_level" s_law_level ["e"] (fa 44) (fd 44)
  d_law_left : DefOk K mg "_law_left" s_law_left ["e"] (fa 45) (fd 45)
  d_law_boxed : DefOk K mg "_law_boxed" s_law_boxed ["e", "need"] (fa 46) (fd 46)
  d_law_written : DefOk K mg "_law_written" s_law_written ["e"] (fa 47) (fd 47)
  d_law_listed : DefOk K mg "_law_listed" s_law_listed ["parts", "row", "at"] (fa 48) (fd 48)
  d_law_sole : DefOk K mg "_law_sole" s_law_sole ["e", "more"] (fa 49) (fd 49)
  d_law_tokens : DefOk K mg "_law_tokens" s_law_tokens ["e", "need", "row", "at"] (fa 50) (fd 50)
  d_law_spaced : DefOk K mg "_law_spaced" s_law_spaced ["tokens", "row"] (fa 51) (fd 51)
  d_law_nodes : DefOk K mg "_law_nodes" s_law_nodes ["e"] (fa 52) (fd 52)
  d_law_fits : DefOk K mg "_law_fits" s_law_fits ["text"] (fa 53) (fd 53)
  d_law_same : DefOk K mg "_law_same" s_law_same ["told", "due"] (fa 54) (fd 54)
  d_law_asked : DefOk K mg "_law_asked" s_law_asked ["e", "plan", "script", "at"] (fa 55) (fd 55)
  d_law : DefOk K mg "law" s_law ["script"] (fa 56) (fd 56)
  cl_Bracket : Cls K (fa 200)
  g_Bracket : mg "Bracket" = some (.ref (fa 200))
  mk_Bracket : Mk K (fa 200) (fa 14)
  n_Bracket_arguments : NoAttr K (fa 200) "arguments"
  n_Bracket_caller : NoAttr K (fa 200) "caller"
  n_Bracket_operands : NoAttr K (fa 200) "operands"
  n_Bracket_operators : NoAttr K (fa 200) "operators"
  d_Bracket___init__ : MethOk K "__init__" "Bracket.__init__" s_Bracket___init__ ["self", "caller"] (fa 14) (fd 14)
  m_Bracket___init__ : Meth K (fa 200) "__init__" (fa 14)
  d_Bracket_test_may_begin : MethOk K "test_may_begin" "Bracket.test_may_begin" s_Bracket_test_may_begin ["self"] (fa 15) (fd 15)
  m_Bracket_test_may_begin : Meth K (fa 200) "test_may_begin" (fa 15)
  d_Bracket_compares : MethOk K "compares" "Bracket.compares" s_Bracket_compares ["self"] (fa 16) (fd 16)
  m_Bracket_compares : Meth K (fa 200) "compares" (fa 16)
  d_Bracket_fold : MethOk K "fold" "Bracket.fold" s_Bracket_fold ["self", "level"] (fa 17) (fd 17)
  m_Bracket_fold : Meth K (fa 200) "fold" (fa 17)
  d_Bracket_end_argument : MethOk K "end_argument" "Bracket.end_argument" s_Bracket_end_argument ["self"] (fa 18) (fd 18)
  m_Bracket_end_argument : Meth K (fa 200) "end_argument" (fa 18)
  d_Bracket_whole : MethOk K "whole" "Bracket.whole" s_Bracket_whole ["self"] (fa 19) (fd 19)
  m_Bracket_whole : Meth K (fa 200) "whole" (fa 19)
  cl_Reader : Cls K (fa 201)
  g_Reader : mg "Reader" = some (.ref (fa 201))
  mk_Reader : Mk K (fa 201) (fa 20)
  n_Reader_at : NoAttr K (fa 201) "at"
  n_Reader_brackets : NoAttr K (fa 201) "brackets"
  n_Reader_tokens : NoAttr K (fa 201) "tokens"
  d_Reader___init__ : MethOk K "__init__" "Reader.__init__" s_Reader___init__ ["self", "text"] (fa 20) (fd 20)
  m_Reader___init__ : Meth K (fa 201) "__init__" (fa 20)
  d_Reader_token : MethOk K "token" "Reader.token" s_Reader_token ["self"] (fa 21) (fd 21)
  m_Reader_token : Meth K (fa 201) "token" (fa 21)
  d_Reader_next_token : MethOk K "next_token" "Reader.next_token" s_Reader_next_token ["self"] (fa 22) (fd 22)
  m_Reader_next_token : Meth K (fa 201) "next_token" (fa 22)
  d_Reader_refuse : MethOk K "refuse" "Reader.refuse" s_Reader_refuse ["self"] (fa 23) (fd 23)
  m_Reader_refuse : Meth K (fa 201) "refuse" (fa 23)
  d_Reader_close_bracket : MethOk K "close_bracket" "Reader.close_bracket" s_Reader_close_bracket ["self"] (fa 24) (fd 24)
  m_Reader_close_bracket : Meth K (fa 201) "close_bracket" (fa 24)
  d_Reader_read_number : MethOk K "read_number" "Reader.read_number" s_Reader_read_number ["self", "sign"] (fa 25) (fd 25)
  m_Reader_read_number : Meth K (fa 201) "read_number" (fa 25)
  d_Reader_read_atom : MethOk K "read_atom" "Reader.read_atom" s_Reader_read_atom ["self"] (fa 26) (fd 26)
  m_Reader_read_atom : Meth K (fa 201) "read_atom" (fa 26)
  d_Reader_read_opening : MethOk K "read_opening" "Reader.read_opening" s_Reader_read_opening ["self"] (fa 27) (fd 27)
  m_Reader_read_opening : Meth K (fa 201) "read_opening" (fa 27)
  d_Reader_is_empty_call : MethOk K "is_empty_call" "Reader.is_empty_call" s_Reader_is_empty_call ["self"] (fa 28) (fd 28)
  m_Reader_is_empty_call : Meth K (fa 201) "is_empty_call" (fa 28)
  d_Reader_read_operand : MethOk K "read_operand" "Reader.read_operand" s_Reader_read_operand ["self"] (fa 29) (fd 29)
  m_Reader_read_operand : Meth K (fa 201) "read_operand" (fa 29)
  d_Reader_read_operator : MethOk K "read_operator" "Reader.read_operator" s_Reader_read_operator ["self"] (fa 30) (fd 30)
  m_Reader_read_operator : Meth K (fa 201) "read_operator" (fa 30)
  d_Reader_read_whole : MethOk K "read_whole" "Reader.read_whole" s_Reader_read_whole ["self"] (fa 31) (fd 31)
  m_Reader_read_whole : Meth K (fa 201) "read_whole" (fa 31)
def spIsName : Sp := fun vs H Q _ => ∃ z : Str, vs = [.str z] ∧ z.length ≤ 1000 ∧ RetV (.bl (isName z)) H Q
section
variable {P : Program} {w : World} {K : PySem.W.Frag} {mg : Str → Option Value} {base : Heap} {fa : Nat → Addr} {fd : Nat → FuncData} {cv : Nat → Value}
theorem ok_is_name (T : Txt w K mg fa fd cv) : FnOk P w K mg base CX0 1 (fa 1) (fd 1) ["text"] spIsName := by
  refine T.d_is_name.F.ok sc_is_name (fun vs H Q E h => ?_) (fun cdv A outer s H vs Q E hr h => ?_)
  · obtain ⟨z, rfl, _⟩ := h
    rfl
  · obtain ⟨z, rfl, hz, k⟩ := h
    refine ⟨_, pss_cons (ps_if (PW.pt (pw_or (pt_not (pt_chain op_le op_le pe_int (pe_callB call_len_str (by rfl) T.b_len PySem.boot_len (pa_cons (pv 0) pa_nil)) (pe_glob rfl T.c_LONGEST_NAME T.r_LONGEST_NAME))) (pw_or (pt_cmpR op_notIn_sign (pe_ix ix_str (pv 0) pe_int (fun _ _ => rfl)) (pe_glob rfl T.c_LETTERS T.r_LETTERS) rfl) (pw_or1 (pt_cmpR op_in_seq (pv 0) (pe_glob rfl T.c_RESERVED T.r_RESERVED) (by rfl)))))) (pss_one (ps_ret pe_bl)) (pss_nil))
      (pss_cons (ps_for PassesOwn.never rfl (pi_str (pv 0)) (pg_name (i := 1) sc_is_name.nd rfl (Or.inl rfl)) (pss_one (ps_if (PW.pt (pw_and (pt_cmpR op_notIn_sign (pv 1) (pe_glob rfl T.c_LETTERS T.r_LETTERS) rfl) (pw_and1 (pt_cmpR op_notIn_sign (pv 1) (pe_glob rfl T.c_DIGITS T.r_DIGITS) rfl)))) (pss_one (ps_ret pe_bl)) (pss_nil))))
      (pss_one (ps_ret pe_bl))), ?_⟩
    have hl := str_len z
    have hz' : z.length ≤ sizeLine := Nat.le_of_lt (small1000 hz)
    have evt : ∀ H', Ex H H' → Ev (tVar 0) (start N_is_name [.str z]) H' (.str z) := fun _ _ => ev_var rfl
    have A : EvT (tNot (tTest (tChain (rI0 fun i j => V.bl (decide (i ≤ j))) (rI0 fun i j => V.bl (decide (i ≤ j))) (tC (V.int 1)) (tCB (fun xs H Q => ∃ z, xs = [V.str z] ∧ z.length ≤ sizeLine ∧ Q (V.int ↑z.length) H) (tCons (tVar 0) tNil)) (tC (V.int 8))))) (start N_is_name [.str z]) H
        (!(decide ((1 : Int) ≤ (z.length : Int)) && decide ((z.length : Int) ≤ 8))) :=
      et_not (et_test (ev_chain ev_c (ev_cb (ea_cons (ev_var rfl) ea_nil) (rc_lenS hz')) rv_I0 (fun _ => ev_c) (fun _ => rv_I0)))
    by_cases c1 : 1 ≤ z.length ∧ z.length ≤ 8
    · have A' := et_is A (b := false) (by
        rw [decide_eq_true (by omega), decide_eq_true (by omega)]
        rfl)
      obtain ⟨c, r, hc⟩ : ∃ c r, z.cps.toList = c :: r := by
        cases e : z.cps.toList with
        | nil => rw [e] at hl; simp at hl; omega
        | cons c r => exact ⟨c, r, rfl⟩
      have hc0 : atI z.cps.toList 0 = some c := atI_zero hc
      refine q_when (et_orF A' (et_or (a := !decide (c ∈ letters.cps.toList)) (b := inV (.str z) (reserved.map V.str)) (et_test (ev_op (ev_op (ev_var rfl) ev_c (rv_ixS (w := z) (i := 0) (c := c) (by omega) hc0)) ev_c rv_niS)) (fun _ => et_test (ev_op (ev_var rfl) ev_c (rv_isT (T.q_RESERVED H) rfl (by decide +kernel)))))) (fun hb H1 e1 => ?_) (fun hb H1 e1 => ?_)
      · refine s_ret ev_c fun H2 e2 => ?_
        have e : isName z = false := by
          unfold isName firstOk
          rw [hc]
          rcases Bool.or_eq_true _ _ |>.mp hb with q | q
          · have q' : decide (c ∈ letters.cps.toList) = false := (Bool.not_eq_true' _).mp q
            simp only [q', Bool.false_and, Bool.and_false]
          · simp only [q, Bool.not_true, Bool.false_and, Bool.and_false]
        rw [e] at k
        exact k H2 (e1.trans e2)
      · obtain ⟨q1, q2⟩ := Bool.or_eq_false_iff.mp hb
        have q1' : decide (c ∈ letters.cps.toList) = true := (Bool.not_eq_false' _).mp q1
        have e : isName z = z.cps.toList.all signOk := by
          unfold isName firstOk
          rw [hc]
          simp only [q1', q2, decide_eq_true c1.1, decide_eq_true c1.2]
          rfl
        rw [e] at k
        refine q_forS (s := z) (ev_var rfl) (fun i σ' H' => ∃ y, σ' = [some (.str z), y] ∧ Ex H H' ∧ (z.cps.toList.take i).all signOk = true) (fun H2 e2 => ⟨none, rfl, e1.trans e2, rfl⟩) (fun i c σ' H' hi ⟨y, hσ, e2, ha⟩ => ?_) (fun σ' H' ⟨y, hσ, e2, ha⟩ => ?_)
        · subst hσ
          refine s_when (et_and (et_test (ev_op (ev_var rfl) ev_c rv_niS)) (fun _ => et_test (ev_op (ev_var rfl) ev_c rv_niS))) (fun hb H3 e3 => ?_) (fun hb H3 e3 => ?_)
          · refine s_ret ev_c fun H4 e4 => ?_
            have e : z.cps.toList.all signOk = false := by
              rw [Bool.eq_false_iff]
              intro h
              have h1 := List.all_eq_true.mp h c (List.mem_of_getElem? hi)
              unfold signOk at h1
              obtain ⟨b1, b2⟩ := (Bool.and_eq_true _ _).mp hb
              rw [(Bool.not_eq_true' _).mp b1, (Bool.not_eq_true' _).mp b2] at h1
              cases h1
            rw [e] at k
            exact k H4 ((e2.trans e3).trans e4)
          · refine ⟨_, rfl, e2.trans e3, ?_⟩
            rw [all_take_succ hi, ha]
            unfold signOk
            rcases Bool.and_eq_false_iff.mp hb with b | b
            · rw [(Bool.not_eq_false' _).mp b]
              rfl
            · rw [(Bool.not_eq_false' _).mp b, Bool.or_true]
              rfl
        · subst hσ
          rw [List.take_length] at ha
          rw [ha] at k
          exact s_ret ev_c fun H3 e3 => k H3 (e2.trans e3)
    · have e : isName z = false := by
        unfold isName
        by_cases d : 1 ≤ z.length
        · rw [decide_eq_false (show ¬ z.length ≤ 8 by omega)]
          simp
        · rw [decide_eq_false d]
          simp
      rw [e] at k
      have A' := et_is A (b := true) (by
        by_cases d : 1 ≤ z.length
        · rw [decide_eq_true (by omega), decide_eq_false (show ¬ (z.length : Int) ≤ 8 by omega)]
          rfl
        · rw [decide_eq_false (show ¬ (1 : Int) ≤ (z.length : Int) by omega)]
          rfl)
      exact q_when (et_orT A') (fun _ H1 e1 => s_ret ev_c fun H2 e2 => k H2 (e1.trans e2)) (fun hb => by cases hb)
end
theorem sp_is {z : Str} (hz : z.length ≤ 1000) (H : Hp) : SpV spIsName [.str z] H (.bl (isName z)) := fun H1 e Q q E => ⟨z, rfl, hz, fun H2 e2 => q H2 e2⟩

def spCell (K : PySem.W.Frag) : Sp := fun vs H Q _ => ∃ (a : Addr) (ns : List Int) (k : Int), vs = [.ref a, .int k] ∧ SqL K H a (ns.map V.int) ∧ ns.length ≤ 63 ∧ 0 ≤ k ∧ k < 1000 ∧ ∀ (i : Int) H2, Ex H H2 → Q (.int i) H2
section
variable {P : Program} {w : World} {K : PySem.W.Frag} {mg : Str → Option Value} {base : Heap} {fa : Nat → Addr} {fd : Nat → FuncData} {cv : Nat → Value}
theorem ok_cell (T : Txt w K mg fa fd cv) : FnOk P w K mg base CX0 1 (fa 34) (fd 34) ["script", "k"] (spCell K) := by
  refine T.d_law_cell.F.ok sc_law_cell (fun vs H Q E h => ?_) (fun cdv A outer s H vs Q E hr h => ?_)
  · obtain ⟨a, ns, k, rfl, _⟩ := h
    rfl
  · obtain ⟨a, ns, k, rfl, hS, hn, k0, k1, q⟩ := h
    refine ⟨_, pss_cons (ps_if (PW.pt (pw_and (pt_cmpR op_lt (pv 1) (pe_callB call_len_seq (by rfl) T.b_len PySem.boot_len (pa_cons (pv 0) pa_nil)) (nomark _)) (pw_and1 (pt_cmpR op_ge (pe_ix ix_list (pv 0) (pv 1) (fun _ _ => rfl)) (pe_op op_pow pe_int pe_int) (nomark _))))) (pss_one (ps_ret (pe_ix ix_list (pv 0) (pv 1) (fun _ _ => rfl)))) (pss_nil))
      (pss_cons (ps_set (i := 2) sc_law_cell.nd rfl (Or.inl rfl) pe_int)
      (pss_cons (ps_for PassesOwn.never rfl (pi_list (pv 0)) (pg_name (i := 3) sc_law_cell.nd rfl (Or.inl rfl)) (pss_one (ps_set (i := 2) sc_law_cell.nd rfl (Or.inl rfl) (pe_op op_mod (pe_callTy call_int1 (by rfl) T.b_int PyProof.Rows.boot_int (pa_cons (pe_op op_add (pe_op op_mul (pv 2) pe_int) (pe_op op_mod (pe_callTy call_int1 (by rfl) T.b_int PyProof.Rows.boot_int (pa_cons (pv 3) pa_nil)) pe_int)) pa_nil)) pe_int))))
      (pss_one (ps_ret (pe_op op_mod (pe_callTy call_int1 (by rfl) T.b_int PyProof.Rows.boot_int (pa_cons (pe_op op_mul (pe_op op_mul (pe_op op_add (pv 2) pe_int) (pe_op op_add (pv 1) pe_int)) pe_int) pa_nil)) pe_int))))), ?_⟩
    have hl : (ns.map V.int).length = ns.length := List.length_map _
    refine q_when (b := decide (k < (ns.length : Int)) && decide ((10 : Int) ^ 18 ≤ ns.getD k.toNat 0)) (et_and ?_ fun hb => ?_) (fun hb H1 e1 => ?_) (fun hb H1 e1 => ?_)
    · rw [← hl]
      walk_at "ev"
    · have c : k < (ns.length : Int) := of_decide_eq_true hb
      obtain ⟨j, rfl⟩ : ∃ j : Nat, k = (j : Int) := ⟨k.toNat, by omega⟩
      have hj : j < ns.length := by omega
      walk_at "ev"
    · obtain ⟨b1, b2⟩ := (Bool.and_eq_true _ _).mp hb
      have c : k < (ns.length : Int) := of_decide_eq_true b1
      obtain ⟨j, rfl⟩ : ∃ j : Nat, k = (j : Int) := ⟨k.toNat, by omega⟩
      have hj : j < ns.length := by omega
      refine s_ret (v := .int (ns.getD j 0)) ?_ fun H2 e2 => q _ H2 (e1.trans e2)
      have hS1 := ex_l e1 hS
      walk_at "ev"
    · refine q_asg ev_c fun H2 e2 => ?_
      refine q_forLn (a := a) (xs := ns.map V.int) (ev_var rfl) (ex_l (e1.trans e2) hS) (fun i σ' H' => ∃ (sd : Int) (y : Option V), σ' = [some (.ref a), some (.int k), some (.int sd), y] ∧ Ex H H' ∧ 0 ≤ sd ∧ sd < 1000003)
        (fun H3 e3 => ⟨17, none, rfl, (e1.trans e2).trans e3, by decide, by decide⟩) (fun i σ' H' _ ⟨_, _, _, e, _⟩ => ex_l e hS) (fun i x σ' H' hi ⟨sd, y, hσ, e, h0, h1⟩ => ?_) (fun σ' H' ⟨sd, y, hσ, e, h0, h1⟩ => ?_)
      · subst hσ
        obtain ⟨z, rfl⟩ : ∃ z, x = V.int z := by
          rw [List.getElem?_map] at hi
          cases e : ns[i]? with
          | none => rw [e] at hi; cases hi
          | some z => rw [e] at hi; exact ⟨z, (Option.some.inj hi).symm⟩
        refine s_asg (v := .int ((sd * 31 + z % 1000003) % 1000003)) ?_ fun H3 e3 => ?_
        · walk_at "ev"
        · exact ⟨_, _, rfl, e.trans e3, by omega, by omega⟩
      · subst hσ
        refine s_ret (v := .int ((sd + 7) * (k + 3) * 69621 % 2147483647)) ?_ fun H3 e3 => q _ H3 (e.trans e3)
        walk_at "ev"
def spDigits (K : PySem.W.Frag) : Sp := fun vs H Q _ => ∃ (a : Addr) (c : Int) (ss : List Int), vs = [.int c, .ref a] ∧ SqL K H a (ss.map V.int) ∧ ss.length ≤ 2000 ∧ (∀ x ∈ ss, 0 < x ∧ x < 1000000) ∧
  ∀ (rs : List Int) p H2, rs.length = ss.length → (∀ (i : Nat) (s : Int), ss[i]? = some s → 0 ≤ rs.getD i 0 ∧ rs.getD i 0 < s) → H p = none → Ex H H2 → H2 p = some (.lst (rs.map V.int)) → Q (.ref p) H2
/-- the digits so far -/
structure Dg (ss rs : List Int) (i : Nat) : Prop where
  len : rs.length = i
  rg : ∀ (j : Nat) (s : Int), j < i → ss[j]? = some s → 0 ≤ rs.getD j 0 ∧ rs.getD j 0 < s
theorem Dg.nil {ss : List Int} : Dg ss [] 0 := ⟨rfl, fun j s h => by omega⟩
theorem Dg.snoc {ss rs : List Int} {i : Nat} {s z : Int} (h : Dg ss rs i) (hs : ss[i]? = some s) (h0 : 0 ≤ z) (h1 : z < s) : Dg ss (rs ++ [z]) (i + 1) := by
  refine ⟨by rw [List.length_append, h.len]; rfl, fun j t hj ht => ?_⟩
  by_cases e : j = i
  · subst e
    have e2 : (rs ++ [z]).getD j 0 = z := by
      rw [List.getD_eq_getElem?_getD, List.getElem?_append_right (by rw [h.len]; exact Nat.le_refl _), h.len, Nat.sub_self]
      rfl
    rw [e2]
    have : s = t := Option.some.inj (hs.symm.trans ht)
    subst this
    exact ⟨h0, h1⟩
  · have e2 : (rs ++ [z]).getD j 0 = rs.getD j 0 := by
      rw [List.getD_eq_getElem?_getD, List.getD_eq_getElem?_getD, List.getElem?_append_left (by rw [h.len]; omega)]
    rw [e2]
    exact h.rg j t (by omega) ht
theorem ok_digits (T : Txt w K mg fa fd cv) : FnOk P w K mg base CX0 1 (fa 35) (fd 35) ["cell", "sizes"] (spDigits K) := by
  refine T.d_law_digits.F.ok sc_law_digits (fun vs H Q E h => ?_) (fun cdv A outer s H vs Q E hr h => ?_)
  · obtain ⟨a, c, ss, rfl, _⟩ := h
    rfl
  · obtain ⟨a, c, ss, rfl, hS, hn, hpos, q⟩ := h
    refine ⟨_, pss_cons (ps_set (i := 2) sc_law_digits.nd rfl (Or.inl rfl) (pe_lst pa_nil))
      (pss_cons (ps_set (i := 3) sc_law_digits.nd rfl (Or.inl rfl) (pe_callTy call_int1 (by rfl) T.b_int PyProof.Rows.boot_int (pa_cons (pv 0) pa_nil)))
      (pss_cons (ps_if (pt_cmpR op_ge (pv 3) (pe_op op_pow pe_int pe_int) (nomark _)) (pss_cons (ps_set (i := 3) sc_law_digits.nd rfl (Or.inl rfl) (pe_op op_sub (pv 3) (pe_op op_pow pe_int pe_int)))
      (pss_cons (ps_for PassesOwn.never rfl (pi_list (pv 1)) (pg_name (i := 4) sc_law_digits.nd rfl (Or.inl rfl)) (pss_cons (ps_expr (pe_bm PySem.F.plainAttrs_list PySem.F.slot_list_append PySem.F.type_list_append mt_append (pv 2) (pa_cons (pe_op op_mod (pe_callTy call_int1 (by rfl) T.b_int PyProof.Rows.boot_int (pa_cons (pv 3) pa_nil)) (pv 4)) pa_nil)))
      (pss_one (ps_set (i := 3) sc_law_digits.nd rfl (Or.inl rfl) (pe_op op_fdiv (pe_callTy call_int1 (by rfl) T.b_int PyProof.Rows.boot_int (pa_cons (pv 3) pa_nil)) (pv 4))))))
      (pss_one (ps_ret (pv 2))))) (pss_nil))
      (pss_cons (ps_set (i := 5) sc_law_digits.nd rfl (Or.inl rfl) (pe_op op_mod (pe_callTy call_int1 (by rfl) T.b_int PyProof.Rows.boot_int (pa_cons (pv 3) pa_nil)) pe_int))
      (pss_cons (ps_for PassesOwn.never rfl (pi_range1 (by rfl) T.b_range (pa_cons (pe_callB call_len_seq (by rfl) T.b_len PySem.boot_len (pa_cons (pv 1) pa_nil)) pa_nil)) (pg_name (i := 6) sc_law_digits.nd rfl (Or.inl rfl)) (pss_cons (ps_set (i := 5) sc_law_digits.nd rfl (Or.inl rfl) (pe_op op_mod (pe_callTy call_int1 (by rfl) T.b_int PyProof.Rows.boot_int (pa_cons (pe_op op_add (pe_op op_add (pe_op op_mul (pv 5) pe_int) (pe_op op_mul pe_int (pv 6))) pe_int) pa_nil)) pe_int))
      (pss_cons (ps_set (i := 7) sc_law_digits.nd rfl (Or.inl rfl) (pe_op op_mod (pe_callTy call_int1 (by rfl) T.b_int PyProof.Rows.boot_int (pa_cons (pe_op op_mul (pv 5) (pe_op op_add (pe_op op_fdiv (pv 5) pe_int) pe_int)) pa_nil)) pe_int))
      (pss_one (ps_expr (pe_bm PySem.F.plainAttrs_list PySem.F.slot_list_append PySem.F.type_list_append mt_append (pv 2) (pa_cons (pe_op op_mod (pe_op op_fdiv (pv 7) pe_int) (pe_ix ix_list (pv 1) (pv 6) (fun _ _ => rfl))) pa_nil)))))))
      (pss_one (ps_ret (pv 2))))))), ?_⟩
    have hl : (ss.map V.int).length = ss.length := List.length_map _
    -- row = []
    refine q_asgL (xs := []) (el_lst ea_nil (by decide)) fun p H1 hp e1 h1 => ?_
    refine q_asg (v := .int c) ?_ fun H2 e2 => ?_
    · walk_at "ev"
    have hS2 : SqL K H2 a (ss.map V.int) := ex_l (e1.trans e2) hS
    have hp2 := e2 _ _ h1
    refine q_when (b := decide ((10 : Int) ^ 18 ≤ c)) ?_ (fun hb H3 e3 => ?_) (fun hb H3 e3 => ?_)
    · walk_at "ev"
    · refine q_asg (v := .int (c - (10 : Int) ^ 18)) ?_ fun H4 e4 => ?_
      · walk_at "ev"
      refine q_forLn (a := a) (xs := ss.map V.int) (ev_var rfl) (ex_l (e3.trans e4) hS2) (fun i σ' H' => ∃ (z : Int) (rs : List Int) (y5 : Option V), σ' = [some (.int c), some (.ref a), some (.ref p), some (.int z), y5, none, none, none] ∧ Ex H H' ∧ H' p = some (.lst (rs.map V.int)) ∧ Dg ss rs i)
        (fun H5 e5 => ⟨_, [], none, rfl, (((e1.trans e2).trans e3).trans e4).trans e5, e5 _ _ (e4 _ _ (e3 _ _ hp2)), .nil⟩) (fun i σ' H' _ ⟨_, _, _, _, e, _⟩ => ex_l e hS) (fun i x σ' H' hi ⟨z, rs, y5, hσ, e, hrow, dg⟩ => ?_) (fun σ' H' ⟨z, rs, y5, hσ, e, hrow, dg⟩ => ?_)
      · subst hσ
        obtain ⟨sz, hsz, rfl⟩ : ∃ z, ss[i]? = some z ∧ x = V.int z := by
          rw [List.getElem?_map] at hi
          cases e : ss[i]? with
          | none => rw [e] at hi; cases hi
          | some z => rw [e] at hi; exact ⟨z, rfl, (Option.some.inj hi).symm⟩
        obtain ⟨g0, g1⟩ := hpos sz (List.mem_of_getElem? hsz)
        have hi' : i < ss.length := (List.getElem?_eq_some_iff.mp hsz).1
        refine q_app (xs := rs.map V.int) (v := .int (z % sz)) hrow (ev_var rfl) ?_ (by rw [List.length_map, dg.len]; omega) fun H5 e5 => ?_
        · walk_at "ev"
        have e6 : Ex H (upd H5 p (.lst (rs.map V.int ++ [V.int (z % sz)]))) := Ex.mut (e.trans e5) hp
        refine s_asg (v := .int (z / sz)) ?_ fun H6 e7 => ?_
        · walk_at "ev"
        refine ⟨_, rs ++ [z % sz], _, rfl, e6.trans e7, ?_, dg.snoc hsz (Int.emod_nonneg _ (by omega)) (Int.emod_lt_of_pos _ g0)⟩
        rw [e7 _ _ upd_same, List.map_append]
        rfl
      · subst hσ
        refine s_ret (ev_var rfl) fun H5 e5 => q rs p H5 (by rw [dg.len, hl]) (fun i s hi => dg.rg i s (by rw [hl]; exact (List.getElem?_eq_some_iff.mp hi).1) hi) hp (e.trans e5) (e5 _ _ hrow)
    · refine q_asg (v := .int (c % 2147483629)) ?_ fun H4 e4 => ?_
      · walk_at "ev"
      refine q_forR1 (n := (ss.length : Int)) ?_ ⟨by omega, by omega⟩ (fun i σ' H' => ∃ (sd : Int) (rs : List Int) (y6 y7 : Option V), σ' = [some (.int c), some (.ref a), some (.ref p), some (.int c), none, some (.int sd), y6, y7] ∧ Ex H H' ∧ H' p = some (.lst (rs.map V.int)) ∧ Dg ss rs i ∧ 0 ≤ sd ∧ sd < 2147483648)
        (fun H5 e5 => ⟨_, [], none, none, rfl, (((e1.trans e2).trans e3).trans e4).trans e5, e5 _ _ (e4 _ _ (e3 _ _ hp2)), .nil, by omega, by omega⟩) (fun i σ' H' hi ⟨sd, rs, y6, y7, hσ, e, hrow, dg, s0, s1⟩ => ?_) (fun σ' H' ⟨sd, rs, y6, y7, hσ, e, hrow, dg, s0, s1⟩ => ?_)
      · have hS4 := ex_l (e3.trans e4) hS2
        rw [← hl]
        walk_at "ev"
      · subst hσ
        have hi' : i < ss.length := by omega
        obtain ⟨g0, g1⟩ := hpos ss[i] (List.getElem_mem hi')
        have hsz : ss[i]? = some ss[i] := List.getElem?_eq_getElem hi'
        refine q_asg (v := .int ((sd * 48271 + 974711 * (i : Int) + 12345) % 2147483647)) ?_ fun H5 e5 => ?_
        · walk_at "ev"
        generalize hsd : (sd * 48271 + 974711 * (i : Int) + 12345) % 2147483647 = sd2
        have t0 : 0 ≤ sd2 := by omega
        have t1 : sd2 < 2147483648 := by omega
        refine q_asg (v := .int (sd2 * (sd2 / 65537 + 3) % 2147483629)) ?_ fun H6 e6 => ?_
        · walk_at "ev"
        generalize htw : sd2 * (sd2 / 65537 + 3) % 2147483629 = tw
        have hS6 : SqL K H6 a (ss.map V.int) := ex_l ((e.trans e5).trans e6) hS
        refine s_app (xs := rs.map V.int) (v := .int (tw / 19 % ss[i])) (e6 _ _ (e5 _ _ hrow)) (ev_var rfl) ?_ (by rw [List.length_map, dg.len]; omega) fun H7 e7 => ?_
        · walk_at "ev"
        have e8 : Ex H (upd H7 p (.lst (rs.map V.int ++ [V.int (tw / 19 % ss[i])]))) := Ex.mut (((e.trans e5).trans e6).trans e7) hp
        refine ⟨sd2, rs ++ [tw / 19 % ss[i]], _, _, rfl, e8, ?_, dg.snoc hsz (Int.emod_nonneg _ (by omega)) (Int.emod_lt_of_pos _ g0), t0, t1⟩
        rw [upd_same, List.map_append]
        rfl
      · subst hσ
        have hl2 : (ss.length : Int).toNat = ss.length := rfl
        refine s_ret (ev_var rfl) fun H5 e5 => q rs p H5 (by rw [dg.len]; omega) (fun i s hi => dg.rg i s (by have := (List.getElem?_eq_some_iff.mp hi).1; omega) hi) hp (e.trans e5) (e5 _ _ hrow)
end
def DigR (ss : List Int) (xs : List V) : Prop := ∃ rs : List Int, xs = rs.map V.int ∧ rs.length = ss.length ∧ ∀ (i : Nat) (s : Int), ss[i]? = some s → 0 ≤ rs.getD i 0 ∧ rs.getD i 0 < s
section
variable {P : Program} {w : World} {K : PySem.W.Frag} {mg : Str → Option Value} {base : Heap} {fa : Nat → Addr} {fd : Nat → FuncData} {cv : Nat → Value}
theorem sp_digits {H : Hp} {a : Addr} {c : Int} {ss : List Int} (h : SqL K H a (ss.map V.int)) (hl : ss.length ≤ 2000) (hp : ∀ x ∈ ss, 0 < x ∧ x < 1000000) :
    SpLS (spDigits K) [.int c, .ref a] H (DigR ss) := fun Q q E =>
  ⟨a, c, ss, rfl, h, hl, hp, fun rs p H2 h1 h2 h3 h4 h5 => q _ p H2 ⟨rs, rfl, h1, h2⟩ h3 h4 h5⟩
theorem sp_cell {a : Addr} {ns : List Int} {k : Int} {H : Hp} (h : SqL K H a (ns.map V.int)) (hn : ns.length ≤ 63) (h0 : 0 ≤ k) (h1 : k < 1000) : SpS (spCell K) [.ref a, .int k] H (fun v => ∃ i : Int, v = .int i) := fun H1 e Q q E => ⟨a, ns, k, rfl, ex_l e h, hn, h0, h1, fun i H2 e2 => q _ H2 ⟨i, rfl⟩ e2⟩
end

def spReserved : Sp := fun vs H Q _ => vs = [] ∧ RetL (reserved.map V.str) H Q
def words1 : Str := "and answer answers begin book case cell div do else end fail finger from given helper if line mark mod not"
def words2 : Str := " or pick places procedure program set stop to when while"
theorem split_words : (Txt.split (words1 ++ words2) " ") = reserved := by decide +kernel
section
variable {P : Program} {w : World} {K : PySem.W.Frag} {mg : Str → Option Value} {base : Heap} {fa : Nat → Addr} {fd : Nat → FuncData} {cv : Nat → Value}
theorem ok_reserved (T : Txt w K mg fa fd cv) : FnOk P w K mg base CX0 1 (fa 36) (fd 36) [] spReserved := by
  refine T.d_law_reserved.F.ok sc_law_reserved (fun vs H Q E h => ?_) (fun cdv A outer s H vs Q E hr h => ?_)
  · obtain ⟨rfl, _⟩ := h
    rfl
  · obtain ⟨rfl, q⟩ := h
    refine ⟨_, pss_cons (ps_set (i := 0) sc_law_reserved.nd rfl (Or.inl rfl) pe_str)
      (pss_cons (ps_set (i := 0) sc_law_reserved.nd rfl (Or.inl rfl) (pe_op op_add_str (pv 0) pe_str))
      (pss_one (ps_ret (pe_split (pv 0) pe_str)))), ?_⟩
    refine q_asg (v := .str words1) ev_c fun H1 e1 => ?_
    refine q_asg (v := .str (words1 ++ words2)) ?_ fun H2 e2 => ?_
    · exact ev_op (ev_var rfl) ev_c (rv_addS (by decide +kernel))
    refine ⟨_, rfl, ⟨_, rfl⟩, _, _, rfl, rfl, by decide +kernel, by decide +kernel, ?_⟩
    rw [split_words]
    exact fun p hp => q p _ (fresh_back (e1.trans e2) hp) ((e1.trans e2).trans (Ex.new hp)) upd_same
end
theorem sp_reserved (H : Hp) : SpL spReserved [] H (reserved.map V.str) := fun H1 e Q q E => ⟨rfl, fun p H2 hp e2 h2 => q p H2 hp e2 h2⟩


/-! parts_of, inner_first -/
def spParts (K : PySem.W.Frag) : Sp := fun vs H Q _ => ∃ (v : V) (e : Tr), vs = [v] ∧ TrAt K H v e ∧ e.plain ∧ ∀ p ws H2, Ex H H2 → SqT K H2 p ws → TrsAt K H2 ws e.parts → Q (.ref p) H2
def spInner (K : PySem.W.Frag) : Sp := fun vs H Q _ => ∃ (v : V) (e : Tr), vs = [v] ∧ TrAt K H v e ∧ e.plain ∧ e.size ≤ 10000 ∧ ∀ p ws H2, Ex H H2 → H p = none → H2 p = some (.lst ws) → TrsAt K H2 ws e.post → Q (.ref p) H2
theorem TrAt.ty {K : PySem.W.Frag} {H : Hp} {v : V} {e : Tr} (h : TrAt K H v e) : ∃ t b, TyX K H v (.type t) ∧ PySem.W.kitAny K (.type t) [.type "int", .type "str"] = some b ∧ b = (match e with | .int _ => true | .nm _ => true | _ => false) := by
  cases h with
  | int i => exact ⟨"int", true, .base (.int i), intStr_int, rfl⟩
  | nm z => exact ⟨"str", true, .base (.str z), intStr_str, rfl⟩
  | nt h t => exact ⟨"tuple", false, tyX_tup h, intStr_tup, rfl⟩
  | bin h t u => exact ⟨"tuple", false, tyX_tup h, intStr_tup, rfl⟩
  | call h g ts => exact ⟨"tuple", false, tyX_tup h, intStr_tup, rfl⟩
section
variable {P : Program} {w : World} {K : PySem.W.Frag} {mg : Str → Option Value} {base : Heap} {fa : Nat → Addr} {fd : Nat → FuncData} {cv : Nat → Value}
theorem ev_leaf {σ : L2.St} {H : Hp} {te : TE} {ta : TA} {v : V} {e : Tr} (hx : Ev te σ H v) (hc : EvA ta σ H [.ty "int", .ty "str"]) (h : TrAt K H v e) : Ev (tCB (rIsiT K) (tCons te (tCons (tTup ta) tNil))) σ H (.bl e.leaf) := by
  cases h with
  | int i => exact ev_isiT hx hc clsIS (by decide) (fun _ _ => .base (.int i)) intStr_int
  | nm z => exact ev_isiT hx hc clsIS (by decide) (fun _ _ => .base (.str z)) intStr_str
  | nt h t => exact ev_isiT hx hc clsIS (by decide) (fun _ e => tyX_tup (ex_t e h)) intStr_tup
  | bin h t u => exact ev_isiT hx hc clsIS (by decide) (fun _ e => tyX_tup (ex_t e h)) intStr_tup
  | call h g ts => exact ev_isiT hx hc clsIS (by decide) (fun _ e => tyX_tup (ex_t e h)) intStr_tup
theorem ok_parts_of (T : Txt w K mg fa fd cv) : FnOk P w K mg base CX0 1 (fa 2) (fd 2) ["expression"] (spParts K) := by
  refine T.d_parts_of.F.ok sc_parts_of (fun vs H Q E h => ?_) (fun cdv A outer s H vs Q E hr h => ?_)
  · obtain ⟨v, e, rfl, _⟩ := h
    rfl
  · obtain ⟨v, e, rfl, ht, hp, q⟩ := h
    refine ⟨_, pss_cons (ps_if (pt_val (pe_callB call_isiT (by rfl) T.b_isinstance (by decide +kernel) (pa_cons (pv 0) (pa_cons (pe_tup (pa_cons (pe_bltn (v := .ty "int") (by rfl) T.b_int (by decide +kernel) rfl) (pa_cons (pe_bltn (v := .ty "str") (by rfl) T.b_str (by decide +kernel) rfl) pa_nil))) pa_nil)))) (pss_one (ps_ret (pe_tup pa_nil))) (pss_nil))
      (pss_cons (ps_if (pt_cmpR op_eq (pe_ix ix_tup (pv 0) pe_int (fun _ _ => rfl)) pe_str (nomark _)) (pss_one (ps_ret (pe_ix ix_tup (pv 0) pe_int (fun _ _ => rfl)))) (pss_nil))
      (pss_one (ps_ret (pe_slice sl_tup (pv 0) (po_some pe_int) po_none)))), ?_⟩
    refine q_when (et_test (ev_leaf (ev_var rfl) (ea_cons ev_c (ea_cons ev_c ea_nil)) ht)) (fun hb H1 e1 => ?_) (fun hb H1 e1 => ?_)
    · refine s_retU (eu_tup ea_nil (by decide)) fun p H2 hp2 e2 h2 => q p [] H2 (e1.trans e2) (st_of h2) ?_
      cases e with
      | int i => exact .nil
      | nm z => exact .nil
      | nt e => cases hb
      | bin op l r => cases hb
      | call n es => cases hb
    · have ht1 := ht.keep (TupKeep.of e1)
      cases ht1 with
      | int i => cases hb
      | nm z => cases hb
      | nt h t =>
        refine q_when (b := false) (et_test (ev_is (ev_op (ev_op (ev_var rfl) ev_c (rv_ixT h (atI_zero rfl))) ev_c rv_eqS) (by decide +kernel))) (fun hb => by cases hb) (fun hb H2 e2 => ?_)
        refine s_retU (ev_slT (ev_var rfl) (eo_some ev_c) eo_none (ex_t e2 h) (not_whole (Nat.le_add_left 1 _))) fun p H3 hp3 e3 h3 => q p _ H3 ((e1.trans e2).trans e3) (st_of h3) ?_
        exact .cons (t.keep (TupKeep.of (e2.trans e3))) .nil
      | bin h t u =>
        refine q_when (b := false) (et_test (ev_is (ev_op (ev_op (ev_var rfl) ev_c (rv_ixT h (atI_zero rfl))) ev_c rv_eqS) (by rw [decide_eq_false hp.1]))) (fun hb => by cases hb) (fun hb H2 e2 => ?_)
        refine s_retU (ev_slT (ev_var rfl) (eo_some ev_c) eo_none (ex_t e2 h) (not_whole (Nat.le_add_left 1 _))) fun p H3 hp3 e3 h3 => q p _ H3 ((e1.trans e2).trans e3) (st_of h3) ?_
        exact .cons (t.keep (TupKeep.of (e2.trans e3))) (.cons (u.keep (TupKeep.of (e2.trans e3))) .nil)
      | call h g ts =>
        refine q_when (b := true) (et_test (ev_is (ev_op (ev_op (ev_var rfl) ev_c (rv_ixT h (atI_zero rfl))) ev_c rv_eqS) (by decide +kernel))) (fun hb H2 e2 => ?_) (fun hb => by cases hb)
        refine s_ret (ev_op (ev_var rfl) ev_c (rv_ixT (ex_t e2 h) (at_of (j := 2) rfl rfl))) fun H3 e3 => q _ _ H3 ((e1.trans e2).trans e3) (ex_t (e2.trans e3) g) (ts.keep (TupKeep.of (e2.trans e3)))
theorem sp_parts {v : V} {e : Tr} {σ : L2.St} {H : Hp} {te : TE} {E : XK} (hx : Ev te σ H v) (ht : TrAt K H v e) (hp : e.plain) : EvTup K (tCall (spParts K) [] E (tCons te tNil)) σ H (fun ws H2 => TrsAt K H2 ws e.parts) := fun H1 e1 Q q =>
  hx H1 e1 _ fun H2 e2 => ⟨v, e, rfl, ht.keep (TupKeep.of (e1.trans e2)), hp, fun p ws H3 e3 h3 r => q p ws H3 (e2.trans e3) h3 r⟩
/-- what the stack still brings -/
def brings (ts : List Tr) : List Tr := ts.reverse.flatMap fun t => t.post.reverse
theorem brings_snoc (ts : List Tr) (e : Tr) : brings (ts ++ [e]) = e :: brings (ts ++ e.parts) := by
  unfold brings
  rw [List.reverse_append, List.reverse_append, List.flatMap_append, List.flatMap_append]
  show (e.post.reverse ++ []) ++ _ = _
  rw [List.append_nil, Tr.post_eq, List.reverse_append, List.reverse_flatMap]
  rfl
theorem ok_inner_first (T : Txt w K mg fa fd cv) : FnOk P w K mg base CX0 2 (fa 3) (fd 3) ["expression"] (spInner K) := by
  have G_parts_of := ok_parts_of (P := P) (w := w) (base := base) T
  refine T.d_inner_first.F.ok sc_inner_first (fun vs H Q E h => ?_) (fun cdv A outer s H vs Q E hr h => ?_)
  · obtain ⟨v, e, rfl, _⟩ := h
    rfl
  · obtain ⟨v, e, rfl, ht, hp, hz, q⟩ := h
    refine ⟨_, pss_cons (ps_set (i := 1) sc_inner_first.nd rfl (Or.inl rfl) (pe_lst (pa_cons (pv 0) pa_nil)))
      (pss_cons (ps_set (i := 2) sc_inner_first.nd rfl (Or.inl rfl) (pe_lst pa_nil))
      (pss_cons (ps_while PassesOwn.never (pt_truth (pv 1) (by intro _; rfl)) (pss_cons (ps_set (i := 3) sc_inner_first.nd rfl (Or.inl rfl) (pe_bm0 PySem.F.plainAttrs_list PySem.F.slot_list_pop PySem.F.type_list_pop mt_pop (pv 1)))
      (pss_cons (ps_expr (pe_bm PySem.F.plainAttrs_list PySem.F.slot_list_append PySem.F.type_list_append mt_append (pv 2) (pa_cons (pv 3) pa_nil)))
      (pss_one (ps_expr (pe_bm PySem.F.plainAttrs_list PySem.F.slot_list_extend PySem.F.type_list_extend mt_extT (pv 1) (pa_cons (pe_call G_parts_of (by first | exact hr.mono (by decide) | exact hr.mono (by omega)) (by rfl) T.d_parts_of.g T.d_parts_of.k T.d_parts_of.b .nil pass0 (pa_cons (pv 3) pa_nil)) pa_nil)))))))
      (pss_one (ps_ret (pe_revL (pv 2)))))), ?_⟩
    refine q_asgL (xs := [v]) (el_lst (ea_cons (ev_var rfl) ea_nil) (by show 1 ≤ 100000; decide)) fun a H1 ha e1 h1 => ?_
    refine q_asgL (xs := []) (el_lst ea_nil (by decide)) fun b H2 hb e2 h2 => ?_
    have hab : a ≠ b := ne_of_none h1 hb
    refine q_while (fun m σ' H' => ∃ (tv fv : List V) (ts fs : List Tr) (y : Option V), σ' = [some v, some (.ref a), some (.ref b), y] ∧ Ex H H' ∧ H' a = some (.lst tv) ∧ H' b = some (.lst fv) ∧ TrsAt K H' tv ts ∧ TrsAt K H' fv fs ∧ (∀ t ∈ ts, t.plain) ∧
      fs ++ brings ts = e.post.reverse ∧ m = (ts.map Tr.size).sum ∧ fs.length + m ≤ e.size) e.size ⟨[v], [], [e], [], none, rfl, e1.trans e2, e2 _ _ h1, h2, .cons (ht.keep (TupKeep.of (e1.trans e2))) .nil, .nil, fun t h => by rw [List.mem_singleton.mp h]; exact hp, ?_, ?_, ?_⟩ ?_
    · show [] ++ (e.post.reverse ++ []) = _
      simp
    · show e.size = e.size + 0
      rfl
    · show 0 + e.size ≤ e.size
      omega
    · rintro m σ' H' ⟨tv, fv, ts, fs, y, rfl, e3, hA, hB, tT, tF, hpl, hord, rfl, hm⟩
      refine ⟨!tv.isEmpty, et_truL (ev_var rfl) (sq_of hA), fun hb1 H3 e4 => ?_, fun hb1 H3 e4 => ?_⟩
      · -- a turn
        rcases List.eq_nil_or_concat ts with rfl | ⟨ts', t, rfl⟩
        · cases tT
          cases hb1
        rw [List.concat_eq_append] at *
        obtain ⟨ws, vt, rfl, tW, tV⟩ := tT.last
        refine ⟨fun σ2 H2 => ∃ m', m' < ((ts' ++ [t]).map Tr.size).sum ∧ ∃ (tv fv : List V) (ts fs : List Tr) (y : Option V), σ2 = [some v, some (.ref a), some (.ref b), y] ∧ Ex H H2 ∧ H2 a = some (.lst tv) ∧ H2 b = some (.lst fv) ∧ TrsAt K H2 tv ts ∧ TrsAt K H2 fv fs ∧ (∀ t ∈ ts, t.plain) ∧
          fs ++ brings ts = e.post.reverse ∧ m' = (ts.map Tr.size).sum ∧ fs.length + m' ≤ e.size, fun _ _ h => h, ?_⟩
        have hA3 := e4 _ _ hA
        have hB3 := e4 _ _ hB
        refine q_pop hA3 (ev_var rfl) fun H4 e5 => ?_
        have k1 : TupKeep K H' (upd H4 a (.lst ws)) := (TupKeep.of (e4.trans e5)).trans (TupKeep.updL (e5 _ _ hA3))
        have x4 : Ex H (upd H4 a (.lst ws)) := Ex.mut ((e3.trans e4).trans e5) ha
        have hB4 : (upd H4 a (.lst ws)) b = some (.lst fv) := by rw [upd_ne (Ne.symm hab)]; exact e5 _ _ hB3
        have lF := tF.len
        have lW := tW.len
        have sz : ((ts' ++ [t]).map Tr.size).sum = (ts'.map Tr.size).sum + t.size := by
          rw [List.map_append, sum_append_nat]
          simp
        have szp := Tr.size_pos t
        refine q_app hB4 (ev_var rfl) (v := vt) (ev_var rfl) (by omega) fun H5 e6 => ?_
        have k2 : TupKeep K H' (upd H5 b (.lst (fv ++ [vt]))) := k1.trans ((TupKeep.of e6).trans (TupKeep.updL (e6 _ _ hB4)))
        have hb0 : H b = none := fresh_back e1 hb
        have x5 : Ex H (upd H5 b (.lst (fv ++ [vt]))) := Ex.mut (x4.trans e6) hb0
        have hA5 : (upd H5 b (.lst (fv ++ [vt]))) a = some (.lst ws) := by rw [upd_ne hab]; exact e6 _ _ upd_same
        have pt : t.plain := hpl t (List.mem_append.mpr (.inr List.mem_cons_self))
        have hsz := Tr.size_eq t
        refine s_extT hA5 (ev_var rfl) (sp_parts (ev_var rfl) (tV.keep k2) pt) fun us H6 e7 r => ⟨?_, ?_⟩
        · have := r.len
          have := parts_le t
          have := sizes_ge ts'
          omega
        · have k3 : TupKeep K H' (upd H6 a (.lst (ws ++ us))) := k2.trans ((TupKeep.of e7).trans (TupKeep.updL (e7 _ _ hA5)))
          have hB6 : (upd H6 a (.lst (ws ++ us))) b = some (.lst (fv ++ [vt])) := by rw [upd_ne (Ne.symm hab)]; exact e7 _ _ upd_same
          have szn : ((ts' ++ t.parts).map Tr.size).sum = (ts'.map Tr.size).sum + (t.parts.map Tr.size).sum := by rw [List.map_append, sum_append_nat]
          refine ⟨((ts' ++ t.parts).map Tr.size).sum, by omega, ws ++ us, fv ++ [vt], ts' ++ t.parts, fs ++ [t], some vt, rfl, Ex.mut (x5.trans e7) ha, upd_same, hB6, (tW.keep k3).append (r.keep (TupKeep.updL (e7 _ _ hA5))), (tF.keep k3).snoc (tV.keep k3), fun z hz2 => ?_, ?_, rfl, ?_⟩
          · rcases List.mem_append.mp hz2 with h | h
            · exact hpl z (List.mem_append.mpr (.inl h))
            · exact Tr.plain_parts pt z h
          · rw [← hord, brings_snoc, List.append_assoc]
            rfl
          · rw [List.length_append]
            show fs.length + 1 + _ ≤ _
            omega
      · -- the end
        have et : tv = [] := by
          cases tv with
          | nil => rfl
          | cons x r => cases hb1
        subst et
        cases tT
        refine s_retL (el_rev (ev_var rfl) (sq_of (e4 _ _ hB))) fun p H4 hp4 e5 h4 => q p _ H4 ((e3.trans e4).trans e5) (fresh_back (e3.trans e4) hp4) h4 ?_
        have e0 : fs = e.post.reverse := by
          rw [← hord]
          show fs = fs ++ []
          rw [List.append_nil]
        have t2 := (tF.keep (TupKeep.of (e4.trans e5))).rev
        rw [e0, List.reverse_reverse] at t2
        exact t2
/-! folded: the results of the parts on a stack -/
inductive Runs : List Tr → List Tr → List Tr → Prop
  | done (S : List Tr) : Runs S [] S
  | turn {S S' seq : List Tr} {t : Tr} : Runs (S ++ [t]) seq S' → Runs (S ++ t.parts) (t :: seq) S'
mutual
theorem runs_post : ∀ (e : Tr) {S S' seq : List Tr}, Runs (S ++ [e]) seq S' → Runs S (e.post ++ seq) S'
  | .int i, S, S', seq, h => by
    have := Runs.turn (t := .int i) h
    rw [show (Tr.int i).parts = [] from rfl, List.append_nil] at this
    exact this
  | .nm z, S, S', seq, h => by
    have := Runs.turn (t := .nm z) h
    rw [show (Tr.nm z).parts = [] from rfl, List.append_nil] at this
    exact this
  | .nt e, S, S', seq, h => by
    show Runs S ((e.post ++ [.nt e]) ++ seq) S'
    rw [List.append_assoc]
    exact runs_post e (Runs.turn (t := .nt e) h)
  | .bin op l r, S, S', seq, h => by
    show Runs S ((l.post ++ r.post ++ [.bin op l r]) ++ seq) S'
    rw [List.append_assoc, List.append_assoc]
    refine runs_post l (runs_post r ?_)
    have := Runs.turn (t := .bin op l r) h
    rw [show (Tr.bin op l r).parts = [l] ++ [r] from rfl, ← List.append_assoc] at this
    exact this
  | .call n es, S, S', seq, h => by
    show Runs S ((Tr.posts es ++ [.call n es]) ++ seq) S'
    rw [List.append_assoc]
    exact runs_posts es (Runs.turn (t := .call n es) h)
theorem runs_posts : ∀ (es : List Tr) {S S' seq : List Tr}, Runs (S ++ es) seq S' → Runs S (Tr.posts es ++ seq) S'
  | [], S, S', seq, h => by
    rw [List.append_nil] at h
    exact h
  | e :: es, S, S', seq, h => by
    show Runs S ((e.post ++ Tr.posts es) ++ seq) S'
    rw [List.append_assoc]
    refine runs_post e (runs_posts es ?_)
    rw [List.append_assoc]
    exact h
end
def spComb (K : PySem.W.Frag) (C : Tr → Prop) (RP : Tr → V → Hp → Prop) : Sp := fun vs H Q _ => ∃ (v : V) (e : Tr) (l : Addr) (xs : List V), vs = [v, .ref l] ∧ TrAt K H v e ∧ C e ∧ H l = some (.lst xs) ∧ Paired (fun t y => RP t y H) e.parts xs ∧ e.size ≤ 10000 ∧ ∀ y H2, Ex H H2 → RP e y H2 → Q y H2
def spFolded (K : PySem.W.Frag) (C : Tr → Prop) (RP : Tr → V → Hp → Prop) (g : Addr) : Sp := fun vs H Q _ => ∃ (v : V) (e : Tr), vs = [v, .ref g] ∧ TrAt K H v e ∧ C e ∧ e.size ≤ 10000 ∧ ∀ y H2, Ex H H2 → RP e y H2 → Q y H2
theorem sp_inner {v : V} {e : Tr} {σ : L2.St} {H : Hp} {te : TE} {E : XK} (hx : Ev te σ H v) (ht : TrAt K H v e) (hp : e.plain) (hz : e.size ≤ 10000) : EvLH (tCall (spInner K) [] E (tCons te tNil)) σ H (fun ws H2 => TrsAt K H2 ws e.post) := fun H1 e1 Q q =>
  hx H1 e1 _ fun H2 e2 => ⟨v, e, rfl, ht.keep (TupKeep.of (e1.trans e2)), hp, hz, fun p ws H3 e3 hp h3 r => q p ws H3 (fresh_back e2 hp) (e2.trans e3) h3 r⟩
theorem mem_size : ∀ (e : Tr) (t : Tr), t ∈ e.post → t.size ≤ e.size := fun e => by
  have key : ∀ n (e : Tr), e.size ≤ n → ∀ t ∈ e.post, t.size ≤ e.size := fun n => by
    induction n with
    | zero => intro e h; have := Tr.size_pos e; omega
    | succ n ih =>
      intro e h t ht
      rw [Tr.post_eq] at ht
      rcases List.mem_append.mp ht with ht | ht
      · obtain ⟨p, hp, ht⟩ := List.mem_flatMap.mp ht
        have h1 := part_lt e p hp
        have := ih p (by omega) t ht
        omega
      · rw [List.mem_singleton.mp ht]
        exact Nat.le_refl _
  exact key e.size e (Nat.le_refl _)
theorem mem_plain : ∀ (e : Tr) (t : Tr), e.plain → t ∈ e.post → t.plain := fun e => by
  have key : ∀ n (e : Tr), e.size ≤ n → e.plain → ∀ t ∈ e.post, t.plain := fun n => by
    induction n with
    | zero => intro e h; have := Tr.size_pos e; omega
    | succ n ih =>
      intro e h hp t ht
      rw [Tr.post_eq] at ht
      rcases List.mem_append.mp ht with ht | ht
      · obtain ⟨p, hq, ht⟩ := List.mem_flatMap.mp ht
        have h1 := part_lt e p hq
        exact ih p (by omega) (Tr.plain_parts hp p hq) t ht
      · rw [List.mem_singleton.mp ht]
        exact hp
  exact fun t hp ht => key e.size e (Nat.le_refl _) hp t ht
theorem ok_folded (T : Txt w K mg fa fd cv) {C : Tr → Prop} {RP : Tr → V → Hp → Prop} {g : Addr} {gd : FuncData} {kc : Nat} {ps : List Str} (hCp : ∀ e, C e → e.plain) (hCm : ∀ e t, C e → t ∈ e.post → C t) (keepRP : ∀ e y H H', TupKeep K H H' → RP e y H → RP e y H') (G_combine : FnOk P w K mg base CX0 kc g gd ps (spComb K C RP)) (k_combine : PySem.W.keepIn K (.ref g) = true) (b_combine : Binds K gd ps []) :
    FnOk P w K mg base CX0 (max kc 2 + 1) (fa 4) (fd 4) ["expression", "combine"] (spFolded K C RP g) := by
  have G_parts_of := ok_parts_of (P := P) (w := w) (base := base) T
  have G_inner_first := ok_inner_first (P := P) (w := w) (base := base) T
  refine T.d_folded.F.ok sc_folded (fun vs H Q E h => ?_) (fun cdv A outer s H vs Q E hr h => ?_)
  · obtain ⟨v, e, rfl, _⟩ := h
    rfl
  · obtain ⟨v, e, rfl, ht, hC, hz, q⟩ := h
    have hp := hCp e hC
    have hr_combine : Room kc _ := hr.mono (Nat.le_max_left _ _)
    refine ⟨_, pss_cons (ps_set (i := 2) sc_folded.nd rfl (Or.inl rfl) (pe_lst pa_nil))
      (pss_cons (ps_for PassesOwn.never rfl (pi_list (pe_call G_inner_first (by first | exact hr.mono (by decide) | exact hr.mono (by omega)) (by rfl) T.d_inner_first.g T.d_inner_first.k T.d_inner_first.b .nil pass0 (pa_cons (pv 0) pa_nil))) (pg_name (i := 3) sc_folded.nd rfl (Or.inl rfl)) (pss_cons (ps_set (i := 4) sc_folded.nd rfl (Or.inl rfl) (pe_op op_sub (pe_callB call_len_seq (by rfl) T.b_len PySem.boot_len (pa_cons (pv 2) pa_nil)) (pe_callB call_len_seq (by rfl) T.b_len PySem.boot_len (pa_cons (pe_call G_parts_of (by first | exact hr.mono (by decide) | exact hr.mono (by omega)) (by rfl) T.d_parts_of.g T.d_parts_of.k T.d_parts_of.b .nil pass0 (pa_cons (pv 3) pa_nil)) pa_nil))))
      (pss_one (ps_asg (pe_lst (pa_cons (pe_callL (i := 1) G_combine (by first | exact hr_combine | exact hr.mono (by decide)) rfl (by first | exact Or.inl rfl | exact Or.inr (Or.inl rfl) | exact Or.inr (Or.inr rfl)) k_combine b_combine .nil pass0 (pa_cons (pv 3) (pa_cons (pe_slice sl_list (pv 2) (po_some (pv 4)) po_none) pa_nil))) pa_nil)) (pg_tail (pv 2) (po_some (pv 4)))))))
      (pss_one (ps_ret (pe_ix ix_list (pv 2) pe_int (fun _ _ => rfl))))), ?_⟩
    refine q_asgL (xs := []) (el_lst ea_nil (by decide)) fun l H1 hl e1 h1 => ?_
    have ht1 := ht.keep (TupKeep.of e1)
    refine q_forLS (sp_inner (ev_var rfl) ht1 hp hz) fun p ws H2 hp2 e2 h2 tW => ?_
    have hlp : l ≠ p := ne_of_none h1 hp2
    refine ⟨fun i σ' H' => ∃ (S : List Tr) (rs : List V) (y3 y4 : Option V), σ' = [some v, some (.ref g), some (.ref l), y3, y4] ∧ Ex H H' ∧ H' l = some (.lst rs) ∧ H' p = some (.lst ws) ∧ TrsAt K H' ws e.post ∧ Paired (fun t y => RP t y H') S rs ∧ Runs S (e.post.drop i) [e] ∧ S.length ≤ i,
      ⟨[], [], none, none, rfl, e1.trans e2, e2 _ _ h1, h2, tW, .nil, ?_, Nat.le_refl _⟩, fun i σ' H' ⟨_, _, _, _, _, _, _, h, _⟩ => sq_of h, fun i x σ' H' hi ⟨S, rs, y3, y4, hσ, x3, hL, hP, tW', hRP, hrun, hS⟩ => ?_, fun σ' H' ⟨S, rs, y3, y4, hσ, x3, hL, hP, tW', hRP, hrun, hS⟩ => ?_⟩
    · have := runs_post e (S := []) (Runs.done [e])
      rw [List.append_nil] at this
      exact this
    · subst hσ
      obtain ⟨t, hti, tX⟩ := tW'.get hi
      have hil : i < e.post.length := (List.getElem?_eq_some_iff.mp hti).1
      have hpl := Tr.post_len e
      have hdrop : e.post.drop i = t :: e.post.drop (i + 1) := by
        rw [List.drop_eq_getElem_cons hil]
        congr 1
        exact Option.some.inj ((List.getElem?_eq_getElem hil).symm.trans hti)
      rw [hdrop] at hrun
      cases hrun with
      | @turn S0 _ _ _ hrun =>
      obtain ⟨r0, rp, rfl, hR0, hRp⟩ := paired_split hRP
      have l0 := paired_len hR0
      have lp := paired_len hRp
      have tmem : t ∈ e.post := List.mem_of_getElem? hti
      have tC := hCm e t hC tmem
      have tpl := hCp t tC
      have tsz := mem_size e t tmem
      have l1 : (r0 ++ rp).length = r0.length + rp.length := List.length_append
      have l2 : (S0 ++ t.parts).length = S0.length + t.parts.length := List.length_append
      -- first = len(results) - len(parts_of(part))
      refine q_asg (v := .int (r0.length : Int)) ?_ fun H3 e3 => ?_
      · refine ev_is (ev_op (ev_cb (ea_cons (ev_var rfl) ea_nil) (rc_lenL (sq_of hL))) (ev_lenTup (n := t.parts.length) (sp_parts (v := x) (ev_var rfl) tX tpl) fun ws H2 r => r.len) rv_I0) ?_
        rw [l1]
        congr 1
        omega
      have hL3 := e3 _ _ hL
      have cd : cutV (r0 ++ rp) (some (r0.length : Int)) none = rp := by
        rw [cut_drop (by omega), List.drop_left]
      -- results[first:] = [combine(part, results[first:])]
      have hRp3 : Paired (fun t y => RP t y H3) t.parts rp := paired_weak (fun a b h => keepRP a b _ _ (TupKeep.of e3) h) hRp
      have hR03 : Paired (fun t y => RP t y H3) S0 r0 := paired_weak (fun a b h => keepRP a b _ _ (TupKeep.of e3) h) hR0
      refine s_tail (y := l) (xs := r0 ++ rp) (n := r0.length) hL3 (by rw [l1]; omega) (ev_var rfl) (eo_some (ev_var rfl)) (R := fun y H2 => RP t y H2) (fun H4 e4 Q q => ⟨rfl, x, rfl, _, rfl, _, rfl, _, rfl, l, r0 ++ rp, rfl, sq_of (e4 _ _ hL3), fun b hb => ?_⟩) (by rw [l1]; omega) (fun H1 H2 e r => keepRP _ _ _ _ (TupKeep.of e) r) fun y H4 e4 rY => ?_
      · rw [cd]
        have k4 : TupKeep K H3 (upd H4 b (.lst rp)) := TupKeep.of (e4.trans (Ex.new hb))
        exact ⟨x, t, b, rp, rfl, tX.keep ((TupKeep.of e3).trans k4), tC, upd_same, paired_weak (fun a b h => keepRP a b _ _ k4 h) hRp3, by omega, fun y H5 e5 r => q y H5 ((Ex.new hb).trans e5) r⟩
      · have k5 : TupKeep K H4 (upd H4 l (.lst (r0 ++ [y]))) := TupKeep.updL (e4 _ _ hL3)
        rw [List.take_left]
        refine ⟨S0 ++ [t], r0 ++ [y], _, _, rfl, Ex.mut ((x3.trans e3).trans e4) hl, upd_same, ?_, tW'.keep ((TupKeep.of (e3.trans e4)).trans k5), ?_, hrun, ?_⟩
        · rw [upd_ne (Ne.symm hlp)]
          exact e4 _ _ (e3 _ _ hP)
        · exact paired_app (paired_weak (fun a b h => keepRP a b _ _ ((TupKeep.of e4).trans k5) h) hR03) (.cons (keepRP _ _ _ _ k5 rY) .nil)
        · rw [List.length_append]
          show S0.length + 1 ≤ i + 1
          omega
    · subst hσ
      have eW : ws.length = e.post.length := tW'.len
      rw [eW, List.drop_length] at hrun
      cases hrun with
      | done _ =>
      cases hRP with
      | cons r0 r1 =>
      cases r1
      refine s_ret (ev_op (ev_var rfl) ev_c (rv_ixL (sq_of hL) (atI_zero rfl))) fun H4 e4 => q _ H4 (x3.trans e4) (keepRP _ _ _ _ (TupKeep.of e4) r0)
end


/-! _in_brackets, _written_pair, _written, write_expression -/
def spBrk : Sp := fun vs H Q _ => ∃ (z : Str) (b : Bool), vs = [.str z, .bl b] ∧ z.length ≤ 20000 ∧ RetV (.str (brk z b)) H Q
/-- at v a tuple of a text and a level -/
def Txv (K : PySem.W.Frag) (H : Hp) (v : V) (z : Str) (n : Int) : Prop := ∃ a, v = .ref a ∧ SqT K H a [.str z, .int n]
theorem Txv.keep {K : PySem.W.Frag} {H H' : Hp} {v : V} {z : Str} {n : Int} (h : Txv K H v z n) (k : TupKeep K H H') : Txv K H' v z n := by
  obtain ⟨a, e, h⟩ := h
  exact ⟨a, e, k _ _ h⟩
def spPair (K : PySem.W.Frag) : Sp := fun vs H Q _ => ∃ (op lt rt : Str) (ll rl : Int) (v u : V), vs = [.str op, v, u] ∧ op ∈ ops13 ∧ Txv K H v lt ll ∧ Txv K H u rt rl ∧ lt.length ≤ 20000 ∧ rt.length ≤ 20000 ∧
  ∀ y H2, Ex H H2 → Txv K H2 y (pairText op lt ll rt rl) (lvl op) → Q y H2
def RPw (K : PySem.W.Frag) (e : Tr) (y : V) (H : Hp) : Prop := Txv K H y e.wr e.lv
def Cw (e : Tr) : Prop := e.good ∧ e.size ≤ 1000
theorem good_mem : ∀ (e : Tr) (t : Tr), e.good → t ∈ e.post → t.good := fun e => by
  have key : ∀ n (e : Tr), e.size ≤ n → e.good → ∀ t ∈ e.post, t.good := fun n => by
    induction n with
    | zero => intro e h; have := Tr.size_pos e; omega
    | succ n ih =>
      intro e h hp t ht
      rw [Tr.post_eq] at ht
      rcases List.mem_append.mp ht with ht | ht
      · obtain ⟨p, hq, ht⟩ := List.mem_flatMap.mp ht
        have h1 := part_lt e p hq
        exact ih p (by omega) (Tr.good_parts hp p hq) t ht
      · rw [List.mem_singleton.mp ht]
        exact hp
  exact fun t hp ht => key e.size e (Nat.le_refl _) hp t ht
def spWrite (K : PySem.W.Frag) : Sp := fun vs H Q _ => ∃ (v : V) (e : Tr), vs = [v] ∧ TrAt K H v e ∧ e.good ∧ e.size ≤ 1000 ∧ RetV (.str e.wr) H Q
theorem rv_ixD {K : PySem.W.Frag} {w : World} {a : Addr} {d : List (Str × V)} {z : Str} {v : V} {H : Hp} (D : DctOk K w a d) (h : d.lookup z = some v) : RV (rIxD K w) (.ref a) (.str z) H v := fun H1 _ Q q => by
  obtain ⟨es, n, kd⟩ := D.at_
  obtain ⟨u, h1, h2⟩ := D.get z v h
  exact ⟨a, z, v, rfl, rfl, ⟨es, n, u, kd.at_, kd.lit, h1, h2⟩, q H1 (Ex.refl H1)⟩
section
variable {P : Program} {w : World} {K : PySem.W.Frag} {mg : Str → Option Value} {base : Heap} {fa : Nat → Addr} {fd : Nat → FuncData} {cv : Nat → Value}
theorem ok_in_brackets (T : Txt w K mg fa fd cv) : FnOk P w K mg base CX0 1 (fa 10) (fd 10) ["text", "needed"] spBrk := by
  refine T.d_in_brackets.F.ok sc_in_brackets (fun vs H Q E h => ?_) (fun cdv A outer s H vs Q E hr h => ?_)
  · obtain ⟨z, b, rfl, _⟩ := h
    rfl
  · obtain ⟨z, b, rfl, hz, q⟩ := h
    refine ⟨_, pss_one (ps_ret (pe_ifExp (pt_val (pv 1)) (pe_joined (PJ.cons pe_str (PJ.cons (pe_fmt (pv 0)) (PJ.cons pe_str PJ.nil)))) (pv 0))), ?_⟩
    refine s_ret (v := .str (brk z b)) (ev_if (et_B (ev_var rfl)) (fun hb => ?_) (fun hb => ?_)) fun H1 e1 => q H1 e1
    · subst hb
      refine ev_is (ev_joined (ej_cons ev_c (ej_cons (ev_fmtS (ev_var rfl) (by omega)) (ej_cons ev_c ej_nil))) ?_) ?_
      · show 1 + (z.length + (1 + 0)) ≤ 100000
        omega
      · show V.str (Str.empty ++ "(" ++ z ++ ")") = V.str ("(" ++ z ++ ")")
        rw [s_nil]
    · subst hb
      exact ev_var rfl
theorem sp_brk {z : Str} {b : Bool} (hz : z.length ≤ 20000) (H : Hp) : SpV spBrk [.str z, .bl b] H (.str (brk z b)) := fun H1 e Q q E => ⟨z, b, rfl, hz, fun H2 e2 => q H2 e2⟩
theorem ok_written_pair (T : Txt w K mg fa fd cv) : FnOk P w K mg base CX0 2 (fa 11) (fd 11) ["op", "left", "right"] (spPair K) := by
  have G_in_brackets := ok_in_brackets (P := P) (w := w) (base := base) T
  refine T.d_written_pair.F.ok sc_written_pair (fun vs H Q E h => ?_) (fun cdv A outer s H vs Q E hr h => ?_)
  · obtain ⟨op, lt, rt, ll, rl, v, u, rfl, _⟩ := h
    rfl
  · obtain ⟨op, lt, rt, ll, rl, v, u, rfl, ho, hv, hu, hlt, hrt, q⟩ := h
    obtain ⟨a, rfl, ha⟩ := hv
    obtain ⟨b, rfl, hb⟩ := hu
    refine ⟨_, pss_cons (ps_set (i := 3) sc_written_pair.nd rfl (Or.inl rfl) (pe_ix (r := rIxD K w) (by exact ix_kdict) (pe_glob rfl T.c_LEVELS T.r_LEVELS) (pv 0) (fun _ _ => rfl)))
      (pss_cons (ps_asg (pv 1) (pg_tup (by rfl) (pgs_cons (pg_name (i := 4) sc_written_pair.nd rfl (Or.inl rfl)) (pgs_cons (pg_name (i := 5) sc_written_pair.nd rfl (Or.inl rfl)) (pgs_nil)))))
      (pss_cons (ps_asg (pv 2) (pg_tup (by rfl) (pgs_cons (pg_name (i := 6) sc_written_pair.nd rfl (Or.inl rfl)) (pgs_cons (pg_name (i := 7) sc_written_pair.nd rfl (Or.inl rfl)) (pgs_nil)))))
      (pss_cons (ps_set (i := 8) sc_written_pair.nd rfl (Or.inl rfl) (pe_and (pe_cmpR op_eq (pv 5) (pe_glob rfl T.c_COMPARISON_LEVEL T.r_COMPARISON_LEVEL) (nomark _)) (pe_one (pe_cmpR op_eq (pv 3) (pe_glob rfl T.c_COMPARISON_LEVEL T.r_COMPARISON_LEVEL) (nomark _)))))
      (pss_cons (ps_set (i := 4) sc_written_pair.nd rfl (Or.inl rfl) (pe_call G_in_brackets (by first | exact hr.mono (by decide) | exact hr.mono (by omega)) (by rfl) T.d_in_brackets.g T.d_in_brackets.k T.d_in_brackets.b .nil pass0 (pa_cons (pv 4) (pa_cons (pe_or (pe_cmpR op_lt (pv 5) (pv 3) (nomark _)) (pe_one (pv 8))) pa_nil))))
      (pss_cons (ps_set (i := 6) sc_written_pair.nd rfl (Or.inl rfl) (pe_call G_in_brackets (by first | exact hr.mono (by decide) | exact hr.mono (by omega)) (by rfl) T.d_in_brackets.g T.d_in_brackets.k T.d_in_brackets.b .nil pass0 (pa_cons (pv 6) (pa_cons (pe_cmpR op_le (pv 7) (pv 3) (nomark _)) pa_nil))))
      (pss_one (ps_ret (pe_tup (pa_cons (pe_joined (PJ.cons (pe_fmt (pv 4)) (PJ.cons pe_str (PJ.cons (pe_fmt (pv 0)) (PJ.cons pe_str (PJ.cons (pe_fmt (pv 6)) PJ.nil)))))) (pa_cons (pv 3) pa_nil)))))))))), ?_⟩
    refine q_asg (v := .int (lvl op)) (ev_op ev_c (ev_var rfl) (rv_ixD T.q_LEVELS (lvl_look op ho))) fun H1 e1 => ?_
    refine q_unpack2 (ev_var rfl) (ex_t e1 ha) fun H2 e2 => ?_
    refine q_unpack2 (ev_var rfl) (ex_t (e1.trans e2) hb) fun H3 e3 => ?_
    refine q_asg (v := .bl (decide (ll = 4) && decide (lvl op = 4))) (ev_andV (ev_op (ev_var rfl) ev_c rv_eqI) fun _ => ev_op (ev_var rfl) ev_c rv_eqI) fun H4 e4 => ?_
    refine q_asg (ev_call (ea_cons (ev_var rfl) (ea_cons (ev_orV (ev_op (ev_var rfl) (ev_var rfl) rv_I0) fun _ => ev_var rfl) ea_nil)) (sp_brk hlt _)) fun H5 e5 => ?_
    refine q_asg (ev_call (ea_cons (ev_var rfl) (ea_cons (ev_op (ev_var rfl) (ev_var rfl) rv_I0) ea_nil)) (sp_brk hrt _)) fun H6 e6 => ?_
    have ol := op_len op ho
    have b1 := brk_len lt (decide (ll < lvl op) || (decide (ll = 4) && decide (lvl op = 4)))
    have b2 := brk_len rt (decide (rl ≤ lvl op))
    refine s_retU (xs := [.str (pairText op lt ll rt rl), .int (lvl op)]) (eu_tup (ea_cons (ev_is (ev_joined (ej_cons (ev_fmtS (ev_var rfl) (by omega)) (ej_cons ev_c (ej_cons (ev_fmtS (ev_var rfl) (by omega)) (ej_cons ev_c (ej_cons (ev_fmtS (ev_var rfl) (by omega)) ej_nil))))) ?_) ?_) (ea_cons (ev_var rfl) ea_nil)) (by show 2 ≤ 100000; decide)) fun p H7 hp e7 h7 => q _ H7 (((((e1.trans e2).trans e3).trans e4).trans (e5.trans e6)).trans e7) ⟨p, rfl, st_of h7⟩
    · show (brk lt _).length + (1 + (op.length + (1 + ((brk rt _).length + 0)))) ≤ 100000
      omega
    · show V.str (Str.empty ++ brk lt _ ++ " " ++ op ++ " " ++ brk rt _) = _
      rw [s_nil]
      rfl
theorem sp_pair {op lt rt : Str} {ll rl : Int} {v u : V} {H : Hp} {vs : List V} (e : vs = [.str op, v, u]) (ho : op ∈ ops13) (hv : Txv K H v lt ll) (hu : Txv K H u rt rl) (h1 : lt.length ≤ 20000) (h2 : rt.length ≤ 20000) (H1 : Hp) (e1 : Ex H H1) (Q : VK) (E : XK)
    (q : ∀ y H2, Ex H1 H2 → Txv K H2 y (pairText op lt ll rt rl) (lvl op) → Q y H2) : spPair K vs H1 Q E := ⟨op, lt, rt, ll, rl, v, u, e, ho, hv.keep (TupKeep.of e1), hu.keep (TupKeep.of e1), h1, h2, q⟩
theorem ok_written (T : Txt w K mg fa fd cv) : FnOk P w K mg base CX0 3 (fa 12) (fd 12) ["part", "parts"] (spComb K Cw (RPw K)) := by
  have G_in_brackets := ok_in_brackets (P := P) (w := w) (base := base) T
  have G_written_pair := ok_written_pair (P := P) (w := w) (base := base) T
  refine T.d_written.F.ok sc_written (fun vs H Q E h => ?_) (fun cdv A outer s H vs Q E hr h => ?_)
  · obtain ⟨v, e, l, xs, rfl, _⟩ := h
    rfl
  · obtain ⟨v, e, l, xs, rfl, ht, ⟨hg, hz⟩, hl, hR, _, q⟩ := h
    refine ⟨_, pss_cons (ps_if (pt_val (pe_callB call_isiT (by rfl) T.b_isinstance (by decide +kernel) (pa_cons (pv 0) (pa_cons (pe_tup (pa_cons (pe_bltn (v := .ty "int") (by rfl) T.b_int (by decide +kernel) rfl) (pa_cons (pe_bltn (v := .ty "str") (by rfl) T.b_str (by decide +kernel) rfl) pa_nil))) pa_nil)))) (pss_one (ps_ret (pe_tup (pa_cons (pe_callTy (CallR.or call_str_int SkE.call_str_str) (by rfl) T.b_str (by decide +kernel) (pa_cons (pv 0) pa_nil)) (pa_cons (pe_glob rfl T.c_ATOM_LEVEL T.r_ATOM_LEVEL) pa_nil))))) (pss_nil))
      (pss_cons (ps_if (pt_cmpR op_eq (pe_ix ix_tup (pv 0) pe_int (fun _ _ => rfl)) pe_str (nomark _)) (pss_cons (ps_set (i := 2) sc_written.nd rfl (Or.inl rfl) (pe_join pe_str (pe_lc (own := [("argument", 5)]) (g := gName 5) rfl sc_written.nd (pi_list (pv 1)) (blkOk_by (own := [("argument", 5)]) (N := N_written) (sc := defScope s_written) (by decide +kernel)) (fun _ _ _ _ _ => pg_name (i := 5) sc_written.nd rfl (Or.inl rfl)) (fun _ _ _ _ _ => pts_nil) (fun _ _ _ _ _ => (pe_ix (r := rIxT K) (by exact ix_tup) (pv 5) pe_int (fun _ _ => rfl))))))
      (pss_one (ps_ret (pe_tup (pa_cons (pe_joined (PJ.cons (pe_fmt (pe_ix ix_tup (pv 0) pe_int (fun _ _ => rfl))) (PJ.cons pe_str (PJ.cons (pe_fmt (pv 2)) (PJ.cons pe_str PJ.nil))))) (pa_cons (pe_glob rfl T.c_ATOM_LEVEL T.r_ATOM_LEVEL) pa_nil)))))) (pss_nil))
      (pss_cons (ps_if (pt_cmpR op_eq (pe_ix ix_tup (pv 0) pe_int (fun _ _ => rfl)) pe_str (nomark _)) (pss_cons (ps_asg (pe_ix ix_list (pv 1) pe_int (fun _ _ => rfl)) (pg_tup (by rfl) (pgs_cons (pg_name (i := 3) sc_written.nd rfl (Or.inl rfl)) (pgs_cons (pg_name (i := 4) sc_written.nd rfl (Or.inl rfl)) (pgs_nil)))))
      (pss_cons (ps_set (i := 2) sc_written.nd rfl (Or.inl rfl) (pe_call G_in_brackets (by first | exact hr.mono (by decide) | exact hr.mono (by omega)) (by rfl) T.d_in_brackets.g T.d_in_brackets.k T.d_in_brackets.b .nil pass0 (pa_cons (pv 3) (pa_cons (pe_cmpR op_lt (pv 4) (pe_glob rfl T.c_NOT_LEVEL T.r_NOT_LEVEL) (nomark _)) pa_nil))))
      (pss_one (ps_ret (pe_tup (pa_cons (pe_joined (PJ.cons pe_str (PJ.cons (pe_fmt (pv 2)) PJ.nil))) (pa_cons (pe_glob rfl T.c_NOT_LEVEL T.r_NOT_LEVEL) pa_nil))))))) (pss_nil))
      (pss_one (ps_ret (pe_call G_written_pair (by first | exact hr.mono (by decide) | exact hr.mono (by omega)) (by rfl) T.d_written_pair.g T.d_written_pair.k T.d_written_pair.b .nil pass0 (pa_cons (pe_ix ix_tup (pv 0) pe_int (fun _ _ => rfl)) (pa_cons (pe_ix ix_list (pv 1) pe_int (fun _ _ => rfl)) (pa_cons (pe_ix ix_list (pv 1) pe_int (fun _ _ => rfl)) pa_nil)))))))), ?_⟩
    have wl := Tr.wr_len hg
    refine q_when (et_test (ev_leaf (ev_var rfl) (ea_cons ev_c (ea_cons ev_c ea_nil)) ht)) (fun hb H1 e1 => ?_) (fun hb H1 e1 => ?_)
    · cases ht with
      | int i =>
        have hi : i.natAbs.log2 < 1920 := small_log hg.1 hg.2
        refine s_retU (xs := [.str (Tr.wr (.int i)), .int 7]) (eu_tup (ea_cons (ev_cb (ea_cons (ev_var rfl) ea_nil) (fun H2 _ Q2 q2 => .inl ⟨i, rfl, hi, q2 H2 (Ex.refl H2)⟩)) (ea_cons ev_c ea_nil)) (by show 2 ≤ 100000; decide)) fun p H2 hp e2 h2 => q _ H2 (e1.trans e2) ⟨p, rfl, st_of h2⟩
      | nm z =>
        refine s_retU (xs := [.str (Tr.wr (.nm z)), .int 7]) (eu_tup (ea_cons (ev_cb (ea_cons (ev_var rfl) ea_nil) (fun H2 _ Q2 q2 => .inr ⟨z, rfl, q2 H2 (Ex.refl H2)⟩)) (ea_cons ev_c ea_nil)) (by show 2 ≤ 100000; decide)) fun p H2 hp e2 h2 => q _ H2 (e1.trans e2) ⟨p, rfl, st_of h2⟩
      | nt h t => cases hb
      | bin h t u => cases hb
      | call h g ts => cases hb
    · have ht1 := ht.keep (TupKeep.of e1)
      have hl1 := e1 _ _ hl
      cases ht1 with
      | int i => cases hb
      | nm z => cases hb
      | @nt a v e h t =>
        refine q_when (b := false) (et_test (ev_is (ev_op (ev_op (ev_var rfl) ev_c (rv_ixT h (atI_zero rfl))) ev_c rv_eqS) (by decide +kernel))) (fun hb => by cases hb) (fun hb H2 e2 => ?_)
        refine q_when (b := true) (et_test (ev_is (ev_op (ev_op (ev_var rfl) ev_c (rv_ixT (ex_t e2 h) (atI_zero rfl))) ev_c rv_eqS) (by decide +kernel))) (fun hb H3 e3 => ?_) (fun hb => by cases hb)
        cases hR with
        | cons r0 r1 =>
        cases r1
        obtain ⟨b, rfl, hb⟩ := r0.keep (TupKeep.of ((e1.trans e2).trans e3))
        refine q_unpack2 (ev_op (ev_var rfl) ev_c (rv_ixL (sq_of (e3 _ _ (e2 _ _ hl1))) (atI_zero rfl))) hb fun H4 e4 => ?_
        have wl2 := Tr.wr_len (e := e) hg
        have sz2 : e.size ≤ 1000 := by have : 1 + e.size ≤ 1000 := hz; omega
        have bl := brk_len e.wr (decide (e.lv < 3))
        refine q_asg (ev_call (ea_cons (ev_var rfl) (ea_cons (ev_op (ev_var rfl) ev_c rv_I0) ea_nil)) (sp_brk (by omega) _)) fun H5 e5 => ?_
        refine s_retU (xs := [.str (Tr.wr (.nt e)), .int 3]) (eu_tup (ea_cons (ev_is (ev_joined (ej_cons ev_c (ej_cons (ev_fmtS (ev_var rfl) (by omega)) ej_nil)) ?_) ?_) (ea_cons ev_c ea_nil)) (by show 2 ≤ 100000; decide)) fun p H6 hp e6 h6 => q _ H6 ((((e1.trans e2).trans e3).trans e4).trans (e5.trans e6)) ⟨p, rfl, st_of h6⟩
        · show 4 + ((brk e.wr _).length + 0) ≤ 100000
          omega
        · show V.str (Str.empty ++ "not " ++ brk e.wr _) = V.str ("not " ++ brk e.wr _)
          rw [s_nil]
      | @bin a v u op l' r' h t u' =>
        refine q_when (b := false) (et_test (ev_is (ev_op (ev_op (ev_var rfl) ev_c (rv_ixT h (atI_zero rfl))) ev_c rv_eqS) (by rw [decide_eq_false (op_call op hg.1).1]))) (fun hb => by cases hb) (fun hb H2 e2 => ?_)
        refine q_when (b := false) (et_test (ev_is (ev_op (ev_op (ev_var rfl) ev_c (rv_ixT (ex_t e2 h) (atI_zero rfl))) ev_c rv_eqS) (by rw [decide_eq_false (op_call op hg.1).2]))) (fun hb => by cases hb) (fun hb H3 e3 => ?_)
        cases hR with
        | @cons _ y0 _ _ r0 r1 =>
        cases r1 with
        | @cons _ y1 _ _ r1 r2 =>
        cases r2
        have k3 : TupKeep K H H3 := TupKeep.of ((e1.trans e2).trans e3)
        have hl3 := e3 _ _ (e2 _ _ hl1)
        have w1 := Tr.wr_len hg.2.1
        have w2 := Tr.wr_len hg.2.2
        have sz : 1 + l'.size + r'.size ≤ 1000 := hz
        refine s_retC (vs := [.str op, y0, y1]) (ea_cons (ev_op (ev_var rfl) ev_c (rv_ixT (ex_t (e2.trans e3) h) (atI_zero rfl))) (ea_cons (ev_op (ev_var rfl) ev_c (rv_ixL (sq_of hl3) (atI_zero rfl))) (ea_cons (ev_op (ev_var rfl) ev_c (rv_ixL (sq_of hl3) (at_of (j := 1) rfl rfl))) ea_nil))) fun H4 e4 => ?_
        exact sp_pair rfl hg.1 (r0.keep k3) (r1.keep k3) (by omega) (by omega) H4 e4 _ _ fun y H5 e5 r => q y H5 ((((e1.trans e2).trans e3).trans e4).trans e5) r
      | @call a b vs n es h g ts =>
        refine q_when (b := true) (et_test (ev_is (ev_op (ev_op (ev_var rfl) ev_c (rv_ixT h (atI_zero rfl))) ev_c rv_eqS) (by decide +kernel))) (fun hb H2 e2 => ?_) (fun hb => by cases hb)
        have hl2 := e2 _ _ hl1
        have k2 : TupKeep K H H2 := TupKeep.of (e1.trans e2)
        have lx := paired_len hR
        have l3 : es.length ≤ 3 := hg.2.1
        have lx' : xs.length = es.length := lx.symm
        have wrl : ((Tr.wrs es).map (·.length)).sum + 2 * es.length ≤ 16 * Tr.sizes es := Tr.wrs_len hg.2.2
        have sz : 1 + Tr.sizes es ≤ 1000 := hz
        have jl := join_len ", " (Tr.wrs es)
        have lw : (Tr.wrs es).length = es.length := by rw [Tr.wrs_eq, List.length_map]
        have c2 : (", " : Str).length = 2 := rfl
        rw [c2] at jl
        refine q_asg (v := .str (Txt.join ", " (Tr.wrs es))) (ev_joinL ev_c (ys := Tr.wrs es) (el_lcLx (ev_var rfl) (sq_of hl2) (by omega) (fun _ => rfl) (n := Tr.wrs es) (by rw [lx', lw]) fun i x H3 e3 hi => ?_) (by rw [c2]; omega)) fun H3 e3 => ?_
        · obtain ⟨t, ht, r⟩ := paired_get hR hi
          have ht : es[i]? = some t := ht
          obtain ⟨b', rfl, hb'⟩ := r.keep (k2.trans (TupKeep.of e3))
          refine ev_is (ev_op (ev_var (by first | rfl | simp)) ev_c (rv_ixT hb' (atI_zero rfl))) ?_
          rw [Tr.wrs_eq]
          show V.str t.wr = V.str ((es.map Tr.wr).getD i "")
          rw [getD_of (x := t.wr) (by rw [List.getElem?_map, ht]; rfl)]
        refine s_retU (xs := [.str (Tr.wr (.call n es)), .int 7]) (eu_tup (ea_cons (ev_is (ev_joined (ej_cons (ev_fmtS (ev_op (ev_var rfl) ev_c (rv_ixT (ex_t (e2.trans e3) h) (at_of (j := 1) rfl rfl))) (by have := hg.1; omega)) (ej_cons ev_c (ej_cons (ev_fmtS (ev_var rfl) (by omega)) (ej_cons ev_c ej_nil)))) ?_) ?_) (ea_cons ev_c ea_nil)) (by show 2 ≤ 100000; decide)) fun p H4 hp e4 h4 => q _ H4 (((e1.trans e2).trans e3).trans e4) ⟨p, rfl, st_of h4⟩
        · show n.length + (1 + ((Txt.join ", " (Tr.wrs es)).length + (1 + 0))) ≤ 100000
          have := hg.1
          omega
        · show V.str (Str.empty ++ n ++ "(" ++ Txt.join ", " (Tr.wrs es) ++ ")") = V.str (n ++ "(" ++ Txt.join ", " (Tr.wrs es) ++ ")")
          rw [s_nil]
theorem ok_write_expression (T : Txt w K mg fa fd cv) : FnOk P w K mg base CX0 5 (fa 13) (fd 13) ["expression"] (spWrite K) := by
  have G_written := ok_written (P := P) (w := w) (base := base) T
  have G_folded := ok_folded (P := P) (w := w) (base := base) T (C := Cw) (RP := RPw K) (fun e h => Tr.good_plain h.1) (fun e t h m => ⟨good_mem e t h.1 m, Nat.le_trans (mem_size e t m) h.2⟩) (fun e y H H' k r => r.keep k) G_written T.d_written.k T.d_written.b
  refine T.d_write_expression.F.ok sc_write_expression (fun vs H Q E h => ?_) (fun cdv A outer s H vs Q E hr h => ?_)
  · obtain ⟨v, e, rfl, _⟩ := h
    rfl
  · obtain ⟨v, e, rfl, ht, hg, hz, q⟩ := h
    refine ⟨_, pss_one (ps_ret (pe_ix ix_tup (pe_call G_folded (by first | exact hr.mono (by decide) | exact hr.mono (by omega)) (by rfl) T.d_folded.g T.d_folded.k T.d_folded.b .nil pass0 (pa_cons (pv 0) (pa_cons (pe_glob (v := .ref (fa 12)) rfl T.d_written.g rfl) pa_nil))) pe_int (fun _ _ => rfl))), ?_⟩
    refine (show Ev _ _ H (V.str e.wr) from fun H1 e1 Q q => ⟨v, rfl, v, e, rfl, ht.keep (TupKeep.of e1), ⟨hg, hz⟩, by omega, fun y H2 e2 ⟨a, ea, ha⟩ => ?_⟩) H (Ex.refl H) _ fun H1 e1 => q H1 e1
    subst ea
    exact ⟨a, _, 0, _, rfl, rfl, ha, atI_zero rfl, q H2 e2⟩
end


/-! is_number, _run_end, _token_end, _is_token, tokens_of -/
def spIsNumber : Sp := fun vs H Q _ => ∃ (z : Str) (m : Nat), vs = [.str z, .int (m : Int)] ∧ z.length ≤ 10000 ∧ RetV (.bl (isNum z m)) H Q
def spRunEnd : Sp := fun vs H Q _ => ∃ (z ss : Str) (a : Nat), vs = [.str z, .int (a : Int), .str ss] ∧ z.length ≤ 10000 ∧ a ≤ z.cps.toList.length ∧ RetV (.int (runEnd z.cps.toList a ss : Int)) H Q
def spTokenEnd : Sp := fun vs H Q _ => ∃ (z : Str) (a : Nat), vs = [.str z, .int (a : Int)] ∧ z.length ≤ 10000 ∧ a < z.cps.toList.length ∧ RetV (.int (tokenEnd z.cps.toList a : Int)) H Q
def spIsToken : Sp := fun vs H Q _ => ∃ z : Str, vs = [.str z] ∧ 1 ≤ z.length ∧ z.length ≤ 10000 ∧ RetV (.bl (isTok z)) H Q
def spTokensOf (K : PySem.W.Frag) : Sp := fun vs H Q _ => ∃ (z : Str) (ts : List (Nat × Str)), vs = [.str z] ∧ z.length ≤ 10000 ∧ lexAll z = .ok ts ∧ ∀ p ws H2, Ex H H2 → H p = none → H2 p = some (.lst ws) → Paired (fun t v => TokAt K H2 v t) ts ws → Q (.ref p) H2
section
variable {P : Program} {w : World} {K : PySem.W.Frag} {mg : Str → Option Value} {base : Heap} {fa : Nat → Addr} {fd : Nat → FuncData} {cv : Nat → Value}
theorem sign_at {z : Str} {i : Nat} (h : i < z.cps.toList.length) : atI z.cps.toList (i : Int) = some (z.cps.toList.getD i 0) := at_get h
theorem ok_run_end (T : Txt w K mg fa fd cv) : FnOk P w K mg base CX0 1 (fa 6) (fd 6) ["text", "at", "signs"] spRunEnd := by
  refine T.d_run_end.F.ok sc_run_end (fun vs H Q E h => ?_) (fun cdv A outer s H vs Q E hr h => ?_)
  · obtain ⟨z, ss, a, rfl, _⟩ := h
    rfl
  · obtain ⟨z, ss, a, rfl, hz, ha, q⟩ := h
    refine ⟨_, pss_cons (ps_set (i := 3) sc_run_end.nd rfl (Or.inl rfl) (pv 1))
      (pss_cons (ps_while PassesOwn.never (PW.pt (pw_and (pt_cmpR op_lt (pv 3) (pe_callB call_len_str (by rfl) T.b_len PySem.boot_len (pa_cons (pv 0) pa_nil)) (nomark _)) (pw_and1 (pt_cmpR op_in_sign (pe_ix ix_str (pv 0) (pv 3) (fun _ _ => rfl)) (pv 2) rfl)))) (pss_one (ps_set (i := 3) sc_run_end.nd rfl (Or.inl rfl) (pe_op op_add (pv 3) pe_int))))
      (pss_one (ps_ret (pv 3)))), ?_⟩
    have hl := str_len z
    have hz' : z.length ≤ sizeLine := sz_of (by omega)
    refine q_asg (v := .int (a : Int)) (ev_var rfl) fun H1 e1 => ?_
    refine q_while (fun m σ' H' => ∃ j : Nat, σ' = [some (.str z), some (.int (a : Int)), some (.str ss), some (.int ((a + j : Nat) : Int))] ∧ Ex H H' ∧ a + j ≤ z.cps.toList.length ∧ ((z.cps.toList.drop a).take j).all (inS ss) = true ∧ m = z.cps.toList.length - (a + j)) (z.cps.toList.length - a)
      ⟨0, rfl, e1, ha, rfl, rfl⟩ ?_
    rintro m σ' H' ⟨j, rfl, e2, hj, hall, rfl⟩
    have fin : ∀ H2, Ex H H2 → (∀ c, (z.cps.toList.drop a)[j]? = some c → inS ss c = false) → Q (.int ((a + j : Nat) : Int)) H2 := fun H2 e h => by
      have t := take_while_len (p := inS ss) (l := z.cps.toList.drop a) (j := j) (by rw [List.length_drop]; omega) hall h
      have q2 := q H2 e
      unfold runEnd at q2
      rw [t] at q2
      exact q2
    by_cases hlt : a + j < z.cps.toList.length
    · have hc := sign_at hlt
      have hg : (z.cps.toList.drop a)[j]? = some (z.cps.toList.getD (a + j) 0) := by
        rw [List.getElem?_drop, List.getD_eq_getElem?_getD, List.getElem?_eq_getElem hlt]
        rfl
      refine ⟨true && inS ss (z.cps.toList.getD (a + j) 0), et_and (et_is (et_test (ev_op (ev_var rfl) (ev_cb (ea_cons (ev_var rfl) ea_nil) (rc_lenS hz')) rv_I0)) (decide_eq_true (by omega))) (fun _ => et_test (ev_op (ev_op (ev_var rfl) (ev_var rfl) (rv_ixS (by omega) hc)) (ev_var rfl) rv_inS)), fun hb H2 e3 => ?_, fun hb H2 e3 => ?_⟩
      · refine ⟨_, fun _ _ h => h, ?_⟩
        refine s_asg (v := .int (((a + j : Nat) : Int) + 1)) (ev_op (ev_var rfl) ev_c rv_I0) fun H3 e4 => ?_
        refine ⟨z.cps.toList.length - (a + (j + 1)), by omega, j + 1, rfl, (e2.trans e3).trans e4, by omega, ?_, rfl⟩
        rw [all_take_succ hg, hall]
        exact hb
      · refine s_ret (ev_var rfl) fun H3 e4 => fin H3 ((e2.trans e3).trans e4) fun c hc2 => ?_
        have : z.cps.toList.getD (a + j) 0 = c := Option.some.inj (hg.symm.trans hc2)
        rw [← this]
        exact hb
    · refine ⟨false, et_andF (et_is (et_test (ev_op (ev_var rfl) (ev_cb (ea_cons (ev_var rfl) ea_nil) (rc_lenS hz')) rv_I0)) (decide_eq_false (by omega))), fun hb => (nomatch hb), fun hb H2 e3 => ?_⟩
      refine s_ret (ev_var rfl) fun H3 e4 => fin H3 ((e2.trans e3).trans e4) fun c hc2 => ?_
      have := (List.getElem?_eq_some_iff.mp hc2).1
      rw [List.length_drop] at this
      omega
theorem sp_run {z ss : Str} {a : Nat} (hz : z.length ≤ 10000) (ha : a ≤ z.cps.toList.length) (H : Hp) : SpV spRunEnd [.str z, .int (a : Int), .str ss] H (.int (runEnd z.cps.toList a ss : Int)) := fun H1 e Q q E => ⟨z, ss, a, rfl, hz, ha, fun H2 e2 => q H2 e2⟩
theorem ok_token_end (T : Txt w K mg fa fd cv) : FnOk P w K mg base CX0 2 (fa 7) (fd 7) ["text", "at"] spTokenEnd := by
  have G_run_end := ok_run_end (P := P) (w := w) (base := base) T
  refine T.d_token_end.F.ok sc_token_end (fun vs H Q E h => ?_) (fun cdv A outer s H vs Q E hr h => ?_)
  · obtain ⟨z, a, rfl, _⟩ := h
    rfl
  · obtain ⟨z, a, rfl, hz, ha, q⟩ := h
    refine ⟨_, pss_cons (ps_if (pt_cmpR op_in_sign (pe_ix ix_str (pv 0) (pv 1) (fun _ _ => rfl)) (pe_glob rfl T.c_DIGITS T.r_DIGITS) rfl) (pss_one (ps_ret (pe_call G_run_end (by first | exact hr.mono (by decide) | exact hr.mono (by omega)) (by rfl) T.d_run_end.g T.d_run_end.k T.d_run_end.b .nil pass0 (pa_cons (pv 0) (pa_cons (pv 1) (pa_cons (pe_glob rfl T.c_DIGITS T.r_DIGITS) pa_nil)))))) (pss_nil))
      (pss_cons (ps_if (pt_cmpR op_in_sign (pe_ix ix_str (pv 0) (pv 1) (fun _ _ => rfl)) (pe_glob rfl T.c_LETTERS T.r_LETTERS) rfl) (pss_one (ps_ret (pe_call G_run_end (by first | exact hr.mono (by decide) | exact hr.mono (by omega)) (by rfl) T.d_run_end.g T.d_run_end.k T.d_run_end.b .nil pass0 (pa_cons (pv 0) (pa_cons (pv 1) (pa_cons (pe_op op_add_str (pe_glob rfl T.c_LETTERS T.r_LETTERS) (pe_glob rfl T.c_DIGITS T.r_DIGITS)) pa_nil)))))) (pss_nil))
      (pss_cons (ps_if (pt_cmpR op_in_seq (pe_slice sl_str (pv 0) (po_some (pv 1)) (po_some (pe_op op_add (pv 1) pe_int))) (pe_glob rfl T.c_LONG_SIGNS T.r_LONG_SIGNS) (by rfl)) (pss_one (ps_ret (pe_op op_add (pv 1) pe_int))) (pss_nil))
      (pss_one (ps_ret (pe_op op_add (pv 1) pe_int))))), ?_⟩
    have hl := str_len z
    have hz' : z.length ≤ sizeLine := sz_of (by omega)
    have hc := sign_at ha
    unfold tokenEnd at q
    refine q_when (b := inS "0123456789" (z.cps.toList.getD a 0)) (et_test (ev_op (ev_op (ev_var rfl) (ev_var rfl) (rv_ixS (by omega) hc)) ev_c rv_inS)) (fun hb H1 e1 => ?_) (fun hb H1 e1 => ?_)
    · rw [if_pos hb] at q
      exact s_ret (ev_call (ea_cons (ev_var rfl) (ea_cons (ev_var rfl) (ea_cons ev_c ea_nil))) (sp_run hz (by omega) _)) fun H2 e2 => q H2 (e1.trans e2)
    · rw [if_neg (by rw [hb]; decide)] at q
      refine q_when (b := inS "abcdefghijklmnopqrstuvwxyz" (z.cps.toList.getD a 0)) (et_test (ev_op (ev_op (ev_var rfl) (ev_var rfl) (rv_ixS (by omega) hc)) ev_c rv_inS)) (fun hb2 H2 e2 => ?_) (fun hb2 H2 e2 => ?_)
      · rw [if_pos hb2] at q
        exact s_ret (ev_call (ea_cons (ev_var rfl) (ea_cons (ev_var rfl) (ea_cons (ev_op ev_c ev_c (rv_addS (by decide +kernel))) ea_nil))) (sp_run (ss := letDig) hz (by omega) _)) fun H3 e3 => q H3 ((e1.trans e2).trans e3)
      · rw [if_neg (by rw [hb2]; decide)] at q
        have e2c : cutS z (some (a : Int)) (some ((a : Int) + 2)) = ⟨((z.cps.toList.drop a).take 2).toArray⟩ := by
          rw [show (a : Int) + 2 = ((a + 2 : Nat) : Int) by omega]
          rw [cutS_nat (a := a) (b := a + 2) (Nat.le_add_right _ _), Nat.add_sub_cancel_left]
        refine q_when (b := inV (.str ⟨((z.cps.toList.drop a).take 2).toArray⟩) ((["!=", "<=", ">="] : List Str).map V.str)) (et_test (ev_op (ev_is (ev_slS (ev_var rfl) (eo_some (ev_var rfl)) (eo_some (ev_op (ev_var rfl) ev_c rv_I0)) hz') (by rw [e2c])) ev_c (rv_isT (T.q_LONG_SIGNS _) rfl (by decide +kernel)))) (fun hb3 H3 e3 => ?_) (fun hb3 H3 e3 => ?_)
        · rw [if_pos hb3] at q
          exact s_ret (ev_op (ev_var rfl) ev_c rv_I0) fun H4 e4 => q H4 (((e1.trans e2).trans e3).trans e4)
        · rw [if_neg (by rw [hb3]; decide)] at q
          exact s_ret (ev_op (ev_var rfl) ev_c rv_I0) fun H4 e4 => q H4 (((e1.trans e2).trans e3).trans e4)
theorem sp_tend {z : Str} {a : Nat} (hz : z.length ≤ 10000) (ha : a < z.cps.toList.length) (H : Hp) : SpV spTokenEnd [.str z, .int (a : Int)] H (.int (tokenEnd z.cps.toList a : Int)) := fun H1 e Q q E => ⟨z, a, rfl, hz, ha, fun H2 e2 => q H2 e2⟩
theorem ok_is_number (T : Txt w K mg fa fd cv) : FnOk P w K mg base CX0 1 (fa 5) (fd 5) ["text", "most_digits"] spIsNumber := by
  refine T.d_is_number.F.ok sc_is_number (fun vs H Q E h => ?_) (fun cdv A outer s H vs Q E hr h => ?_)
  · obtain ⟨z, m, rfl, _⟩ := h
    rfl
  · obtain ⟨z, m, rfl, hz, q⟩ := h
    refine ⟨_, pss_cons (ps_if (pt_not (pt_chain op_le op_le pe_int (pe_callB call_len_str (by rfl) T.b_len PySem.boot_len (pa_cons (pv 0) pa_nil)) (pv 1))) (pss_one (ps_ret pe_bl)) (pss_nil))
      (pss_cons (ps_for PassesOwn.never rfl (pi_str (pv 0)) (pg_name (i := 2) sc_is_number.nd rfl (Or.inl rfl)) (pss_one (ps_if (pt_cmpR op_notIn_sign (pv 2) (pe_glob rfl T.c_DIGITS T.r_DIGITS) rfl) (pss_one (ps_ret pe_bl)) (pss_nil))))
      (pss_one (ps_ret (pe_or (pe_cmpR op_eq (pv 0) pe_str (nomark _)) (pe_one (pe_cmpR op_ne (pe_ix ix_str (pv 0) pe_int (fun _ _ => rfl)) pe_str (nomark _))))))), ?_⟩
    have hl := str_len z
    have hz' : z.length ≤ sizeLine := sz_of (by omega)
    refine q_when (b := !(decide ((1 : Int) ≤ (z.length : Int)) && decide ((z.length : Int) ≤ (m : Int)))) (et_not (et_test (ev_chain ev_c (ev_cb (ea_cons (ev_var rfl) ea_nil) (rc_lenS hz')) rv_I0 (fun _ => ev_var rfl) (fun _ => rv_I0)))) (fun hb H1 e1 => ?_) (fun hb H1 e1 => ?_)
    · have e : isNum z m = false := by
        have h1 := (Bool.not_eq_true' _).mp hb
        unfold isNum
        rcases Bool.and_eq_false_iff.mp h1 with h | h
        · rw [decide_eq_false (by have := of_decide_eq_false h; omega)]
          simp only [Bool.false_and]
        · rw [decide_eq_false (show ¬ z.length ≤ m by have := of_decide_eq_false h; omega)]
          simp only [Bool.false_and, Bool.and_false]
      rw [e] at q
      exact s_ret ev_c fun H2 e2 => q H2 (e1.trans e2)
    · have h1 := (Bool.not_eq_false' _).mp hb
      obtain ⟨c1, c2⟩ := (Bool.and_eq_true _ _).mp h1
      have l1 : 1 ≤ z.length := by have := of_decide_eq_true c1; omega
      have l2 : z.length ≤ m := by have := of_decide_eq_true c2; omega
      have e : isNum z m = (z.cps.toList.all (inS "0123456789") && (decide (z = "0") || !decide (z.cps.toList.head? = some 48))) := by
        unfold isNum
        rw [decide_eq_true l1, decide_eq_true l2]
        rfl
      rw [e] at q
      obtain ⟨c, r, hc⟩ : ∃ c r, z.cps.toList = c :: r := by
        cases e : z.cps.toList with
        | nil => rw [e] at hl; simp at hl; omega
        | cons c r => exact ⟨c, r, rfl⟩
      refine q_forS (s := z) (ev_var rfl) (fun i σ' H' => ∃ y, σ' = [some (.str z), some (.int (m : Int)), y] ∧ Ex H H' ∧ (z.cps.toList.take i).all (inS "0123456789") = true) (fun H2 e2 => ⟨none, rfl, e1.trans e2, rfl⟩) (fun i c' σ' H' hi ⟨y, hσ, e2, ha⟩ => ?_) (fun σ' H' ⟨y, hσ, e2, ha⟩ => ?_)
      · subst hσ
        refine s_when (b := !inS "0123456789" c') (et_test (ev_op (ev_var rfl) ev_c rv_niS)) (fun hb H3 e3 => ?_) (fun hb H3 e3 => ?_)
        · have e : z.cps.toList.all (inS "0123456789") = false := by
            rw [Bool.eq_false_iff]
            intro h
            have h2 := List.all_eq_true.mp h c' (List.mem_of_getElem? hi)
            rw [h2] at hb
            cases hb
          rw [e, Bool.false_and] at q
          exact s_ret ev_c fun H4 e4 => q H4 ((e2.trans e3).trans e4)
        · refine ⟨_, rfl, e2.trans e3, ?_⟩
          rw [all_take_succ hi, ha, (Bool.not_eq_false' _).mp hb]
          rfl
      · subst hσ
        rw [List.take_length] at ha
        rw [ha, Bool.true_and] at q
        refine s_ret (v := .bl (decide (z = "0") || !decide (z.cps.toList.head? = some 48))) (ev_orV (ev_op (ev_var rfl) ev_c rv_eqS) fun _ => ev_is (ev_op (ev_op (ev_var rfl) ev_c (rv_ixS (w := z) (i := 0) (c := c) (by omega) (atI_zero hc))) ev_c rv_neS) ?_) fun H3 e3 => q H3 (e2.trans e3)
        rw [hc]
        refine congrArg V.bl (congrArg (!·) (decide_eq_decide.mpr ?_))
        show (⟨#[c]⟩ : Str) = "0" ↔ some c = some 48
        constructor
        · intro h
          have := congrArg (fun q : Str => q.cps.toList) h
          have e : [c] = [48] := this
          rw [List.cons.inj e |>.1]
        · intro h
          rw [Option.some.inj h]
          rfl
theorem sp_num {z : Str} {m : Nat} (hz : z.length ≤ 10000) (H : Hp) : SpV spIsNumber [.str z, .int (m : Int)] H (.bl (isNum z m)) := fun H1 e Q q E => ⟨z, m, rfl, hz, fun H2 e2 => q H2 e2⟩
theorem ok_is_token (T : Txt w K mg fa fd cv) : FnOk P w K mg base CX0 2 (fa 8) (fd 8) ["text"] spIsToken := by
  have G_is_number := ok_is_number (P := P) (w := w) (base := base) T
  refine T.d_is_token.F.ok sc_is_token (fun vs H Q E h => ?_) (fun cdv A outer s H vs Q E hr h => ?_)
  · obtain ⟨z, rfl, _⟩ := h
    rfl
  · obtain ⟨z, rfl, h1, hz, q⟩ := h
    refine ⟨_, pss_cons (ps_if (pt_cmpR op_in_sign (pe_ix ix_str (pv 0) pe_int (fun _ _ => rfl)) (pe_glob rfl T.c_DIGITS T.r_DIGITS) rfl) (pss_one (ps_ret (pe_call G_is_number (by first | exact hr.mono (by decide) | exact hr.mono (by omega)) (by rfl) T.d_is_number.g T.d_is_number.k T.d_is_number.b .nil pass0 (pa_cons (pv 0) (pa_cons (pe_glob rfl T.c_MOST_DIGITS T.r_MOST_DIGITS) pa_nil))))) (pss_nil))
      (pss_cons (ps_if (pt_cmpR op_in_sign (pe_ix ix_str (pv 0) pe_int (fun _ _ => rfl)) (pe_glob rfl T.c_LETTERS T.r_LETTERS) rfl) (pss_one (ps_ret (pe_cmpR op_le (pe_callB call_len_str (by rfl) T.b_len PySem.boot_len (pa_cons (pv 0) pa_nil)) (pe_glob rfl T.c_LONGEST_NAME T.r_LONGEST_NAME) (nomark _)))) (pss_nil))
      (pss_one (ps_ret (pe_cmpR op_in_seq (pv 0) (pe_glob rfl T.c_SIGNS T.r_SIGNS) (by rfl))))), ?_⟩
    have hl := str_len z
    have hz' : z.length ≤ sizeLine := sz_of (by omega)
    obtain ⟨c, r, hc⟩ : ∃ c r, z.cps.toList = c :: r := by
      cases e : z.cps.toList with
      | nil => rw [e] at hl; simp at hl; omega
      | cons c r => exact ⟨c, r, rfl⟩
    have hc0 : atI z.cps.toList 0 = some c := atI_zero hc
    unfold isTok at q
    rw [hc] at q
    simp only at q
    refine q_when (b := inS "0123456789" c) (et_test (ev_op (ev_op (ev_var rfl) ev_c (rv_ixS (by omega) hc0)) ev_c rv_inS)) (fun hb H1 e1 => ?_) (fun hb H1 e1 => ?_)
    · rw [if_pos hb] at q
      exact s_ret (ev_call (ea_cons (ev_var rfl) (ea_cons ev_c ea_nil)) (sp_num (m := 3) hz _)) fun H2 e2 => q H2 (e1.trans e2)
    · rw [if_neg (by rw [hb]; decide)] at q
      refine q_when (b := inS "abcdefghijklmnopqrstuvwxyz" c) (et_test (ev_op (ev_op (ev_var rfl) ev_c (rv_ixS (by omega) hc0)) ev_c rv_inS)) (fun hb2 H2 e2 => ?_) (fun hb2 H2 e2 => ?_)
      · rw [if_pos hb2] at q
        refine s_ret (v := .bl (decide (z.length ≤ 8))) (ev_is (ev_op (ev_cb (ea_cons (ev_var rfl) ea_nil) (rc_lenS hz')) ev_c rv_I0) ?_) fun H3 e3 => q H3 ((e1.trans e2).trans e3)
        exact congrArg V.bl (decide_eq_decide.mpr (by omega))
      · rw [if_neg (by rw [hb2]; decide)] at q
        exact s_ret (ev_op (ev_var rfl) ev_c (rv_isT (T.q_SIGNS _) rfl (by decide +kernel))) fun H3 e3 => q H3 ((e1.trans e2).trans e3)
theorem sp_tok {z : Str} (h1 : 1 ≤ z.length) (hz : z.length ≤ 10000) (H : Hp) : SpV spIsToken [.str z] H (.bl (isTok z)) := fun H1 e Q q E => ⟨z, rfl, h1, hz, fun H2 e2 => q H2 e2⟩
end
section
variable {P : Program} {w : World} {K : PySem.W.Frag} {mg : Str → Option Value} {base : Heap} {fa : Nat → Addr} {fd : Nat → FuncData} {cv : Nat → Value}
theorem ok_tokens_of (T : Txt w K mg fa fd cv) : FnOk P w K mg base CX0 3 (fa 9) (fd 9) ["text"] (spTokensOf K) := by
  have G_run_end := ok_run_end (P := P) (w := w) (base := base) T
  have G_token_end := ok_token_end (P := P) (w := w) (base := base) T
  have G_is_token := ok_is_token (P := P) (w := w) (base := base) T
  refine T.d_tokens_of.F.ok sc_tokens_of (fun vs H Q E h => ?_) (fun cdv A outer s H vs Q E hr h => ?_)
  · obtain ⟨z, ts, rfl, _⟩ := h
    rfl
  · obtain ⟨z, ts, rfl, hz, hlex, q⟩ := h
    refine ⟨_, pss_cons (ps_set (i := 1) sc_tokens_of.nd rfl (Or.inl rfl) (pe_lst pa_nil))
      (pss_cons (ps_set (i := 2) sc_tokens_of.nd rfl (Or.inl rfl) (pe_call G_run_end (by first | exact hr.mono (by decide) | exact hr.mono (by omega)) (by rfl) T.d_run_end.g T.d_run_end.k T.d_run_end.b .nil pass0 (pa_cons (pv 0) (pa_cons pe_int (pa_cons pe_str pa_nil)))))
      (pss_cons (ps_while PassesOwn.never (pt_cmpR op_lt (pv 2) (pe_callB call_len_str (by rfl) T.b_len PySem.boot_len (pa_cons (pv 0) pa_nil)) (nomark _)) (pss_cons (ps_set (i := 3) sc_tokens_of.nd rfl (Or.inl rfl) (pe_call G_token_end (by first | exact hr.mono (by decide) | exact hr.mono (by omega)) (by rfl) T.d_token_end.g T.d_token_end.k T.d_token_end.b .nil pass0 (pa_cons (pv 0) (pa_cons (pv 2) pa_nil))))
      (pss_cons (ps_if (pt_not (pt_val (pe_call G_is_token (by first | exact hr.mono (by decide) | exact hr.mono (by omega)) (by rfl) T.d_is_token.g T.d_is_token.k T.d_is_token.b .nil pass0 (pa_cons (pe_slice sl_str (pv 0) (po_some (pv 2)) (po_some (pv 3))) pa_nil)))) (pss_one (ps_never)) (pss_nil))
      (pss_cons (ps_expr (pe_bm PySem.F.plainAttrs_list PySem.F.slot_list_append PySem.F.type_list_append mt_append (pv 1) (pa_cons (pe_tup (pa_cons (pv 2) (pa_cons (pe_slice sl_str (pv 0) (po_some (pv 2)) (po_some (pv 3))) pa_nil))) pa_nil)))
      (pss_one (ps_set (i := 2) sc_tokens_of.nd rfl (Or.inl rfl) (pe_call G_run_end (by first | exact hr.mono (by decide) | exact hr.mono (by omega)) (by rfl) T.d_run_end.g T.d_run_end.k T.d_run_end.b .nil pass0 (pa_cons (pv 0) (pa_cons (pv 3) (pa_cons pe_str pa_nil))))))))))
      (pss_one (ps_ret (pv 1))))), ?_⟩
    have hl := str_len z
    have hz' : z.length ≤ sizeLine := sz_of (by omega)
    refine q_asgL (xs := []) (el_lst ea_nil (by decide)) fun p H1 hp e1 h1 => ?_
    refine q_asg (ev_call (ea_cons (ev_var rfl) (ea_cons ev_c (ea_cons ev_c ea_nil))) (sp_run (ss := " ") (a := 0) hz (by omega) _)) fun H2 e2 => ?_
    refine q_while (fun m σ' H' => ∃ (a : Nat) (y : Option V) (ws : List V) (done rest : List (Nat × Str)), σ' = [some (.str z), some (.ref p), some (.int (a : Int)), y] ∧ Ex H H' ∧ H' p = some (.lst ws) ∧ Paired (fun t v => TokAt K H' v t) done ws ∧
      (∃ n, lexs n z.cps.toList a = .ok rest ∧ z.cps.toList.length < a + n) ∧ ts = done ++ rest ∧ a ≤ z.cps.toList.length ∧ done.length ≤ a ∧ m = z.cps.toList.length - a) (z.cps.toList.length - runEnd z.cps.toList 0 " ")
      ⟨_, none, [], [], ts, rfl, e1.trans e2, e2 _ _ h1, .nil, ⟨z.length + 1, hlex, by omega⟩, rfl, runEnd_le (by omega), Nat.zero_le _, rfl⟩ ?_
    rintro m σ' H' ⟨a, y, ws, done, rest, rfl, e3, hP, pt, ⟨n, hx, hn⟩, rfl, ha, hd, rfl⟩
    refine ⟨decide ((a : Int) < (z.length : Int)), et_test (ev_op (ev_var rfl) (ev_cb (ea_cons (ev_var rfl) ea_nil) (rc_lenS hz')) rv_I0), fun hb H3 e4 => ?_, fun hb H3 e4 => ?_⟩
    · have hlt : a < z.cps.toList.length := by have := of_decide_eq_true hb; omega
      refine ⟨_, fun _ _ h => h, ?_⟩
      cases n with
      | zero => omega
      | succ n =>
      unfold lexs at hx
      rw [if_pos hlt] at hx
      have g1 := tokenEnd_gt hlt
      have g2 := tokenEnd_le hlt
      have g3 := runEnd_ge z.cps.toList (tokenEnd z.cps.toList a) " "
      refine q_asg (ev_call (ea_cons (ev_var rfl) (ea_cons (ev_var rfl) ea_nil)) (sp_tend hz hlt _)) fun H4 e5 => ?_
      have ec : cutS z (some (a : Int)) (some ((tokenEnd z.cps.toList a : Nat) : Int)) = cutC z.cps.toList a (tokenEnd z.cps.toList a) := cutS_nat (Nat.le_of_lt g1)
      have cl : (cutC z.cps.toList a (tokenEnd z.cps.toList a)).length = tokenEnd z.cps.toList a - a := by
        have := str_len (cutC z.cps.toList a (tokenEnd z.cps.toList a))
        rw [this]
        show ((z.cps.toList.drop a).take (tokenEnd z.cps.toList a - a)).length = _
        rw [List.length_take, List.length_drop]
        omega
      have tk : isTok (cutC z.cps.toList a (tokenEnd z.cps.toList a)) = true := by
        cases h : isTok (cutC z.cps.toList a (tokenEnd z.cps.toList a)) with
        | true => rfl
        | false => rw [h] at hx; simp at hx
      rw [if_pos tk] at hx
      have hx2 : ∃ r, lexs n z.cps.toList (runEnd z.cps.toList (tokenEnd z.cps.toList a) " ") = .ok r ∧ rest = (a, cutC z.cps.toList a (tokenEnd z.cps.toList a)) :: r := by
        revert hx
        cases lexs n z.cps.toList (runEnd z.cps.toList (tokenEnd z.cps.toList a) " ") with
        | ok r => exact fun h => ⟨r, rfl, (Except.ok.inj h).symm⟩
        | error i => exact fun h => nomatch h
      obtain ⟨r, hx3, rfl⟩ := hx2
      refine q_when (b := !isTok (cutC z.cps.toList a (tokenEnd z.cps.toList a))) (et_not (et_test (ev_call (ea_cons (ev_is (ev_slS (ev_var rfl) (eo_some (ev_var rfl)) (eo_some (ev_var rfl)) hz') (by rw [ec])) ea_nil) (sp_tok (by omega) (by omega) _)))) (fun hb H5 e6 => by rw [tk] at hb; cases hb) (fun hb H5 e6 => ?_)
      have hP5 : H5 p = some (.lst ws) := e6 _ _ (e5 _ _ (e4 _ _ hP))
      have lw := paired_len pt
      refine q_appU (ys := [.int (a : Int), .str (cutC z.cps.toList a (tokenEnd z.cps.toList a))]) hP5 (ev_var rfl) (eu_tup (ea_cons (ev_var rfl) (ea_cons (ev_is (ev_slS (ev_var rfl) (eo_some (ev_var rfl)) (eo_some (ev_var rfl)) hz') (by rw [ec])) ea_nil)) (by show 2 ≤ 100000; decide)) (by omega) fun p2 H6 hp2 e7 h2 => ?_
      refine s_asg (ev_call (ea_cons (ev_var rfl) (ea_cons (ev_var rfl) (ea_cons ev_c ea_nil))) (sp_run (ss := " ") hz g2 _)) fun H7 e8 => ?_
      have hp0 : H p = none := hp
      have hne : p2 ≠ p := fun e => by rw [e, hP5] at hp2; cases hp2
      have k1 : TupKeep K H' H7 := (TupKeep.of (((e4.trans e5).trans e6).trans e7)).trans ((TupKeep.updL (e7 _ _ hP5)).trans (TupKeep.of e8))
      refine ⟨z.cps.toList.length - runEnd z.cps.toList (tokenEnd z.cps.toList a) " ", by omega, _, _, ws ++ [.ref p2], done ++ [(a, cutC z.cps.toList a (tokenEnd z.cps.toList a))], r, rfl, (Ex.mut ((((e3.trans e4).trans e5).trans e6).trans e7) hp0).trans e8, e8 _ _ upd_same, ?_, ⟨n, hx3, by omega⟩, by rw [List.append_assoc]; rfl, runEnd_le g2, ?_, rfl⟩
      · refine paired_app (TokAt.keeps k1 pt) (.cons ⟨p2, rfl, ex_t e8 (st_of (by rw [upd_ne hne]; exact h2))⟩ .nil)
      · rw [List.length_append]
        show done.length + 1 ≤ _
        omega
    · have hge : ¬ a < z.cps.toList.length := by have := of_decide_eq_false hb; omega
      have hr : rest = [] := by
        cases n with
        | zero => exact (Except.ok.inj hx).symm
        | succ n =>
          unfold lexs at hx
          rw [if_neg hge] at hx
          exact (Except.ok.inj hx).symm
      subst hr
      rw [List.append_nil] at *
      exact s_ret (ev_var rfl) fun H4 e5 => q p ws H4 ((e3.trans e4).trans e5) hp (e5 _ _ (e4 _ _ hP)) (TokAt.keeps (TupKeep.of (e4.trans e5)) pt)
end


/-! the methods of Bracket -/
def mayB (ops : List Str) : Bool := match ops with
  | [] => true
  | o :: _ => decide (lvl o ≤ 3)
def cmpB (ops : List Str) : Bool := ops.any fun o => decide (lvl o = 4)
def spBrInit (K : PySem.W.Frag) (C : Addr) : Sp := fun vs H Q _ => ∃ (p dx : Addr) (c : Option Str), vs = [.ref p, cvO c] ∧ H p = some (.ins C dx []) ∧
  ∀ (β : Ba) H', β.b = p → BrAt K C 0 H' β ⟨c, [], [], []⟩ → Kp K [p] H H' → H β.al = none → H β.ol = none → H β.dl = none → Q .non H'
def spTestB (K : PySem.W.Frag) (C : Addr) : Sp := fun vs H Q _ => ∃ (β : Ba) (x : Br) (n : Nat), vs = [.ref β.b] ∧ BrAt K C n H β x ∧ RetV (.bl (mayB x.ops)) H Q
def spCmpB (K : PySem.W.Frag) (C : Addr) : Sp := fun vs H Q _ => ∃ (β : Ba) (x : Br) (n : Nat), vs = [.ref β.b] ∧ BrAt K C n H β x ∧ n ≤ 20000 ∧ RetV (.bl (cmpB x.ops)) H Q
def spFoldB (K : PySem.W.Frag) (C : Addr) : Sp := fun vs H Q _ => ∃ (β : Ba) (x : Br) (n : Nat) (m : Int) (ops' : List Str) (vals' : List Tr), vs = [.ref β.b, .int m] ∧ BrAt K C n H β x ∧ n ≤ 20000 ∧ foldB m x.ops x.vals = some (ops', vals') ∧
  ∀ H', BrAt K C n H' β { x with ops := ops', vals := vals' } → Kp K [β.ol, β.dl] H H' → Q .non H'
def spEndB (K : PySem.W.Frag) (C : Addr) : Sp := fun vs H Q _ => ∃ (β : Ba) (x : Br) (n : Nat) (e : Tr) (ops' : List Str) (vals' : List Tr), vs = [.ref β.b] ∧ BrAt K C n H β x ∧ n ≤ 20000 ∧ foldB 0 x.ops x.vals = some (ops', e :: vals') ∧
  ∀ H', BrAt K C (n + 1) H' β { x with ops := ops', vals := vals', args := x.args ++ [e] } → Kp K [β.al, β.ol, β.dl] H H' → Q .non H'
def wholeB (x : Br) : Option Tr := match foldB 0 x.ops x.vals with
  | none => none
  | some (_, vs) => match x.caller with
    | none => vs.getLast?
    | some n => some (.call n (x.args ++ vs.reverse))
def spWholeB (K : PySem.W.Frag) (C : Addr) : Sp := fun vs H Q _ => ∃ (β : Ba) (x : Br) (n : Nat) (e : Tr), vs = [.ref β.b] ∧ BrAt K C n H β x ∧ n ≤ 20000 ∧ wholeB x = some e ∧
  ∀ v H', TrAt K H' v e → Kp K [β.ol, β.dl] H H' → Q v H'
section
variable {P : Program} {w : World} {K : PySem.W.Frag} {mg : Str → Option Value} {base : Heap} {fa : Nat → Addr} {fd : Nat → FuncData} {cv : Nat → Value}
theorem ok_br_init (T : Txt w K mg fa fd cv) : FnOk P w K mg base CX0 1 (fa 14) (fd 14) ["self", "caller"] (spBrInit K (fa 200)) := by
  refine T.d_Bracket___init__.F.ok sc_Bracket___init__ (fun vs H Q E h => ?_) (fun cdv A outer s H vs Q E hr h => ?_)
  · obtain ⟨p, dx, c, rfl, _⟩ := h
    rfl
  · obtain ⟨p, dx, c, rfl, hp, q⟩ := h
    refine ⟨_, pss_cons (ps_fld (pv 0) (pv 1) rfl)
      (pss_cons (ps_fld (pv 0) (pe_lst pa_nil) rfl)
      (pss_cons (ps_fld (pv 0) (pe_lst pa_nil) rfl)
      (pss_one (ps_fld (pv 0) (pe_lst pa_nil) rfl)))), ?_⟩
    refine q_fld (ev_var rfl) (ev_var rfl) hp T.cl_Bracket T.n_Bracket_caller (by decide) fun H1 e1 => ?_
    have k1 : Kp K [p] H (upd H1 p (.ins (fa 200) dx (putF "caller" (cvO c) []))) := (Kp.of e1).trans (Kp.updI (e1 _ _ hp) (by simp))
    have h1 : (upd H1 p (.ins (fa 200) dx (putF "caller" (cvO c) []))) p = _ := upd_same
    generalize (upd H1 p (.ins (fa 200) dx (putF "caller" (cvO c) []))) = G1 at *
    refine q_fldL (xs := []) (el_lst ea_nil (by decide)) (ev_var rfl) h1 T.cl_Bracket T.n_Bracket_arguments (by show 1 < 1000; decide) fun a H2 na e2 g2 => ?_
    have k2 := k1.trans ((Kp.of (S := [p]) e2).trans (Kp.updI (o := .ins (fa 200) dx (putF "arguments" (.ref a) (putF "caller" (cvO c) []))) (e2 _ _ h1) (by simp)))
    have h2 : (upd H2 p (.ins (fa 200) dx (putF "arguments" (.ref a) (putF "caller" (cvO c) [])))) p = _ := upd_same
    have npa : a ≠ p := fun e => by rw [e, h1] at na; cases na
    have ga : (upd H2 p (.ins (fa 200) dx (putF "arguments" (.ref a) (putF "caller" (cvO c) [])))) a = some (.lst []) := by rw [upd_ne npa]; exact g2
    have hna : H a = none := by
      cases e : H a with
      | none => rfl
      | some o => have := k1.k a o e (by simpa using npa); rw [na] at this; cases this
    generalize (upd H2 p (.ins (fa 200) dx (putF "arguments" (.ref a) (putF "caller" (cvO c) [])))) = G2 at *
    refine q_fldL (xs := []) (el_lst ea_nil (by decide)) (ev_var rfl) h2 T.cl_Bracket T.n_Bracket_operators (by show 2 < 1000; decide) fun b H3 nb e3 g3 => ?_
    have k3 := k2.trans ((Kp.of (S := [p]) e3).trans (Kp.updI (o := .ins (fa 200) dx (putF "operators" (.ref b) (putF "arguments" (.ref a) (putF "caller" (cvO c) [])))) (e3 _ _ h2) (by simp)))
    have h3 : (upd H3 p (.ins (fa 200) dx (putF "operators" (.ref b) (putF "arguments" (.ref a) (putF "caller" (cvO c) []))))) p = _ := upd_same
    have npb : b ≠ p := fun e => by rw [e, h2] at nb; cases nb
    have nab : a ≠ b := ne_of_none ga nb
    have ga3 : (upd H3 p (.ins (fa 200) dx (putF "operators" (.ref b) (putF "arguments" (.ref a) (putF "caller" (cvO c) []))))) a = some (.lst []) := by rw [upd_ne npa]; exact e3 _ _ ga
    have gb3 : (upd H3 p (.ins (fa 200) dx (putF "operators" (.ref b) (putF "arguments" (.ref a) (putF "caller" (cvO c) []))))) b = some (.lst []) := by rw [upd_ne npb]; exact g3
    have hnb : H b = none := by
      cases e : H b with
      | none => rfl
      | some o => have := k2.k b o e (by simpa using npb); rw [nb] at this; cases this
    generalize (upd H3 p (.ins (fa 200) dx (putF "operators" (.ref b) (putF "arguments" (.ref a) (putF "caller" (cvO c) []))))) = G3 at *
    refine s_fldL (xs := []) (el_lst ea_nil (by decide)) (ev_var rfl) h3 T.cl_Bracket T.n_Bracket_operands (by show 3 < 1000; decide) fun d H4 nd e4 g4 => ?_
    have k4 := k3.trans ((Kp.of (S := [p]) e4).trans (Kp.updI (o := .ins (fa 200) dx (putF "operands" (.ref d) (putF "operators" (.ref b) (putF "arguments" (.ref a) (putF "caller" (cvO c) []))))) (e4 _ _ h3) (by simp)))
    have npd : d ≠ p := fun e => by rw [e, h3] at nd; cases nd
    have hnd : H d = none := by
      cases e : H d with
      | none => rfl
      | some o => have := k3.k d o e (by simpa using npd); rw [nd] at this; cases this
    refine q ⟨p, a, b, d⟩ _ rfl ⟨⟨dx, upd_same⟩, ⟨[], by rw [upd_ne npa]; exact e4 _ _ ga3, .nil⟩, by rw [upd_ne npb]; exact e4 _ _ gb3, ⟨[], by rw [upd_ne npd]; exact g4, .nil⟩, (fun o h => nomatch h), ⟨Nat.le_refl _, Nat.le_refl _, Nat.le_refl _⟩, ⟨nab, ne_of_none ga3 nd, ne_of_none gb3 nd⟩⟩ k4 hna hnb hnd
theorem ok_testB (T : Txt w K mg fa fd cv) : FnOk P w K mg base CX0 1 (fa 15) (fd 15) ["self"] (spTestB K (fa 200)) := by
  refine T.d_Bracket_test_may_begin.F.ok sc_Bracket_test_may_begin (fun vs H Q E h => ?_) (fun cdv A outer s H vs Q E hr h => ?_)
  · obtain ⟨β, x, n, rfl, _⟩ := h
    rfl
  · obtain ⟨β, x, n, rfl, B, q⟩ := h
    obtain ⟨dx, ob⟩ := B.ob
    refine ⟨_, pss_one (ps_ret (pe_or (pe_notT (pe_fld (pv 0) rfl)) (pe_one (pe_cmpR op_le (pe_ix (r := rIxD K w) (by exact ix_kdict) (pe_glob rfl T.c_LEVELS T.r_LEVELS) (pe_ix ix_list (pe_fld (pv 0) rfl) (pe_un un_neg pe_int) (fun _ _ => rfl)) (fun _ _ => rfl)) (pe_glob rfl T.c_NOT_LEVEL T.r_NOT_LEVEL) (nomark _))))), ?_⟩
    have hO := B.ol
    have hk := B.ok
    unfold mayB at q
    generalize x.ops = ops at *
    have evO : ∀ H1, Ex H H1 → Ev (tFld K (tVar 0) "operators") [some (.ref β.b)] H1 (.ref β.ol) := fun H1 e => ev_fld (ev_var rfl) (e _ _ ob) T.cl_Bracket T.n_Bracket_operators bf_ops
    cases ops with
    | nil =>
      exact s_ret (v := .bl true) (ev_is (ev_orV (b := false) (ev_notL (evO H (Ex.refl H)) (sq_of hO)) fun h => nomatch h) rfl) fun H1 e1 => q H1 e1
    | cons o r =>
      have hO2 : H β.ol = some (.lst (r.reverse.map V.str ++ [.str o])) := by rw [hO, List.reverse_cons, List.map_append]; rfl
      refine s_ret (ev_is (ev_orV (ev_notL (evO H (Ex.refl H)) (sq_of hO2)) fun h => ev_op (ev_op ev_c (ev_op (evO _ (Ex.refl _)) (ev_un ev_c ru_neg) (rv_ixL (sq_of hO2) (atI_last _ _))) (rv_ixD T.q_LEVELS (lvl_look14 o (hk o (by simp))))) ev_c rv_I0) ?_) fun H1 e1 => q H1 e1
      have : (r.reverse.map V.str ++ [V.str o]).isEmpty = false := by simp
      rw [this]
      rfl
theorem cmp_in (ops : List Str) : inV (.int 4) (ops.reverse.map fun o => V.int (lvl o)) = cmpB ops := by
  unfold inV cmpB
  rw [List.any_map, List.any_reverse]
  refine congrArg (fun f => List.any ops f) (funext fun o => ?_)
  show eqV (V.int (lvl o)) (V.int 4) = decide (lvl o = 4)
  rfl
theorem ok_cmpB (T : Txt w K mg fa fd cv) : FnOk P w K mg base CX0 1 (fa 16) (fd 16) ["self"] (spCmpB K (fa 200)) := by
  refine T.d_Bracket_compares.F.ok sc_Bracket_compares (fun vs H Q E h => ?_) (fun cdv A outer s H vs Q E hr h => ?_)
  · obtain ⟨β, x, n, rfl, _⟩ := h
    rfl
  · obtain ⟨β, x, n, rfl, B, hn, q⟩ := h
    obtain ⟨dx, ob⟩ := B.ob
    refine ⟨_, pss_one (ps_ret (pe_cmpR op_in_seq (pe_glob rfl T.c_COMPARISON_LEVEL T.r_COMPARISON_LEVEL) (pe_lc (own := [("op", 1)]) (g := gName 1) rfl sc_Bracket_compares.nd (pi_list (pe_fld (pv 0) rfl)) (blkOk_by (own := [("op", 1)]) (N := N_Bracket_compares) (sc := defScope s_Bracket_compares) (by decide +kernel)) (fun _ _ _ _ _ => pg_name (i := 1) sc_Bracket_compares.nd rfl (Or.inl rfl)) (fun _ _ _ _ _ => pts_nil) (fun _ _ _ _ _ => (pe_ix (r := rIxD K w) (by exact ix_kdict) (pe_glob rfl T.c_LEVELS T.r_LEVELS) (pv 1) (fun _ _ => rfl)))) (by rfl))), ?_⟩
    have hO := B.ol
    have hl : x.ops.length ≤ n := B.sz.2.1
    rw [← cmp_in] at q
    refine s_ret (ev_opL (xs := x.ops.reverse.map fun o => V.int (lvl o)) ev_c (el_lcLv (ev_fld (ev_var rfl) ob T.cl_Bracket T.n_Bracket_operators bf_ops) (sq_of hO) (by rw [List.length_map, List.length_reverse]; omega) (fun _ => rfl) (by simp) fun i y H1 e1 hi => ?_) fun p H1 hp e1 => rv_isL (sq_of hp) rfl (by simp [flatV])) fun H1 e1 => q H1 e1
    rw [List.getElem?_map] at hi
    cases e : x.ops.reverse[i]? with
    | none => rw [e] at hi; cases hi
    | some o =>
      rw [e] at hi
      cases hi
      have ho : o ∈ ops14 := B.ok o (List.mem_reverse.mp (List.mem_of_getElem? e))
      refine ev_is (ev_op ev_c (ev_var rfl) (rv_ixD T.q_LEVELS (lvl_look14 o ho))) ?_
      rw [List.getD_eq_getElem?_getD, List.getElem?_map, e]
      rfl
theorem ok_foldB (T : Txt w K mg fa fd cv) : FnOk P w K mg base CX0 1 (fa 17) (fd 17) ["self", "level"] (spFoldB K (fa 200)) := by
  refine T.d_Bracket_fold.F.ok sc_Bracket_fold (fun vs H Q E h => ?_) (fun cdv A outer s H vs Q E hr h => ?_)
  · obtain ⟨β, x, n, m, ops', vals', rfl, _⟩ := h
    rfl
  · obtain ⟨β, x, n, m, ops', vals', rfl, B, hn, hf, q⟩ := h
    refine ⟨_, pss_one (ps_while PassesOwn.never (PW.pt (pw_and (pt_truth (pe_fld (pv 0) rfl) (by intro _; rfl)) (pw_and1 (pt_cmpR op_ge (pe_ix (r := rIxD K w) (by exact ix_kdict) (pe_glob rfl T.c_LEVELS T.r_LEVELS) (pe_ix ix_list (pe_fld (pv 0) rfl) (pe_un un_neg pe_int) (fun _ _ => rfl)) (fun _ _ => rfl)) (pv 1) (nomark _))))) (pss_cons (ps_set (i := 2) sc_Bracket_fold.nd rfl (Or.inl rfl) (pe_bm0 PySem.F.plainAttrs_list PySem.F.slot_list_pop PySem.F.type_list_pop mt_pop (pe_fld (pv 0) rfl)))
      (pss_cons (ps_set (i := 3) sc_Bracket_fold.nd rfl (Or.inl rfl) (pe_bm0 PySem.F.plainAttrs_list PySem.F.slot_list_pop PySem.F.type_list_pop mt_pop (pe_fld (pv 0) rfl)))
      (pss_one (ps_if (pt_cmpR op_eq (pv 2) pe_str (nomark _)) (pss_one (ps_expr (pe_bm PySem.F.plainAttrs_list PySem.F.slot_list_append PySem.F.type_list_append mt_append (pe_fld (pv 0) rfl) (pa_cons (pe_tup (pa_cons pe_str (pa_cons (pv 3) pa_nil))) pa_nil)))) (pss_one (ps_expr (pe_bm PySem.F.plainAttrs_list PySem.F.slot_list_append PySem.F.type_list_append mt_append (pe_fld (pv 0) rfl) (pa_cons (pe_tup (pa_cons (pv 2) (pa_cons (pe_bm0 PySem.F.plainAttrs_list PySem.F.slot_list_pop PySem.F.type_list_pop mt_pop (pe_fld (pv 0) rfl)) (pa_cons (pv 3) pa_nil)))) pa_nil))))))))), ?_⟩
    refine s_while (fun k σ' H' => ∃ (ops : List Str) (vals : List Tr) (y1 y2 : Option V), σ' = [some (.ref β.b), some (.int m), y1, y2] ∧ BrAt K (fa 200) n H' β { x with ops := ops, vals := vals } ∧ Kp K [β.ol, β.dl] H H' ∧ foldB m ops vals = some (ops', vals') ∧ k = ops.length) x.ops.length ⟨x.ops, x.vals, none, none, rfl, B, Kp.of (Ex.refl H), hf, rfl⟩ ?_
    rintro k σ' H' ⟨ops, vals, y1, y2, rfl, B1, k1, hf1, rfl⟩
    obtain ⟨dx, ob⟩ := B1.ob
    have evO : ∀ y1 y2 H1, Ex H' H1 → Ev (tFld K (tVar 0) "operators") [some (.ref β.b), some (.int m), y1, y2] H1 (.ref β.ol) := fun _ _ H1 e => ev_fld (ev_var rfl) (e _ _ ob) T.cl_Bracket T.n_Bracket_operators bf_ops
    have hO : H' β.ol = some (.lst (ops.reverse.map V.str)) := B1.ol
    cases ops with
    | nil =>
      refine ⟨false, et_is (et_and (b := false) (et_truL (evO _ _ H' (Ex.refl H')) (sq_of hO)) (fun h => by cases h)) rfl, fun h => (nomatch h), fun _ H2 e2 => ?_⟩
      cases hf1
      exact q H2 (B1.ex e2) (k1.trans (Kp.of e2))
    | cons o r =>
      have hok : ∀ z ∈ o :: r, z ∈ ops14 := B1.ok
      have hO2 : H' β.ol = some (.lst (r.reverse.map V.str ++ [.str o])) := by rw [hO, List.reverse_cons, List.map_append]; rfl
      have ht := et_truL (K := K) (evO y1 y2 H' (Ex.refl H')) (sq_of hO2)
      have ne : (r.reverse.map V.str ++ [V.str o]).isEmpty = false := by simp
      rw [ne] at ht
      refine ⟨decide (lvl o ≥ m), et_is (et_and ht fun _ => et_test (ev_op (ev_op ev_c (ev_op (evO y1 y2 _ (Ex.refl _)) (ev_un ev_c ru_neg) (rv_ixL (sq_of hO2) (atI_last _ _))) (rv_ixD T.q_LEVELS (lvl_look14 o (hok o (by simp))))) (ev_var rfl) rv_I0)) (by simp), fun hb H2 e2 => ?_, fun hb H2 e2 => ?_⟩
      · have hge : ¬ lvl o < m := by have := of_decide_eq_true hb; omega
        refine ⟨_, fun _ _ h => h, ?_⟩
        unfold foldB at hf1
        rw [if_neg hge] at hf1
        obtain ⟨ws, hd, td⟩ := B1.dl
        obtain ⟨va, hva, tva⟩ := B1.al
        obtain ⟨n1, n2, n3⟩ := B1.nd
        have hsz := B1.sz
        have nbo : β.b ≠ β.ol := ne_of ob hO (by intro q; cases q)
        have nbd : β.b ≠ β.dl := ne_of ob hd (by intro q; cases q)
        have hO3 := e2 _ _ hO2
        refine q_pop hO3 (evO _ _ H2 e2) fun G1 e3 => ?_
        have kG : Kp K [β.ol, β.dl] H' (upd G1 β.ol (.lst (r.reverse.map V.str))) := (Kp.of (e2.trans e3)).trans (Kp.updL (e3 _ _ hO3) (by simp))
        have gd : (upd G1 β.ol (.lst (r.reverse.map V.str))) β.dl = some (.lst ws.reverse) := by rw [upd_ne n3.symm]; exact (e2.trans e3) _ _ hd
        have gO : (upd G1 β.ol (.lst (r.reverse.map V.str))) β.ol = some (.lst (r.reverse.map V.str)) := upd_same
        generalize (upd G1 β.ol (.lst (r.reverse.map V.str))) = G2 at *
        have gob := kG.k _ _ ob (by simp [nbo, nbd])
        cases vals with
        | nil =>
          by_cases h : o = "not"
          · rw [if_pos h] at hf1; cases hf1
          · rw [if_neg h] at hf1; cases hf1
        | cons r0 vals1 =>
        cases td with
        | @cons v0 ws1 _ _ t0 t1 =>
        rw [List.reverse_cons] at gd
        refine q_pop gd (ev_fld (ev_var rfl) gob T.cl_Bracket T.n_Bracket_operands bf_vals) fun G3 e4 => ?_
        have kG4 : Kp K [β.ol, β.dl] H' (upd G3 β.dl (.lst ws1.reverse)) := kG.trans ((Kp.of e4).trans (Kp.updL (e4 _ _ gd) (by simp)))
        have gd4 : (upd G3 β.dl (.lst ws1.reverse)) β.dl = some (.lst ws1.reverse) := upd_same
        have gO4 : (upd G3 β.dl (.lst ws1.reverse)) β.ol = some (.lst (r.reverse.map V.str)) := by rw [upd_ne n3]; exact e4 _ _ gO
        generalize (upd G3 β.dl (.lst ws1.reverse)) = G4 at *
        have gob4 := kG4.k _ _ ob (by simp [nbo, nbd])
        have lw := t1.len
        have lz : (r0 :: vals1).length ≤ n := hsz.2.2
        have lz1 : vals1.length + 1 ≤ n := lz
        have mk : ∀ (p : Addr) (G5 : Hp) (ws2 : List V) (vs2 : List Tr) (t : Tr), Kp K [β.ol, β.dl] H' G5 → G5 β.dl = some (.lst (ws2.reverse ++ [.ref p])) → G5 β.ol = some (.lst (r.reverse.map V.str)) → TrAt K G5 (.ref p) t → TrsAt K H' ws2 vs2 → vs2.length + 1 ≤ n → BrAt K (fa 200) n G5 β { x with ops := r, vals := t :: vs2 } := by
          intro p G5 ws2 vs2 t k5 d5 o5 tp tw hle
          refine ⟨⟨dx, k5.k _ _ ob (by simp [nbo, nbd])⟩, ⟨va, k5.k _ _ hva (by simp [n1, n2]), tva.keep k5.t⟩, o5, ⟨.ref p :: ws2, by rw [List.reverse_cons]; exact d5, .cons tp (tw.keep k5.t)⟩, fun z hz => hok z (List.mem_cons_of_mem _ hz), ⟨hsz.1, ?_, hle⟩, ⟨n1, n2, n3⟩⟩
          have : (o :: r).length ≤ n := hsz.2.1
          exact Nat.le_trans (Nat.le_succ _) this
        refine s_if (et_test (ev_op (ev_var rfl) ev_c rv_eqS)) (fun hb H5 e5 => ?_) (fun hb H5 e5 => ?_)
        · rw [if_pos (of_decide_eq_true hb)] at hf1
          refine s_appU (ys := [.str "not", v0]) (e5 _ _ gd4) (ev_fld (ev_var rfl) (e5 _ _ gob4) T.cl_Bracket T.n_Bracket_operands bf_vals) (eu_tup (ea_cons ev_c (ea_cons (ev_var rfl) ea_nil)) (by show 2 ≤ 100000; decide)) (by rw [List.length_reverse]; omega) fun p H6 hp e6 h6 => ?_
          have hd6 := e6 _ _ (e5 _ _ gd4)
          have npd : p ≠ β.dl := fun e => by rw [e, e5 _ _ gd4] at hp; cases hp
          have k6 : Kp K [β.ol, β.dl] H' (upd H6 β.dl (.lst (ws1.reverse ++ [.ref p]))) := kG4.trans ((Kp.of (e5.trans e6)).trans (Kp.updL hd6 (by simp)))
          refine ⟨r.length, Nat.lt_succ_self _, r, .nt r0 :: vals1, _, _, rfl, mk p _ ws1 vals1 (.nt r0) k6 upd_same (by rw [upd_ne n3]; exact (e5.trans e6) _ _ gO4) (.nt (st_of (by rw [upd_ne npd]; exact h6)) (t0.keep k6.t)) t1 lz1, k1.trans k6, hf1, rfl⟩
        · rw [if_neg (of_decide_eq_false hb)] at hf1
          cases vals1 with
          | nil => cases hf1
          | cons l vals2 =>
          cases t1 with
          | @cons vl ws2 _ _ tl t2 =>
          rw [List.reverse_cons] at gd4
          have lw2 := t2.len
          have lz2 : vals2.length + 2 ≤ n := lz1
          refine s_appPop (e5 _ _ gd4) (ev_fld (ev_var rfl) (e5 _ _ gob4) T.cl_Bracket T.n_Bracket_operands bf_vals) (ev_var rfl) (ev_fld (ev_var rfl) (e5 _ _ gob4) T.cl_Bracket T.n_Bracket_operands bf_vals) (fun H6 => ev_var rfl) (by rw [List.length_reverse]; omega) fun p H6 H7 e6 e7 hp npd h7 d7 => ?_
          have k7 : Kp K [β.ol, β.dl] H' (upd H7 β.dl (.lst (ws2.reverse ++ [.ref p]))) := kG4.trans ((Kp.of (e5.trans e6)).trans ((Kp.updL (e6 _ _ (e5 _ _ gd4)) (by simp)).trans ((Kp.of e7).trans (Kp.updL d7 (by simp)))))
          refine ⟨r.length, Nat.lt_succ_self _, r, .bin o l r0 :: vals2, _, _, rfl, mk p _ ws2 vals2 (.bin o l r0) k7 upd_same (by rw [upd_ne n3]; exact e7 _ _ (by rw [upd_ne n3]; exact (e5.trans e6) _ _ gO4)) (.bin (st_of (by rw [upd_ne npd]; exact h7)) (tl.keep k7.t) (t0.keep k7.t)) t2 (by omega), k1.trans k7, hf1, rfl⟩
      · have hlt : lvl o < m := by have := of_decide_eq_false hb; omega
        unfold foldB at hf1
        rw [if_pos hlt] at hf1
        cases hf1
        exact q H2 (B1.ex e2) (k1.trans (Kp.of e2))
theorem ok_endB (T : Txt w K mg fa fd cv) : FnOk P w K mg base CX0 2 (fa 18) (fd 18) ["self"] (spEndB K (fa 200)) := by
  have G_Bracket_fold := ok_foldB (P := P) (w := w) (base := base) T
  refine T.d_Bracket_end_argument.F.ok sc_Bracket_end_argument (fun vs H Q E h => ?_) (fun cdv A outer s H vs Q E hr h => ?_)
  · obtain ⟨β, x, n, e, ops', vals', rfl, _⟩ := h
    rfl
  · obtain ⟨β, x, n, e, ops', vals', rfl, B, hn, hf, q⟩ := h
    refine ⟨_, pss_cons (ps_expr (pe_meth (pv 0) T.cl_Bracket T.m_Bracket_fold G_Bracket_fold (by first | exact hr.mono (by decide) | exact hr.mono (by omega)) T.d_Bracket_fold.b .nil pass0 (pa_cons pe_int pa_nil)))
      (pss_one (ps_expr (pe_bm PySem.F.plainAttrs_list PySem.F.slot_list_append PySem.F.type_list_append mt_append (pe_fld (pv 0) rfl) (pa_cons (pe_bm0 PySem.F.plainAttrs_list PySem.F.slot_list_pop PySem.F.type_list_pop mt_pop (pe_fld (pv 0) rfl)) pa_nil)))), ?_⟩
    obtain ⟨dx, ob⟩ := B.ob
    refine q_meth (vs := [.int 0]) (ev_var rfl) ob rfl (ea_cons ev_c ea_nil) fun H1 e1 => ?_
    refine ⟨β, x, n, 0, ops', e :: vals', rfl, B.ex e1, hn, hf, fun H2 B2 k2 => ?_⟩
    obtain ⟨dx2, ob2⟩ := B2.ob
    obtain ⟨ws, hd, td⟩ := B2.dl
    obtain ⟨us, ha, ta⟩ := B2.al
    obtain ⟨n1, n2, n3⟩ := B2.nd
    have hO := B2.ol
    have nbo : β.b ≠ β.ol := ne_of ob2 hO (by intro q; cases q)
    have nbd : β.b ≠ β.dl := ne_of ob2 hd (by intro q; cases q)
    have nba : β.b ≠ β.al := ne_of ob2 ha (by intro q; cases q)
    have k02 : Kp K [β.al, β.ol, β.dl] H H2 := ((Kp.of e1).trans k2).mono (by simp)
    cases td with
    | @cons v ws1 _ _ t0 t1 =>
    rw [List.reverse_cons] at hd
    have lu := ta.len
    have sz := B2.sz
    refine s_appPopL ha (ev_fld (ev_var rfl) ob2 T.cl_Bracket T.n_Bracket_arguments bf_args) hd (ev_fld (ev_var rfl) ob2 T.cl_Bracket T.n_Bracket_operands bf_vals) n2 (by have : x.args.length ≤ n := sz.1; have : us.length = x.args.length := lu; omega) fun H3 e3 => ?_
    have hd3 := e3 _ _ hd
    have k3 : Kp K [β.al, β.ol, β.dl] H2 (upd (upd H3 β.dl (.lst ws1.reverse)) β.al (.lst (us ++ [v]))) := (Kp.of e3).trans ((Kp.updL hd3 (by simp)).trans (Kp.updL (ys := us) (by rw [upd_ne n2]; exact e3 _ _ ha) (by simp)))
    refine q _ ⟨⟨dx2, k3.k _ _ ob2 (by simp [nbo, nbd, nba])⟩, ⟨us ++ [v], upd_same, (ta.keep k3.t).snoc (t0.keep k3.t)⟩, ?_, ⟨ws1, by rw [upd_ne n2.symm]; exact upd_same, t1.keep k3.t⟩, B2.ok, ⟨?_, ?_, ?_⟩, ⟨n1, n2, n3⟩⟩ (k02.trans k3)
    · rw [upd_ne n1.symm, upd_ne n3]
      exact e3 _ _ hO
    · show (x.args ++ [e]).length ≤ _
      rw [List.length_append]
      have : x.args.length ≤ n := sz.1
      exact Nat.succ_le_succ this
    · exact Nat.le_succ_of_le sz.2.1
    · have : vals'.length + 1 ≤ n := sz.2.2
      show vals'.length ≤ n + 1
      omega
theorem ok_wholeB (T : Txt w K mg fa fd cv) : FnOk P w K mg base CX0 2 (fa 19) (fd 19) ["self"] (spWholeB K (fa 200)) := by
  have G_Bracket_fold := ok_foldB (P := P) (w := w) (base := base) T
  refine T.d_Bracket_whole.F.ok sc_Bracket_whole (fun vs H Q E h => ?_) (fun cdv A outer s H vs Q E hr h => ?_)
  · obtain ⟨β, x, n, e, rfl, _⟩ := h
    rfl
  · obtain ⟨β, x, n, e, rfl, B, hn, hw, q⟩ := h
    refine ⟨_, pss_cons (ps_expr (pe_meth (pv 0) T.cl_Bracket T.m_Bracket_fold G_Bracket_fold (by first | exact hr.mono (by decide) | exact hr.mono (by omega)) T.d_Bracket_fold.b .nil pass0 (pa_cons pe_int pa_nil)))
      (pss_cons (ps_if (pt_cmpR op_isN (pe_fld (pv 0) rfl) pe_non (nomark _)) (pss_one (ps_ret (pe_ix ix_list (pe_fld (pv 0) rfl) pe_int (fun _ _ => rfl)))) (pss_nil))
      (pss_one (ps_ret (pe_tup (pa_cons pe_str (pa_cons (pe_fld (pv 0) rfl) (pa_cons (pe_tup (StX.pa_star (pe_fld (pv 0) rfl) (StX.pa_star (pe_fld (pv 0) rfl) pa_nil))) pa_nil))))))), ?_⟩
    obtain ⟨dx, ob⟩ := B.ob
    unfold wholeB at hw
    cases hf : foldB 0 x.ops x.vals with
    | none => rw [hf] at hw; cases hw
    | some r =>
    obtain ⟨ops', vals'⟩ := r
    rw [hf] at hw
    simp only at hw
    refine q_meth (vs := [.int 0]) (ev_var rfl) ob rfl (ea_cons ev_c ea_nil) fun H1 e1 => ?_
    refine ⟨β, x, n, 0, ops', vals', rfl, B.ex e1, hn, hf, fun H2 B2 k2 => ?_⟩
    have k02 : Kp K [β.ol, β.dl] H H2 := (Kp.of e1).trans k2
    obtain ⟨dx2, ob2⟩ := B2.ob
    obtain ⟨ws, hd, td⟩ := B2.dl
    obtain ⟨us, ha, ta⟩ := B2.al
    have sz := B2.sz
    refine q_when (b := x.caller.isNone) (et_test (ev_is (ev_op (ev_fld (ev_var rfl) ob2 T.cl_Bracket T.n_Bracket_caller bf_caller) ev_c rv_isN) (isN_cvO _))) (fun hb H3 e3 => ?_) (fun hb H3 e3 => ?_)
    · have hc : x.caller = none := by cases h : x.caller with
        | none => rfl
        | some z => rw [h] at hb; cases hb
      rw [hc] at hw
      simp only at hw
      obtain ⟨vs1, rfl⟩ : ∃ vs1, vals' = vs1 ++ [e] := by
        rcases List.eq_nil_or_concat vals' with rfl | ⟨a, b, rfl⟩
        · cases hw
        · rw [List.concat_eq_append] at hw ⊢
          rw [List.getLast?_append] at hw
          cases hw
          exact ⟨a, rfl⟩
      obtain ⟨w1, v, rfl, t1, t2⟩ := td.last
      rw [List.reverse_append] at hd
      exact s_ret (ev_op (ev_fld (ev_var rfl) (e3 _ _ ob2) T.cl_Bracket T.n_Bracket_operands bf_vals) ev_c (rv_ixL (sq_of (e3 _ _ hd)) (atI_zero rfl))) fun H4 e4 => q _ H4 (t2.keep (TupKeep.of (e3.trans e4))) (k02.trans (Kp.of (e3.trans e4)))
    · obtain ⟨z, hc⟩ : ∃ z, x.caller = some z := by cases h : x.caller with
        | none => rw [h] at hb; cases hb
        | some z => exact ⟨z, rfl⟩
      rw [hc] at hw
      simp only at hw
      cases hw
      have lu := ta.len
      have lw := td.len
      have s1 : x.args.length ≤ n := sz.1
      have s3 : vals'.length ≤ n := sz.2.2
      refine s_retCallT ev_c (ev_is (ev_fld (ev_var rfl) (e3 _ _ ob2) T.cl_Bracket T.n_Bracket_caller bf_caller) (by rw [hc])) (ea_starL (K := K) (ev_fld (ev_var rfl) (e3 _ _ ob2) T.cl_Bracket T.n_Bracket_arguments bf_args) (sq_of (e3 _ _ ha)) (ea_starL (K := K) (ev_fld (ev_var rfl) (e3 _ _ ob2) T.cl_Bracket T.n_Bracket_operands bf_vals) (sq_of (e3 _ _ hd)) ea_nil)) (by rw [List.append_nil, List.length_append, List.length_reverse]; omega) fun p p2 H4 e4 hp2 hp => ?_
      rw [List.append_nil] at hp2
      have k4 : TupKeep K H2 H4 := TupKeep.of (e3.trans e4)
      exact q _ H4 (.call (st_of hp) (st_of hp2) ((ta.keep k4).append (td.keep k4).rev)) (k02.trans (Kp.of (e3.trans e4)))
end


/-! the methods of Reader -/
abbrev RX (K : PySem.W.Frag) (fa : Nat → Addr) := RdX K (fa 200) (fa 201)
abbrev RA (K : PySem.W.Frag) (fa : Nat → Addr) := RdA K (fa 200) (fa 201)
def spTok (K : PySem.W.Frag) (fa : Nat → Addr) : Sp := fun vs H Q _ => ∃ (H0 : Hp) (R : Addr) (toks : List (Nat × Str)) (i : Nat) (rest : List Str) (bs : List Br) (t : Str) (r : List Str), vs = [.ref R] ∧ RX K fa H0 H R toks i rest bs ∧ rest ++ [("" : Str)] = t :: r ∧ RetV (.str t) H Q
def spNext (K : PySem.W.Frag) (fa : Nat → Addr) : Sp := fun vs H Q _ => ∃ (H0 : Hp) (R : Addr) (toks : List (Nat × Str)) (i : Nat) (rest : List Str) (bs : List Br) (t u : Str) (r : List Str), vs = [.ref R] ∧ RX K fa H0 H R toks i rest bs ∧ rest ++ [("" : Str)] = t :: u :: r ∧ RetV (.str u) H Q
def spNever : Sp := fun _ _ _ _ => False
/-- numbers and names -/
def own4 : List Str := ["answer", "mark", "line", "finger"]
inductive Atom : List Str → Br → List Str → Br → Prop
  | neg {t : Str} {r : List Str} {x : Br} {n : Int} : isNum t 3 = true → intText? t = some n → 0 ≤ n ∧ n ≤ 999 → Atom ("-" :: t :: r) x r { x with vals := .int (-1 * n) :: x.vals }
  | nm {z : Str} {r : List Str} {x : Br} : z ≠ "-" → (isName z = true ∨ z ∈ own4) → Atom (z :: r) x r { x with vals := .nm z :: x.vals }
  | num {t : Str} {r : List Str} {x : Br} {n : Int} : t ≠ "-" → isName t = false → t ∉ own4 → isNum t 3 = true → intText? t = some n → 0 ≤ n ∧ n ≤ 999 → Atom (t :: r) x r { x with vals := .int (1 * n) :: x.vals }
inductive Opn : List Str → List Br → List Str → Br → List Br → Prop
  | nt {r : List Str} {x : Br} {bs : List Br} : mayB x.ops = true → Opn ("not" :: r) (x :: bs) r { x with ops := "not" :: x.ops } bs
  | br {r : List Str} {bs : List Br} : Opn ("(" :: r) bs r ⟨none, [], [], []⟩ bs
  | call {z : Str} {r : List Str} {bs : List Br} : z ≠ "not" → z ≠ "(" → isName z = true → Opn (z :: "(" :: r) bs r ⟨some z, [], [], []⟩ bs
def NoOpn (rest : List Str) : Prop := ∃ t r, rest = t :: r ∧ t ≠ "not" ∧ t ≠ "(" ∧ (isName t = true → ∃ u s, r ++ [("" : Str)] = u :: s ∧ u ≠ "(")
def emptyCall (rest : List Str) (x : Br) : Bool := match rest with
  | t :: _ => decide (t = ")") && (x.caller.isSome && x.ops.isEmpty)
  | [] => false
inductive Opd : List Str → List Br → List Str → Br → List Br → Prop
  | atom {rest rest' : List Str} {x x' : Br} {bs : List Br} : NoOpn rest → Atom rest x rest' x' → Opd rest (x :: bs) rest' x' bs
  | step {rest rest1 rest2 : List Str} {bs bs1 bs2 : List Br} {y z : Br} : Opn rest bs rest1 y bs1 → emptyCall rest1 y = false → Opd rest1 (y :: bs1) rest2 z bs2 → Opd rest bs rest2 z bs2
  | empty {rest rest1 : List Str} {bs bs1 : List Br} {y : Br} : Opn rest bs rest1 y bs1 → emptyCall rest1 y = true → Opd rest bs rest1 y bs1
inductive Optr : List Str → Br → List Str → Br → Prop
  | comma {r : List Str} {x : Br} {e : Tr} {ops' : List Str} {vals' : List Tr} : x.caller.isSome = true → x.args.length ≠ 2 → foldB 0 x.ops x.vals = some (ops', e :: vals') → Optr ("," :: r) x r { x with ops := ops', vals := vals', args := x.args ++ [e] }
  | op {o : Str} {r : List Str} {x : Br} {ops' : List Str} {vals' : List Tr} : o ∈ ops13 → (lvl o = 4 → cmpB x.ops = false) → foldB (lvl o) x.ops x.vals = some (ops', vals') → Optr (o :: r) x r { x with ops := o :: ops', vals := vals' }
inductive Fin_ : List Str → Br → List Br → Tr → Prop
  | done {x : Br} {e : Tr} : wholeB x = some e → Fin_ [] x [] e
  | close {r : List Str} {x y : Br} {bs : List Br} {e t : Tr} : wholeB x = some e → Fin_ r { y with vals := e :: y.vals } bs t → Fin_ (")" :: r) x (y :: bs) t
  | op {rest rest1 rest2 : List Str} {x x1 x2 : Br} {bs bs2 : List Br} {t : Tr} : Optr rest x rest1 x1 → Opd rest1 (x1 :: bs) rest2 x2 bs2 → Fin_ rest2 x2 bs2 t → Fin_ rest x bs t
def spReadNum (K : PySem.W.Frag) (fa : Nat → Addr) : Sp := fun vs H Q _ => ∃ (H0 : Hp) (R : Addr) (toks : List (Nat × Str)) (i : Nat) (t : Str) (r : List Str) (x : Br) (bs : List Br) (n sg : Int), vs = [.ref R, .int sg] ∧ RX K fa H0 H R toks i (t :: r) (x :: bs) ∧
  isNum t 3 = true ∧ intText? t = some n ∧ (0 ≤ n ∧ n ≤ 999) ∧ (sg = 1 ∨ sg = -1) ∧ ∀ H', RX K fa H0 H' R toks (i + 1) r ({ x with vals := .int (sg * n) :: x.vals } :: bs) → Q .non H'
def spAtom (K : PySem.W.Frag) (fa : Nat → Addr) : Sp := fun vs H Q _ => ∃ (H0 : Hp) (R : Addr) (toks : List (Nat × Str)) (i : Nat) (rest rest' : List Str) (x x' : Br) (bs : List Br), vs = [.ref R] ∧ RX K fa H0 H R toks i rest (x :: bs) ∧ Atom rest x rest' x' ∧
  ∀ j H', i < j → RX K fa H0 H' R toks j rest' (x' :: bs) → Q .non H'
def spOpn (K : PySem.W.Frag) (fa : Nat → Addr) : Sp := fun vs H Q _ => ∃ (H0 : Hp) (R : Addr) (toks : List (Nat × Str)) (i : Nat) (rest : List Str) (x : Br) (bs : List Br), vs = [.ref R] ∧ RX K fa H0 H R toks i rest (x :: bs) ∧
  ((∃ rest' y bs', Opn rest (x :: bs) rest' y bs' ∧ ∀ j H', i < j → RX K fa H0 H' R toks j rest' (y :: bs') → Q (.bl true) H') ∨ (NoOpn rest ∧ ∀ H', RX K fa H0 H' R toks i rest (x :: bs) → Q (.bl false) H'))
def spEmpty (K : PySem.W.Frag) (fa : Nat → Addr) : Sp := fun vs H Q _ => ∃ (H0 : Hp) (R : Addr) (toks : List (Nat × Str)) (i : Nat) (rest : List Str) (x : Br) (bs : List Br), vs = [.ref R] ∧ RX K fa H0 H R toks i rest (x :: bs) ∧ RetV (.bl (emptyCall rest x)) H Q
def spOpd (K : PySem.W.Frag) (fa : Nat → Addr) : Sp := fun vs H Q _ => ∃ (H0 : Hp) (R : Addr) (toks : List (Nat × Str)) (i : Nat) (rest rest' : List Str) (bs bs' : List Br) (x' : Br), vs = [.ref R] ∧ RX K fa H0 H R toks i rest bs ∧ bs ≠ [] ∧ Opd rest bs rest' x' bs' ∧
  ∀ j H', i < j → RX K fa H0 H' R toks j rest' (x' :: bs') → Q .non H'
def spOptr (K : PySem.W.Frag) (fa : Nat → Addr) : Sp := fun vs H Q _ => ∃ (H0 : Hp) (R : Addr) (toks : List (Nat × Str)) (i : Nat) (rest rest' : List Str) (x x' : Br) (bs : List Br), vs = [.ref R] ∧ RX K fa H0 H R toks i rest (x :: bs) ∧ Optr rest x rest' x' ∧
  ∀ j H', i < j → RX K fa H0 H' R toks j rest' (x' :: bs) → Q .non H'
def spClose (K : PySem.W.Frag) (fa : Nat → Addr) : Sp := fun vs H Q _ => ∃ (H0 : Hp) (R : Addr) (toks : List (Nat × Str)) (i : Nat) (t : Str) (r : List Str) (x y : Br) (bs : List Br) (e : Tr), vs = [.ref R] ∧ RX K fa H0 H R toks i (t :: r) (x :: y :: bs) ∧ wholeB x = some e ∧
  ∀ H', RX K fa H0 H' R toks (i + 1) r ({ y with vals := e :: y.vals } :: bs) → Q .non H'
def spWhole (K : PySem.W.Frag) (fa : Nat → Addr) : Sp := fun vs H Q _ => ∃ (H0 : Hp) (R : Addr) (toks : List (Nat × Str)) (i : Nat) (rest rest' : List Str) (x x' : Br) (bs' : List Br) (e : Tr), vs = [.ref R] ∧ RX K fa H0 H R toks i rest [x] ∧ Opd rest [x] rest' x' bs' ∧ Fin_ rest' x' bs' e ∧
  ∀ v H', Ex H0 H' → TrAt K H' v e → Q v H'
section
variable {P : Program} {w : World} {K : PySem.W.Frag} {mg : Str → Option Value} {base : Heap} {fa : Nat → Addr} {fd : Nat → FuncData} {cv : Nat → Value}
variable {H0 H : Hp} {R : Addr} {toks : List (Nat × Str)} {i : Nat} {rest : List Str} {bs : List Br}
theorem sp_tokR {t : Str} {r : List Str} (h : RX K fa H0 H R toks i rest bs) (e : rest ++ [("" : Str)] = t :: r) : SpV (spTok K fa) [.ref R] H (.str t) := fun H1 e1 Q q E => ⟨H0, R, toks, i, rest, bs, t, r, rfl, h.exx e1, e, fun H2 e2 => q H2 e2⟩
theorem sp_nextR {t u : Str} {r : List Str} (h : RX K fa H0 H R toks i rest bs) (e : rest ++ [("" : Str)] = t :: u :: r) : SpV (spNext K fa) [.ref R] H (.str u) := fun H1 e1 Q q E => ⟨H0, R, toks, i, rest, bs, t, u, r, rfl, h.exx e1, e, fun H2 e2 => q H2 e2⟩
theorem sp_isname {z : Str} (hz : z.length ≤ 1000) : SpV spIsName [.str z] H (.bl (isName z)) := fun H1 e Q q E => ⟨z, rfl, hz, fun H2 e2 => q H2 e2⟩
theorem sp_testB {β : Ba} {x : Br} {n : Nat} {C : Addr} (h : BrAt K C n H β x) : SpV (spTestB K C) [.ref β.b] H (.bl (mayB x.ops)) := fun H1 e Q q E => ⟨β, x, n, rfl, h.ex e, fun H2 e2 => q H2 e2⟩
theorem ok_token (T : Txt w K mg fa fd cv) : FnOk P w K mg base CX0 1 (fa 21) (fd 21) ["self"] (spTok K fa) := by
  refine T.d_Reader_token.F.ok sc_Reader_token (fun vs H Q E h => ?_) (fun cdv A outer s H vs Q E hr h => ?_)
  · obtain ⟨_, _, _, _, _, _, _, _, rfl, _⟩ := h
    rfl
  · obtain ⟨H0, R, toks, i, rest, bs, t, r, rfl, X, e, q⟩ := h
    refine ⟨_, pss_one (ps_ret (pe_ix ix_tup (pe_ix ix_list (pe_fld (pv 0) rfl) (pe_fld (pv 0) rfl) (fun _ _ => rfl)) pe_int (fun _ _ => rfl))), ?_⟩
    obtain ⟨TL, BL, bas, A1⟩ := X.a
    obtain ⟨dx, ob⟩ := A1.ob
    obtain ⟨ws, tl, tt⟩ := A1.tl
    obtain ⟨n, g, _⟩ := rest_get (X.r.trans e)
    obtain ⟨v, hv, p, rfl, hp⟩ := paired_getl tt g
    exact s_ret (ev_op (ev_op (ev_fld (ev_var rfl) ob T.cl_Reader T.n_Reader_tokens rf_tokens) (ev_fld (ev_var rfl) ob T.cl_Reader T.n_Reader_at rf_at) (rv_ixL (sq_of tl) (at_of (j := i) rfl hv))) ev_c (rv_ixT hp (at_of (j := 1) rfl rfl))) fun H1 e1 => q H1 e1
theorem ok_next (T : Txt w K mg fa fd cv) : FnOk P w K mg base CX0 1 (fa 22) (fd 22) ["self"] (spNext K fa) := by
  refine T.d_Reader_next_token.F.ok sc_Reader_next_token (fun vs H Q E h => ?_) (fun cdv A outer s H vs Q E hr h => ?_)
  · obtain ⟨_, _, _, _, _, _, _, _, _, rfl, _⟩ := h
    rfl
  · obtain ⟨H0, R, toks, i, rest, bs, t, u, r, rfl, X, e, q⟩ := h
    refine ⟨_, pss_one (ps_ret (pe_ix ix_tup (pe_ix ix_list (pe_fld (pv 0) rfl) (pe_op op_add (pe_fld (pv 0) rfl) pe_int) (fun _ _ => rfl)) pe_int (fun _ _ => rfl))), ?_⟩
    obtain ⟨TL, BL, bas, A1⟩ := X.a
    obtain ⟨dx, ob⟩ := A1.ob
    obtain ⟨ws, tl, tt⟩ := A1.tl
    obtain ⟨n, g, e2⟩ := rest_get (X.r.trans e)
    obtain ⟨m, g2, _⟩ := rest_get e2
    obtain ⟨v, hv, p, rfl, hp⟩ := paired_getl tt g2
    exact s_ret (ev_op (ev_op (ev_fld (ev_var rfl) ob T.cl_Reader T.n_Reader_tokens rf_tokens) (ev_op (ev_fld (ev_var rfl) ob T.cl_Reader T.n_Reader_at rf_at) ev_c rv_I0) (rv_ixL (sq_of tl) (at_of (j := i + 1) rfl hv))) ev_c (rv_ixT hp (at_of (j := 1) rfl rfl))) fun H1 e1 => q H1 e1
theorem ok_refuse (T : Txt w K mg fa fd cv) : FnOk P w K mg base CX0 1 (fa 23) (fd 23) ["self"] spNever := by
  exact T.d_Reader_refuse.F.ok sc_Reader_refuse (fun vs H Q E h => False.elim h) (fun cdv A outer s H vs Q E hr h => False.elim h)
theorem ok_read_number (T : Txt w K mg fa fd cv) : FnOk P w K mg base CX0 3 (fa 25) (fd 25) ["self", "sign"] (spReadNum K fa) := by
  have G_is_number := ok_is_number (P := P) (w := w) (base := base) T
  have G_Reader_token := ok_token (P := P) (w := w) (base := base) T
  have G_Reader_refuse := ok_refuse (P := P) (w := w) (base := base) T
  refine T.d_Reader_read_number.F.ok sc_Reader_read_number (fun vs H Q E h => ?_) (fun cdv A outer s H vs Q E hr h => ?_)
  · obtain ⟨_, _, _, _, _, _, _, _, _, _, rfl, _⟩ := h
    rfl
  · obtain ⟨H0, R, toks, i, t, r, x, bs, n, sg, rfl, X, hn, hi, nr, hs, q⟩ := h
    refine ⟨_, pss_cut (ps_if (pt_not (pt_val (pe_call G_is_number (by first | exact hr.mono (by decide) | exact hr.mono (by omega)) (by rfl) T.d_is_number.g T.d_is_number.k T.d_is_number.b .nil pass0 (pa_cons (pe_meth0 (pv 0) T.cl_Reader T.m_Reader_token G_Reader_token (by first | exact hr.mono (by decide) | exact hr.mono (by omega)) T.d_Reader_token.b .nil pass0) (pa_cons (pe_glob rfl T.c_MOST_DIGITS T.r_MOST_DIGITS) pa_nil))))) (pss_one (ps_expr (pe_meth0 (pv 0) T.cl_Reader T.m_Reader_refuse G_Reader_refuse (by first | exact hr.mono (by decide) | exact hr.mono (by omega)) T.d_Reader_refuse.b .nil pass0))) (pss_nil))
      (pss_cons (ps_expr (pe_bm PySem.F.plainAttrs_list PySem.F.slot_list_append PySem.F.type_list_append mt_append (pe_fld (pe_ix ix_list (pe_fld (pv 0) rfl) (pe_un un_neg pe_int) (fun _ _ => rfl)) rfl) (pa_cons (pe_op op_mul (pv 1) (pe_callTy call_int_str (by rfl) T.b_int PyProof.Rows.boot_int (pa_cons (pe_meth0 (pv 0) T.cl_Reader T.m_Reader_token G_Reader_token (by first | exact hr.mono (by decide) | exact hr.mono (by omega)) T.d_Reader_token.b .nil pass0) pa_nil))) pa_nil)))
      (pss_one (ps_fld (pv 0) (pe_op op_add (pe_fld (pv 0) rfl) pe_int) rfl))), ?_⟩
    obtain ⟨TL, BL, bas, A1⟩ := X.a
    obtain ⟨β, bas', rfl⟩ := A1.some_top
    obtain ⟨dx, w1⟩ := A1.view
    have ts : t.length ≤ 8 := X.short (by simp)
    refine q_cut (M := fun σ' H' => σ' = [some (.ref R), some (.int sg)] ∧ Ex H H') ?_ ?_
    · refine s_when (b := false) (et_is (et_not (et_B (ev_call (ea_cons (ev_meth (ev_var rfl) w1.ob rfl ea_nil (sp_tokR X rfl)) (ea_cons ev_c ea_nil)) (sp_num (m := 3) (by omega) _)))) (by rw [hn]; rfl)) (fun hb => nomatch hb) fun _ H1 e1 => ⟨rfl, e1⟩
    · rintro σ' H1 ⟨rfl, e1⟩
      obtain ⟨dy, bob⟩ := w1.br.ob
      obtain ⟨ws, hd, td⟩ := w1.br.dl
      have lw := td.len
      have sz := w1.br.sz
      have lt := X.lt
      have zt := X.z
      refine q_app (e1 _ _ hd) (ev_fld (ev_op (ev_fld (ev_var rfl) (e1 _ _ w1.ob) T.cl_Reader T.n_Reader_brackets rf_brackets) (ev_un ev_c ru_neg) (rv_ixL (sq_of (e1 _ _ w1.bl)) (atI_last _ _))) (e1 _ _ bob) T.cl_Bracket T.n_Bracket_operands bf_vals)
        (ev_op (ev_var rfl) (ev_cb (ea_cons (ev_meth (ev_var rfl) (e1 _ _ w1.ob) rfl ea_nil (sp_tokR (X.exx e1) rfl)) ea_nil) (rc_intS hi (by omega))) (rv_I (mul_small hs nr))) (by rw [List.length_reverse]; omega) fun H2 e2 => ?_
      have z1 := A1.val (j := i + 1) w1.ob hd td (e1.trans e2) (.int (sg * n)) (Ex.refl _) (Nat.lt_succ_self _)
      refine s_fld (ev_op (ev_fld (ev_var rfl) z1.1 T.cl_Reader T.n_Reader_at rf_at) ev_c rv_I0) (ev_var rfl) z1.1 T.cl_Reader T.n_Reader_at (by show 3 < 1000; decide) fun H3 e3 => ?_
      have z2 := A1.val (j := i + 1) w1.ob hd td (e1.trans e2) (.int (sg * n)) e3 (Nat.lt_succ_self _)
      exact q _ (X.next ⟨_, _, _, z2.2⟩)
theorem ok_read_atom (T : Txt w K mg fa fd cv) : FnOk P w K mg base CX0 4 (fa 26) (fd 26) ["self"] (spAtom K fa) := by
  have G_Reader_token := ok_token (P := P) (w := w) (base := base) T
  have G_is_name := ok_is_name (P := P) (w := w) (base := base) T
  have G_Reader_read_number := ok_read_number (P := P) (w := w) (base := base) T
  refine T.d_Reader_read_atom.F.ok sc_Reader_read_atom (fun vs H Q E h => ?_) (fun cdv A outer s H vs Q E hr h => ?_)
  · obtain ⟨_, _, _, _, _, _, _, _, _, rfl, _⟩ := h
    rfl
  · obtain ⟨H0, R, toks, i, rest, rest', x, x', bs, rfl, X, a, q⟩ := h
    refine ⟨_, pss_cons (ps_set (i := 1) sc_Reader_read_atom.nd rfl (Or.inl rfl) (pe_meth0 (pv 0) T.cl_Reader T.m_Reader_token G_Reader_token (by first | exact hr.mono (by decide) | exact hr.mono (by omega)) T.d_Reader_token.b .nil pass0))
      (pss_one (ps_if (pt_cmpR op_eq (pv 1) pe_str (nomark _)) (pss_cons (ps_fld (pv 0) (pe_op op_add (pe_fld (pv 0) rfl) pe_int) rfl)
      (pss_one (ps_expr (pe_meth (pv 0) T.cl_Reader T.m_Reader_read_number G_Reader_read_number (by first | exact hr.mono (by decide) | exact hr.mono (by omega)) T.d_Reader_read_number.b .nil pass0 (pa_cons (pe_un un_neg pe_int) pa_nil))))) (pss_one (ps_if (PW.pt (pw_or (pt_val (pe_call G_is_name (by first | exact hr.mono (by decide) | exact hr.mono (by omega)) (by rfl) T.d_is_name.g T.d_is_name.k T.d_is_name.b .nil pass0 (pa_cons (pv 1) pa_nil))) (pw_or1 (pt_cmpR op_in_seq (pv 1) (pe_glob rfl T.c_OWN_NAMES T.r_OWN_NAMES) (by rfl))))) (pss_cons (ps_expr (pe_bm PySem.F.plainAttrs_list PySem.F.slot_list_append PySem.F.type_list_append mt_append (pe_fld (pe_ix ix_list (pe_fld (pv 0) rfl) (pe_un un_neg pe_int) (fun _ _ => rfl)) rfl) (pa_cons (pv 1) pa_nil)))
      (pss_one (ps_fld (pv 0) (pe_op op_add (pe_fld (pv 0) rfl) pe_int) rfl))) (pss_one (ps_expr (pe_meth (pv 0) T.cl_Reader T.m_Reader_read_number G_Reader_read_number (by first | exact hr.mono (by decide) | exact hr.mono (by omega)) T.d_Reader_read_number.b .nil pass0 (pa_cons pe_int pa_nil)))))))), ?_⟩
    obtain ⟨TL, BL, bas, A1⟩ := X.a
    obtain ⟨β, bas', rfl⟩ := A1.some_top
    obtain ⟨dx, w1⟩ := A1.view
    cases a with
    | @neg t r x n hn hi nr =>
      refine q_asg (ev_meth (ev_var rfl) w1.ob rfl ea_nil (sp_tokR X rfl)) fun H1 e1 => ?_
      refine s_if (b := true) (et_is (et_test (ev_op (ev_var rfl) ev_c rv_eqS)) (by decide +kernel)) (fun _ H2 e2 => ?_) (fun hb => nomatch hb)
      have ob2 := e2 _ _ (e1 _ _ w1.ob)
      refine q_fld (ev_op (ev_fld (ev_var rfl) ob2 T.cl_Reader T.n_Reader_at rf_at) ev_c rv_I0) (ev_var rfl) ob2 T.cl_Reader T.n_Reader_at (by show 3 < 1000; decide) fun H3 e3 => ?_
      have A2 := A1.move (j := i + 1) w1.ob ((e1.trans e2).trans e3) (Nat.lt_succ_self _)
      have X2 := X.next ⟨_, _, _, A2⟩
      refine s_meth (vs := [.int (-1)]) (ev_var rfl) upd_same rfl (ea_cons (ev_un ev_c ru_neg) ea_nil) fun H4 e4 => ?_
      exact ⟨H0, R, toks, i + 1, t, _, _, bs, n, -1, rfl, X2.exx e4, hn, hi, nr, .inr rfl, fun H5 X5 => q (i + 1 + 1) H5 (by omega) X5⟩
    | @nm z r x hz ho =>
      have zs : z.length ≤ 8 := X.short (by simp)
      refine q_asg (ev_meth (ev_var rfl) w1.ob rfl ea_nil (sp_tokR X rfl)) fun H1 e1 => ?_
      refine s_if (b := false) (et_is (et_test (ev_op (ev_var rfl) ev_c rv_eqS)) (decide_eq_false hz)) (fun hb => nomatch hb) (fun _ H2 e2 => ?_)
      refine s_if (b := true) (et_is (et_or (et_B (ev_call (ea_cons (ev_var rfl) ea_nil) (sp_isname (by omega)))) (fun _ => et_test (ev_is (ev_op (ev_var rfl) ev_c (rv_isT (T.q_OWN_NAMES _) rfl (by decide +kernel))) (congrArg V.bl (inV_str z own4))))) ?_) (fun _ H3 e3 => ?_) (fun hb => nomatch hb)
      · rcases ho with h | h
        · rw [h]; rfl
        · rw [decide_eq_true h, Bool.or_true]
      have e13 := (e1.trans e2).trans e3
      obtain ⟨dy, bob⟩ := w1.br.ob
      obtain ⟨ws, hd, td⟩ := w1.br.dl
      have lw := td.len
      have sz := w1.br.sz
      have lt := X.lt
      have zt := X.z
      refine q_app (e13 _ _ hd) (ev_fld (ev_op (ev_fld (ev_var rfl) (e13 _ _ w1.ob) T.cl_Reader T.n_Reader_brackets rf_brackets) (ev_un ev_c ru_neg) (rv_ixL (sq_of (e13 _ _ w1.bl)) (atI_last _ _))) (e13 _ _ bob) T.cl_Bracket T.n_Bracket_operands bf_vals)
        (ev_var rfl) (by rw [List.length_reverse]; omega) fun H4 e4 => ?_
      have z1 := A1.val (j := i + 1) w1.ob hd td (e13.trans e4) (.nm z) (Ex.refl _) (Nat.lt_succ_self _)
      refine s_fld (ev_op (ev_fld (ev_var rfl) z1.1 T.cl_Reader T.n_Reader_at rf_at) ev_c rv_I0) (ev_var rfl) z1.1 T.cl_Reader T.n_Reader_at (by show 3 < 1000; decide) fun H5 e5 => ?_
      have z2 := A1.val (j := i + 1) w1.ob hd td (e13.trans e4) (.nm z) e5 (Nat.lt_succ_self _)
      exact q _ _ (Nat.lt_succ_self _) (X.next ⟨_, _, _, z2.2⟩)
    | @num t r x n hz hn1 hn2 hn hi nr =>
      have zs : t.length ≤ 8 := X.short (by simp)
      refine q_asg (ev_meth (ev_var rfl) w1.ob rfl ea_nil (sp_tokR X rfl)) fun H1 e1 => ?_
      refine s_if (b := false) (et_is (et_test (ev_op (ev_var rfl) ev_c rv_eqS)) (decide_eq_false hz)) (fun hb => nomatch hb) (fun _ H2 e2 => ?_)
      refine s_if (b := false) (et_is (et_or (et_B (ev_call (ea_cons (ev_var rfl) ea_nil) (sp_isname (by omega)))) (fun _ => et_test (ev_is (ev_op (ev_var rfl) ev_c (rv_isT (T.q_OWN_NAMES _) rfl (by decide +kernel))) (congrArg V.bl (inV_str t own4))))) ?_) (fun hb => nomatch hb) (fun _ H3 e3 => ?_)
      · rw [hn1, decide_eq_false hn2]
        rfl
      have e13 := (e1.trans e2).trans e3
      refine s_meth (vs := [.int 1]) (ev_var rfl) (e13 _ _ w1.ob) rfl (ea_cons ev_c ea_nil) fun H4 e4 => ?_
      exact ⟨H0, R, toks, i, t, _, _, bs, n, 1, rfl, X.exx (e13.trans e4), hn, hi, nr, .inl rfl, fun H5 X5 => q (i + 1) H5 (by omega) X5⟩
theorem ok_is_empty (T : Txt w K mg fa fd cv) : FnOk P w K mg base CX0 2 (fa 28) (fd 28) ["self"] (spEmpty K fa) := by
  have G_Reader_token := ok_token (P := P) (w := w) (base := base) T
  refine T.d_Reader_is_empty_call.F.ok sc_Reader_is_empty_call (fun vs H Q E h => ?_) (fun cdv A outer s H vs Q E hr h => ?_)
  · obtain ⟨_, _, _, _, _, _, _, rfl, _⟩ := h
    rfl
  · obtain ⟨H0, R, toks, i, rest, x, bs, rfl, X, q⟩ := h
    refine ⟨_, pss_cons (ps_set (i := 1) sc_Reader_is_empty_call.nd rfl (Or.inl rfl) (pe_ix ix_list (pe_fld (pv 0) rfl) (pe_un un_neg pe_int) (fun _ _ => rfl)))
      (pss_one (ps_ret (pe_and (pe_cmpR op_eq (pe_meth0 (pv 0) T.cl_Reader T.m_Reader_token G_Reader_token (by first | exact hr.mono (by decide) | exact hr.mono (by omega)) T.d_Reader_token.b .nil pass0) pe_str (nomark _)) (pe_and (pe_cmpR op_notN (pe_fld (pv 1) rfl) pe_non (nomark _)) (pe_one (pe_notT (pe_fld (pv 1) rfl))))))), ?_⟩
    obtain ⟨TL, BL, bas, A1⟩ := X.a
    obtain ⟨β, bas', rfl⟩ := A1.some_top
    obtain ⟨dx, w1⟩ := A1.view
    obtain ⟨dy, bob⟩ := w1.br.ob
    have bo := w1.br.ol
    obtain ⟨t, r, et⟩ : ∃ t r, rest ++ [("" : Str)] = t :: r := by
      cases rest with
      | nil => exact ⟨_, _, rfl⟩
      | cons a b => exact ⟨_, _, rfl⟩
    refine q_asg (ev_op (ev_fld (ev_var rfl) w1.ob T.cl_Reader T.n_Reader_brackets rf_brackets) (ev_un ev_c ru_neg) (rv_ixL (sq_of w1.bl) (atI_last _ _))) fun H1 e1 => ?_
    refine s_ret (ev_is (ev_andV (ev_op (ev_meth (ev_var rfl) (e1 _ _ w1.ob) rfl ea_nil (sp_tokR (X.exx e1) et)) ev_c rv_eqS) fun _ => ev_andV (ev_is (ev_op (ev_fld (ev_var rfl) (e1 _ _ bob) T.cl_Bracket T.n_Bracket_caller bf_caller) ev_c rv_notN) (notN_cvO _)) fun _ => ev_notL (K := K) (ev_fld (ev_var rfl) (e1 _ _ bob) T.cl_Bracket T.n_Bracket_operators bf_ops) (sq_of (e1 _ _ bo))) ?_) fun H2 e2 => q H2 (e1.trans e2)
    refine congrArg V.bl ?_
    have e3 : (x.ops.reverse.map V.str).isEmpty = x.ops.isEmpty := by simp
    rw [e3]
    cases rest with
    | nil =>
      cases et
      have : decide (("" : Str) = ")") = false := by decide +kernel
      rw [this]
      rfl
    | cons a b =>
      cases et
      rfl
theorem q_appMk {l C : Addr} {xs : List V} {c : Option Str} {E : XK} {ta te : TE} {tz : TS} {D : Ends} {σ : L2.St} {H : Hp} (hl : H l = some (.lst xs)) (ha : Ev ta σ H (.ref l)) (he : Ev te σ H (cvO c)) (hz : xs.length < 100000)
    (k : ∀ β H1, Kp K [β.b] H H1 → BrAt K C 0 H1 β ⟨c, [], [], []⟩ → (∀ a ∈ β.all, H a = none) → tz D σ (upd H1 l (.lst (xs ++ [.ref β.b])))) :
    tSeq (tDrop (tBM K "list" rAppend ta (tCons (tMake C (spBrInit K C) [] E (tCons te tNil)) tNil))) tz D σ H := ha H (Ex.refl H) _ fun H1 e1 =>
  ⟨Or.inl ⟨rfl, _, sq_of (e1 l _ hl)⟩, he H1 e1 _ fun H2 e2 => fun x dx hx hdx hne => ⟨x, dx, c, rfl, upd_same, fun β H3 eb B k3 f1 f2 f3 => ⟨rfl, by
    have hl2 := e2 _ _ (e1 l _ hl)
    have xl : x ≠ l := fun e => by rw [e, hl2] at hx; cases hx
    have e3 : Ex H2 (upd (upd H2 dx (.own x)) x (.ins C dx [])) := (Ex.new hdx).trans (Ex.new (by rw [upd_ne hne.symm]; exact hx))
    have e03 := (e1.trans e2).trans e3
    have hl3 : H3 l = some (.lst xs) := k3.k _ _ (e3 _ _ hl2) (by simp; exact xl.symm)
    refine ⟨l, xs, .ref x, rfl, rfl, hl3, sz_lt hz, ?_⟩
    have := k β H3 ((Kp.of e03).trans (by rw [eb]; exact k3)) B (fun a m => by
      simp [Ba.all] at m
      rcases m with rfl | rfl | rfl | rfl
      · rw [eb]; exact fresh_back (e1.trans e2) hx
      · exact fresh_back e03 f1
      · exact fresh_back e03 f2
      · exact fresh_back e03 f3)
    rw [eb] at this
    exact this⟩⟩⟩
theorem ok_opening (T : Txt w K mg fa fd cv) : FnOk P w K mg base CX0 4 (fa 27) (fd 27) ["self"] (spOpn K fa) := by
  have G_Reader_token := ok_token (P := P) (w := w) (base := base) T
  have G_Reader_next_token := ok_next (P := P) (w := w) (base := base) T
  have G_is_name := ok_is_name (P := P) (w := w) (base := base) T
  have G_Bracket_test_may_begin := ok_testB (P := P) (w := w) (base := base) T
  have G_Bracket___init__ := ok_br_init (P := P) (w := w) (base := base) T
  refine T.d_Reader_read_opening.F.ok sc_Reader_read_opening (fun vs H Q E h => ?_) (fun cdv A outer s H vs Q E hr h => ?_)
  · obtain ⟨_, _, _, _, _, _, _, rfl, _⟩ := h
    rfl
  · obtain ⟨H0, R, toks, i, rest, x, bs, rfl, X, q⟩ := h
    refine ⟨_, pss_cons (ps_set (i := 1) sc_Reader_read_opening.nd rfl (Or.inl rfl) (pe_meth0 (pv 0) T.cl_Reader T.m_Reader_token G_Reader_token (by first | exact hr.mono (by decide) | exact hr.mono (by omega)) T.d_Reader_token.b .nil pass0))
      (pss_cut (ps_if (PW.pt (pw_and (pt_cmpR op_eq (pv 1) pe_str (nomark _)) (pw_and1 (pt_val (pe_meth0 (pe_ix ix_list (pe_fld (pv 0) rfl) (pe_un un_neg pe_int) (fun _ _ => rfl)) T.cl_Bracket T.m_Bracket_test_may_begin G_Bracket_test_may_begin (by first | exact hr.mono (by decide) | exact hr.mono (by omega)) T.d_Bracket_test_may_begin.b .nil pass0))))) (pss_cons (ps_expr (pe_bm PySem.F.plainAttrs_list PySem.F.slot_list_append PySem.F.type_list_append mt_append (pe_fld (pe_ix ix_list (pe_fld (pv 0) rfl) (pe_un un_neg pe_int) (fun _ _ => rfl)) rfl) (pa_cons pe_str pa_nil)))
      (pss_one (ps_fld (pv 0) (pe_op op_add (pe_fld (pv 0) rfl) pe_int) rfl))) (pss_one (ps_if (pt_cmpR op_eq (pv 1) pe_str (nomark _)) (pss_cons (ps_expr (pe_bm PySem.F.plainAttrs_list PySem.F.slot_list_append PySem.F.type_list_append mt_append (pe_fld (pv 0) rfl) (pa_cons (pe_make T.mk_Bracket G_Bracket___init__ (by first | exact hr.mono (by decide) | exact hr.mono (by omega)) (by rfl) T.g_Bracket T.d_Bracket___init__.b .nil pass0 (pa_cons pe_non pa_nil)) pa_nil)))
      (pss_one (ps_fld (pv 0) (pe_op op_add (pe_fld (pv 0) rfl) pe_int) rfl))) (pss_one (ps_if (PW.pt (pw_and (pt_val (pe_call G_is_name (by first | exact hr.mono (by decide) | exact hr.mono (by omega)) (by rfl) T.d_is_name.g T.d_is_name.k T.d_is_name.b .nil pass0 (pa_cons (pv 1) pa_nil))) (pw_and1 (pt_cmpR op_eq (pe_meth0 (pv 0) T.cl_Reader T.m_Reader_next_token G_Reader_next_token (by first | exact hr.mono (by decide) | exact hr.mono (by omega)) T.d_Reader_next_token.b .nil pass0) pe_str (nomark _))))) (pss_cons (ps_expr (pe_bm PySem.F.plainAttrs_list PySem.F.slot_list_append PySem.F.type_list_append mt_append (pe_fld (pv 0) rfl) (pa_cons (pe_make T.mk_Bracket G_Bracket___init__ (by first | exact hr.mono (by decide) | exact hr.mono (by omega)) (by rfl) T.g_Bracket T.d_Bracket___init__.b .nil pass0 (pa_cons (pv 1) pa_nil)) pa_nil)))
      (pss_one (ps_fld (pv 0) (pe_op op_add (pe_fld (pv 0) rfl) pe_int) rfl))) (pss_one (ps_ret pe_bl)))))))
      (pss_one (ps_ret pe_bl))), ?_⟩
    obtain ⟨TL, BL, bas, A1⟩ := X.a
    obtain ⟨β, bas', rfl⟩ := A1.some_top
    obtain ⟨dx, w1⟩ := A1.view
    have lt := X.lt
    have zt := X.z
    have sz := A1.sz
    have bl := A1.bl
    have lb : ((β :: bas').reverse.map fun β => V.ref β.b).length < 100000 := by
      have := paired_len A1.brs
      rw [List.length_map, List.length_reverse]
      omega
    have evT : ∀ (y : V) H1, Ex H H1 → Ev (tOp (rIxL K) (tFld K (tVar 0) "brackets") (tUn (rU fun i => .int (-i)) (tC (.int 1)))) [some (.ref R), some y] H1 (.ref β.b) := fun y H1 e => ev_op (ev_fld (ev_var rfl) (e _ _ w1.ob) T.cl_Reader T.n_Reader_brackets rf_brackets) (ev_un ev_c ru_neg) (rv_ixL (sq_of (e _ _ w1.bl)) (atI_last _ _))
    rcases q with ⟨rest', y, bs', o, q⟩ | ⟨⟨t, r, rfl, n1, n2, n3⟩, q⟩
    · cases o with
      | nt hm =>
        refine q_asg (ev_meth (ev_var rfl) w1.ob rfl ea_nil (sp_tokR X rfl)) fun H1 e1 => ?_
        refine q_cut (M := fun σ' H' => σ' = [some (.ref R), some (.str "not")] ∧ RX K fa H0 H' R toks (i + 1) rest' ({ x with ops := "not" :: x.ops } :: bs)) ?_ (fun σ' H' ⟨hσ, X'⟩ => by subst hσ; exact s_ret ev_c fun H9 e9 => q _ _ (Nat.lt_succ_self _) (X'.exx e9))
        obtain ⟨dy, bob⟩ := w1.br.ob
        have bo := w1.br.ol
        have so := w1.br.sz.2.1
        refine s_if (b := true) (et_is (et_and (et_test (ev_op (ev_var rfl) ev_c rv_eqS)) fun _ => et_B (ev_meth (evT _ _ e1) (e1 _ _ bob) rfl ea_nil (sp_testB (w1.br.ex e1)))) (by rw [hm]; decide +kernel)) (fun _ H2 e2 => ?_) (fun hb => nomatch hb)
        have e12 := e1.trans e2
        refine q_app (e12 _ _ bo) (ev_fld (evT _ _ e12) (e12 _ _ bob) T.cl_Bracket T.n_Bracket_operators bf_ops) ev_c (by rw [List.length_map, List.length_reverse]; omega) fun H3 e3 => ?_
        have z1 := A1.opr (j := i + 1) (o := "not") w1.ob (by simp [ops14]) (e12.trans e3) (Ex.refl _) (Nat.lt_succ_self _)
        refine s_fld (ev_op (ev_fld (ev_var rfl) z1.1 T.cl_Reader T.n_Reader_at rf_at) ev_c rv_I0) (ev_var rfl) z1.1 T.cl_Reader T.n_Reader_at (by show 3 < 1000; decide) fun H4 e4 => ?_
        have z2 := A1.opr (j := i + 1) (o := "not") w1.ob (by simp [ops14]) (e12.trans e3) e4 (Nat.lt_succ_self _)
        exact ⟨rfl, X.next ⟨_, _, _, z2.2⟩⟩
      | br =>
        refine q_asg (ev_meth (ev_var rfl) w1.ob rfl ea_nil (sp_tokR X rfl)) fun H1 e1 => ?_
        refine q_cut (M := fun σ' H' => σ' = [some (.ref R), some (.str "(")] ∧ RX K fa H0 H' R toks (i + 1) rest' (⟨none, [], [], []⟩ :: x :: bs)) ?_ (fun σ' H' ⟨hσ, X'⟩ => by subst hσ; exact s_ret ev_c fun H9 e9 => q _ _ (Nat.lt_succ_self _) (X'.exx e9))
        refine s_if (b := false) (et_is (et_andF (et_is (et_test (ev_op (ev_var rfl) ev_c rv_eqS)) (by decide +kernel))) rfl) (fun hb => nomatch hb) (fun _ H2 e2 => ?_)
        refine s_if (b := true) (et_is (et_test (ev_op (ev_var rfl) ev_c rv_eqS)) (by decide +kernel)) (fun _ H3 e3 => ?_) (fun hb => nomatch hb)
        have e13 := (e1.trans e2).trans e3
        refine q_appMk (c := none) (e13 _ _ bl) (ev_fld (ev_var rfl) (e13 _ _ w1.ob) T.cl_Reader T.n_Reader_brackets rf_brackets) ev_c lb fun β' H4 k4 B4 f4 => ?_
        have f40 : ∀ a ∈ β'.all, H a = none := fun a m => fresh_back e13 (f4 a m)
        have z1 := A1.open_ (j := i + 1) w1.ob ((Kp.of e13).trans k4) B4 f40 (Ex.refl _) (Nat.lt_succ_self _)
        refine s_fld (ev_op (ev_fld (ev_var rfl) z1.1 T.cl_Reader T.n_Reader_at rf_at) ev_c rv_I0) (ev_var rfl) z1.1 T.cl_Reader T.n_Reader_at (by show 3 < 1000; decide) fun H5 e5 => ?_
        have z2 := A1.open_ (j := i + 1) w1.ob ((Kp.of e13).trans k4) B4 f40 e5 (Nat.lt_succ_self _)
        exact ⟨rfl, X.next ⟨_, _, _, z2.2⟩⟩
      | @call z r _ hz1 hz2 hz3 =>
        have zs : z.length ≤ 8 := X.short (by simp)
        refine q_asg (ev_meth (ev_var rfl) w1.ob rfl ea_nil (sp_tokR X rfl)) fun H1 e1 => ?_
        refine q_cut (M := fun σ' H' => σ' = [some (.ref R), some (.str z)] ∧ RX K fa H0 H' R toks (i + 2) rest' (⟨some z, [], [], []⟩ :: x :: bs)) ?_ (fun σ' H' ⟨hσ, X'⟩ => by subst hσ; exact s_ret ev_c fun H9 e9 => q (i + 2) _ (by omega) (X'.exx e9))
        refine s_if (b := false) (et_is (et_andF (et_is (et_test (ev_op (ev_var rfl) ev_c rv_eqS)) (decide_eq_false hz1))) rfl) (fun hb => nomatch hb) (fun _ H2 e2 => ?_)
        refine s_if (b := false) (et_is (et_test (ev_op (ev_var rfl) ev_c rv_eqS)) (decide_eq_false hz2)) (fun hb => nomatch hb) (fun _ H3 e3 => ?_)
        have e13 := (e1.trans e2).trans e3
        refine s_if (b := true) (et_is (et_and (et_B (ev_call (ea_cons (ev_var rfl) ea_nil) (sp_isname (by omega)))) fun _ => et_test (ev_op (ev_meth (ev_var rfl) (e13 _ _ w1.ob) rfl ea_nil (sp_nextR (X.exx e13) rfl)) ev_c rv_eqS)) (by rw [hz3]; decide +kernel)) (fun _ H4 e4 => ?_) (fun hb => nomatch hb)
        have e14 := e13.trans e4
        refine q_appMk (c := some z) (e14 _ _ bl) (ev_fld (ev_var rfl) (e14 _ _ w1.ob) T.cl_Reader T.n_Reader_brackets rf_brackets) (ev_var rfl) lb fun β' H5 k5 B5 f5 => ?_
        have f50 : ∀ a ∈ β'.all, H a = none := fun a m => fresh_back e14 (f5 a m)
        have z1 := A1.open_ (j := i + 2) w1.ob ((Kp.of e14).trans k5) B5 f50 (Ex.refl _) (by omega)
        refine s_fld (ev_op (ev_fld (ev_var rfl) z1.1 T.cl_Reader T.n_Reader_at rf_at) ev_c rv_I0) (ev_var rfl) z1.1 T.cl_Reader T.n_Reader_at (by show 3 < 1000; decide) fun H6 e6 => ?_
        have z2 := A1.open_ (j := i + 2) w1.ob ((Kp.of e14).trans k5) B5 f50 e6 (by omega)
        exact ⟨rfl, X.next2 ⟨_, _, _, z2.2⟩⟩
    · have zs : t.length ≤ 8 := X.short (by simp)
      refine q_asg (ev_meth (ev_var rfl) w1.ob rfl ea_nil (sp_tokR X rfl)) fun H1 e1 => ?_
      refine q_cut (M := fun _ _ => False) ?_ (fun σ' H' h => h.elim)
      refine s_if (b := false) (et_is (et_andF (et_is (et_test (ev_op (ev_var rfl) ev_c rv_eqS)) (decide_eq_false n1))) rfl) (fun hb => nomatch hb) (fun _ H2 e2 => ?_)
      refine s_if (b := false) (et_is (et_test (ev_op (ev_var rfl) ev_c rv_eqS)) (decide_eq_false n2)) (fun hb => nomatch hb) (fun _ H3 e3 => ?_)
      have e13 := (e1.trans e2).trans e3
      have fin : ∀ H4, Ex H3 H4 → Q (.bl false) H4 := fun H4 e4 => q _ (X.exx (e13.trans e4))
      cases hn : isName t with
      | false =>
        exact s_if (b := false) (et_is (et_andF (et_is (et_B (ev_call (ea_cons (ev_var rfl) ea_nil) (sp_isname (by omega)))) hn)) rfl) (fun hb => nomatch hb) (fun _ H4 e4 => s_ret ev_c fun H5 e5 => fin _ (e4.trans e5))
      | true =>
        obtain ⟨u, s', eu, nu⟩ := n3 hn
        exact s_if (b := false) (et_is (et_and (et_B (ev_call (ea_cons (ev_var rfl) ea_nil) (sp_isname (by omega)))) fun _ => et_test (ev_op (ev_meth (ev_var rfl) (e13 _ _ w1.ob) rfl ea_nil (sp_nextR (X.exx e13) (by show t :: (r ++ [("" : Str)]) = _; rw [eu]))) ev_c rv_eqS)) (by rw [decide_eq_false nu, Bool.and_false])) (fun hb => nomatch hb) (fun _ H4 e4 => s_ret ev_c fun H5 e5 => fin _ (e4.trans e5))
theorem ok_operand (T : Txt w K mg fa fd cv) : FnOk P w K mg base CX0 5 (fa 29) (fd 29) ["self"] (spOpd K fa) := by
  have G_Reader_read_opening := ok_opening (P := P) (w := w) (base := base) T
  have G_Reader_is_empty_call := ok_is_empty (P := P) (w := w) (base := base) T
  have G_Reader_read_atom := ok_read_atom (P := P) (w := w) (base := base) T
  refine T.d_Reader_read_operand.F.ok sc_Reader_read_operand (fun vs H Q E h => ?_) (fun cdv A outer s H vs Q E hr h => ?_)
  · obtain ⟨_, _, _, _, _, _, _, _, _, rfl, _⟩ := h
    rfl
  · obtain ⟨H0, R, toks, i, rest, rest', bs, bs', x', rfl, X, ne, o, q⟩ := h
    refine ⟨_, pss_cons (ps_while PassesOwn.never (pt_val (pe_meth0 (pv 0) T.cl_Reader T.m_Reader_read_opening G_Reader_read_opening (by first | exact hr.mono (by decide) | exact hr.mono (by omega)) T.d_Reader_read_opening.b .nil pass0)) (pss_one (ps_if (pt_val (pe_meth0 (pv 0) T.cl_Reader T.m_Reader_is_empty_call G_Reader_is_empty_call (by first | exact hr.mono (by decide) | exact hr.mono (by omega)) T.d_Reader_is_empty_call.b .nil pass0)) (pss_one (ps_retN)) (pss_nil))))
      (pss_one (ps_expr (pe_meth0 (pv 0) T.cl_Reader T.m_Reader_read_atom G_Reader_read_atom (by first | exact hr.mono (by decide) | exact hr.mono (by omega)) T.d_Reader_read_atom.b .nil pass0))), ?_⟩
    obtain ⟨x, bs0, rfl⟩ : ∃ x bs0, bs = x :: bs0 := by
      cases bs with
      | nil => exact absurd rfl ne
      | cons a b => exact ⟨a, b, rfl⟩
    refine q_whileR (fun m σ' H' => ∃ (j : Nat) (rest1 : List Str) (y : Br) (bs1 : List Br), σ' = [some (.ref R)] ∧ RX K fa H0 H' R toks j rest1 (y :: bs1) ∧ Opd rest1 (y :: bs1) rest' x' bs' ∧ i ≤ j ∧ m = toks.length - j) (toks.length - i) ⟨i, rest, x, bs0, rfl, X, o, Nat.le_refl _, rfl⟩ ?_
    rintro m σ' H' ⟨j, rest1, y, bs1, rfl, X1, o1, hij, rfl⟩
    obtain ⟨TL, BL, bas, A1⟩ := X1.a
    obtain ⟨dx, ob⟩ := A1.ob
    cases o1 with
    | atom hn ha =>
      refine tb_meth (ev_var rfl) ob rfl fun H1 e1 => ⟨H0, R, toks, j, rest1, y, _, rfl, X1.exx e1, .inr ⟨hn, fun H2 X2 => ⟨false, rfl, ?_⟩⟩⟩
      rw [if_neg (by decide)]
      obtain ⟨TL2, BL2, bas2, A2⟩ := X2.a
      obtain ⟨dx2, ob2⟩ := A2.ob
      exact s_meth (vs := []) (ev_var rfl) ob2 rfl ea_nil fun H3 e3 => ⟨H0, R, toks, j, rest1, rest', y, x', _, rfl, X2.exx e3, ha, fun k H4 hk X4 => q k H4 (by omega) X4⟩
    | step hp he ho =>
      refine tb_meth (ev_var rfl) ob rfl fun H1 e1 => ⟨H0, R, toks, j, rest1, y, bs1, rfl, X1.exx e1, .inl ⟨_, _, _, hp, fun k H2 hk X2 => ⟨true, rfl, ?_⟩⟩⟩
      rw [if_pos rfl]
      refine ⟨_, fun _ _ h => h, ?_⟩
      obtain ⟨TL2, BL2, bas2, A2⟩ := X2.a
      obtain ⟨dx2, ob2⟩ := A2.ob
      have lt := X1.lt
      exact s_when (b := false) (et_is (et_B (ev_meth (ev_var rfl) ob2 rfl ea_nil (fun H3 e3 Q3 q3 E3 => ⟨H0, R, toks, k, _, _, _, rfl, X2.exx e3, fun H4 e4 => q3 H4 e4⟩))) he) (fun hb => nomatch hb) fun _ H3 e3 => ⟨toks.length - k, by omega, k, _, _, _, rfl, X2.exx e3, ho, by omega, rfl⟩
    | empty hp he =>
      refine tb_meth (ev_var rfl) ob rfl fun H1 e1 => ⟨H0, R, toks, j, rest1, y, bs1, rfl, X1.exx e1, .inl ⟨_, _, _, hp, fun k H2 hk X2 => ⟨true, rfl, ?_⟩⟩⟩
      rw [if_pos rfl]
      refine ⟨fun _ _ => False, fun _ _ h => h.elim, ?_⟩
      obtain ⟨TL2, BL2, bas2, A2⟩ := X2.a
      obtain ⟨dx2, ob2⟩ := A2.ob
      exact s_when (b := true) (et_is (et_B (ev_meth (ev_var rfl) ob2 rfl ea_nil (fun H3 e3 Q3 q3 E3 => ⟨H0, R, toks, k, _, _, _, rfl, X2.exx e3, fun H4 e4 => q3 H4 e4⟩))) he) (fun _ H3 e3 => q k H3 (by omega) (X2.exx e3)) (fun hb => nomatch hb)
theorem ok_close (T : Txt w K mg fa fd cv) : FnOk P w K mg base CX0 3 (fa 24) (fd 24) ["self"] (spClose K fa) := by
  have G_Bracket_whole := ok_wholeB (P := P) (w := w) (base := base) T
  refine T.d_Reader_close_bracket.F.ok sc_Reader_close_bracket (fun vs H Q E h => ?_) (fun cdv A outer s H vs Q E hr h => ?_)
  · obtain ⟨_, _, _, _, _, _, _, _, _, _, rfl, _⟩ := h
    rfl
  · obtain ⟨H0, R, toks, i, t, r, x, y, bs, e, rfl, X, hw, q⟩ := h
    refine ⟨_, pss_cons (ps_set (i := 1) sc_Reader_close_bracket.nd rfl (Or.inl rfl) (pe_bm0 PySem.F.plainAttrs_list PySem.F.slot_list_pop PySem.F.type_list_pop mt_pop (pe_fld (pv 0) rfl)))
      (pss_cons (ps_expr (pe_bm PySem.F.plainAttrs_list PySem.F.slot_list_append PySem.F.type_list_append mt_append (pe_fld (pe_ix ix_list (pe_fld (pv 0) rfl) (pe_un un_neg pe_int) (fun _ _ => rfl)) rfl) (pa_cons (pe_meth0 (pv 1) T.cl_Bracket T.m_Bracket_whole G_Bracket_whole (by first | exact hr.mono (by decide) | exact hr.mono (by omega)) T.d_Bracket_whole.b .nil pass0) pa_nil)))
      (pss_one (ps_fld (pv 0) (pe_op op_add (pe_fld (pv 0) rfl) pe_int) rfl))), ?_⟩
    obtain ⟨TL, BL, bas, A1⟩ := X.a
    obtain ⟨β, bas', rfl⟩ := A1.some_top
    obtain ⟨dx, w1⟩ := A1.view
    obtain ⟨β2, bas2, rfl⟩ : ∃ β2 bas2, bas' = β2 :: bas2 := by
      cases A1.brs with
      | cons b0 r0 => cases r0 with
        | cons b r => exact ⟨_, _, rfl⟩
    obtain ⟨dy, bob2, dl2⟩ : ∃ dy, H β2.b = some (.ins (fa 200) dy (bf (cvO y.caller) β2.al β2.ol β2.dl)) ∧ ∃ ws, H β2.dl = some (.lst ws.reverse) ∧ TrsAt K H ws y.vals ∧ y.vals.length ≤ i := by
      cases A1.brs with
      | cons b0 r0 => cases r0 with
        | cons b r =>
          obtain ⟨dy, bob⟩ := b.ob
          obtain ⟨ws, hd, td⟩ := b.dl
          exact ⟨dy, bob, ws, hd, td, b.sz.2.2⟩
    obtain ⟨ws, hd, td, zy⟩ := dl2
    have lw := td.len
    have lt := X.lt
    have zt := X.z
    have nd := A1.nd
    unfold owned at nd
    rw [List.flatMap_cons, List.flatMap_cons] at nd
    obtain ⟨a1, nd1⟩ := List.nodup_cons.mp nd
    obtain ⟨a2, nd2⟩ := List.nodup_cons.mp nd1
    obtain ⟨a3, nd3⟩ := List.nodup_cons.mp nd2
    obtain ⟨na, nb, nab⟩ := List.nodup_append.mp nd3
    simp only [List.mem_cons, List.mem_append, not_or] at a1 a2 a3
    have n12 : ∀ a ∈ β2.all, a ∉ β.all := fun a m m2 => nab a m2 a (List.mem_append.mpr (.inl m)) rfl
    -- bracket = self.brackets.pop()
    refine q_pop w1.bl (ev_fld (ev_var rfl) w1.ob T.cl_Reader T.n_Reader_brackets rf_brackets) fun H1 e1 => ?_
    have k0 : Kp K [BL] H (upd H1 BL (.lst ((β2 :: bas2).reverse.map fun β => V.ref β.b))) := (Kp.of e1).trans (Kp.updL (e1 _ _ w1.bl) (by simp))
    have hB1' : (upd H1 BL (.lst ((β2 :: bas2).reverse.map fun β => V.ref β.b))) BL = some (.lst ((β2 :: bas2).reverse.map fun β => V.ref β.b)) := upd_same
    generalize (upd H1 BL (.lst ((β2 :: bas2).reverse.map fun β => V.ref β.b))) = G1 at *
    have hB1 : G1 BL = some (.lst ((bas2.reverse.map fun β => V.ref β.b) ++ [.ref β2.b])) := by rw [hB1', List.reverse_cons, List.map_append]; rfl
    have m2b : β2.b ∈ β2.all := by simp [Ba.all]
    have m2d : β2.dl ∈ β2.all := by simp [Ba.all]
    have nB2 : ∀ a ∈ β2.all, a ≠ BL := fun a m e => a3.2.1 (e ▸ m)
    have ob1 := k0.k _ _ w1.ob (by simp; exact a1.2.1)
    have bob1 := k0.k _ _ bob2 (by simp; exact nB2 _ m2b)
    have hd1 := k0.k _ _ hd (by simp; exact nB2 _ m2d)
    have B1 : BrAt K (fa 200) i G1 β x := w1.br.keep k0 (fun a m => by simp; exact fun e => w1.nB (e ▸ m)) (Nat.le_refl _)
    obtain ⟨dz, zob⟩ := B1.ob
    -- self.brackets[-1].operands.append(bracket.whole())
    refine q_appM hd1 (ev_fld (ev_op (ev_fld (ev_var rfl) ob1 T.cl_Reader T.n_Reader_brackets rf_brackets) (ev_un ev_c ru_neg) (rv_ixL (sq_of hB1) (atI_last _ _))) bob1 T.cl_Bracket T.n_Bracket_operands bf_vals) (ev_var rfl) zob rfl (by rw [List.length_reverse]; omega) (fun H2 e2 => ⟨β, x, i, e, rfl, B1.ex e2, by omega, hw, fun v H3 tv k3 => ?_⟩)
      (fun H2 Q1 Q2 hq ⟨β', x', n', e', h1, h2, h3, h4, h5⟩ => ⟨β', x', n', e', h1, h2, h3, h4, fun v H3 a b => hq _ _ (h5 v H3 a b)⟩)
    have mol : β.ol ∈ β.all := by simp [Ba.all]
    have mdl : β.dl ∈ β.all := by simp [Ba.all]
    have k13 : Kp K [β.ol, β.dl] G1 H3 := (Kp.of e2).trans k3
    have k03 : Kp K (BL :: β.all) H H3 := (k0.mono (by simp)).trans (k13.mono (fun a m => by
      simp only [List.mem_cons, List.not_mem_nil, or_false] at m
      rcases m with rfl | rfl
      · exact List.mem_cons_of_mem _ mol
      · exact List.mem_cons_of_mem _ mdl))
    have hB3 : H3 BL = some (.lst ((β2 :: bas2).reverse.map fun β => V.ref β.b)) := k13.k _ _ hB1' (by simp only [List.mem_cons, List.not_mem_nil, or_false, not_or]; exact ⟨fun e => w1.nB (e ▸ mol), fun e => w1.nB (e ▸ mdl)⟩)
    obtain ⟨c1, c2, _⟩ := A1.close_ (j := i + 1) w1.ob k03 hB3 hd td tv (Ex.refl _) (Nat.lt_succ_self _)
    refine ⟨c1, ?_⟩
    refine s_fld (ev_op (ev_fld (ev_var rfl) c2 T.cl_Reader T.n_Reader_at rf_at) ev_c rv_I0) (ev_var rfl) c2 T.cl_Reader T.n_Reader_at (by show 3 < 1000; decide) fun H4 e4 => ?_
    obtain ⟨_, _, c3⟩ := A1.close_ (j := i + 1) w1.ob k03 hB3 hd td tv e4 (Nat.lt_succ_self _)
    exact q _ (X.next ⟨_, _, _, c3⟩)
theorem rv_notInD {z : Str} {a : Addr} {d : List (Str × V)} {v : V} {H : Hp} (D : DctOk K w a d) (h : d.lookup z = some v) : RV (fun x y H Q => ∃ (z : Str) (r : Option Value), x = .str z ∧ y = .ref a ∧ PySem.W.nsIn K a z = some r ∧ Q (.bl (!r.isSome)) H) (.str z) (.ref a) H (.bl false) := fun H1 _ Q q => by
  obtain ⟨u, h1, h2⟩ := D.get z v h
  exact ⟨z, some u, rfl, rfl, h1, q H1 (Ex.refl H1)⟩
theorem ok_operator (T : Txt w K mg fa fd cv) : FnOk P w K mg base CX0 4 (fa 30) (fd 30) ["self"] (spOptr K fa) := by
  have G_Reader_token := ok_token (P := P) (w := w) (base := base) T
  have G_Reader_refuse := ok_refuse (P := P) (w := w) (base := base) T
  have G_Bracket_end_argument := ok_endB (P := P) (w := w) (base := base) T
  have G_Bracket_compares := ok_cmpB (P := P) (w := w) (base := base) T
  have G_Bracket_fold := ok_foldB (P := P) (w := w) (base := base) T
  refine T.d_Reader_read_operator.F.ok sc_Reader_read_operator (fun vs H Q E h => ?_) (fun cdv A outer s H vs Q E hr h => ?_)
  · obtain ⟨_, _, _, _, _, _, _, _, _, rfl, _⟩ := h
    rfl
  · obtain ⟨H0, R, toks, i, rest, rest', x, x', bs, rfl, X, o, q⟩ := h
    refine ⟨_, pss_cons (ps_set (i := 1) sc_Reader_read_operator.nd rfl (Or.inl rfl) (pe_meth0 (pv 0) T.cl_Reader T.m_Reader_token G_Reader_token (by first | exact hr.mono (by decide) | exact hr.mono (by omega)) T.d_Reader_token.b .nil pass0))
      (pss_cons (ps_set (i := 2) sc_Reader_read_operator.nd rfl (Or.inl rfl) (pe_ix ix_list (pe_fld (pv 0) rfl) (pe_un un_neg pe_int) (fun _ _ => rfl)))
      (pss_cut (ps_if (pt_cmpR op_eq (pv 1) pe_str (nomark _)) (pss_cut (ps_if (PW.pt (pw_or (pt_cmpR op_isN (pe_fld (pv 2) rfl) pe_non (nomark _)) (pw_or1 (pt_cmpR op_eq (pe_callB call_len_seq (by rfl) T.b_len PySem.boot_len (pa_cons (pe_fld (pv 2) rfl) pa_nil)) (pe_op op_sub (pe_glob rfl T.c_MOST_ARGUMENTS T.r_MOST_ARGUMENTS) pe_int) (nomark _))))) (pss_one (ps_expr (pe_meth0 (pv 0) T.cl_Reader T.m_Reader_refuse G_Reader_refuse (by first | exact hr.mono (by decide) | exact hr.mono (by omega)) T.d_Reader_refuse.b .nil pass0))) (pss_nil))
      (pss_one (ps_expr (pe_meth0 (pv 2) T.cl_Bracket T.m_Bracket_end_argument G_Bracket_end_argument (by first | exact hr.mono (by decide) | exact hr.mono (by omega)) T.d_Bracket_end_argument.b .nil pass0)))) (pss_cut (ps_if (PW.pt (pw_or (pt_cmpR (op_notIn_kd T.q_LEVELS.at_.choose_spec.choose_spec) (pv 1) (pe_glob rfl T.c_LEVELS T.r_LEVELS) (by rfl)) (pw_or1 (pt_cmpR op_eq (pv 1) pe_str (nomark _))))) (pss_one (ps_expr (pe_meth0 (pv 0) T.cl_Reader T.m_Reader_refuse G_Reader_refuse (by first | exact hr.mono (by decide) | exact hr.mono (by omega)) T.d_Reader_refuse.b .nil pass0))) (pss_nil))
      (pss_cut (ps_if (PW.pt (pw_and (pt_cmpR op_eq (pe_ix (r := rIxD K w) (by exact ix_kdict) (pe_glob rfl T.c_LEVELS T.r_LEVELS) (pv 1) (fun _ _ => rfl)) (pe_glob rfl T.c_COMPARISON_LEVEL T.r_COMPARISON_LEVEL) (nomark _)) (pw_and1 (pt_val (pe_meth0 (pv 2) T.cl_Bracket T.m_Bracket_compares G_Bracket_compares (by first | exact hr.mono (by decide) | exact hr.mono (by omega)) T.d_Bracket_compares.b .nil pass0))))) (pss_one (ps_expr (pe_meth0 (pv 0) T.cl_Reader T.m_Reader_refuse G_Reader_refuse (by first | exact hr.mono (by decide) | exact hr.mono (by omega)) T.d_Reader_refuse.b .nil pass0))) (pss_nil))
      (pss_cons (ps_expr (pe_meth (pv 2) T.cl_Bracket T.m_Bracket_fold G_Bracket_fold (by first | exact hr.mono (by decide) | exact hr.mono (by omega)) T.d_Bracket_fold.b .nil pass0 (pa_cons (pe_ix (r := rIxD K w) (by exact ix_kdict) (pe_glob rfl T.c_LEVELS T.r_LEVELS) (pv 1) (fun _ _ => rfl)) pa_nil)))
      (pss_one (ps_expr (pe_bm PySem.F.plainAttrs_list PySem.F.slot_list_append PySem.F.type_list_append mt_append (pe_fld (pv 2) rfl) (pa_cons (pv 1) pa_nil))))))))
      (pss_one (ps_fld (pv 0) (pe_op op_add (pe_fld (pv 0) rfl) pe_int) rfl)))), ?_⟩
    obtain ⟨TL, BL, bas, A1⟩ := X.a
    obtain ⟨β, bas', rfl⟩ := A1.some_top
    obtain ⟨dx, w1⟩ := A1.view
    obtain ⟨dy, bob⟩ := w1.br.ob
    have lt := X.lt
    have zt := X.z
    have mal : β.al ∈ β.all := by simp [Ba.all]
    have mol : β.ol ∈ β.all := by simp [Ba.all]
    have mdl : β.dl ∈ β.all := by simp [Ba.all]
    have evB : ∀ H1, Ex H H1 → ∀ y, Ev (tOp (rIxL K) (tFld K (tVar 0) "brackets") (tUn (rU fun i => .int (-i)) (tC (.int 1)))) [some (.ref R), some y, none] H1 (.ref β.b) := fun H1 e y => ev_op (ev_fld (ev_var rfl) (e _ _ w1.ob) T.cl_Reader T.n_Reader_brackets rf_brackets) (ev_un ev_c ru_neg) (rv_ixL (sq_of (e _ _ w1.bl)) (atI_last _ _))
    cases o with
    | @comma r x e ops' vals' hc ha hf =>
      refine q_asg (ev_meth (ev_var rfl) w1.ob rfl ea_nil (sp_tokR X rfl)) fun H1 e1 => ?_
      refine q_asg (evB H1 e1 _) fun H2 e2 => ?_
      have e12 := e1.trans e2
      obtain ⟨us, hal, ta⟩ := w1.br.al
      refine q_cut (M := fun σ' H' => σ' = [some (.ref R), some (.str ","), some (.ref β.b)] ∧ ∃ G, Ex G H' ∧ BrAt K (fa 200) (i + 1) G β { x with ops := ops', vals := vals', args := x.args ++ [e] } ∧ Kp K [β.al, β.ol, β.dl] H G) ?_ ?_
      · refine s_if (b := true) (et_is (et_test (ev_op (ev_var rfl) ev_c rv_eqS)) (by decide +kernel)) (fun _ H3 e3 => ?_) (fun hb => nomatch hb)
        have e13 := e12.trans e3
        refine q_cut (M := fun σ' H' => σ' = [some (.ref R), some (.str ","), some (.ref β.b)] ∧ Ex H H') ?_ ?_
        · refine s_when (b := false) (et_is (et_or (et_test (ev_is (ev_op (ev_fld (ev_var rfl) (e13 _ _ bob) T.cl_Bracket T.n_Bracket_caller bf_caller) ev_c rv_isN) (isN_cvO _))) fun _ => et_test (ev_op (ev_cb (ea_cons (ev_fld (ev_var rfl) (e13 _ _ bob) T.cl_Bracket T.n_Bracket_arguments bf_args) ea_nil) (rc_lenL (sq_of (e13 _ _ hal)))) (ev_op ev_c ev_c rv_I0) rv_eqI)) ?_) (fun hb => nomatch hb) fun _ H4 e4 => ⟨rfl, e13.trans e4⟩
          have l1 := ta.len
          have : x.caller.isNone = false := by cases h : x.caller with
            | none => rw [h] at hc; cases hc
            | some z => rfl
          rw [this, Bool.false_or]
          exact decide_eq_false (by omega)
        · rintro σ' H4 ⟨rfl, e4⟩
          refine s_meth (vs := []) (ev_var rfl) (e4 _ _ bob) rfl ea_nil fun H5 e5 => ?_
          refine ⟨β, x, i, e, ops', vals', rfl, w1.br.ex (e4.trans e5), by omega, hf, fun H6 B6 k6 => ⟨rfl, H6, Ex.refl _, B6, (Kp.of (e4.trans e5)).trans k6⟩⟩
      · rintro σ' H4 ⟨rfl, G, eG, B, kG⟩
        have hS : ∀ a ∈ [β.al, β.ol, β.dl], a ∈ β.all := by simp [mal, mol, mdl]
        obtain ⟨c1, _⟩ := A1.topK (j := i + 1) w1.ob kG hS B eG (Nat.lt_succ_self _)
        refine s_fld (ev_op (ev_fld (ev_var rfl) c1 T.cl_Reader T.n_Reader_at rf_at) ev_c rv_I0) (ev_var rfl) c1 T.cl_Reader T.n_Reader_at (by show 3 < 1000; decide) fun H5 e5 => ?_
        obtain ⟨_, c2⟩ := A1.topK (j := i + 1) w1.ob kG hS B (eG.trans e5) (Nat.lt_succ_self _)
        exact q _ _ (Nat.lt_succ_self _) (X.next ⟨_, _, _, c2⟩)
    | @op o r x ops' vals' ho hc hf =>
      obtain ⟨s1, s2, s3, s4⟩ := ops_signs o ho
      have hlk := lvl_look14 o (ops13_14 ho)
      refine q_asg (ev_meth (ev_var rfl) w1.ob rfl ea_nil (sp_tokR X rfl)) fun H1 e1 => ?_
      refine q_asg (evB H1 e1 _) fun H2 e2 => ?_
      have e12 := e1.trans e2
      refine q_cut (M := fun σ' H' => σ' = [some (.ref R), some (.str o), some (.ref β.b)] ∧ ∃ G G2, Kp K [β.ol, β.dl] H G ∧ BrAt K (fa 200) i G β { x with ops := ops', vals := vals' } ∧ Ex G G2 ∧ Ex (upd G2 β.ol (.lst (ops'.reverse.map V.str ++ [.str o]))) H') ?_ ?_
      · refine s_if (b := false) (et_is (et_test (ev_op (ev_var rfl) ev_c rv_eqS)) (decide_eq_false s1)) (fun hb => nomatch hb) (fun _ H3 e3 => ?_)
        have e13 := e12.trans e3
        refine q_cut (M := fun σ' H' => σ' = [some (.ref R), some (.str o), some (.ref β.b)] ∧ Ex H H') ?_ ?_
        · exact s_when (b := false) (et_is (et_or (et_test (ev_op (ev_var rfl) ev_c (rv_notInD T.q_LEVELS hlk))) fun _ => et_test (ev_op (ev_var rfl) ev_c rv_eqS)) (by rw [decide_eq_false s2]; rfl)) (fun hb => nomatch hb) fun _ H4 e4 => ⟨rfl, e13.trans e4⟩
        · rintro σ' H4 ⟨rfl, e4⟩
          refine q_cut (M := fun σ' H' => σ' = [some (.ref R), some (.str o), some (.ref β.b)] ∧ Ex H H') ?_ ?_
          · refine s_when (b := false) (et_is (et_and (et_test (ev_op (ev_op ev_c (ev_var rfl) (rv_ixD T.q_LEVELS hlk)) ev_c rv_eqI)) fun _ => et_B (ev_meth (ev_var rfl) (e4 _ _ bob) rfl ea_nil (fun H5 e5 Q5 q5 E5 => ⟨β, x, i, rfl, w1.br.ex (e4.trans e5), by omega, fun H6 e6 => q5 H6 e6⟩))) ?_) (fun hb => nomatch hb) fun _ H5 e5 => ⟨rfl, e4.trans e5⟩
            by_cases h4 : lvl o = 4
            · rw [hc h4, Bool.and_false]
            · rw [decide_eq_false h4]; rfl
          · rintro σ' H5 ⟨rfl, e5⟩
            refine q_meth (vs := [.int (lvl o)]) (ev_var rfl) (e5 _ _ bob) rfl (ea_cons (ev_op ev_c (ev_var rfl) (rv_ixD T.q_LEVELS hlk)) ea_nil) fun H6 e6 => ?_
            refine ⟨β, x, i, lvl o, ops', vals', rfl, w1.br.ex (e5.trans e6), by omega, hf, fun H7 B7 k7 => ?_⟩
            obtain ⟨dz, zob⟩ := B7.ob
            have zl : ops'.length ≤ i := B7.sz.2.1
            exact s_app B7.ol (ev_fld (ev_var rfl) zob T.cl_Bracket T.n_Bracket_operators bf_ops) (ev_var rfl) (by rw [List.length_map, List.length_reverse]; show ops'.length < _; omega) fun H8 e8 => ⟨rfl, H7, H8, (Kp.of (e5.trans e6)).trans k7, B7, e8, Ex.refl _⟩
      · rintro σ' H4 ⟨rfl, G, G2, kG, B, e8, eH⟩
        have hS : ∀ a ∈ [β.ol, β.dl], a ∈ β.all := by simp [mol, mdl]
        have A2 := A1.topS w1.ob kG hS B
        have obG : G R = some (.ins (fa 201) dx (rf TL (i : Int) BL)) := kG.k _ _ w1.ob (fun m => w1.nR (hS _ m))
        obtain ⟨c1, _⟩ := A2.opr (j := i + 1) obG (ops13_14 ho) e8 eH (Nat.lt_succ_self _)
        refine s_fld (ev_op (ev_fld (ev_var rfl) c1 T.cl_Reader T.n_Reader_at rf_at) ev_c rv_I0) (ev_var rfl) c1 T.cl_Reader T.n_Reader_at (by show 3 < 1000; decide) fun H5 e5 => ?_
        obtain ⟨_, c2⟩ := A2.opr (j := i + 1) obG (ops13_14 ho) e8 (eH.trans e5) (Nat.lt_succ_self _)
        exact q _ _ (Nat.lt_succ_self _) (X.next ⟨_, _, _, c2⟩)
theorem optr_head {rest rest' : List Str} {x x' : Br} (h : Optr rest x rest' x') : ∃ t r, rest = t :: r ∧ t ≠ "" ∧ t ≠ ")" := by
  cases h with
  | comma _ _ _ => exact ⟨_, _, rfl, by decide +kernel, by decide +kernel⟩
  | op ho _ _ => exact ⟨_, _, rfl, (ops_signs _ ho).2.2.1, (ops_signs _ ho).2.2.2⟩
theorem ok_whole (T : Txt w K mg fa fd cv) : FnOk P w K mg base CX0 6 (fa 31) (fd 31) ["self"] (spWhole K fa) := by
  have G_Reader_token := ok_token (P := P) (w := w) (base := base) T
  have G_Reader_read_operand := ok_operand (P := P) (w := w) (base := base) T
  have G_Reader_read_operator := ok_operator (P := P) (w := w) (base := base) T
  have G_Reader_close_bracket := ok_close (P := P) (w := w) (base := base) T
  have G_Bracket_whole := ok_wholeB (P := P) (w := w) (base := base) T
  refine T.d_Reader_read_whole.F.ok sc_Reader_read_whole (fun vs H Q E h => ?_) (fun cdv A outer s H vs Q E hr h => ?_)
  · obtain ⟨_, _, _, _, _, _, _, _, _, _, rfl, _⟩ := h
    rfl
  · obtain ⟨H0, R, toks, i, rest, rest', x, x', bs', e, rfl, X, o, f, q⟩ := h
    refine ⟨_, pss_cons (ps_expr (pe_meth0 (pv 0) T.cl_Reader T.m_Reader_read_operand G_Reader_read_operand (by first | exact hr.mono (by decide) | exact hr.mono (by omega)) T.d_Reader_read_operand.b .nil pass0))
      (pss_cons (ps_while PassesOwn.never (PW.pt (pw_or (pt_cmpR op_ne (pe_meth0 (pv 0) T.cl_Reader T.m_Reader_token G_Reader_token (by first | exact hr.mono (by decide) | exact hr.mono (by omega)) T.d_Reader_token.b .nil pass0) pe_str (nomark _)) (pw_or1 (pt_cmpR op_gt (pe_callB call_len_seq (by rfl) T.b_len PySem.boot_len (pa_cons (pe_fld (pv 0) rfl) pa_nil)) pe_int (nomark _))))) (pss_one (ps_if (PW.pt (pw_and (pt_cmpR op_eq (pe_meth0 (pv 0) T.cl_Reader T.m_Reader_token G_Reader_token (by first | exact hr.mono (by decide) | exact hr.mono (by omega)) T.d_Reader_token.b .nil pass0) pe_str (nomark _)) (pw_and1 (pt_cmpR op_gt (pe_callB call_len_seq (by rfl) T.b_len PySem.boot_len (pa_cons (pe_fld (pv 0) rfl) pa_nil)) pe_int (nomark _))))) (pss_one (ps_expr (pe_meth0 (pv 0) T.cl_Reader T.m_Reader_close_bracket G_Reader_close_bracket (by first | exact hr.mono (by decide) | exact hr.mono (by omega)) T.d_Reader_close_bracket.b .nil pass0))) (pss_cons (ps_expr (pe_meth0 (pv 0) T.cl_Reader T.m_Reader_read_operator G_Reader_read_operator (by first | exact hr.mono (by decide) | exact hr.mono (by omega)) T.d_Reader_read_operator.b .nil pass0))
      (pss_one (ps_expr (pe_meth0 (pv 0) T.cl_Reader T.m_Reader_read_operand G_Reader_read_operand (by first | exact hr.mono (by decide) | exact hr.mono (by omega)) T.d_Reader_read_operand.b .nil pass0)))))))
      (pss_one (ps_ret (pe_meth0 (pe_ix ix_list (pe_fld (pv 0) rfl) pe_int (fun _ _ => rfl)) T.cl_Bracket T.m_Bracket_whole G_Bracket_whole (by first | exact hr.mono (by decide) | exact hr.mono (by omega)) T.d_Bracket_whole.b .nil pass0)))), ?_⟩
    obtain ⟨TL, BL, bas, A1⟩ := X.a
    obtain ⟨dx, ob⟩ := A1.ob
    refine q_meth (vs := []) (ev_var rfl) ob rfl ea_nil fun H1 e1 => ⟨H0, R, toks, i, rest, rest', [x], bs', x', rfl, X.exx e1, by simp, o, fun j H2 hj X2 => ?_⟩
    refine q_while (fun m σ' H' => ∃ (j : Nat) (rest1 : List Str) (y : Br) (bs1 : List Br), σ' = [some (.ref R)] ∧ RX K fa H0 H' R toks j rest1 (y :: bs1) ∧ Fin_ rest1 y bs1 e ∧ m = toks.length - j) (toks.length - j) ⟨j, rest', x', bs', rfl, X2, f, rfl⟩ ?_
    rintro m σ' H' ⟨j, rest1, y, bs1, rfl, X1, f1, rfl⟩
    obtain ⟨TL, BL, bas, A1⟩ := X1.a
    obtain ⟨β, bas', rfl⟩ := A1.some_top
    obtain ⟨dx, w1⟩ := A1.view
    have bl := A1.bl
    have lb := paired_len A1.brs
    have lt := X1.lt
    have zt := X1.z
    have ll : ((β :: bas').reverse.map fun β => V.ref β.b).length = bs1.length + 1 := by
      rw [List.length_map, List.length_reverse, lb]
      rfl
    have evL : ∀ H1, Ex H' H1 → Ev (tCB (fun xs H Q => ∃ p ys, xs = [V.ref p] ∧ (SqL K H p ys ∨ SqT K H p ys) ∧ Q (.int ys.length) H) (tCons (tFld K (tVar 0) "brackets") tNil)) [some (.ref R)] H1 (.int ((bs1.length + 1 : Nat) : Int)) := fun H1 e1 => ev_is (ev_cb (ea_cons (ev_fld (ev_var rfl) (e1 _ _ w1.ob) T.cl_Reader T.n_Reader_brackets rf_brackets) ea_nil) (rc_lenL (sq_of (e1 _ _ bl)))) (by rw [ll])
    cases f1 with
    | done hw =>
      refine ⟨false, et_is (et_or (et_test (ev_op (ev_meth (ev_var rfl) w1.ob rfl ea_nil (sp_tokR X1 rfl)) ev_c rv_neS)) fun _ => et_test (ev_op (evL _ (Ex.refl _)) ev_c rv_I0)) (by decide +kernel), fun hb => (nomatch hb), fun _ H3 e3 => ?_⟩
      have hbas : bas' = [] := by
        cases A1.brs with
        | cons _ r => cases r; rfl
      subst hbas
      obtain ⟨dz, zob⟩ := w1.br.ob
      refine s_retM (vs := []) (ev_op (ev_fld (ev_var rfl) (e3 _ _ w1.ob) T.cl_Reader T.n_Reader_brackets rf_brackets) ev_c (rv_ixL (sq_of (e3 _ _ w1.bl)) (atI_zero rfl))) (e3 _ _ zob) rfl ea_nil fun H4 e4 => ?_
      exact ⟨β, y, j, e, rfl, w1.br.ex (e3.trans e4), by omega, hw, fun v H5 tv k5 => q v H5 (A1.exK ((Kp.of (e3.trans e4)).trans k5) (by simp [Ba.all])) tv⟩
    | @close r _ y2 bs2 e2 t hw hf =>
      refine ⟨true, et_is (et_or (et_test (ev_op (ev_meth (ev_var rfl) w1.ob rfl ea_nil (sp_tokR X1 rfl)) ev_c rv_neS)) fun _ => et_test (ev_op (evL _ (Ex.refl _)) ev_c rv_I0)) (by rw [show decide ((")" : Str) = "") = false by decide +kernel]; rfl), fun _ H3 e3 => ⟨_, fun _ _ h => h, ?_⟩, fun hb => (nomatch hb)⟩
      refine s_if (b := true) (et_is (et_and (et_test (ev_op (ev_meth (ev_var rfl) (e3 _ _ w1.ob) rfl ea_nil (sp_tokR (X1.exx e3) rfl)) ev_c rv_eqS)) fun _ => et_test (ev_op (evL _ e3) ev_c rv_I0)) ?_) (fun _ H4 e4 => ?_) (fun hb => nomatch hb)
      · rw [decide_eq_true (rfl : (")" : Str) = ")"), Bool.true_and]
        exact decide_eq_true (by show (1 : Int) < ((bs2.length + 1 + 1 : Nat) : Int); omega)
      · exact s_meth (vs := []) (ev_var rfl) ((e3.trans e4) _ _ w1.ob) rfl ea_nil fun H5 e5 => ⟨H0, R, toks, j, ")", r, y, y2, bs2, e2, rfl, X1.exx ((e3.trans e4).trans e5), hw, fun H6 X6 => ⟨toks.length - (j + 1), by omega, j + 1, _, _, _, rfl, X6, hf, rfl⟩⟩
    | op ho hd hf =>
      obtain ⟨t, r, rfl, t1, t2⟩ := optr_head ho
      refine ⟨true, et_is (et_or (et_test (ev_op (ev_meth (ev_var rfl) w1.ob rfl ea_nil (sp_tokR X1 rfl)) ev_c rv_neS)) fun _ => et_test (ev_op (evL _ (Ex.refl _)) ev_c rv_I0)) (by rw [decide_eq_false t1]; rfl), fun _ H3 e3 => ⟨_, fun _ _ h => h, ?_⟩, fun hb => (nomatch hb)⟩
      refine s_if (b := false) (et_is (et_andF (et_is (et_test (ev_op (ev_meth (ev_var rfl) (e3 _ _ w1.ob) rfl ea_nil (sp_tokR (X1.exx e3) rfl)) ev_c rv_eqS)) (decide_eq_false t2))) rfl) (fun hb => nomatch hb) (fun _ H4 e4 => ?_)
      refine q_meth (vs := []) (ev_var rfl) ((e3.trans e4) _ _ w1.ob) rfl ea_nil fun H5 e5 => ⟨H0, R, toks, j, _, _, y, _, bs1, rfl, X1.exx ((e3.trans e4).trans e5), ho, fun k H6 hk X6 => ?_⟩
      obtain ⟨TL2, BL2, bas2, A2⟩ := X6.a
      obtain ⟨dx2, ob2⟩ := A2.ob
      exact s_meth (vs := []) (ev_var rfl) ob2 rfl ea_nil fun H7 e7 => ⟨H0, R, toks, k, _, _, _, _, _, rfl, X6.exx e7, by simp, hd, fun l H8 hl X8 => ⟨toks.length - l, by omega, l, _, _, _, rfl, X8, hf, rfl⟩⟩
/-- o.f = [Bracket(None)] -/
theorem s_fldMk {a C D0 dx : Addr} {fs : List (Str × V)} {f : Str} {c : Option Str} {E : XK} {ta te : TE} {D : Ends} {σ : L2.St} {H : Hp} (he : Ev te σ H (cvO c)) (h : ∀ H1, Ev ta σ H1 (.ref a)) (ho : H a = some (.ins D0 dx fs)) (hc : Cls K D0) (hn : NoAttr K D0 f) (hz : fs.length < 1000)
    (k : ∀ β p H1, H p = none → (∀ x ∈ β.all, H x = none) → p ∉ β.all → Kp K [β.b] H H1 → BrAt K C 0 H1 β ⟨c, [], [], []⟩ → H1 p = some (.lst [.ref β.b]) → D.nx σ (upd H1 a (.ins D0 dx (putF f (.ref p) fs)))) :
    sFld K ta (tLst (tCons (tMake C (spBrInit K C) [] E (tCons te tNil)) tNil)) f D σ H := he H (Ex.refl H) _ fun H1 e1 => fun x dz hx hdz hne => ⟨x, dz, c, rfl, upd_same, fun β H3 eb B k3 f1 f2 f3 => ⟨rfl, (by show 1 ≤ sizeLine; decide), fun p hp => by
    have e3 : Ex H1 (upd (upd H1 dz (.own x)) x (.ins C dz [])) := (Ex.new hdz).trans (Ex.new (by rw [upd_ne hne.symm]; exact hx))
    have e03 := e1.trans e3
    have ho1 := e1 _ _ ho
    have xa : x ≠ a := fun e => by rw [e, ho1] at hx; cases hx
    have ho3 : H3 a = some (.ins D0 dx fs) := k3.k _ _ (e3 _ _ ho1) (by simp; exact xa.symm)
    have pa : p ≠ a := fun e => by rw [e, ho3] at hp; cases hp
    refine h _ _ (Ex.refl _) _ fun H4 e4 => ⟨a, D0, dx, fs, rfl, e4 _ _ (by rw [upd_ne pa.symm]; exact ho3), hc, hn, hz, ?_⟩
    have e34 : Ex H3 H4 := (Ex.new hp).trans e4
    have hpβ : p ∉ β.all := fun m => B.known p m hp
    refine k β p H4 ?_ (fun a m => by
      simp [Ba.all] at m
      rcases m with rfl | rfl | rfl | rfl
      · rw [eb]; exact fresh_back e1 hx
      · exact fresh_back e03 f1
      · exact fresh_back e03 f2
      · exact fresh_back e03 f3) hpβ ((Kp.of e03).trans ((by rw [eb]; exact k3 : Kp K [β.b] _ H3).trans (Kp.of e34))) (B.ex e34) (by rw [eb]; exact e4 _ _ upd_same)
    cases e : H p with
    | none => rfl
    | some o =>
      have : H3 p = some o := k3.k _ _ (e03 _ _ e) (by simp; exact fun z => hpβ (by rw [z, ← eb]; simp [Ba.all]))
      rw [hp] at this
      cases this⟩⟩
def spRdInit (K : PySem.W.Frag) (fa : Nat → Addr) : Sp := fun vs H Q _ => ∃ (p dx : Addr) (z : Str) (ts : List (Nat × Str)) (H0 : Hp), vs = [.ref p, .str z] ∧ H p = some (.ins (fa 201) dx []) ∧ z.length ≤ 10000 ∧ lexAll z = .ok ts ∧ ts.length ≤ 10000 ∧ (∀ t ∈ ts, t.2.length ≤ 8) ∧ Ex H0 H ∧ H0 p = none ∧
  ∀ H', RX K fa H0 H' p (ts ++ [(z.length, ("" : Str))]) 0 (ts.map Prod.snd) [⟨none, [], [], []⟩] → Q .non H'
theorem ok_rd_init (T : Txt w K mg fa fd cv) : FnOk P w K mg base CX0 4 (fa 20) (fd 20) ["self", "text"] (spRdInit K fa) := by
  have G_tokens_of := ok_tokens_of (P := P) (w := w) (base := base) T
  have G_Bracket___init__ := ok_br_init (P := P) (w := w) (base := base) T
  refine T.d_Reader___init__.F.ok sc_Reader___init__ (fun vs H Q E h => ?_) (fun cdv A outer s H vs Q E hr h => ?_)
  · obtain ⟨_, _, _, _, _, rfl, _⟩ := h
    rfl
  · obtain ⟨p, dx, z, ts, H0, rfl, hp, hz, hlex, hts, hsh, hex, hp0, q⟩ := h
    refine ⟨_, pss_cons (ps_fld (pv 0) (pe_lst (StX.pa_star (pe_call G_tokens_of (by first | exact hr.mono (by decide) | exact hr.mono (by omega)) (by rfl) T.d_tokens_of.g T.d_tokens_of.k T.d_tokens_of.b .nil pass0 (pa_cons (pv 1) pa_nil)) (pa_cons (pe_tup (pa_cons (pe_callB call_len_str (by rfl) T.b_len PySem.boot_len (pa_cons (pv 1) pa_nil)) (pa_cons pe_str pa_nil))) pa_nil))) rfl)
      (pss_cons (ps_fld (pv 0) pe_int rfl)
      (pss_one (ps_fld (pv 0) (pe_lst (pa_cons (pe_make T.mk_Bracket G_Bracket___init__ (by first | exact hr.mono (by decide) | exact hr.mono (by omega)) (by rfl) T.g_Bracket T.d_Bracket___init__.b .nil pass0 (pa_cons pe_non pa_nil)) pa_nil)) rfl))), ?_⟩
    have hz' : z.length ≤ sizeLine := sz_of (by omega)
    refine q_fldLH (elh_star (R0 := fun ws H => Paired (fun t v => TokAt K H v t) ts ws) (us := [.int (z.length : Int), .str ""]) (fun H1 e1 Q1 q1 => ?_) (fun ws H1 H2 r e => TokAt.keeps (TupKeep.of e) r) (eu_tup (ea_cons (ev_cb (ea_cons (ev_var rfl) ea_nil) (rc_lenS hz')) (ea_cons ev_c ea_nil)) (by show 2 ≤ 100000; decide)) (fun ws H1 r => by have := paired_len r; omega)) (ev_var rfl) hp T.cl_Reader T.n_Reader_tokens (by decide) fun TL ws H1 H2 nTL e1 hTL r e2 => ?_
    · refine (ea_cons (ev_var rfl) ea_nil : EvA _ _ H _) H1 e1 _ fun H2 e2 => ⟨z, ts, rfl, hz, hlex, fun l us H3 e3 hl g3 p3 => q1 l us H3 (fresh_back e2 hl) (e2.trans e3) g3 p3⟩
    obtain ⟨ws0, p2, rfl, r0, r1⟩ := r
    have hp2 := e2 _ _ (e1 _ _ hp)
    have npt : TL ≠ p := fun e => by rw [e, hp] at nTL; cases nTL
    have tt : Paired (fun t v => TokAt K H1 v t) (ts ++ [(z.length, ("" : Str))]) (ws0 ++ [.ref p2]) := paired_app r0 (.cons ⟨p2, rfl, st_of r1⟩ .nil)
    have k1 : Kp K [p] H (upd H2 p (.ins (fa 201) dx (putF "tokens" (.ref TL) []))) := (Kp.of (e1.trans e2)).trans (Kp.updI hp2 (by simp))
    have gT : (upd H2 p (.ins (fa 201) dx (putF "tokens" (.ref TL) []))) TL = some (.lst (ws0 ++ [.ref p2])) := by rw [upd_ne npt]; exact e2 _ _ hTL
    have tt1 : Paired (fun t v => TokAt K (upd H2 p (.ins (fa 201) dx (putF "tokens" (.ref TL) []))) v t) (ts ++ [(z.length, ("" : Str))]) (ws0 ++ [.ref p2]) := TokAt.keeps ((TupKeep.of e2).trans (TupKeep.updI hp2)) tt
    have gp : (upd H2 p (.ins (fa 201) dx (putF "tokens" (.ref TL) []))) p = some (.ins (fa 201) dx (putF "tokens" (.ref TL) [])) := upd_same
    generalize (upd H2 p (.ins (fa 201) dx (putF "tokens" (.ref TL) []))) = G1 at *
    refine q_fld ev_c (ev_var rfl) gp T.cl_Reader T.n_Reader_at (by show 1 < 1000; decide) fun H3 e3 => ?_
    have k2 : Kp K [p] G1 (upd H3 p (.ins (fa 201) dx (putF "at" (.int 0) (putF "tokens" (.ref TL) [])))) := (Kp.of e3).trans (Kp.updI (e3 _ _ gp) (by simp))
    have gp2 : (upd H3 p (.ins (fa 201) dx (putF "at" (.int 0) (putF "tokens" (.ref TL) [])))) p = some (.ins (fa 201) dx (putF "at" (.int 0) (putF "tokens" (.ref TL) []))) := upd_same
    generalize (upd H3 p (.ins (fa 201) dx (putF "at" (.int 0) (putF "tokens" (.ref TL) [])))) = G2 at *
    have gT2 := k2.k _ _ gT (by simp; exact npt)
    have tt2 := TokAt.keeps k2.t tt1
    have k02 : Kp K [p] H G2 := k1.trans k2
    refine s_fldMk (C := fa 200) (c := none) ev_c (fun H9 => ev_var rfl) gp2 T.cl_Reader T.n_Reader_brackets (by show 2 < 1000; decide) fun β BL H4 nBL nβ nBβ k4 B4 g4 => ?_
    have mb : β.b ∈ β.all := by simp [Ba.all]
    have nTβ : TL ∉ β.all := fun m => by rw [nβ _ m] at gT2; cases gT2
    have npβ : p ∉ β.all := fun m => by rw [nβ _ m] at gp2; cases gp2
    have nTB : TL ≠ BL := fun e => by rw [e, nBL] at gT2; cases gT2
    have npB : p ≠ BL := fun e => by rw [e, nBL] at gp2; cases gp2
    have gp4 := k4.k _ _ gp2 (by simp; exact fun e => npβ (e ▸ mb))
    have gT4 := k4.k _ _ gT2 (by simp; exact fun e => nTβ (e ▸ mb))
    have k5 : Kp K [p] H4 (upd H4 p (.ins (fa 201) dx (rf TL 0 BL))) := Kp.updI gp4 (by simp)
    have back : ∀ a, G2 a = none → H0 a = none := fun a h => by
      cases e : H0 a with
      | none => rfl
      | some o =>
        have : G2 a = some o := k02.k _ _ (hex _ _ e) (by simp; exact fun z => by rw [z, hp0] at e; cases e)
        rw [h] at this
        cases this
    have hTL0 : H0 TL = none := fresh_back hex nTL
    refine q _ ⟨⟨TL, BL, [β], ⟨dx, upd_same⟩, ⟨_, k5.k _ _ gT4 (by simp; exact npt), TokAt.keeps (k4.t.trans k5.t) tt2⟩, k5.k _ _ g4 (by simp; exact npB.symm), .cons (B4.keep k5 (fun a m => by simp; exact fun e => npβ (e ▸ m)) (Nat.le_refl _)) .nil, ?_, ?_, ?_, Nat.le_refl _⟩, ?_, ?_, ?_⟩
    · unfold owned
      rw [show ([β] : List Ba).flatMap Ba.all = β.all by simp]
      have n1 : β.all.Nodup := by
        obtain ⟨dx, ob⟩ := B4.ob
        obtain ⟨vs, al, _⟩ := B4.al
        obtain ⟨ws, dl, _⟩ := B4.dl
        have ol := B4.ol
        obtain ⟨m1, m2, m3⟩ := B4.nd
        have x1 : β.b ≠ β.al := ne_of ob al (by intro q; cases q)
        have x2 : β.b ≠ β.ol := ne_of ob ol (by intro q; cases q)
        have x3 : β.b ≠ β.dl := ne_of ob dl (by intro q; cases q)
        simp [Ba.all, x1, x2, x3, m1, m2, m3]
      refine List.nodup_cons.mpr ⟨?_, List.nodup_cons.mpr ⟨?_, List.nodup_cons.mpr ⟨nBβ, n1⟩⟩⟩
      · simp only [List.mem_cons, not_or]
        exact ⟨npt.symm, npB, npβ⟩
      · simp only [List.mem_cons, not_or]
        exact ⟨nTB, nTβ⟩
    · intro a m
      unfold owned at m
      rw [show ([β] : List Ba).flatMap Ba.all = β.all by simp] at m
      simp only [List.mem_cons] at m
      rcases m with rfl | rfl | rfl | m
      · exact hp0
      · exact hTL0
      · exact back _ nBL
      · exact back _ (nβ _ m)
    · intro a o e
      have na : a ≠ p := fun z => by rw [z, hp0] at e; cases e
      have g2 := k02.k _ _ (hex _ _ e) (by simp; exact na)
      refine k5.k _ _ (k4.k _ _ g2 (by simp; exact fun z => by rw [z, nβ _ mb] at g2; cases g2)) (by simp; exact na)
    · show (ts ++ [(z.length, ("" : Str))]).map Prod.snd = _
      rw [List.map_append]
      rfl
    · rw [List.length_append]
      show ts.length + 1 ≤ 12000
      omega
    · intro t m
      rcases List.mem_append.mp m with m | m
      · exact hsh t m
      · rw [List.mem_singleton.mp m]
        show ("" : Str).length ≤ 8
        decide +kernel
def spRead (K : PySem.W.Frag) : Sp := fun vs H Q _ => ∃ (z : Str) (ts : List (Nat × Str)) (rest' : List Str) (x' : Br) (bs' : List Br) (e : Tr), vs = [.str z] ∧ z.length ≤ 10000 ∧ lexAll z = .ok ts ∧ ts.length ≤ 10000 ∧ (∀ t ∈ ts, t.2.length ≤ 8) ∧ Opd (ts.map Prod.snd) [⟨none, [], [], []⟩] rest' x' bs' ∧ Fin_ rest' x' bs' e ∧
  ∀ v H', Ex H H' → TrAt K H' v e → Q v H'
theorem ok_read (T : Txt w K mg fa fd cv) : FnOk P w K mg base CX0 7 (fa 32) (fd 32) ["text"] (spRead K) := by
  have G_Reader___init__ := ok_rd_init (P := P) (w := w) (base := base) T
  have G_Reader_read_whole := ok_whole (P := P) (w := w) (base := base) T
  refine T.d_read_expression.F.ok sc_read_expression (fun vs H Q E h => ?_) (fun cdv A outer s H vs Q E hr h => ?_)
  · obtain ⟨_, _, _, _, _, _, rfl, _⟩ := h
    rfl
  · obtain ⟨z, ts, rest', x', bs', e, rfl, hz, hlex, hts, hsh, ho, hf, q⟩ := h
    refine ⟨_, pss_cons (ps_set (i := 1) sc_read_expression.nd rfl (Or.inl rfl) (pe_make T.mk_Reader G_Reader___init__ (by first | exact hr.mono (by decide) | exact hr.mono (by omega)) (by rfl) T.g_Reader T.d_Reader___init__.b .nil pass0 (pa_cons (pv 0) pa_nil)))
      (pss_one (ps_ret (pe_meth0 (pv 1) T.cl_Reader T.m_Reader_read_whole G_Reader_read_whole (by first | exact hr.mono (by decide) | exact hr.mono (by omega)) T.d_Reader_read_whole.b .nil pass0))), ?_⟩
    refine q_asgMk (ea_cons (ev_var rfl) ea_nil) fun H1 e1 p dx hp hdx hne => ?_
    have e3 : Ex H1 (upd (upd H1 dx (.own p)) p (.ins (fa 201) dx [])) := (Ex.new hdx).trans (Ex.new (by rw [upd_ne hne.symm]; exact hp))
    refine ⟨p, dx, z, ts, H1, rfl, upd_same, hz, hlex, hts, hsh, e3, hp, fun H2 X => ⟨rfl, ?_⟩⟩
    obtain ⟨TL, BL, bas, A1⟩ := X.a
    obtain ⟨dy, ob⟩ := A1.ob
    exact s_retM (vs := []) (ev_var rfl) ob rfl ea_nil fun H3 e4 => ⟨H1, p, _, 0, _, _, _, _, _, e, rfl, X.exx e4, ho, hf, fun v H4 e5 tv => q v H4 (e1.trans e5) tv⟩
end


/-! tokens of an expression are read as the expression: the brackets' stacks -/
def numS (n : Nat) : Str := Tr.wr (.int (n : Int))
def numOk (n : Nat) : Bool := isNum (numS n) 3 && decide (intText? (numS n) = some (n : Int)) && !isName (numS n) && decide (numS n ∉ own4) && decide (numS n ≠ "-") && decide (numS n ≠ "not") && decide (numS n ≠ "(") && decide (numS n ≠ ")") && decide ((numS n).length ≤ 3)
theorem numOk_all : ∀ n, n < 1000 → numOk n = true := by decide +kernel
structure NumOk (n : Nat) : Prop where
  num : isNum (numS n) 3 = true
  int : intText? (numS n) = some (n : Int)
  nn : isName (numS n) = false
  no : numS n ∉ own4
  n1 : numS n ≠ "-"
  n2 : numS n ≠ "not"
  n3 : numS n ≠ "("
  n4 : numS n ≠ ")"
  len : (numS n).length ≤ 3
theorem num_ok {n : Nat} (h : n ≤ 999) : NumOk n := by
  have := numOk_all n (by omega)
  unfold numOk at this
  simp only [Bool.and_eq_true, decide_eq_true_eq, Bool.not_eq_true'] at this
  obtain ⟨⟨⟨⟨⟨⟨⟨⟨a, b⟩, c⟩, d⟩, e⟩, f⟩, g⟩, h⟩, i⟩ := this
  exact ⟨a, b, c, d, e, f, g, h, i⟩
mutual
inductive Ph : Tr → Bool → List Str → Prop
  | pos {n : Nat} : n ≤ 999 → Ph (.int (n : Int)) false [numS n]
  | neg {n : Nat} : n ≤ 999 → Ph (.int (-(n : Int))) false ["-", numS n]
  | nm {z : Str} : isName z = true ∨ z ∈ own4 → Ph (.nm z) false [z]
  | call {n : Str} {es : List Tr} {ts : List Str} : isName n = true → es.length ≤ 3 → Phs es ts → Ph (.call n es) false (n :: ("(" : Str) :: (ts ++ [(")" : Str)]))
  | nt {e : Tr} {bx : Bool} {ts : List Str} : Ph e bx ts → bx = true ∨ 3 ≤ e.lv → Ph (.nt e) false (("not" : Str) :: ts)
  | bin {op : Str} {l r : Tr} {bl br : Bool} {tl tr : List Str} : op ∈ ops13 → Ph l bl tl → Ph r br tr → bl = true ∨ (lvl op ≤ l.lv ∧ ¬ (lvl op = 4 ∧ l.lv = 4)) → br = true ∨ lvl op < r.lv → Ph (.bin op l r) false (tl ++ op :: tr)
  | par {e : Tr} {bx : Bool} {ts : List Str} : Ph e bx ts → Ph e true (("(" : Str) :: (ts ++ [(")" : Str)]))
inductive Phs : List Tr → List Str → Prop
  | nil : Phs [] []
  | one {e : Tr} {bx : Bool} {ts : List Str} : Ph e bx ts → Phs [e] ts
  | cons {e e2 : Tr} {es : List Tr} {bx : Bool} {ts us : List Str} : Ph e bx ts → Phs (e2 :: es) us → Phs (e :: e2 :: es) (ts ++ ("," : Str) :: us)
end
def Tr.isNt : Tr → Bool
  | .nt _ => true
  | _ => false
def Ctx (ops : List Str) (e : Tr) : Prop := ∀ o ∈ ops, lvl o < e.lv ∨ (lvl o ≤ e.lv ∧ Tr.isNt e = true)
def lvB (e : Tr) (bx : Bool) : Int := if bx then 7 else e.lv
def Rd (toks : List Str) (bs : List Br) (r : Tr) : Prop := ∃ rest' x' bs', Opd toks bs rest' x' bs' ∧ Fin_ rest' x' bs' r
structure SemP (e : Tr) (bx : Bool) (ts : List Str) (so : List Str) (sv : List Tr) : Prop where
  lv : ∀ o ∈ so, lvB e bx ≤ lvl o
  fold : ∀ m ops vals, m ≤ lvB e bx → foldB m (so ++ ops) (sv ++ vals) = foldB m ops (e :: vals)
  read : ∀ (x : Br) bs rest r, bx = true ∨ Ctx x.ops e → rest.head? ≠ some ("(" : Str) → Fin_ rest { x with ops := so ++ x.ops, vals := sv ++ x.vals } bs r → Rd (ts ++ rest) (x :: bs) r
theorem lv_pos : ∀ {e : Tr} {bx : Bool} {ts : List Str}, Ph e bx ts → 1 ≤ e.lv
  | _, _, _, .pos _ => by show (1 : Int) ≤ 7; decide
  | _, _, _, .neg _ => by show (1 : Int) ≤ 7; decide
  | _, _, _, .nm _ => by show (1 : Int) ≤ 7; decide
  | _, _, _, .call _ _ _ => by show (1 : Int) ≤ 7; decide
  | _, _, _, .nt _ _ => by show (1 : Int) ≤ 3; decide
  | _, _, _, .bin h _ _ _ _ => (lvl_rng _ h).1
  | _, _, _, .par h => lv_pos h
theorem lvB_pos {e : Tr} {bx : Bool} {ts : List Str} (h : Ph e bx ts) : 0 ≤ lvB e bx := by
  have := lv_pos h
  unfold lvB
  split <;> omega
theorem SemP.fold0 {e : Tr} {bx : Bool} {ts so : List Str} {sv : List Tr} (h : SemP e bx ts so sv) (p : 0 ≤ lvB e bx) : foldB 0 (so ++ []) (sv ++ []) = some ([], [e]) := by
  rw [h.fold 0 [] [] p]
  rfl
theorem ph_head : ∀ {e : Tr} {bx : Bool} {ts : List Str}, Ph e bx ts → ∃ t r, ts = t :: r ∧ t ≠ ")"
  | _, _, _, .pos h => ⟨_, _, rfl, (num_ok h).n4⟩
  | _, _, _, .neg _ => ⟨_, _, rfl, by decide +kernel⟩
  | _, _, _, .nm h => ⟨_, _, rfl, by
    intro e
    subst e
    revert h
    decide +kernel⟩
  | _, _, _, .call h _ _ => ⟨_, _, rfl, by
    intro e
    subst e
    revert h
    decide +kernel⟩
  | _, _, _, .nt _ _ => ⟨_, _, rfl, by decide +kernel⟩
  | _, _, _, .bin (op := op) (tr := tr) _ l _ _ _ => by
    obtain ⟨t, r, e, h⟩ := ph_head l
    exact ⟨t, r ++ op :: tr, by rw [e]; rfl, h⟩
  | _, _, _, .par _ => ⟨_, _, rfl, by decide +kernel⟩
theorem name_facts {z : Str} (h : isName z = true ∨ z ∈ own4) : z ≠ "not" ∧ z ≠ "(" ∧ z ≠ "-" := by
  refine ⟨?_, ?_, ?_⟩ <;>
  · intro e
    subst e
    revert h
    decide +kernel
theorem noOpn_nm {z : Str} {rest : List Str} (h : isName z = true ∨ z ∈ own4) (hr : rest.head? ≠ some ("(" : Str)) : NoOpn (z :: rest) := by
  obtain ⟨a, b, _⟩ := name_facts h
  refine ⟨z, rest, rfl, a, b, fun _ => ?_⟩
  cases rest with
  | nil => exact ⟨"", [], rfl, by decide +kernel⟩
  | cons u s => exact ⟨u, s ++ [("" : Str)], rfl, fun e => hr (by rw [e]; rfl)⟩
theorem mayB_of {ops : List Str} (h : ∀ o ∈ ops, lvl o ≤ 3) : mayB ops = true := by
  cases ops with
  | nil => rfl
  | cons o r => exact decide_eq_true (h o (by simp))
theorem foldB_stop {m : Int} {ops : List Str} {vs : List Tr} (h : ∀ o ∈ ops, lvl o < m) : foldB m ops vs = some (ops, vs) := by
  cases ops with
  | nil => rfl
  | cons o r =>
    unfold foldB
    rw [if_pos (h o (by simp))]
theorem lv_ne3 : ∀ {e : Tr} {bx : Bool} {ts : List Str}, Ph e bx ts → ∀ op l r, e = .bin op l r → lvl op ≠ 3
  | _, _, _, .bin h _ _ _ _, op, l, r, e => by
    cases e
    exact (lvl_rng _ h).2.2
  | _, _, _, .par h, op, l, r, e => lv_ne3 h op l r e
  | _, _, _, .pos _, _, _, _, e => nomatch e
  | _, _, _, .neg _, _, _, _, e => nomatch e
  | _, _, _, .nm _, _, _, _, e => nomatch e
  | _, _, _, .call _ _ _, _, _, _, e => nomatch e
  | _, _, _, .nt _ _, _, _, _, e => nomatch e
theorem phs_head {es : List Tr} {ts : List Str} (h : Phs es ts) (n : es ≠ []) : ∃ t r, ts = t :: r ∧ t ≠ ")" := by
  cases h with
  | nil => exact absurd rfl n
  | one h => exact ph_head h
  | @cons _ _ _ _ ts us h _ =>
    obtain ⟨t, r, e, q⟩ := ph_head h
    exact ⟨t, r ++ ("," : Str) :: us, by rw [e]; rfl, q⟩
mutual
theorem ph_sem : ∀ {e : Tr} {bx : Bool} {ts : List Str}, Ph e bx ts → ∃ so sv, SemP e bx ts so sv
  | _, _, _, .pos (n := n) h => ⟨[], [.int n], fun o ho => by simp at ho, fun m ops vals _ => rfl, fun x bs rest r _ hr hf => by
    have k := num_ok h
    refine ⟨_, _, _, .atom ⟨_, _, rfl, k.n2, k.n3, fun z => by rw [k.nn] at z; cases z⟩ (.num k.n1 k.nn k.no k.num k.int (by omega)), ?_⟩
    rw [Int.one_mul]
    exact hf⟩
  | _, _, _, .neg (n := n) h => ⟨[], [.int (-(n : Int))], fun o ho => by simp at ho, fun m ops vals _ => rfl, fun x bs rest r _ hr hf => by
    have k := num_ok h
    refine ⟨_, _, _, .atom ⟨_, _, rfl, by decide +kernel, by decide +kernel, fun z => absurd z (by decide +kernel)⟩ (.neg k.num k.int (by omega)), ?_⟩
    rw [Int.neg_one_mul]
    exact hf⟩
  | _, _, _, .nm (z := z) h => ⟨[], [.nm z], fun o ho => by simp at ho, fun m ops vals _ => rfl, fun x bs rest r _ hr hf =>
    ⟨_, _, _, .atom (noOpn_nm h hr) (.nm (name_facts h).2.2 h), hf⟩⟩
  | _, _, _, .call (n := n) (es := es) (ts := ts) hn hl hs => ⟨[], [.call n es], fun o ho => by simp at ho, fun m ops vals _ => rfl, fun x bs rest r _ hr hf => by
    obtain ⟨f1, f2, _⟩ := name_facts (.inl hn)
    have et : n :: ("(" : Str) :: (ts ++ [(")" : Str)]) ++ rest = n :: ("(" : Str) :: (ts ++ ((")" : Str) :: rest)) := by simp
    rw [et]
    by_cases he : es = []
    · subst he
      cases hs
      exact ⟨_, _, _, .empty (.call f1 f2 hn) (by show (decide ((")" : Str) = ")") && (true && true)) = true; decide +kernel), .close rfl hf⟩
    · obtain ⟨t, r2, e1, t1⟩ := phs_head hs he
      obtain ⟨a, b, c, o, g⟩ := phs_sem hs he ⟨some n, [], [], []⟩ n x bs rest r rfl rfl rfl (by simpa using hl) hf
      refine ⟨a, b, c, .step (.call f1 f2 hn) ?_ o, g⟩
      rw [e1]
      show (decide (t = ")") && _) = false
      rw [decide_eq_false t1]
      rfl⟩
  | _, _, _, .nt (e := e) (bx := bx) (ts := ts) h hb => by
    obtain ⟨so, sv, s⟩ := ph_sem h
    have l3 : 3 ≤ lvB e bx := by
      unfold lvB
      rcases hb with rfl | hb
      · simp
      · split <;> omega
    have l3n : lvl "not" = 3 := by decide +kernel
    refine ⟨so ++ [("not" : Str)], sv, fun o ho => ?_, fun m ops vals hm => ?_, fun x bs rest r hc hr hf => ?_⟩
    · show (3 : Int) ≤ lvl o
      rcases List.mem_append.mp ho with ho | ho
      · have := s.lv o ho; omega
      · rw [List.mem_singleton.mp ho, l3n]; decide
    · have hm3 : m ≤ 3 := hm
      rw [List.append_assoc, s.fold m _ _ (by omega)]
      show foldB m (("not" : Str) :: ops) (e :: vals) = _
      conv => lhs; unfold foldB
      rw [if_neg (by omega), if_pos rfl]
    · have hx : ∀ o ∈ x.ops, lvl o ≤ 3 := by
        rcases hc with hc | hc
        · cases hc
        · intro o ho
          rcases hc o ho with h | h
          · have : lvl o < 3 := h; omega
          · exact h.1
      obtain ⟨a, b, c, o, g⟩ := s.read { x with ops := ("not" : Str) :: x.ops } bs rest r (by
        rcases hb with hb | hb
        · exact .inl hb
        · refine .inr fun o ho => ?_
          have ho3 : lvl o ≤ 3 := by
            rcases List.mem_cons.mp ho with rfl | ho
            · omega
            · exact hx o ho
          cases h with
          | pos _ => exact .inl (by show lvl o < 7; omega)
          | neg _ => exact .inl (by show lvl o < 7; omega)
          | nm _ => exact .inl (by show lvl o < 7; omega)
          | call _ _ _ => exact .inl (by show lvl o < 7; omega)
          | nt _ _ => exact .inr ⟨ho3, rfl⟩
          | @bin op _ _ _ _ _ _ hop _ _ _ _ =>
            have := (lvl_rng op hop).2.2
            have h3 : 3 ≤ lvl op := hb
            exact .inl (by show lvl o < lvl op; omega)
          | par h2 =>
            cases e with
            | int _ => exact .inl (by show lvl o < 7; omega)
            | nm _ => exact .inl (by show lvl o < 7; omega)
            | call _ _ => exact .inl (by show lvl o < 7; omega)
            | nt _ => exact .inr ⟨ho3, rfl⟩
            | bin op l r =>
              have n3 : lvl op ≠ 3 := by
                have : ∀ {e : Tr} {b : Bool} {ts : List Str}, Ph e b ts → ∀ op l r, e = .bin op l r → lvl op ≠ 3 := by
                  intro e b ts h
                  exact lv_ne3 h
                exact this h2 op l r rfl
              have h3 : 3 ≤ lvl op := hb
              exact .inl (by show lvl o < lvl op; omega)) hr (by
        have : so ++ (("not" : Str) :: x.ops) = (so ++ [("not" : Str)]) ++ x.ops := by simp
        show Fin_ rest { x with ops := so ++ (("not" : Str) :: x.ops), vals := sv ++ x.vals } bs r
        rw [this]
        exact hf)
      refine ⟨a, b, c, .step (.nt (mayB_of hx)) ?_ o, g⟩
      show emptyCall (ts ++ rest) _ = false
      cases ts ++ rest with
      | nil => rfl
      | cons t q =>
        show (decide (t = ")") && (x.caller.isSome && false)) = false
        simp
  | _, _, _, .bin (op := op) (l := l) (r := r) (bl := bl) (br := br) (tl := tl) (tr := tr) ho hl hr h1 h2 => by
    obtain ⟨sol, svl, sl⟩ := ph_sem hl
    obtain ⟨sor, svr, sr⟩ := ph_sem hr
    obtain ⟨r1, r2, r3⟩ := lvl_rng op ho
    have ll : lvl op ≤ lvB l bl := by
      unfold lvB
      rcases h1 with rfl | h1
      · simp; omega
      · split <;> omega
    have lr : lvl op < lvB r br := by
      unfold lvB
      rcases h2 with rfl | h2
      · simp; omega
      · split <;> omega
    have nn := (op_call op ho).2
    refine ⟨sor ++ [op], svr ++ [l], fun o hm => ?_, fun m ops vals hm => ?_, fun x bs rest t hc hrest hf => ?_⟩
    · show lvl op ≤ lvl o
      rcases List.mem_append.mp hm with hm | hm
      · have := sr.lv o hm; omega
      · rw [List.mem_singleton.mp hm]; omega
    · have hm' : m ≤ lvl op := hm
      rw [List.append_assoc, List.append_assoc, sr.fold m _ _ (by omega)]
      show foldB m (op :: ops) (r :: l :: vals) = _
      conv => lhs; unfold foldB
      rw [if_neg (by omega), if_neg nn]
    · have hx : ∀ o ∈ x.ops, lvl o < lvl op := by
        rcases hc with hc | hc
        · cases hc
        · intro o hm
          rcases hc o hm with h | h
          · exact h
          · cases h.2
      have et : tl ++ op :: tr ++ rest = tl ++ (op :: (tr ++ rest)) := by simp
      rw [et]
      refine sl.read x bs (op :: (tr ++ rest)) t ?_ ?_ ?_
      · rcases h1 with h1 | h1
        · exact .inl h1
        · exact .inr fun o hm => .inl (by have := hx o hm; omega)
      · intro e
        have : op = "(" := Option.some.inj e
        subst this
        revert ho
        decide +kernel
      · obtain ⟨a, b, c, o, g⟩ := sr.read { x with ops := op :: x.ops, vals := l :: x.vals } bs rest t (by
          rcases h2 with h2 | h2
          · exact .inl h2
          · refine .inr fun o hm => .inl ?_
            rcases List.mem_cons.mp hm with rfl | hm
            · exact h2
            · have := hx o hm; omega) hrest (by
          have q1 : sor ++ (op :: x.ops) = (sor ++ [op]) ++ x.ops := by simp
          have q2 : svr ++ (l :: x.vals) = (svr ++ [l]) ++ x.vals := by simp
          show Fin_ rest { x with ops := sor ++ (op :: x.ops), vals := svr ++ (l :: x.vals) } bs t
          rw [q1, q2]
          exact hf)
        refine .op (.op ho (fun h4 => ?_) (ops' := x.ops) (vals' := l :: x.vals) ?_) o g
        · show cmpB (sol ++ x.ops) = false
          unfold cmpB
          refine List.any_eq_false.mpr fun z hz => ?_
          rw [decide_eq_true_eq]
          rcases List.mem_append.mp hz with hz | hz
          · have := sl.lv z hz
            unfold lvB at this
            rcases h1 with h1 | h1
            · rw [if_pos h1] at this; omega
            · by_cases hb : bl = true
              · rw [if_pos hb] at this; omega
              · rw [if_neg hb] at this; omega
          · have := hx z hz; omega
        · show foldB (lvl op) (sol ++ x.ops) (svl ++ x.vals) = _
          rw [sl.fold _ _ _ ll]
          exact foldB_stop hx
  | _, _, _, .par (e := e) (bx := bx) (ts := ts) h => by
    obtain ⟨so, sv, s⟩ := ph_sem h
    refine ⟨[], [e], fun o ho => by simp at ho, fun m ops vals _ => rfl, fun x bs rest r _ hr hf => ?_⟩
    have et : ("(" : Str) :: (ts ++ [(")" : Str)]) ++ rest = ("(" : Str) :: (ts ++ ((")" : Str) :: rest)) := by simp
    rw [et]
    obtain ⟨a, b, c, o, g⟩ := s.read ⟨none, [], [], []⟩ (x :: bs) ((")" : Str) :: rest) r (.inr fun o ho => by simp at ho) (by intro e; exact absurd (Option.some.inj e) (by decide +kernel)) (.close (e := e) (by
      show wholeB ⟨none, [], so ++ [], sv ++ []⟩ = some e
      unfold wholeB
      simp only
      rw [s.fold0 (lvB_pos h)]
      rfl) hf)
    refine ⟨a, b, c, .step .br ?_ o, g⟩
    cases ts ++ ((")" : Str) :: rest) with
    | nil => rfl
    | cons t q =>
      show (decide (t = ")") && (false && true)) = false
      simp
theorem phs_sem : ∀ {es : List Tr} {ts : List Str}, Phs es ts → es ≠ [] → ∀ (y : Br) (n : Str) (x : Br) bs rest r, y.caller = some n → y.ops = [] → y.vals = [] → y.args.length + es.length ≤ 3 → Fin_ rest { x with vals := .call n (y.args ++ es) :: x.vals } bs r → Rd (ts ++ ((")" : Str) :: rest)) (y :: x :: bs) r
  | _, _, .nil, h => absurd rfl h
  | _, _, .one (e := e) h, _ => fun y n x bs rest r hc ho hv hl hf => by
    obtain ⟨so, sv, s⟩ := ph_sem h
    refine s.read y (x :: bs) ((")" : Str) :: rest) r (.inr fun o hm => by rw [ho] at hm; simp at hm) (by intro e; exact absurd (Option.some.inj e) (by decide +kernel)) (.close (e := .call n (y.args ++ [e])) ?_ hf)
    show wholeB ⟨y.caller, y.args, so ++ y.ops, sv ++ y.vals⟩ = _
    rw [ho, hv, hc]
    unfold wholeB
    simp only
    rw [s.fold0 (lvB_pos h)]
    rfl
  | _, _, .cons (e := e) (e2 := e2) (es := es) (ts := ts) (us := us) h hs, _ => fun y n x bs rest r hc ho hv hl hf => by
    obtain ⟨so, sv, s⟩ := ph_sem h
    have et : ts ++ ("," : Str) :: us ++ ((")" : Str) :: rest) = ts ++ (("," : Str) :: (us ++ ((")" : Str) :: rest))) := by simp
    rw [et]
    have l2 : (e :: e2 :: es).length = es.length + 2 := rfl
    obtain ⟨a, b, c, o, g⟩ := phs_sem hs (by simp) { y with args := y.args ++ [e], ops := [], vals := [] } n x bs rest r hc rfl rfl (by
      show (y.args ++ [e]).length + (e2 :: es).length ≤ 3
      rw [List.length_append, List.length_cons]
      show y.args.length + 1 + (es.length + 1) ≤ 3
      omega) (by
      show Fin_ rest { x with vals := .call n ((y.args ++ [e]) ++ (e2 :: es)) :: x.vals } bs r
      have : (y.args ++ [e]) ++ (e2 :: es) = y.args ++ (e :: e2 :: es) := by simp
      rw [this]
      exact hf)
    refine s.read y (x :: bs) (("," : Str) :: (us ++ ((")" : Str) :: rest))) r (.inr fun o hm => by rw [ho] at hm; simp at hm) (by intro e; exact absurd (Option.some.inj e) (by decide +kernel)) (.op (.comma (ops' := []) (vals' := []) (e := e) ?_ ?_ ?_) o g)
    · show y.caller.isSome = true
      rw [hc]
      rfl
    · show y.args.length ≠ 2
      omega
    · show foldB 0 (so ++ y.ops) (sv ++ y.vals) = _
      rw [ho, hv, s.fold0 (lvB_pos h)]
end
theorem ph_read {e : Tr} {bx : Bool} {ts : List Str} (h : Ph e bx ts) : Rd ts [⟨none, [], [], []⟩] e := by
  obtain ⟨so, sv, s⟩ := ph_sem h
  have := s.read ⟨none, [], [], []⟩ [] [] e (.inr fun o ho => by simp at ho) (by simp) (.done (by
    show wholeB ⟨none, [], so ++ [], sv ++ []⟩ = some e
    unfold wholeB
    simp only
    rw [s.fold0 (lvB_pos h)]
    rfl))
  rw [List.append_nil] at this
  exact this


/-! a text whose tokens stand apart is cut into these tokens -/
def sp (k : Nat) : List Nat := List.replicate k 32
def layC : List (Nat × Str) → Nat → List Nat
  | [], k => sp k
  | (g, t) :: r, k => sp g ++ (t.cps.toList ++ layC r k)
def fc (t : Str) : Nat := t.cps.toList.headD 0
def Ends (t : Str) (rest : List Nat) : Prop := ∀ c, rest.head? = some c → (inS "0123456789" (fc t) = true → inS "0123456789" c = false) ∧ (inS "abcdefghijklmnopqrstuvwxyz" (fc t) = true → inS letDig c = false) ∧ (t = "<" ∨ t = ">" → c ≠ 61)
inductive TokOk : Str → Prop
  | num {t : Str} : isNum t 3 = true → TokOk t
  | word {t : Str} {c : Nat} {r : List Nat} : t.cps.toList = c :: r → inS "abcdefghijklmnopqrstuvwxyz" c = true → r.all (inS letDig) = true → t.length ≤ 8 → TokOk t
  | sign {t : Str} : t ∈ signs12 → TokOk t
theorem run_of {cs tl rest : List Nat} {a : Nat} {ss : Str} (h : cs.drop a = tl ++ rest) (h1 : tl.all (inS ss) = true) (h2 : ∀ c, rest.head? = some c → inS ss c = false) : runEnd cs a ss = a + tl.length := by
  unfold runEnd
  rw [h, take_while_len (j := tl.length) (by simp) (by rw [List.take_left]; exact h1) (fun c hc => h2 c (by
    rw [List.getElem?_append_right (Nat.le_refl _), Nat.sub_self] at hc
    rw [← hc]
    cases rest <;> rfl))]
theorem cut_of {cs rest : List Nat} {a : Nat} {t : Str} (h : cs.drop a = t.cps.toList ++ rest) : cutC cs a (a + t.cps.toList.length) = t := by
  unfold cutC
  rw [h, Nat.add_sub_cancel_left, List.take_left]
theorem getD_of {cs rest : List Nat} {a c : Nat} (h : cs.drop a = c :: rest) : cs.getD a 0 = c := by
  have : (cs.drop a)[0]? = some c := by rw [h]; rfl
  rw [List.getElem?_drop] at this
  rw [List.getD_eq_getElem?_getD]
  rw [show a + 0 = a from rfl] at this
  rw [this]
  rfl
theorem letter_nd : ∀ c ∈ ("abcdefghijklmnopqrstuvwxyz" : Str).cps.toList, inS "0123456789" c = false := by decide +kernel
theorem letter_not_digit {c : Nat} (h : inS "abcdefghijklmnopqrstuvwxyz" c = true) : inS "0123456789" c = false := letter_nd c (of_decide_eq_true h)
theorem letDig_of {c : Nat} (h : inS "abcdefghijklmnopqrstuvwxyz" c = true) : inS letDig c = true := by
  unfold inS letDig at *
  rw [s_cps]
  exact decide_eq_true (List.mem_append.mpr (.inl (of_decide_eq_true h)))
theorem letDig_of2 {c : Nat} (h : inS "0123456789" c = true) : inS letDig c = true := by
  unfold inS letDig at *
  rw [s_cps]
  exact decide_eq_true (List.mem_append.mpr (.inr (of_decide_eq_true h)))
def signOkB (t : Str) : Bool := !inS "0123456789" (fc t) && !inS "abcdefghijklmnopqrstuvwxyz" (fc t) && isTok t && (decide (t.cps.toList.length = 1) && !decide (fc t = 33) || decide (t ∈ (["!=", "<=", ">="] : List Str)) && decide (t.cps.toList.length = 2)) && (decide (fc t = 60) == decide (t = "<") || decide (t.cps.toList.length = 2)) && (decide (fc t = 62) == decide (t = ">") || decide (t.cps.toList.length = 2))
theorem sign_all : ∀ t ∈ signs12, signOkB t = true := by decide +kernel
theorem long_61 {c c' : Nat} (h : inV (.str ⟨[c, c'].toArray⟩) ((["!=", "<=", ">="] : List Str).map V.str) = true) : c' = 61 ∧ (c = 33 ∨ c = 60 ∨ c = 62) := by
  rw [inV_str] at h
  have h2 := of_decide_eq_true h
  simp only [List.mem_cons, List.not_mem_nil, or_false] at h2
  have go : ∀ (s : Str) (a : Nat), s.cps.toList = [a, 61] → (⟨[c, c'].toArray⟩ : Str) = s → c' = 61 ∧ c = a := by
    intro s a hs e
    have : [c, c'] = [a, 61] := by rw [← hs, ← e]
    exact ⟨(List.cons.inj (List.cons.inj this).2).1, (List.cons.inj this).1⟩
  rcases h2 with h2 | h2 | h2
  · have := go _ 33 (by decide +kernel) h2
    exact ⟨this.1, .inl this.2⟩
  · have := go _ 60 (by decide +kernel) h2
    exact ⟨this.1, .inr (.inl this.2)⟩
  · have := go _ 62 (by decide +kernel) h2
    exact ⟨this.1, .inr (.inr this.2)⟩
theorem long_1 {c : Nat} : inV (.str ⟨[c].toArray⟩) ((["!=", "<=", ">="] : List Str).map V.str) = false := by
  rw [inV_str]
  refine decide_eq_false fun h => ?_
  have : ∀ s ∈ (["!=", "<=", ">="] : List Str), s.cps.toList.length = 2 := by decide +kernel
  exact absurd (this _ h) (by show ¬ ((1 : Nat) = 2); decide)
structure TokEnd (t : Str) (cs : List Nat) (a : Nat) : Prop where
  e : tokenEnd cs a = a + t.cps.toList.length
  ok : isTok t = true
theorem isNum_digits {t : Str} {m : Nat} (h : isNum t m = true) : t.cps.toList.all (inS "0123456789") = true ∧ 1 ≤ t.length ∧ t.length ≤ m := by
  unfold isNum at h
  simp only [Bool.and_eq_true, decide_eq_true_eq] at h
  exact ⟨h.1.2, h.1.1.1, h.1.1.2⟩
theorem tok_end {t : Str} {cs rest : List Nat} {a : Nat} (ht : TokOk t) (h : cs.drop a = t.cps.toList ++ rest) (he : Ends t rest) : TokEnd t cs a := by
  cases ht with
  | num hn =>
    obtain ⟨hd, h1, _⟩ := isNum_digits hn
    have hl := str_len t
    obtain ⟨c, r, ec⟩ : ∃ c r, t.cps.toList = c :: r := by
      cases e : t.cps.toList with
      | nil => rw [e] at hl; simp at hl; omega
      | cons c r => exact ⟨c, r, rfl⟩
    have hc : inS "0123456789" c = true := by rw [ec, List.all_cons, Bool.and_eq_true] at hd; exact hd.1
    have fct : fc t = c := by unfold fc; rw [ec]; rfl
    have g := getD_of (a := a) (c := c) (rest := r ++ rest) (by rw [h, ec]; rfl)
    refine ⟨?_, ?_⟩
    · unfold tokenEnd
      rw [g, if_pos hc]
      exact run_of h hd fun c' hc' => (he c' hc').1 (by rw [fct]; exact hc)
    · unfold isTok
      rw [ec]
      simp only
      rw [if_pos hc]
      exact hn
  | @word c r ec hc hr hl =>
    have g := getD_of (a := a) (c := c) (rest := r ++ rest) (by rw [h, ec]; rfl)
    have nd := letter_not_digit hc
    have fct : fc t = c := by unfold fc; rw [ec]; rfl
    refine ⟨?_, ?_⟩
    · unfold tokenEnd
      rw [g, if_neg (by rw [nd]; decide), if_pos hc]
      exact run_of h (by rw [ec, List.all_cons, hr, letDig_of hc]; rfl) fun c' hc' => (he c' hc').2.1 (by rw [fct]; exact hc)
    · unfold isTok
      rw [ec]
      simp only
      rw [if_neg (by rw [nd]; decide), if_pos hc]
      exact decide_eq_true hl
  | sign hs =>
    have k := sign_all t hs
    unfold signOkB at k
    simp only [Bool.and_eq_true, Bool.or_eq_true, Bool.not_eq_true', decide_eq_true_eq, beq_iff_eq, decide_eq_false_iff_not] at k
    obtain ⟨⟨⟨⟨⟨k1, k2⟩, k3⟩, k4⟩, k5⟩, k6⟩ := k
    refine ⟨?_, k3⟩
    obtain ⟨c, r, ec⟩ : ∃ c r, t.cps.toList = c :: r := by
      cases e : t.cps.toList with
      | nil => rw [e] at k4; simp at k4
      | cons c r => exact ⟨c, r, rfl⟩
    have g := getD_of (a := a) (c := c) (rest := r ++ rest) (by rw [h, ec]; rfl)
    have fct : fc t = c := by unfold fc; rw [ec]; rfl
    rw [fct] at k1 k2
    unfold tokenEnd
    rw [g, if_neg (by rw [k1]; decide), if_neg (by rw [k2]; decide)]
    rcases k4 with ⟨k4, k33⟩ | ⟨k4, kl⟩
    · have er : r = [] := by rw [ec] at k4; simpa using k4
      subst er
      rw [k4]
      cases rest with
      | nil =>
        rw [h, ec]
        rw [if_neg (by rw [show List.take 2 ([c] ++ []) = [c] from rfl, long_1]; decide)]
      | cons c' rs =>
        rw [h, ec]
        refine if_neg fun z => ?_
        obtain ⟨z1, z2⟩ := long_61 z
        have q := (he c' rfl).2.2
        rw [fct] at k33 k5 k6
        have l1 : ¬ t.cps.toList.length = 2 := by omega
        rcases z2 with z2 | z2 | z2
        · exact k33 z2
        · rcases k5 with k5 | k5
          · rw [decide_eq_true z2] at k5
            exact q (.inl (of_decide_eq_true k5.symm)) z1
          · exact l1 k5
        · rcases k6 with k6 | k6
          · rw [decide_eq_true z2] at k6
            exact q (.inr (of_decide_eq_true k6.symm)) z1
          · exact l1 k6
    · rw [h, kl]
      refine if_pos ?_
      rw [show List.take 2 (t.cps.toList ++ rest) = t.cps.toList by rw [← kl, List.take_left], inV_str]
      exact decide_eq_true k4
def Lay : Str → List (Nat × Str) → Prop
  | _, [] => True
  | t, (g, u) :: r => TokOk u ∧ (g = 0 → Ends t u.cps.toList) ∧ Lay u r
theorem tok_first {t : Str} (h : TokOk t) : ∃ c r, t.cps.toList = c :: r ∧ c ≠ 32 := by
  have sp1 : inS "0123456789" 32 = false := by decide +kernel
  have sp2 : inS "abcdefghijklmnopqrstuvwxyz" 32 = false := by decide +kernel
  cases h with
  | num hn =>
    obtain ⟨hd, h1, _⟩ := isNum_digits hn
    have hl := str_len t
    cases e : t.cps.toList with
    | nil => rw [e] at hl; simp at hl; omega
    | cons c r =>
      refine ⟨c, r, rfl, fun e2 => ?_⟩
      rw [e, List.all_cons, Bool.and_eq_true, e2, sp1] at hd
      exact absurd hd.1 (by decide)
  | @word c r ec hc _ _ => exact ⟨c, r, ec, fun e2 => by rw [e2, sp2] at hc; cases hc⟩
  | sign hs =>
    have : ∀ t ∈ signs12, t.cps.toList ≠ [] ∧ t.cps.toList.head? ≠ some 32 := by decide +kernel
    obtain ⟨a, b⟩ := this t hs
    cases e : t.cps.toList with
    | nil => exact absurd e a
    | cons c r => exact ⟨c, r, rfl, fun e2 => b (by rw [e, e2]; rfl)⟩
theorem ends_sp {t : Str} {g : Nat} {l : List Nat} (h : g ≠ 0) : Ends t (sp g ++ l) := by
  intro c hc
  cases g with
  | zero => exact absurd rfl h
  | succ g =>
    have : c = 32 := (Option.some.inj hc).symm
    subst this
    exact ⟨fun _ => by decide +kernel, fun _ => by decide +kernel, fun _ => by decide⟩
theorem sp_all (k : Nat) : (sp k).all (inS " ") = true := by
  rw [List.all_eq_true]
  intro c hc
  rw [List.eq_of_mem_replicate hc]
  decide +kernel
theorem lexs_lay : ∀ (r : List (Nat × Str)) (t : Str) (k : Nat) (pre : List Nat) (n : Nat), TokOk t → Lay t r → r.length + 2 ≤ n → ∃ ts, lexs n (pre ++ (t.cps.toList ++ layC r k)) pre.length = .ok ts ∧ ts.map Prod.snd = t :: r.map Prod.snd
  | [], t, k, pre, n, ht, _, hn => by
    obtain ⟨c, tl, ec, hc⟩ := tok_first ht
    have hd : (pre ++ (t.cps.toList ++ layC [] k)).drop pre.length = t.cps.toList ++ sp k := by rw [List.drop_left]; rfl
    obtain ⟨te, tk⟩ := tok_end ht hd (by
      cases k with
      | zero => intro c hc; cases hc
      | succ k => have := ends_sp (t := t) (g := k + 1) (l := []) (by omega); rw [List.append_nil] at this; exact this)
    have hlt : pre.length < (pre ++ (t.cps.toList ++ layC [] k)).length := by rw [List.length_append, List.length_append, ec]; simp; omega
    match n, hn with
    | n + 2, hn =>
    refine ⟨[(pre.length, t)], ?_, rfl⟩
    unfold lexs
    rw [if_pos hlt, te, cut_of hd, if_pos tk]
    have hd2 : (pre ++ (t.cps.toList ++ layC [] k)).drop (pre.length + t.cps.toList.length) = sp k ++ [] := by
      rw [← List.append_assoc, ← List.length_append, List.drop_left, List.append_nil]
      rfl
    rw [run_of hd2 (sp_all k) (fun c hc => by cases hc)]
    unfold lexs
    rw [if_neg (by rw [List.length_append, List.length_append]; show ¬ _ < _ + (_ + (sp k).length); omega)]
  | (g, u) :: r, t, k, pre, n, ht, ⟨hu, hg, hr⟩, hn => by
    obtain ⟨c, tl, ec, hc⟩ := tok_first ht
    obtain ⟨c2, tl2, ec2, hc2⟩ := tok_first hu
    have hd : (pre ++ (t.cps.toList ++ layC ((g, u) :: r) k)).drop pre.length = t.cps.toList ++ (sp g ++ (u.cps.toList ++ layC r k)) := by rw [List.drop_left]; rfl
    obtain ⟨te, tk⟩ := tok_end ht hd (by
      by_cases h0 : g = 0
      · have := hg h0
        subst h0
        intro c hc
        exact this c (by rw [← hc, ec2]; rfl)
      · exact ends_sp h0)
    have hlt : pre.length < (pre ++ (t.cps.toList ++ layC ((g, u) :: r) k)).length := by rw [List.length_append, List.length_append, ec]; simp; omega
    match n, hn with
    | n + 1, hn =>
    have hd2 : (pre ++ (t.cps.toList ++ layC ((g, u) :: r) k)).drop (pre.length + t.cps.toList.length) = sp g ++ (u.cps.toList ++ layC r k) := by
      rw [← List.append_assoc, ← List.length_append, List.drop_left]
      rfl
    have eq : pre ++ (t.cps.toList ++ layC ((g, u) :: r) k) = (pre ++ t.cps.toList ++ sp g) ++ (u.cps.toList ++ layC r k) := by
      show pre ++ (t.cps.toList ++ (sp g ++ (u.cps.toList ++ layC r k))) = _
      simp
    obtain ⟨ts, h1, h2⟩ := lexs_lay r u k (pre ++ t.cps.toList ++ sp g) n hu hr (by simp at hn; omega)
    refine ⟨(pre.length, t) :: ts, ?_, by rw [List.map_cons, h2]; rfl⟩
    unfold lexs
    rw [if_pos hlt, te, cut_of hd, if_pos tk, run_of hd2 (sp_all g) (fun c hc => by
      rw [ec2] at hc
      have : c = c2 := (Option.some.inj hc).symm
      rw [this]
      unfold inS
      refine decide_eq_false fun m => hc2 ?_
      have : (" " : Str).cps.toList = [32] := by decide +kernel
      rw [this] at m
      exact List.mem_singleton.mp m)]
    have el : pre.length + t.cps.toList.length + (sp g).length = (pre ++ t.cps.toList ++ sp g).length := by rw [List.length_append, List.length_append]
    rw [el, eq, h1]
theorem lay_len : ∀ (r : List (Nat × Str)) (k : Nat) (t : Str), Lay t r → r.length ≤ (layC r k).length
  | [], _, _, _ => Nat.zero_le _
  | (g, u) :: r, k, t, ⟨hu, _, hr⟩ => by
    have := lay_len r k u hr
    obtain ⟨c, tl, ec, _⟩ := tok_first hu
    show r.length + 1 ≤ (sp g ++ (u.cps.toList ++ layC r k)).length
    rw [List.length_append, List.length_append, ec, List.length_cons]
    omega
/-- a text laid out is cut into its tokens -/
theorem lexAll_lay {z : Str} {g k : Nat} {t : Str} {r : List (Nat × Str)} (hz : z.cps.toList = layC ((g, t) :: r) k) (ht : TokOk t) (hr : Lay t r) : ∃ ts, lexAll z = .ok ts ∧ ts.map Prod.snd = t :: r.map Prod.snd := by
  obtain ⟨c, tl, ec, hc⟩ := tok_first ht
  have hl := str_len z
  have h1 : z.cps.toList = sp g ++ (t.cps.toList ++ layC r k) := hz
  have hlen : r.length + 1 ≤ z.length := by
    have := lay_len r k t hr
    rw [hl, h1, List.length_append, List.length_append, ec, List.length_cons]
    omega
  obtain ⟨ts, a, b⟩ := lexs_lay r t k (sp g) (z.length + 1) ht hr (by omega)
  refine ⟨ts, ?_, b⟩
  unfold lexAll
  have : runEnd z.cps.toList 0 " " = (sp g).length := by
    rw [run_of (cs := z.cps.toList) (a := 0) (tl := sp g) (rest := t.cps.toList ++ layC r k) h1 (sp_all g) (fun c' hc' => by
      rw [ec] at hc'
      have e : c' = c := (Option.some.inj hc').symm
      rw [e]
      unfold inS
      refine decide_eq_false fun m => hc ?_
      have : (" " : Str).cps.toList = [32] := by decide +kernel
      rw [this] at m
      exact List.mem_singleton.mp m), Nat.zero_add]
  rw [this, h1]
  exact a


/-! the tokens of an expression stand well beside one another -/
def NB (t u : Str) : Prop := (inS "0123456789" (fc t) = true → inS "0123456789" (fc u) = false) ∧ (t = "<" ∨ t = ">" → fc u ≠ 61)
def Adj : List Str → Prop
  | [] => True
  | t :: r => (∀ u, r.head? = some u → NB t u) ∧ Adj r
def GapOk : Str → List (Nat × Str) → Prop
  | _, [] => True
  | t, (g, u) :: r => (inS "abcdefghijklmnopqrstuvwxyz" (fc t) = true → inS letDig (fc u) = true → g ≠ 0) ∧ GapOk u r
theorem lay_of : ∀ {r : List (Nat × Str)} {t : Str}, Adj (t :: r.map Prod.snd) → (∀ u ∈ r.map Prod.snd, TokOk u) → GapOk t r → Lay t r
  | [], _, _, _, _ => True.intro
  | (g, u) :: r, t, ha, ho, hg => by
    refine ⟨ho u (by simp), fun h0 => ?_, lay_of ha.2 (fun v hv => ho v (by simp at hv ⊢; exact .inr hv)) hg.2⟩
    intro c hc
    have nb := ha.1 u rfl
    have ec : c = fc u := by
      unfold fc
      cases e : u.cps.toList with
      | nil => rw [e] at hc; cases hc
      | cons a b => rw [e] at hc; exact (Option.some.inj hc).symm
    rw [ec]
    refine ⟨nb.1, fun hl => ?_, nb.2⟩
    cases h : inS letDig (fc u) with
    | false => rfl
    | true => exact absurd h0 (hg.1 hl h)
theorem adj_app : ∀ {xs ys : List Str}, Adj xs → Adj ys → (∀ t u, xs.getLast? = some t → ys.head? = some u → NB t u) → Adj (xs ++ ys)
  | [], _, _, h, _ => h
  | [t], ys, _, h, j => ⟨fun u hu => j t u rfl hu, h⟩
  | t :: v :: xs, ys, ⟨h1, h2⟩, h, j => ⟨fun u hu => h1 u (by rw [← hu]; rfl), adj_app h2 h fun a b ha hb => j a b (by rw [← ha]; rfl) hb⟩
theorem signOk_letDig {c : Nat} (h : signOk c = true) : inS letDig c = true := by
  unfold signOk at h
  unfold inS letDig
  rw [s_cps]
  simp only [Bool.or_eq_true, decide_eq_true_eq] at h
  exact decide_eq_true (List.mem_append.mpr h)
structure PhT (ts : List Str) : Prop where
  ok : ∀ t ∈ ts, TokOk t
  adj : Adj ts
  head : ∃ t r, ts = t :: r ∧ fc t ≠ 61
  last : ∃ (p : List Str) (t : Str), ts = p ++ [t] ∧ t ≠ "<" ∧ t ≠ ">"
theorem tok_name {z : Str} (h : isName z = true ∨ z ∈ own4) : TokOk z ∧ inS "abcdefghijklmnopqrstuvwxyz" (fc z) = true ∧ z.length ≤ 8 := by
  rcases h with h | h
  · unfold isName at h
    simp only [Bool.and_eq_true, decide_eq_true_eq] at h
    obtain ⟨⟨⟨⟨h1, h2⟩, h3⟩, h4⟩, h5⟩ := h
    unfold firstOk at h3
    cases e : z.cps.toList with
    | nil => rw [e] at h3; cases h3
    | cons c r =>
      rw [e] at h3 h5
      have hc : inS "abcdefghijklmnopqrstuvwxyz" c = true := h3
      rw [List.all_cons, Bool.and_eq_true] at h5
      refine ⟨.word e hc ?_ h2, ?_, h2⟩
      · rw [List.all_eq_true] at *
        intro x hx
        have := h5.2 x hx
        exact signOk_letDig this
      · unfold fc
        rw [e]
        exact hc
  · have : ∀ z ∈ own4, (inS "abcdefghijklmnopqrstuvwxyz" (fc z) && z.cps.toList.tail.all (inS letDig) && decide (z.length ≤ 8) && decide (z.cps.toList ≠ [])) = true := by decide +kernel
    have k := this z h
    simp only [Bool.and_eq_true, decide_eq_true_eq] at k
    obtain ⟨⟨⟨k1, k2⟩, k3⟩, k4⟩ := k
    cases e : z.cps.toList with
    | nil => exact absurd e k4
    | cons c r =>
      have ef : fc z = c := by unfold fc; rw [e]; rfl
      rw [e] at k2
      exact ⟨.word e (by rw [← ef]; exact k1) k2 k3, k1, k3⟩
theorem num_fc : ∀ n, n < 1000 → (inS "0123456789" (fc (numS n)) && !decide (fc (numS n) = 61) && !decide (numS n = "<") && !decide (numS n = ">")) = true := by decide +kernel
theorem op_toks : ∀ o ∈ ops13, ((decide (o ∈ signs12) || (inS "abcdefghijklmnopqrstuvwxyz" (fc o) && o.cps.toList.tail.all (inS letDig) && decide (o.length ≤ 8) && decide (o.cps.toList ≠ []))) && !(inS "0123456789" (fc o))) = true := by decide +kernel
theorem tok_word {z : Str} (k : (inS "abcdefghijklmnopqrstuvwxyz" (fc z) && z.cps.toList.tail.all (inS letDig) && decide (z.length ≤ 8) && decide (z.cps.toList ≠ [])) = true) : TokOk z := by
  simp only [Bool.and_eq_true, decide_eq_true_eq] at k
  obtain ⟨⟨⟨k1, k2⟩, k3⟩, k4⟩ := k
  cases e : z.cps.toList with
  | nil => exact absurd e k4
  | cons c r =>
    have ef : fc z = c := by unfold fc; rw [e]; rfl
    rw [e] at k2
    exact .word e (by rw [← ef]; exact k1) k2 k3
theorem op_tok {o : Str} (h : o ∈ ops13) : TokOk o ∧ inS "0123456789" (fc o) = false := by
  have k := op_toks o h
  simp only [Bool.and_eq_true, Bool.or_eq_true, decide_eq_true_eq, Bool.not_eq_true'] at k
  refine ⟨?_, k.2⟩
  rcases k.1 with k1 | k1
  · exact .sign k1
  · exact tok_word (by simp only [Bool.and_eq_true, decide_eq_true_eq]; exact k1)
theorem nb_left {t u : Str} (h : inS "0123456789" (fc t) = false) (h1 : t ≠ "<" ∧ t ≠ ">") : NB t u := ⟨fun e => absurd e (by rw [h]; decide), fun e => by
  rcases e with e | e
  · exact absurd e h1.1
  · exact absurd e h1.2⟩
theorem nb_right {t u : Str} (h : inS "0123456789" (fc u) = false) (h1 : fc u ≠ 61) : NB t u := ⟨fun _ => h, fun _ => h1⟩
theorem adj_cons {t : Str} {ts : List Str} (h : Adj ts) (j : ∀ u, ts.head? = some u → NB t u) : Adj (t :: ts) := ⟨j, h⟩
theorem adj_snoc {t : Str} {ts : List Str} (h : Adj ts) (j : ∀ u, NB u t) : Adj (ts ++ [t]) := adj_app h ⟨fun u hu => (nomatch hu), True.intro⟩ fun a b _ hb => by
  cases hb
  exact j a
mutual
theorem ph_tok : ∀ {e : Tr} {bx : Bool} {ts : List Str}, Ph e bx ts → PhT ts
  | _, _, _, .pos (n := n) h => by
    have k := num_ok h
    have f := num_fc n (by omega)
    simp only [Bool.and_eq_true, decide_eq_true_eq, Bool.not_eq_true', decide_eq_false_iff_not] at f
    exact ⟨fun t ht => by rw [List.mem_singleton.mp ht]; exact .num k.num, ⟨fun u hu => (nomatch hu), True.intro⟩, ⟨_, _, rfl, f.1.1.2⟩, ⟨[], _, rfl, f.1.2, f.2⟩⟩
  | _, _, _, .neg (n := n) h => by
    have k := num_ok h
    have f := num_fc n (by omega)
    simp only [Bool.and_eq_true, decide_eq_true_eq, Bool.not_eq_true', decide_eq_false_iff_not] at f
    refine ⟨fun t ht => ?_, ⟨fun u _ => nb_left (by decide +kernel) (by decide +kernel), fun u hu => (nomatch hu), True.intro⟩, ⟨_, _, rfl, by decide +kernel⟩, ⟨[("-" : Str)], _, rfl, f.1.2, f.2⟩⟩
    rcases List.mem_cons.mp ht with rfl | ht
    · exact .sign (by decide +kernel)
    · rw [List.mem_singleton.mp ht]; exact .num k.num
  | _, _, _, .nm (z := z) h => by
    obtain ⟨t1, t2, t3⟩ := tok_name h
    have n61 : fc z ≠ 61 := fun e => by rw [e] at t2; revert t2; decide +kernel
    refine ⟨fun t ht => by rw [List.mem_singleton.mp ht]; exact t1, ⟨fun u hu => (nomatch hu), True.intro⟩, ⟨_, _, rfl, n61⟩, ⟨[], _, rfl, fun e => ?_, fun e => ?_⟩⟩
    · rw [e] at t2; revert t2; decide +kernel
    · rw [e] at t2; revert t2; decide +kernel
  | _, _, _, .call (n := n) (ts := ts) hn hl hs => by
    obtain ⟨t1, t2, t3⟩ := tok_name (.inl hn)
    have n61 : fc n ≠ 61 := fun e => by rw [e] at t2; revert t2; decide +kernel
    have h := phs_tok hs
    refine ⟨fun t ht => ?_, adj_cons (adj_cons (adj_snoc h.2 fun u => nb_right (by decide +kernel) (by decide +kernel)) fun u _ => nb_left (by decide +kernel) (by decide +kernel)) fun u hu => ?_, ⟨_, _, rfl, n61⟩, ⟨n :: ("(" : Str) :: ts, (")" : Str), rfl, by decide +kernel, by decide +kernel⟩⟩
    · rcases List.mem_cons.mp ht with rfl | ht
      · exact t1
      · rcases List.mem_cons.mp ht with rfl | ht
        · exact .sign (by decide +kernel)
        · rcases List.mem_append.mp ht with ht | ht
          · exact h.1 t ht
          · rw [List.mem_singleton.mp ht]; exact .sign (by decide +kernel)
    · cases hu
      exact nb_right (by decide +kernel) (by decide +kernel)
  | _, _, _, .nt (ts := ts) h _ => by
    have k := ph_tok h
    obtain ⟨p, t, e, l1, l2⟩ := k.last
    refine ⟨fun t ht => ?_, adj_cons k.adj fun u _ => nb_left (by decide +kernel) (by decide +kernel), ⟨_, _, rfl, by decide +kernel⟩, ⟨("not" : Str) :: p, t, by rw [e]; rfl, l1, l2⟩⟩
    rcases List.mem_cons.mp ht with rfl | ht
    · exact tok_word (by decide +kernel)
    · exact k.ok t ht
  | _, _, _, .bin (op := op) (tl := tl) (tr := tr) ho hl hr _ _ => by
    have kl := ph_tok hl
    have kr := ph_tok hr
    obtain ⟨t, r, e, h1⟩ := kl.head
    obtain ⟨p, q, e2, l1, l2⟩ := kl.last
    obtain ⟨t3, r3, e3, h3⟩ := kr.head
    obtain ⟨p4, q4, e4, l3, l4⟩ := kr.last
    obtain ⟨o1, o2⟩ := op_tok ho
    refine ⟨fun x hx => ?_, adj_app kl.adj (adj_cons kr.adj fun u hu => ?_) fun a b ha hb => ?_, ⟨t, r ++ op :: tr, by rw [e]; rfl, h1⟩, ⟨tl ++ op :: p4, q4, by rw [e4]; simp, l3, l4⟩⟩
    · rcases List.mem_append.mp hx with hx | hx
      · exact kl.ok x hx
      · rcases List.mem_cons.mp hx with rfl | hx
        · exact o1
        · exact kr.ok x hx
    · rw [e3] at hu
      cases hu
      exact ⟨fun e => absurd e (by rw [o2]; decide), fun _ => h3⟩
    · cases hb
      rw [e2, List.getLast?_append] at ha
      cases ha
      exact ⟨fun _ => o2, fun e => by
        rcases e with e | e
        · exact absurd e l1
        · exact absurd e l2⟩
  | _, _, _, .par (ts := ts) h => by
    have k := ph_tok h
    refine ⟨fun t ht => ?_, adj_cons (adj_snoc k.adj fun u => nb_right (by decide +kernel) (by decide +kernel)) fun u _ => nb_left (by decide +kernel) (by decide +kernel), ⟨_, _, rfl, by decide +kernel⟩, ⟨("(" : Str) :: ts, (")" : Str), rfl, by decide +kernel, by decide +kernel⟩⟩
    rcases List.mem_cons.mp ht with rfl | ht
    · exact .sign (by decide +kernel)
    · rcases List.mem_append.mp ht with ht | ht
      · exact k.ok t ht
      · rw [List.mem_singleton.mp ht]; exact .sign (by decide +kernel)
theorem phs_tok : ∀ {es : List Tr} {ts : List Str}, Phs es ts → (∀ t ∈ ts, TokOk t) ∧ Adj ts
  | _, _, .nil => ⟨fun t ht => (nomatch ht), True.intro⟩
  | _, _, .one h => ⟨(ph_tok h).ok, (ph_tok h).adj⟩
  | _, _, .cons (ts := ts) (us := us) h hs => by
    have k := ph_tok h
    have ks := phs_tok hs
    refine ⟨fun t ht => ?_, adj_app k.adj (adj_cons ks.2 fun u _ => nb_left (by decide +kernel) (by decide +kernel)) fun a b _ hb => ?_⟩
    · rcases List.mem_append.mp ht with ht | ht
      · exact k.ok t ht
      · rcases List.mem_cons.mp ht with rfl | ht
        · exact .sign (by decide +kernel)
        · exact ks.1 t ht
    · cases hb
      exact nb_right (by decide +kernel) (by decide +kernel)
end
/-- a text of an expression's tokens is read as this expression -/
theorem tok_len {t : Str} (h : TokOk t) : t.length ≤ 8 := by
  cases h with
  | num h =>
    have := (isNum_digits h).2.2
    omega
  | word _ _ _ h => exact h
  | sign h =>
    have : ∀ t ∈ signs12, t.length ≤ 8 := by decide +kernel
    exact this t h
structure Reads (z : Str) (e : Tr) : Prop where
  r : ∃ ts rest' x' bs', lexAll z = .ok ts ∧ (∀ t ∈ ts, t.2.length ≤ 8) ∧ Opd (ts.map Prod.snd) [⟨none, [], [], []⟩] rest' x' bs' ∧ Fin_ rest' x' bs' e
theorem reads_of {z : Str} {e : Tr} {bx : Bool} {ts : List Str} {L : List (Nat × Str)} {k : Nat} (h : Ph e bx ts) (hL : L.map Prod.snd = ts) (hz : z.cps.toList = layC L k) (hg : ∀ g t r, L = (g, t) :: r → GapOk t r) : Reads z e := by
  have q := ph_tok h
  obtain ⟨a, b, c, o, f⟩ := ph_read h
  obtain ⟨t, r, et, _⟩ := q.head
  cases L with
  | nil => rw [et] at hL; cases hL
  | cons y L =>
    obtain ⟨g, t'⟩ := y
    have adj := q.adj
    have ok := q.ok
    rw [← hL] at adj ok
    obtain ⟨ts2, l1, l2⟩ := lexAll_lay hz (ok t' (by simp)) (lay_of adj (fun u hu => ok u (by simp at hu ⊢; exact .inr hu)) (hg g t' L rfl))
    have l3 : ts2.map Prod.snd = ts := by rw [l2, ← hL]; rfl
    refine ⟨ts2, a, b, c, l1, fun t ht => ?_, by rw [l3]; exact o, f⟩
    exact tok_len (q.ok _ (by rw [← l3]; exact List.mem_map_of_mem ht))


/-! the written form is a text of the expression's tokens -/
def GapR : Str → List (Nat × Str) → Prop := GapOk
structure Layd (cs : List Nat) (ts : List Str) : Prop where
  l : ∃ (t : Str) (r : List (Nat × Str)), ts = t :: r.map Prod.snd ∧ cs = t.cps.toList ++ layC r 0 ∧ GapOk t r
theorem layd_one (t : Str) : Layd t.cps.toList [t] := ⟨t, [], rfl, by show _ = _ ++ []; rw [List.append_nil], True.intro⟩
theorem layC_app : ∀ (r s : List (Nat × Str)), layC (r ++ s) 0 = layC r 0 ++ layC s 0
  | [], s => rfl
  | (g, u) :: r, s => by
    show sp g ++ (u.cps.toList ++ layC (r ++ s) 0) = sp g ++ (u.cps.toList ++ layC r 0) ++ layC s 0
    rw [layC_app r s]
    simp
theorem gap_app : ∀ (r s : List (Nat × Str)) (t : Str), GapOk t r → (∀ v, (t :: r.map Prod.snd).getLast? = some v → GapOk v s) → GapOk t (r ++ s)
  | [], s, t, _, h => h t rfl
  | (g, u) :: r, s, t, ⟨h1, h2⟩, h => ⟨h1, gap_app r s u h2 fun v hv => h v (by rw [← hv]; rfl)⟩
theorem layd_app {cs ds : List Nat} {ts us : List Str} (g : Nat) (h1 : Layd cs ts) (h2 : Layd ds us) (hj : ∀ t u, ts.getLast? = some t → us.head? = some u → inS "abcdefghijklmnopqrstuvwxyz" (fc t) = true → inS letDig (fc u) = true → g ≠ 0) : Layd (cs ++ (sp g ++ ds)) (ts ++ us) := by
  obtain ⟨t, r, e1, c1, g1⟩ := h1.l
  obtain ⟨u, s, e2, c2, g2⟩ := h2.l
  refine ⟨t, r ++ (g, u) :: s, ?_, ?_, ?_⟩
  · rw [e1, e2]; simp
  · rw [c1, c2, layC_app, List.append_assoc]
    rfl
  · refine gap_app r _ t g1 fun v hv => ⟨fun a b => hj v u (by rw [e1]; exact hv) (by rw [e2]; rfl) a b, g2⟩
theorem sp1 : sp 1 = [32] := rfl
theorem layd_join0 {cs ds : List Nat} {ts us : List Str} (h1 : Layd cs ts) (h2 : Layd ds us) (hj : ∀ t u, ts.getLast? = some t → us.head? = some u → inS "abcdefghijklmnopqrstuvwxyz" (fc t) = true → inS letDig (fc u) = true → False) : Layd (cs ++ ds) (ts ++ us) := by
  have := layd_app 0 h1 h2 (fun t u a b c d => (hj t u a b c d).elim)
  exact this
theorem layd_brk {z : Str} {ts : List Str} (h : Layd z.cps.toList ts) : Layd ("(" ++ z ++ ")" : Str).cps.toList (("(" : Str) :: (ts ++ [(")" : Str)])) := by
  rw [s_cps, s_cps, List.append_assoc]
  refine layd_join0 (ts := [("(" : Str)]) (layd_one _) (layd_join0 h (layd_one _) fun t u _ hu _ hd => ?_) fun t u ht _ hl _ => ?_
  · cases hu
    revert hd
    decide +kernel
  · cases ht
    revert hl
    decide +kernel
def fineN (z : Str) : Prop := isName z = true ∨ z ∈ own4
mutual
def Tr.fine : Tr → Prop
  | .int i => -999 ≤ i ∧ i ≤ 999
  | .nm z => isName z = true ∨ z ∈ own4
  | .nt e => Tr.fine e
  | .bin op l r => op ∈ ops13 ∧ Tr.fine l ∧ Tr.fine r
  | .call n es => isName n = true ∧ es.length ≤ 3 ∧ Tr.fines es
def Tr.fines : List Tr → Prop
  | [] => True
  | e :: es => Tr.fine e ∧ Tr.fines es
end
theorem neg_wr : ∀ n : Nat, n < 1000 → n ≠ 0 → (Tr.wr (.int (-(n : Int)))).cps.toList = ("-" : Str).cps.toList ++ (numS n).cps.toList := by decide +kernel
def PhL (e : Tr) (bx : Bool) (z : Str) : Prop := ∃ ts, Ph e bx ts ∧ Layd z.cps.toList ts
theorem phl_brk {e : Tr} {z : Str} {bx : Bool} (h : PhL e bx z) (b : Bool) : ∃ bx', (b = true → bx' = true) ∧ (b = false → bx' = bx) ∧ PhL e bx' (brk z b) := by
  cases b with
  | false => exact ⟨bx, fun h => (nomatch h), fun _ => rfl, h⟩
  | true =>
    obtain ⟨ts, p, l⟩ := h
    exact ⟨true, fun _ => rfl, fun h => (nomatch h), _, .par p, layd_brk l⟩
mutual
theorem wr_lay : ∀ (e : Tr), Tr.fine e → PhL e false e.wr
  | .int i, h => by
    obtain ⟨h0, h1⟩ : -999 ≤ i ∧ i ≤ 999 := h
    by_cases hp : 0 ≤ i
    · obtain ⟨n, rfl⟩ := Int.eq_ofNat_of_zero_le hp
      exact ⟨_, .pos (by omega), layd_one (numS n)⟩
    · obtain ⟨n, rfl⟩ : ∃ n : Nat, i = -(n : Int) := ⟨(-i).toNat, by omega⟩
      refine ⟨_, .neg (n := n) (by omega), ?_⟩
      rw [neg_wr n (by omega) (by omega)]
      refine layd_join0 (ts := [("-" : Str)]) (layd_one _) (layd_one (numS n)) fun t u ht _ hl _ => ?_
      cases ht
      revert hl
      decide +kernel
  | .nm z, h => ⟨_, .nm h, layd_one z⟩
  | .nt e, h => by
    obtain ⟨bx, hb, hn, ts, p, l⟩ := phl_brk (wr_lay e h) (decide (e.lv < 3))
    refine ⟨_, .nt p ?_, ?_⟩
    · by_cases c : e.lv < 3
      · exact .inl (hb (decide_eq_true c))
      · exact .inr (by omega)
    · show Layd ("not " ++ brk e.wr (decide (e.lv < 3)) : Str).cps.toList _
      rw [s_cps, show ("not " : Str).cps.toList = ("not" : Str).cps.toList ++ [32] by decide +kernel, List.append_assoc]
      exact layd_app 1 (layd_one "not") l fun _ _ _ _ _ _ => by decide
  | .bin op l r, ⟨ho, hl, hr⟩ => by
    obtain ⟨b1, hb1, _, ts1, p1, l1⟩ := phl_brk (wr_lay l hl) (decide (l.lv < lvl op) || (decide (l.lv = 4) && decide (lvl op = 4)))
    obtain ⟨b2, hb2, _, ts2, p2, l2⟩ := phl_brk (wr_lay r hr) (decide (r.lv ≤ lvl op))
    refine ⟨_, .bin ho p1 p2 ?_ ?_, ?_⟩
    · by_cases c : (decide (l.lv < lvl op) || (decide (l.lv = 4) && decide (lvl op = 4))) = true
      · exact .inl (hb1 c)
      · refine .inr ?_
        simp only [Bool.or_eq_true, Bool.and_eq_true, decide_eq_true_eq, not_or] at c
        exact ⟨by omega, fun z => c.2 ⟨z.2, z.1⟩⟩
    · by_cases c : r.lv ≤ lvl op
      · exact .inl (hb2 (decide_eq_true c))
      · exact .inr (by omega)
    · show Layd (pairText op l.wr l.lv r.wr r.lv).cps.toList _
      unfold pairText
      rw [s_cps, s_cps, s_cps, s_cps, show (" " : Str).cps.toList = [32] by decide +kernel, List.append_assoc, List.append_assoc, List.append_assoc]
      exact layd_app 1 l1 (layd_app 1 (layd_one op) l2 fun _ _ _ _ _ _ => by decide) fun _ _ _ _ _ _ => by decide
  | .call n es, ⟨hn, hl, hs⟩ => by
    obtain ⟨ts, p, l⟩ := wrs_lay es hs
    refine ⟨_, .call hn hl p, ?_⟩
    show Layd (n ++ "(" ++ Txt.join ", " (Tr.wrs es) ++ ")" : Str).cps.toList _
    rw [s_cps, s_cps, s_cps, List.append_assoc, List.append_assoc]
    have last : Layd ((Txt.join ", " (Tr.wrs es)).cps.toList ++ (")" : Str).cps.toList) (ts ++ [(")" : Str)]) := by
      rcases l with ⟨rfl, e0⟩ | l
      · rw [e0]
        exact layd_one ")"
      · refine layd_join0 l (layd_one _) fun t u _ hu _ hd => ?_
        cases hu
        revert hd
        decide +kernel
    refine layd_join0 (ts := [n]) (layd_one n) (layd_join0 (ts := [("(" : Str)]) (layd_one _) last fun t u ht _ hl _ => ?_) fun t u ht hu _ hd => ?_
    · cases ht
      revert hl
      decide +kernel
    · cases hu
      revert hd
      decide +kernel
theorem wrs_lay : ∀ (es : List Tr), Tr.fines es → ∃ ts, Phs es ts ∧ ((ts = [] ∧ (Txt.join ", " (Tr.wrs es)).cps.toList = []) ∨ Layd (Txt.join ", " (Tr.wrs es)).cps.toList ts)
  | [], _ => ⟨[], .nil, .inl ⟨rfl, by decide +kernel⟩⟩
  | [e], ⟨h, _⟩ => by
    obtain ⟨ts, p, l⟩ := wr_lay e h
    refine ⟨ts, .one p, .inr ?_⟩
    have : Txt.join ", " (Tr.wrs [e]) = e.wr := by
      unfold Txt.join
      rw [StrLaws.glued_eq_join]
      rfl
    rw [this]
    exact l
  | e :: e2 :: es, ⟨h, hs⟩ => by
    obtain ⟨ts, p, l⟩ := wr_lay e h
    obtain ⟨us, p2, l2⟩ := wrs_lay (e2 :: es) hs
    refine ⟨_, .cons p p2, .inr ?_⟩
    have ej : Txt.join ", " (Tr.wrs (e :: e2 :: es)) = e.wr ++ ", " ++ Txt.join ", " (Tr.wrs (e2 :: es)) := by
      unfold Txt.join
      rw [StrLaws.glued_eq_join, StrLaws.glued_eq_join]
      rfl
    rw [ej, s_cps, s_cps, show (", " : Str).cps.toList = ("," : Str).cps.toList ++ [32] by decide +kernel, List.append_assoc, List.append_assoc]
    rcases l2 with ⟨rfl, _⟩ | l2
    · obtain ⟨t, r, e, _⟩ := phs_head p2 (by simp)
      cases e
    · refine layd_join0 l (layd_app 1 (layd_one ",") l2 fun _ _ _ _ _ _ => by decide) fun t u _ hu _ hd => ?_
      cases hu
      revert hd
      decide +kernel
end
theorem wr_reads {e : Tr} (h : Tr.fine e) : Reads e.wr e := by
  obtain ⟨ts, p, l⟩ := wr_lay e h
  obtain ⟨t, r, e1, c, g⟩ := l.l
  refine reads_of (L := (0, t) :: r) (k := 0) p (by rw [e1]; rfl) (by rw [c]; rfl) fun g' t' r' e => ?_
  cases e
  exact g


/-! the law's own writing -/
mutual
def Tr.dep : Tr → Nat
  | .int _ => 1
  | .nm _ => 1
  | .nt e => 1 + Tr.dep e
  | .bin _ l r => 1 + max (Tr.dep l) (Tr.dep r)
  | .call _ es => 1 + Tr.deps es
def Tr.deps : List Tr → Nat
  | [] => 0
  | e :: es => max (Tr.dep e) (Tr.deps es)
end
theorem dep_pos (e : Tr) : 1 ≤ Tr.dep e := by
  cases e with
  | int _ => exact Nat.le_refl _
  | nm _ => exact Nat.le_refl _
  | nt e => exact Nat.le_add_right _ _
  | bin _ _ _ => exact Nat.le_add_right _ _
  | call _ _ => exact Nat.le_add_right _ _
theorem deps_mem : ∀ {es : List Tr} {e : Tr}, e ∈ es → Tr.dep e ≤ Tr.deps es
  | _ :: es, e, h => by
    rcases List.mem_cons.mp h with rfl | h
    · exact Nat.le_max_left _ _
    · exact Nat.le_trans (deps_mem h) (Nat.le_max_right _ _)
theorem sizes_mem : ∀ {es : List Tr} {e : Tr}, e ∈ es → e.size ≤ Tr.sizes es
  | _ :: es, e, h => by
    show e.size ≤ _ + Tr.sizes es
    rcases List.mem_cons.mp h with rfl | h
    · exact Nat.le_add_right _ _
    · exact Nat.le_trans (sizes_mem h) (Nat.le_add_left _ _)
def Tr.isInt : Tr → Bool
  | .int _ => true
  | _ => false
def Tr.isNm : Tr → Bool
  | .nm _ => true
  | _ => false
theorem kit1 {K : PySem.W.Frag} {t u : String} {b : Bool} (h : kitB t u = some b) : PySem.W.kitOne K (.type t) (.type u) = some b := kit_ty h
section
variable {K : PySem.W.Frag} {σ : L2.St} {H : Hp} {te tc : TE} {v : V} {e : Tr}
theorem tr_ty (h : TrAt K H v e) : TyX K H v (.type (if Tr.isInt e then "int" else if Tr.isNm e then "str" else "tuple")) := by
  cases h with
  | int i => exact .base (.int i)
  | nm z => exact .base (.str z)
  | nt h _ => exact tyX_tup h
  | bin h _ _ => exact tyX_tup h
  | call h _ _ => exact tyX_tup h
theorem ev_isInt (h : Ev te σ H v) (hc : Ev tc σ H (.ty "int")) (ht : TrAt K H v e) : Ev (tCB (rIsi K) (tCons te (tCons tc tNil))) σ H (.bl (Tr.isInt e)) := by
  refine ev_isi h hc (.ty _) (fun H1 e1 => tr_ty (ht.keep (TupKeep.of e1))) ?_
  cases e with
  | int _ => exact kit1 (t := "int") (u := "int") (b := true) (by decide +kernel)
  | nm _ => exact kit1 (t := "str") (u := "int") (b := false) (by decide +kernel)
  | nt _ => exact kit1 (t := "tuple") (u := "int") (b := false) (by decide +kernel)
  | bin _ _ _ => exact kit1 (t := "tuple") (u := "int") (b := false) (by decide +kernel)
  | call _ _ => exact kit1 (t := "tuple") (u := "int") (b := false) (by decide +kernel)
theorem ev_isStr (h : Ev te σ H v) (hc : Ev tc σ H (.ty "str")) (ht : TrAt K H v e) : Ev (tCB (rIsi K) (tCons te (tCons tc tNil))) σ H (.bl (Tr.isNm e)) := by
  refine ev_isi h hc (.ty _) (fun H1 e1 => tr_ty (ht.keep (TupKeep.of e1))) ?_
  cases e with
  | int _ => exact kit1 (t := "int") (u := "str") (b := false) (by decide +kernel)
  | nm _ => exact kit1 (t := "str") (u := "str") (b := true) (by decide +kernel)
  | nt _ => exact kit1 (t := "tuple") (u := "str") (b := false) (by decide +kernel)
  | bin _ _ _ => exact kit1 (t := "tuple") (u := "str") (b := false) (by decide +kernel)
  | call _ _ => exact kit1 (t := "tuple") (u := "str") (b := false) (by decide +kernel)
theorem ev_index {to ty : TE} {ys : List V} {y : V} {j : Nat} (ho : EvL to σ H ys) (hy : Ev ty σ H y) (fy : flatV y = true) (fys : ys.all flatV = true) (hj : ys[j]? = some y) (hyy : eqV y y = true) (hno : ∀ (m : Nat) (z' : V), m < j → ys[m]? = some z' → eqV z' y = false) :
    Ev (tBM K "list" (rIndex K) to (tCons ty tNil)) σ H (.int (j : Nat)) := fun H1 e1 Q q =>
  ho H1 e1 _ fun p H2 hp e2 h2 => ⟨Or.inl ⟨rfl, _, sq_of h2⟩, hy H2 (e1.trans e2) _ fun H3 e3 => ⟨p, ys, y, j, y, rfl, rfl, sq_of (e3 _ _ h2), fy, fys, hj, hyy, hno, q H3 (e2.trans e3)⟩⟩
end
def spOps : Sp := fun vs H Q _ => vs = [] ∧ RetL (ops13.map V.str) H Q
def spLevel (K : PySem.W.Frag) : Sp := fun vs H Q _ => ∃ (v : V) (e : Tr), vs = [v] ∧ TrAt K H v e ∧ e.good ∧ RetV (.int e.lv) H Q
def leftB (e : Tr) : Bool := match e with
  | .bin op l _ => decide (l.lv < lvl op) || (decide (lvl op = 4) && decide (l.lv = 4))
  | _ => false
def spLeft (K : PySem.W.Frag) : Sp := fun vs H Q _ => ∃ (v : V) (op : Str) (l r : Tr), vs = [v] ∧ TrAt K H v (.bin op l r) ∧ Tr.good (.bin op l r) ∧ RetV (.bl (leftB (.bin op l r))) H Q
def spWritten (K : PySem.W.Frag) (d : Nat) : Sp := fun vs H Q _ => ∃ (v : V) (e : Tr), vs = [v] ∧ TrAt K H v e ∧ e.good ∧ e.size ≤ 1000 ∧ Tr.dep e ≤ d ∧ RetV (.str e.wr) H Q
def spBoxed (K : PySem.W.Frag) (d : Nat) : Sp := fun vs H Q _ => ∃ (v : V) (e : Tr) (b : Bool), vs = [v, .bl b] ∧ TrAt K H v e ∧ e.good ∧ e.size ≤ 1000 ∧ Tr.dep e ≤ d ∧ RetV (.str (brk e.wr b)) H Q
def lvlsL : List Int := [1, 2, 4, 4, 4, 4, 4, 4, 5, 5, 6, 6, 6]
theorem ops_idx : ∀ op ∈ ops13, (ops13[ops13.idxOf op]? = some op ∧ lvlsL[ops13.idxOf op]? = some (lvl op)) ∧ ∀ m, m < ops13.idxOf op → ops13.getD m "" ≠ op := by decide +kernel
section
variable {P : Program} {w : World} {K : PySem.W.Frag} {mg : Str → Option Value} {base : Heap} {fa : Nat → Addr} {fd : Nat → FuncData} {cv : Nat → Value}
theorem ok_ops (T : Txt w K mg fa fd cv) : FnOk P w K mg base CX0 1 (fa 39) (fd 39) [] spOps := by
  refine T.d_law_ops.F.ok sc_law_ops (fun vs H Q E h => ?_) (fun cdv A outer s H vs Q E hr h => ?_)
  · obtain ⟨rfl, _⟩ := h
    rfl
  · obtain ⟨rfl, q⟩ := h
    refine ⟨_, pss_one (ps_ret (pe_lst (pa_cons pe_str (pa_cons pe_str (pa_cons pe_str (pa_cons pe_str (pa_cons pe_str (pa_cons pe_str (pa_cons pe_str (pa_cons pe_str (pa_cons pe_str (pa_cons pe_str (pa_cons pe_str (pa_cons pe_str (pa_cons pe_str pa_nil))))))))))))))), ?_⟩
    exact s_retL (el_lst (vs := ops13.map V.str) (ea_cons ev_c (ea_cons ev_c (ea_cons ev_c (ea_cons ev_c (ea_cons ev_c (ea_cons ev_c (ea_cons ev_c (ea_cons ev_c (ea_cons ev_c (ea_cons ev_c (ea_cons ev_c (ea_cons ev_c (ea_cons ev_c ea_nil))))))))))))) (by decide)) fun p H1 hp e1 h1 => q p H1 hp e1 h1
theorem el_ops {H : Hp} {σ : L2.St} : EvL (tCall spOps [] E0 tNil) σ H (ops13.map V.str) := el_call ea_nil fun H1 e1 Q q E => ⟨rfl, fun p H2 hp e2 h2 => q p H2 hp e2 h2⟩
theorem ok_level (T : Txt w K mg fa fd cv) : FnOk P w K mg base CX0 2 (fa 44) (fd 44) ["e"] (spLevel K) := by
  have G_law_ops := ok_ops (P := P) (w := w) (base := base) T
  refine T.d_law_level.F.ok sc_law_level (fun vs H Q E h => ?_) (fun cdv A outer s H vs Q E hr h => ?_)
  · obtain ⟨v, e, rfl, _⟩ := h
    rfl
  · obtain ⟨v, e, rfl, ht, hg, q⟩ := h
    refine ⟨_, pss_cons (ps_if (PW.pt (pw_or (pt_val (pe_callB call_isi (by rfl) T.b_isinstance (by decide +kernel) (pa_cons (pv 0) (pa_cons (pe_bltn (v := .ty "int") (by rfl) T.b_int (by decide +kernel) rfl) pa_nil)))) (pw_or (pt_val (pe_callB call_isi (by rfl) T.b_isinstance (by decide +kernel) (pa_cons (pv 0) (pa_cons (pe_bltn (v := .ty "str") (by rfl) T.b_str (by decide +kernel) rfl) pa_nil)))) (pw_or1 (pt_cmpR op_eq (pe_ix ix_tup (pv 0) pe_int (fun _ _ => rfl)) pe_str (nomark _)))))) (pss_one (ps_ret pe_int)) (pss_nil))
      (pss_cons (ps_if (pt_cmpR op_eq (pe_ix ix_tup (pv 0) pe_int (fun _ _ => rfl)) pe_str (nomark _)) (pss_one (ps_ret pe_int)) (pss_nil))
      (pss_one (ps_ret (pe_ix ix_list (pe_lst (pa_cons pe_int (pa_cons pe_int (pa_cons pe_int (pa_cons pe_int (pa_cons pe_int (pa_cons pe_int (pa_cons pe_int (pa_cons pe_int (pa_cons pe_int (pa_cons pe_int (pa_cons pe_int (pa_cons pe_int (pa_cons pe_int pa_nil)))))))))))))) (pe_bm PySem.F.plainAttrs_list PySem.F.slot_list_index PySem.F.type_list_index mt_index (pe_call0 G_law_ops (by first | exact hr.mono (by decide) | exact hr.mono (by omega)) (by rfl) T.d_law_ops.g T.d_law_ops.k T.d_law_ops.b .nil pass0) (pa_cons (pe_ix ix_tup (pv 0) pe_int (fun _ _ => rfl)) pa_nil)) (fun _ _ => rfl))))), ?_⟩
    cases ht with
    | int i =>
      exact q_when (b := true) (et_or (b := false) (et_B (ev_isInt (ev_var rfl) ev_c (.int i))) (fun h => nomatch h)) (fun _ H1 e1 => s_ret ev_c fun H2 e2 => q H2 (e1.trans e2)) (fun h => nomatch h)
    | nm z =>
      exact q_when (b := true) (et_or (et_B (ev_isInt (ev_var rfl) ev_c (.nm z))) (fun _ => et_or (b := false) (et_B (ev_isStr (ev_var rfl) ev_c (.nm z))) (fun h => nomatch h))) (fun _ H1 e1 => s_ret ev_c fun H2 e2 => q H2 (e1.trans e2)) (fun h => nomatch h)
    | nt h t =>
      refine q_when (b := false) (et_is (et_or (et_B (ev_isInt (ev_var rfl) ev_c (.nt h t))) (fun _ => et_or (et_B (ev_isStr (ev_var rfl) ev_c (.nt h t))) (fun _ => et_test (ev_op (ev_op (ev_var rfl) ev_c (rv_ixT h (atI_zero rfl))) ev_c rv_eqS)))) (by show (false || (false || decide (("not" : Str) = "call"))) = false; decide +kernel)) (fun h => nomatch h) (fun _ H1 e1 => ?_)
      exact q_when (b := true) (et_is (et_test (ev_op (ev_op (ev_var rfl) ev_c (rv_ixT (ex_t e1 h) (atI_zero rfl))) ev_c rv_eqS)) (by decide +kernel)) (fun _ H2 e2 => s_ret ev_c fun H3 e3 => q H3 ((e1.trans e2).trans e3)) (fun h => nomatch h)
    | call h g ts =>
      exact q_when (b := true) (et_is (et_or (et_B (ev_isInt (ev_var rfl) ev_c (.call h g ts))) (fun _ => et_or (et_B (ev_isStr (ev_var rfl) ev_c (.call h g ts))) (fun _ => et_test (ev_op (ev_op (ev_var rfl) ev_c (rv_ixT h (atI_zero rfl))) ev_c rv_eqS)))) (by show (false || (false || decide (("call" : Str) = "call"))) = true; decide +kernel)) (fun _ H1 e1 => s_ret ev_c fun H2 e2 => q H2 (e1.trans e2)) (fun h => nomatch h)
    | @bin a v w op l r h t u =>
      obtain ⟨o1, o2⟩ := op_call op hg.1
      refine q_when (b := false) (et_is (et_or (et_B (ev_isInt (ev_var rfl) ev_c (.bin h t u))) (fun _ => et_or (et_B (ev_isStr (ev_var rfl) ev_c (.bin h t u))) (fun _ => et_test (ev_op (ev_op (ev_var rfl) ev_c (rv_ixT h (atI_zero rfl))) ev_c rv_eqS)))) (by rw [decide_eq_false o1]; rfl)) (fun h => nomatch h) (fun _ H1 e1 => ?_)
      refine q_when (b := false) (et_is (et_test (ev_op (ev_op (ev_var rfl) ev_c (rv_ixT (ex_t e1 h) (atI_zero rfl))) ev_c rv_eqS)) (decide_eq_false o2)) (fun h => nomatch h) (fun _ H2 e2 => ?_)
      obtain ⟨⟨i1, i2⟩, i3⟩ := ops_idx op hg.1
      have ix : ∀ H3, Ex H2 H3 → Ev (tBM K "list" (rIndex K) (tCall spOps [] E0 tNil) (tCons (tOp (rIxT K) (tVar 0) (tC (.int 0))) tNil)) [some (.ref a)] H3 (.int (ops13.idxOf op : Nat)) := fun H3 e3 =>
        ev_index el_ops (ev_op (ev_var rfl) ev_c (rv_ixT (ex_t ((e1.trans e2).trans e3) h) (atI_zero rfl))) rfl (by decide +kernel) (by rw [List.getElem?_map, i1]; rfl) (by show (op == op) = true; exact beq_self_eq_true op) (fun m z' hm hz => by
          rw [List.getElem?_map] at hz
          cases e : ops13[m]? with
          | none => rw [e] at hz; cases hz
          | some o =>
            rw [e] at hz
            cases hz
            have := i3 m hm
            rw [List.getD_eq_getElem?_getD, e] at this
            show (o == op) = false
            exact beq_eq_false_iff_ne.mpr this)
      refine s_ret (ev_opL1 (xs := lvlsL.map V.int) (el_lst (ea_cons ev_c (ea_cons ev_c (ea_cons ev_c (ea_cons ev_c (ea_cons ev_c (ea_cons ev_c (ea_cons ev_c (ea_cons ev_c (ea_cons ev_c (ea_cons ev_c (ea_cons ev_c (ea_cons ev_c (ea_cons ev_c ea_nil))))))))))))) (by decide)) (fun H3 e3 => ix H3 e3) fun p H3 hp e3 => rv_ixL (sq_of hp) (at_of rfl (by rw [List.getElem?_map, i2]; rfl))) fun H3 e3 => q H3 ((e1.trans e2).trans e3)
theorem sp_level {v : V} {e : Tr} {H : Hp} (ht : TrAt K H v e) (hg : e.good) : SpV (spLevel K) [v] H (.int e.lv) := fun H1 e1 Q q E => ⟨v, e, rfl, ht.keep (TupKeep.of e1), hg, fun H2 e2 => q H2 e2⟩
theorem ok_left (T : Txt w K mg fa fd cv) : FnOk P w K mg base CX0 3 (fa 45) (fd 45) ["e"] (spLeft K) := by
  have G_law_level := ok_level (P := P) (w := w) (base := base) T
  refine T.d_law_left.F.ok sc_law_left (fun vs H Q E h => ?_) (fun cdv A outer s H vs Q E hr h => ?_)
  · obtain ⟨v, op, l, r, rfl, _⟩ := h
    rfl
  · obtain ⟨v, op, l, r, rfl, ht, hg, q⟩ := h
    refine ⟨_, pss_cons (ps_set (i := 1) sc_law_left.nd rfl (Or.inl rfl) (pe_call G_law_level (by first | exact hr.mono (by decide) | exact hr.mono (by omega)) (by rfl) T.d_law_level.g T.d_law_level.k T.d_law_level.b .nil pass0 (pa_cons (pv 0) pa_nil)))
      (pss_one (ps_ret (pe_or (pe_cmpR op_lt (pe_call G_law_level (by first | exact hr.mono (by decide) | exact hr.mono (by omega)) (by rfl) T.d_law_level.g T.d_law_level.k T.d_law_level.b .nil pass0 (pa_cons (pe_ix ix_tup (pv 0) pe_int (fun _ _ => rfl)) pa_nil)) (pv 1) (nomark _)) (pe_one (pe_and (pe_cmpR op_eq (pv 1) pe_int (nomark _)) (pe_one (pe_cmpR op_eq (pe_call G_law_level (by first | exact hr.mono (by decide) | exact hr.mono (by omega)) (by rfl) T.d_law_level.g T.d_law_level.k T.d_law_level.b .nil pass0 (pa_cons (pe_ix ix_tup (pv 0) pe_int (fun _ _ => rfl)) pa_nil)) pe_int (nomark _)))))))), ?_⟩
    cases ht with
    | @bin a v w _ _ _ h t u =>
      refine q_asg (ev_call (ea_cons (ev_var rfl) ea_nil) (sp_level (.bin h t u) hg)) fun H1 e1 => ?_
      have k1 : TupKeep K H H1 := TupKeep.of e1
      exact s_ret (ev_orV (ev_op (ev_call (ea_cons (ev_op (ev_var rfl) ev_c (rv_ixT (ex_t e1 h) (at_of (j := 1) rfl rfl))) ea_nil) (sp_level (t.keep k1) hg.2.1)) (ev_var rfl) rv_I0) fun _ => ev_andV (ev_op (ev_var rfl) ev_c rv_eqI) fun _ => ev_op (ev_call (ea_cons (ev_op (ev_var rfl) ev_c (rv_ixT (ex_t e1 h) (at_of (j := 1) rfl rfl))) ea_nil) (sp_level (t.keep k1) hg.2.1)) ev_c rv_eqI) fun H2 e2 => q H2 (e1.trans e2)
theorem sp_left {v : V} {op : Str} {l r : Tr} {H : Hp} (ht : TrAt K H v (.bin op l r)) (hg : Tr.good (.bin op l r)) : SpV (spLeft K) [v] H (.bl (leftB (.bin op l r))) := fun H1 e1 Q q E => ⟨v, op, l, r, rfl, ht.keep (TupKeep.of e1), hg, fun H2 e2 => q H2 e2⟩
theorem sp_boxed {d : Nat} {v : V} {e : Tr} {b : Bool} {H : Hp} (ht : TrAt K H v e) (hg : e.good) (hz : e.size ≤ 1000) (hd : Tr.dep e ≤ d) : SpV (spBoxed K d) [v, .bl b] H (.str (brk e.wr b)) := fun H1 e1 Q q E => ⟨v, e, b, rfl, ht.keep (TupKeep.of e1), hg, hz, hd, fun H2 e2 => q H2 e2⟩
theorem sp_written {d : Nat} {v : V} {e : Tr} {H : Hp} (ht : TrAt K H v e) (hg : e.good) (hz : e.size ≤ 1000) (hd : Tr.dep e ≤ d) : SpV (spWritten K d) [v] H (.str e.wr) := fun H1 e1 Q q E => ⟨v, e, rfl, ht.keep (TupKeep.of e1), hg, hz, hd, fun H2 e2 => q H2 e2⟩
theorem ok_boxed {d k : Nat} (T : Txt w K mg fa fd cv) (G_law_written : FnOk P w K mg base CX0 k (fa 47) (fd 47) ["e"] (spWritten K d)) : FnOk P w K mg base CX0 (k + 1) (fa 46) (fd 46) ["e", "need"] (spBoxed K d) := by
  refine T.d_law_boxed.F.ok sc_law_boxed (fun vs H Q E h => ?_) (fun cdv A outer s H vs Q E hr h => ?_)
  · obtain ⟨v, e, b, rfl, _⟩ := h
    rfl
  · obtain ⟨v, e, b, rfl, ht, hg, hz, hd, q⟩ := h
    refine ⟨_, pss_cons (ps_if (pt_val (pv 1)) (pss_one (ps_ret (pe_op op_add_str (pe_op op_add_str pe_str (pe_call G_law_written (by first | exact hr.mono (by decide) | exact hr.mono (by omega)) (by rfl) T.d_law_written.g T.d_law_written.k T.d_law_written.b .nil pass0 (pa_cons (pv 0) pa_nil))) pe_str))) (pss_nil))
      (pss_one (ps_ret (pe_call G_law_written (by first | exact hr.mono (by decide) | exact hr.mono (by omega)) (by rfl) T.d_law_written.g T.d_law_written.k T.d_law_written.b .nil pass0 (pa_cons (pv 0) pa_nil)))), ?_⟩
    have wl := Tr.wr_len hg
    refine q_when (b := b) (et_B (ev_var rfl)) (fun hb H1 e1 => ?_) (fun hb H1 e1 => ?_)
    · subst hb
      exact s_ret (ev_op (ev_op ev_c (ev_call (ea_cons (ev_var rfl) ea_nil) (sp_written (ht.keep (TupKeep.of e1)) hg hz hd)) (rv_addS (by show ("(" : Str).length + e.wr.length ≤ _; rw [show ("(" : Str).length = 1 from rfl]; exact sz_of (by omega)))) ev_c (rv_addS (by rw [Str.length_append, show ("(" : Str).length = 1 from rfl, show (")" : Str).length = 1 from rfl]; exact sz_of (by omega)))) fun H2 e2 => q H2 (e1.trans e2)
    · subst hb
      exact s_ret (ev_call (ea_cons (ev_var rfl) ea_nil) (sp_written (ht.keep (TupKeep.of e1)) hg hz hd)) fun H2 e2 => q H2 (e1.trans e2)
theorem ok_lwritten (T : Txt w K mg fa fd cv) : ∀ d, FnOk P w K mg base CX0 (2 * d + 4) (fa 47) (fd 47) ["e"] (spWritten K d)
  | 0 => by
    refine T.d_law_written.F.ok sc_law_written (fun vs H Q E h => ?_) (fun cdv A outer s H vs Q E hr h => ?_)
    · obtain ⟨v, e, rfl, _⟩ := h
      rfl
    · obtain ⟨v, e, _, _, _, _, hd, _⟩ := h
      have := dep_pos e
      omega
  | d + 1 => by
    have G_law_level := ok_level (P := P) (w := w) (base := base) T
    have G_law_left := ok_left (P := P) (w := w) (base := base) T
    have G_law_written := ok_lwritten T d
    have G_law_boxed := ok_boxed (P := P) (w := w) (base := base) T G_law_written
    refine T.d_law_written.F.ok sc_law_written (fun vs H Q E h => ?_) (fun cdv A outer s H vs Q E hr h => ?_)
    · obtain ⟨v, e, rfl, _⟩ := h
      rfl
    · obtain ⟨v, e, rfl, ht, hg, hz, hd, q⟩ := h
      refine ⟨_, pss_cons (ps_if (pt_val (pe_callB call_isi (by rfl) T.b_isinstance (by decide +kernel) (pa_cons (pv 0) (pa_cons (pe_bltn (v := .ty "int") (by rfl) T.b_int (by decide +kernel) rfl) pa_nil)))) (pss_one (ps_ret (pe_callTy call_str_int (by rfl) T.b_str (by decide +kernel) (pa_cons (pv 0) pa_nil)))) (pss_nil))
      (pss_cons (ps_if (pt_val (pe_callB call_isi (by rfl) T.b_isinstance (by decide +kernel) (pa_cons (pv 0) (pa_cons (pe_bltn (v := .ty "str") (by rfl) T.b_str (by decide +kernel) rfl) pa_nil)))) (pss_one (ps_ret (pv 0))) (pss_nil))
      (pss_cons (ps_if (pt_cmpR op_eq (pe_ix ix_tup (pv 0) pe_int (fun _ _ => rfl)) pe_str (nomark _)) (pss_one (ps_ret (pe_op op_add_str (pe_op op_add_str (pe_op op_add_str (pe_ix ix_tup (pv 0) pe_int (fun _ _ => rfl)) pe_str) (pe_join pe_str (pe_lc (own := [("part", 2)]) (g := gName 2) rfl sc_law_written.nd (pi_tup (pe_ix ix_tup (pv 0) pe_int (fun _ _ => rfl))) (blkOk_by (own := [("part", 2)]) (N := N_law_written) (sc := defScope s_law_written) (by decide +kernel)) (fun _ _ _ _ _ => pg_name (i := 2) sc_law_written.nd rfl (Or.inl rfl)) (fun _ _ _ _ _ => pts_nil) (fun _ _ _ _ _ => (pe_call G_law_written (by first | exact hr.mono (by decide) | exact hr.mono (by omega)) (by rfl) T.d_law_written.g T.d_law_written.k T.d_law_written.b .nil pass0 (pa_cons (pv 2) pa_nil)))))) pe_str))) (pss_nil))
      (pss_cons (ps_if (pt_cmpR op_eq (pe_ix ix_tup (pv 0) pe_int (fun _ _ => rfl)) pe_str (nomark _)) (pss_one (ps_ret (pe_op op_add_str pe_str (pe_call G_law_boxed (by first | exact hr.mono (by decide) | exact hr.mono (by omega)) (by rfl) T.d_law_boxed.g T.d_law_boxed.k T.d_law_boxed.b .nil pass0 (pa_cons (pe_ix ix_tup (pv 0) pe_int (fun _ _ => rfl)) (pa_cons (pe_cmpR op_lt (pe_call G_law_level (by first | exact hr.mono (by decide) | exact hr.mono (by omega)) (by rfl) T.d_law_level.g T.d_law_level.k T.d_law_level.b .nil pass0 (pa_cons (pe_ix ix_tup (pv 0) pe_int (fun _ _ => rfl)) pa_nil)) pe_int (nomark _)) pa_nil)))))) (pss_nil))
      (pss_cons (ps_set (i := 1) sc_law_written.nd rfl (Or.inl rfl) (pe_call G_law_boxed (by first | exact hr.mono (by decide) | exact hr.mono (by omega)) (by rfl) T.d_law_boxed.g T.d_law_boxed.k T.d_law_boxed.b .nil pass0 (pa_cons (pe_ix ix_tup (pv 0) pe_int (fun _ _ => rfl)) (pa_cons (pe_cmpR op_le (pe_call G_law_level (by first | exact hr.mono (by decide) | exact hr.mono (by omega)) (by rfl) T.d_law_level.g T.d_law_level.k T.d_law_level.b .nil pass0 (pa_cons (pe_ix ix_tup (pv 0) pe_int (fun _ _ => rfl)) pa_nil)) (pe_call G_law_level (by first | exact hr.mono (by decide) | exact hr.mono (by omega)) (by rfl) T.d_law_level.g T.d_law_level.k T.d_law_level.b .nil pass0 (pa_cons (pv 0) pa_nil)) (nomark _)) pa_nil))))
      (pss_one (ps_ret (pe_op op_add_str (pe_op op_add_str (pe_op op_add_str (pe_op op_add_str (pe_call G_law_boxed (by first | exact hr.mono (by decide) | exact hr.mono (by omega)) (by rfl) T.d_law_boxed.g T.d_law_boxed.k T.d_law_boxed.b .nil pass0 (pa_cons (pe_ix ix_tup (pv 0) pe_int (fun _ _ => rfl)) (pa_cons (pe_call G_law_left (by first | exact hr.mono (by decide) | exact hr.mono (by omega)) (by rfl) T.d_law_left.g T.d_law_left.k T.d_law_left.b .nil pass0 (pa_cons (pv 0) pa_nil)) pa_nil))) pe_str) (pe_ix ix_tup (pv 0) pe_int (fun _ _ => rfl))) pe_str) (pv 1)))))))), ?_⟩
      have wl := Tr.wr_len hg
      cases ht with
      | int i =>
        have hi : i.natAbs.log2 < 1920 := small_log hg.1 hg.2
        exact q_when (b := true) (et_B (ev_isInt (ev_var rfl) ev_c (.int i))) (fun _ H1 e1 => s_ret (v := .str (Tr.wr (.int i))) (ev_cb (ea_cons (ev_var rfl) ea_nil) (fun H2 _ Q2 q2 => ⟨i, rfl, hi, q2 H2 (Ex.refl H2)⟩)) fun H2 e2 => q H2 (e1.trans e2)) (fun h => nomatch h)
      | nm z =>
        refine q_when (b := false) (et_B (ev_isInt (ev_var rfl) ev_c (.nm z))) (fun h => nomatch h) (fun _ H1 e1 => ?_)
        exact q_when (b := true) (et_B (ev_isStr (ev_var rfl) ev_c (.nm z))) (fun _ H2 e2 => s_ret (ev_var rfl) fun H3 e3 => q H3 ((e1.trans e2).trans e3)) (fun h => nomatch h)
      | @nt a v e h t =>
        refine q_when (b := false) (et_B (ev_isInt (ev_var rfl) ev_c (.nt h t))) (fun h => nomatch h) (fun _ H1 e1 => ?_)
        refine q_when (b := false) (et_B (ev_isStr (ev_var rfl) ev_c (.nt (ex_t e1 h) (t.keep (TupKeep.of e1))))) (fun h => nomatch h) (fun _ H2 e2 => ?_)
        refine q_when (b := false) (et_is (et_test (ev_op (ev_op (ev_var rfl) ev_c (rv_ixT (ex_t (e1.trans e2) h) (atI_zero rfl))) ev_c rv_eqS)) (by decide +kernel)) (fun h => nomatch h) (fun _ H3 e3 => ?_)
        refine q_when (b := true) (et_is (et_test (ev_op (ev_op (ev_var rfl) ev_c (rv_ixT (ex_t ((e1.trans e2).trans e3) h) (atI_zero rfl))) ev_c rv_eqS)) (by decide +kernel)) (fun _ H4 e4 => ?_) (fun h => nomatch h)
        have e14 := ((e1.trans e2).trans e3).trans e4
        have h4 := ex_t e14 h
        have t4 := t.keep (TupKeep.of e14)
        have hd' : Tr.dep e ≤ d := by have : 1 + Tr.dep e ≤ d + 1 := hd; omega
        have hz' : e.size ≤ 1000 := by have : 1 + e.size ≤ 1000 := hz; omega
        have bl := brk_len e.wr (decide (e.lv < 3))
        have wl2 := Tr.wr_len (e := e) hg
        refine s_ret (v := .str (Tr.wr (.nt e))) (ev_op ev_c (ev_call (ea_cons (ev_op (ev_var rfl) ev_c (rv_ixT h4 (at_of (j := 1) rfl rfl))) (ea_cons (ev_op (ev_call (ea_cons (ev_op (ev_var rfl) ev_c (rv_ixT h4 (at_of (j := 1) rfl rfl))) ea_nil) (sp_level t4 hg)) ev_c rv_I0) ea_nil)) (sp_boxed t4 hg hz' hd')) (rv_addS (by rw [show ("not " : Str).length = 4 from rfl]; exact sz_of (by omega)))) fun H5 e5 => q H5 (e14.trans e5)
      | @bin a v u op l r h t u' =>
        obtain ⟨o1, o2⟩ := op_call op hg.1
        refine q_when (b := false) (et_B (ev_isInt (ev_var rfl) ev_c (.bin h t u'))) (fun h => nomatch h) (fun _ H1 e1 => ?_)
        refine q_when (b := false) (et_B (ev_isStr (ev_var rfl) ev_c ((TrAt.bin h t u').keep (TupKeep.of e1)))) (fun h => nomatch h) (fun _ H2 e2 => ?_)
        refine q_when (b := false) (et_is (et_test (ev_op (ev_op (ev_var rfl) ev_c (rv_ixT (ex_t (e1.trans e2) h) (atI_zero rfl))) ev_c rv_eqS)) (decide_eq_false o1)) (fun h => nomatch h) (fun _ H3 e3 => ?_)
        refine q_when (b := false) (et_is (et_test (ev_op (ev_op (ev_var rfl) ev_c (rv_ixT (ex_t ((e1.trans e2).trans e3) h) (atI_zero rfl))) ev_c rv_eqS)) (decide_eq_false o2)) (fun h => nomatch h) (fun _ H4 e4 => ?_)
        have e14 := ((e1.trans e2).trans e3).trans e4
        have h4 := ex_t e14 h
        have tl := t.keep (TupKeep.of e14)
        have tr := u'.keep (TupKeep.of e14)
        have hdl : Tr.dep l ≤ d := by have : 1 + max (Tr.dep l) (Tr.dep r) ≤ d + 1 := hd; omega
        have hdr : Tr.dep r ≤ d := by have : 1 + max (Tr.dep l) (Tr.dep r) ≤ d + 1 := hd; omega
        have hz' : 1 + l.size + r.size ≤ 1000 := hz
        have ol := op_len op hg.1
        have w1 := Tr.wr_len hg.2.1
        have w2 := Tr.wr_len hg.2.2
        have b1 := brk_len l.wr (leftB (.bin op l r))
        have b2 := brk_len r.wr (decide (r.lv ≤ lvl op))
        refine q_asg (v := .str (brk r.wr (decide (r.lv ≤ lvl op)))) (ev_call (ea_cons (ev_op (ev_var rfl) ev_c (rv_ixT h4 (at_of (j := 2) rfl rfl))) (ea_cons (ev_op (ev_call (ea_cons (ev_op (ev_var rfl) ev_c (rv_ixT h4 (at_of (j := 2) rfl rfl))) ea_nil) (sp_level tr hg.2.2)) (ev_call (ea_cons (ev_var rfl) ea_nil) (sp_level (.bin h4 tl tr) hg)) rv_I0) ea_nil)) (sp_boxed tr hg.2.2 (by omega) hdr)) fun H5 e5 => ?_
        have h5 := ex_t e5 h4
        have k5 := TupKeep.of (K := K) e5
        refine s_ret (v := .str (brk l.wr (leftB (.bin op l r)) ++ " " ++ op ++ " " ++ brk r.wr (decide (r.lv ≤ lvl op)))) (ev_op (ev_op (ev_op (ev_op (ev_call (ea_cons (ev_op (ev_var rfl) ev_c (rv_ixT h5 (at_of (j := 1) rfl rfl))) (ea_cons (ev_call (ea_cons (ev_var rfl) ea_nil) (sp_left (.bin h5 (tl.keep k5) (tr.keep k5)) hg)) ea_nil)) (sp_boxed (tl.keep k5) hg.2.1 (by omega) hdl)) ev_c (rv_addS ?_)) (ev_op (ev_var rfl) ev_c (rv_ixT h5 (atI_zero rfl))) (rv_addS ?_)) ev_c (rv_addS ?_)) (ev_var rfl) (rv_addS ?_)) fun H6 e6 => ?_
        · rw [show (" " : Str).length = 1 from rfl]; exact sz_of (by omega)
        · rw [Str.length_append, show (" " : Str).length = 1 from rfl]; exact sz_of (by omega)
        · rw [Str.length_append, Str.length_append, show (" " : Str).length = 1 from rfl]; exact sz_of (by omega)
        · rw [Str.length_append, Str.length_append, Str.length_append, show (" " : Str).length = 1 from rfl]; exact sz_of (by omega)
        · have e2 : leftB (.bin op l r) = (decide (l.lv < lvl op) || (decide (l.lv = 4) && decide (lvl op = 4))) := by
            unfold leftB
            rw [Bool.and_comm]
          rw [e2]
          exact q H6 ((e14.trans e5).trans e6)
      | @call a b vs n es h g ts =>
        refine q_when (b := false) (et_B (ev_isInt (ev_var rfl) ev_c (.call h g ts))) (fun h => nomatch h) (fun _ H1 e1 => ?_)
        refine q_when (b := false) (et_B (ev_isStr (ev_var rfl) ev_c ((TrAt.call h g ts).keep (TupKeep.of e1)))) (fun h => nomatch h) (fun _ H2 e2 => ?_)
        refine q_when (b := true) (et_is (et_test (ev_op (ev_op (ev_var rfl) ev_c (rv_ixT (ex_t (e1.trans e2) h) (atI_zero rfl))) ev_c rv_eqS)) (by decide +kernel)) (fun _ H3 e3 => ?_) (fun h => nomatch h)
        have e13 := (e1.trans e2).trans e3
        have h3 := ex_t e13 h
        have g3 := ex_t e13 g
        have lv := ts.len
        have l3 : es.length ≤ 3 := hg.2.1
        have hzs : 1 + Tr.sizes es ≤ 1000 := hz
        have hds : 1 + Tr.deps es ≤ d + 1 := hd
        have jl := join_len ", " (Tr.wrs es)
        have lw : (Tr.wrs es).length = es.length := by rw [Tr.wrs_eq, List.length_map]
        have wrl : ((Tr.wrs es).map (·.length)).sum + 2 * es.length ≤ 16 * Tr.sizes es := Tr.wrs_len hg.2.2
        have c2 : (", " : Str).length = 2 := rfl
        have hn8 : n.length ≤ 8 := hg.1
        rw [c2, lw] at jl
        refine s_ret (v := .str (n ++ "(" ++ Txt.join ", " (Tr.wrs es) ++ ")")) (ev_op (ev_op (ev_op (ev_op (ev_var rfl) ev_c (rv_ixT h3 (at_of (j := 1) rfl rfl))) ev_c (rv_addS ?_)) (ev_joinL ev_c (ys := Tr.wrs es) (el_lcTv (n := (Tr.wrs es).map V.str) (ev_op (ev_var rfl) ev_c (rv_ixT h3 (at_of (j := 2) rfl rfl))) g3 (by omega) (fun _ => rfl) (by rw [List.length_map, lw]; exact lv) fun i x H4 e4 hi => ?_) (by rw [c2]; omega)) (rv_addS ?_)) ev_c (rv_addS ?_)) fun H4 e4 => q H4 (e13.trans e4)
        · rw [show ("(" : Str).length = 1 from rfl]; exact sz_of (by omega)
        · obtain ⟨t, ht, tt⟩ := ts.get hi
          have hm : t ∈ es := List.mem_of_getElem? ht
          have e34 := e13.trans e4
          refine ev_is (ev_call (ea_cons (ev_var (by first | rfl | simp)) ea_nil) (sp_written (tt.keep (TupKeep.of e34)) (Tr.goods_iff.mp hg.2.2 t hm) (by have := sizes_mem hm; omega) (by have := deps_mem hm; omega))) ?_
          rw [Tr.wrs_eq, List.getD_eq_getElem?_getD, List.getElem?_map, List.getElem?_map, ht]
          rfl
        · rw [Str.length_append, show ("(" : Str).length = 1 from rfl]; exact sz_of (by omega)
        · rw [Str.length_append, Str.length_append, show ("(" : Str).length = 1 from rfl, show (")" : Str).length = 1 from rfl]; exact sz_of (by omega)
end


/-! the law's own looks: alike, few signs -/
inductive Sm (K : PySem.W.Frag) (H : Hp) : Nat → V → V → Prop
  | int (d : Nat) (i : Int) : Sm K H (d + 1) (.int i) (.int i)
  | str (d : Nat) (z : Str) : Sm K H (d + 1) (.str z) (.str z)
  | tup {d : Nat} {a b : Addr} {xs ys : List V} : SqT K H a xs → SqT K H b ys → xs.length ≤ 10 → xs.length = ys.length → (∀ (i : Nat) (x y : V), xs[i]? = some x → ys[i]? = some y → Sm K H d x y) → Sm K H (d + 1) (.ref a) (.ref b)
theorem Sm.keep {K : PySem.W.Frag} {H H' : Hp} (k : TupKeep K H H') : ∀ {d : Nat} {v u : V}, Sm K H d v u → Sm K H' d v u
  | _, _, _, .int d i => .int d i
  | _, _, _, .str d z => .str d z
  | _, _, _, .tup h g l e r => .tup (k _ _ h) (k _ _ g) l e fun i x y hx hy => (r i x y hx hy).keep k
theorem Sm.up {K : PySem.W.Frag} {H : Hp} : ∀ {d : Nat} {v u : V}, Sm K H d v u → ∀ m, d ≤ m → Sm K H m v u
  | _, _, _, .int d i, m + 1, _ => .int m i
  | _, _, _, .str d z, m + 1, _ => .str m z
  | _, _, _, .tup h g l e r, m + 1, hm => .tup h g l e fun i x y hx hy => (r i x y hx hy).up m (by omega)
mutual
theorem tr_sm {K : PySem.W.Frag} {H : Hp} : ∀ {v u : V} {e : Tr}, TrAt K H v e → TrAt K H u e → e.good → Sm K H (2 * Tr.dep e + 1) v u
  | _, _, _, .int i, .int _, _ => .int _ i
  | _, _, _, .nm z, .nm _, _ => .str _ z
  | _, _, _, .nt (e := e) h t, .nt g s, hg => by
    have ih := tr_sm t s hg
    refine .tup h g (by show 2 ≤ 10; decide) rfl fun i x y hx hy => ?_
    have hd : Tr.dep (.nt e) = 1 + Tr.dep e := rfl
    match i, hx, hy with
    | 0, hx, hy => cases hx; cases hy; exact (Sm.str 0 _).up _ (by omega)
    | 1, hx, hy => cases hx; cases hy; exact ih.up _ (by omega)
    | i + 2, hx, hy => cases hx
  | _, _, _, .bin (op := op) (l := l) (r := r) h t u, .bin g s w, hg => by
    have i1 := tr_sm t s hg.2.1
    have i2 := tr_sm u w hg.2.2
    have hd : Tr.dep (.bin op l r) = 1 + max (Tr.dep l) (Tr.dep r) := rfl
    refine .tup h g (by show 3 ≤ 10; decide) rfl fun i x y hx hy => ?_
    match i, hx, hy with
    | 0, hx, hy => cases hx; cases hy; exact (Sm.str 0 _).up _ (by omega)
    | 1, hx, hy => cases hx; cases hy; exact i1.up _ (by omega)
    | 2, hx, hy => cases hx; cases hy; exact i2.up _ (by omega)
    | i + 3, hx, hy => cases hx
  | _, _, _, .call (n := n) (es := es) h g ts, .call h' g' ts', hg => by
    have l1 := ts.len
    have l2 := ts'.len
    have l3 : es.length ≤ 3 := hg.2.1
    have hd : Tr.dep (.call n es) = 1 + Tr.deps es := rfl
    refine .tup h h' (by show 3 ≤ 10; decide) rfl fun i x y hx hy => ?_
    match i, hx, hy with
    | 0, hx, hy => cases hx; cases hy; exact (Sm.str 0 _).up _ (by omega)
    | 1, hx, hy => cases hx; cases hy; exact (Sm.str 0 _).up _ (by omega)
    | 2, hx, hy =>
      cases hx
      cases hy
      have : Sm K H (2 * Tr.deps es + 1 + 1) _ _ := Sm.tup g g' (by omega) (by omega) fun j x y hx hy => (trs_sm ts ts' hg.2.2 j x y hx hy)
      exact this.up _ (by omega)
    | i + 3, hx, hy => cases hx
theorem trs_sm {K : PySem.W.Frag} {H : Hp} : ∀ {vs us : List V} {es : List Tr}, TrsAt K H vs es → TrsAt K H us es → Tr.goods es → ∀ (i : Nat) (x y : V), vs[i]? = some x → us[i]? = some y → Sm K H (2 * Tr.deps es + 1) x y
  | _, _, _, .nil, .nil, _, i, x, y, hx, _ => by cases hx
  | _, _, _, .cons (e := e) (es := es) t ts, .cons s ss, hg, 0, x, y, hx, hy => by
    cases hx
    cases hy
    have hd : Tr.deps (e :: es) = max (Tr.dep e) (Tr.deps es) := rfl
    exact (tr_sm t s hg.1).up _ (by omega)
  | _, _, _, .cons (e := e) (es := es) t ts, .cons s ss, hg, i + 1, x, y, hx, hy => by
    have hd : Tr.deps (e :: es) = max (Tr.dep e) (Tr.deps es) := rfl
    exact (trs_sm ts ss hg.2 i x y hx hy).up _ (by omega)
end
def tyV1 : V → String
  | .int _ => "int"
  | .str _ => "str"
  | _ => "tuple"
theorem sm_ty {K : PySem.W.Frag} {H : Hp} {d : Nat} {v u : V} (h : Sm K H d v u) : TyX K H v (.type (tyV1 v)) ∧ TyX K H u (.type (tyV1 u)) ∧ tyV1 v = tyV1 u := by
  cases h with
  | int d i => exact ⟨.base (.int i), .base (.int i), rfl⟩
  | str d z => exact ⟨.base (.str z), .base (.str z), rfl⟩
  | tup h g _ _ _ => exact ⟨tyX_tup h, tyX_tup g, rfl⟩
theorem rc_intB {b : Bool} {H : Hp} : RC (fun xs H Q => (∃ i, xs = [V.int i] ∧ Q (V.int i) H) ∨ ∃ k, xs = [.bl k] ∧ Q (.int (if k then 1 else 0)) H) [.bl b] H (.int (if b then 1 else 0)) := fun H1 _ Q q => Or.inr ⟨b, rfl, q H1 (Ex.refl H1)⟩
def spWhl (K : PySem.W.Frag) : Sp := fun vs H Q _ => ∃ i : Int, vs = [.int i] ∧ RetV (.bl true) H Q
def spSame (K : PySem.W.Frag) (d : Nat) : Sp := fun vs H Q _ => ∃ v u : V, vs = [v, u] ∧ Sm K H d v u ∧ RetV (.bl true) H Q
def spFits : Sp := fun vs H Q _ => ∃ z : Str, vs = [.str z] ∧ z.length ≤ 90000 ∧ ∀ (b : Bool) H', Ex H H' → (b = true → z.length ≤ 400) → Q (.bl b) H'
section
variable {P : Program} {w : World} {K : PySem.W.Frag} {mg : Str → Option Value} {base : Heap} {fa : Nat → Addr} {fd : Nat → FuncData} {cv : Nat → Value}
theorem ok_lwhole (T : Txt w K mg fa fd cv) : FnOk P w K mg base CX0 1 (fa 33) (fd 33) ["value"] (spWhl K) := by
  refine T.d_law_whole.F.ok sc_law_whole (fun vs H Q E h => ?_) (fun cdv A outer s H vs Q E hr h => ?_)
  · obtain ⟨i, rfl, _⟩ := h
    rfl
  · obtain ⟨i, rfl, q⟩ := h
    refine ⟨_, pss_one (ps_ret (pe_and (pe_callB call_isi (by rfl) T.b_isinstance (by decide +kernel) (pa_cons (pv 0) (pa_cons (pe_bltn (v := .ty "int") (by rfl) T.b_int (by decide +kernel) rfl) pa_nil))) (pe_one (pe_not (pe_callB call_isi (by rfl) T.b_isinstance (by decide +kernel) (pa_cons (pv 0) (pa_cons (pe_bltn (v := .ty "bool") (by rfl) T.b_bool (by decide +kernel) rfl) pa_nil))))))), ?_⟩
    exact s_ret (ev_andV (a := true) (b := true) (ev_isi (t := .type "int") (ev_var rfl) ev_c (.ty _) (fun H1 e1 => .base (.int i)) (kit1 (b := true) (by decide +kernel))) fun _ => ev_notV (a := false) (ev_isi (t := .type "int") (ev_var rfl) ev_c (.ty _) (fun H1 e1 => .base (.int i)) (kit1 (b := false) (by decide +kernel)))) fun H1 e1 => q H1 e1
theorem ok_lsame (T : Txt w K mg fa fd cv) : ∀ d, FnOk P w K mg base CX0 (d + 2) (fa 54) (fd 54) ["told", "due"] (spSame K d)
  | 0 => by
    refine T.d_law_same.F.ok sc_law_same (fun vs H Q E h => ?_) (fun cdv A outer s H vs Q E hr h => ?_)
    · obtain ⟨v, u, rfl, _⟩ := h
      rfl
    · obtain ⟨v, u, _, h, _⟩ := h
      cases h
  | d + 1 => by
    have G_law_whole := ok_lwhole (P := P) (w := w) (base := base) T
    have G_law_same := ok_lsame T d
    refine T.d_law_same.F.ok sc_law_same (fun vs H Q E h => ?_) (fun cdv A outer s H vs Q E hr h => ?_)
    · obtain ⟨v, u, rfl, _⟩ := h
      rfl
    · obtain ⟨v, u, rfl, h, q⟩ := h
      refine ⟨_, pss_cons (ps_if (pt_val (pe_callB call_isi (by rfl) T.b_isinstance (by decide +kernel) (pa_cons (pv 1) (pa_cons (pe_bltn (v := .ty "int") (by rfl) T.b_int (by decide +kernel) rfl) pa_nil)))) (pss_one (ps_ret (pe_and (pe_call G_law_whole (by first | exact hr.mono (by decide) | exact hr.mono (by omega)) (by rfl) T.d_law_whole.g T.d_law_whole.k T.d_law_whole.b .nil pass0 (pa_cons (pv 0) pa_nil)) (pe_one (pe_cmpR op_eq (pv 0) (pv 1) (nomark _)))))) (pss_nil))
      (pss_cons (ps_if (pt_val (pe_callB call_isi (by rfl) T.b_isinstance (by decide +kernel) (pa_cons (pv 1) (pa_cons (pe_bltn (v := .ty "str") (by rfl) T.b_str (by decide +kernel) rfl) pa_nil)))) (pss_one (ps_ret (pe_and (pe_callB call_isi (by rfl) T.b_isinstance (by decide +kernel) (pa_cons (pv 0) (pa_cons (pe_bltn (v := .ty "str") (by rfl) T.b_str (by decide +kernel) rfl) pa_nil))) (pe_one (pe_cmpR op_eq (pv 0) (pv 1) (nomark _)))))) (pss_nil))
      (pss_cons (ps_if (PW.pt (pw_or (pt_not (pt_val (pe_callB call_isi (by rfl) T.b_isinstance (by decide +kernel) (pa_cons (pv 0) (pa_cons (pe_bltn (v := .ty "tuple") (by rfl) T.b_tuple (by decide +kernel) rfl) pa_nil))))) (pw_or1 (pt_cmpR op_ne (pe_callB call_len_seq (by rfl) T.b_len PySem.boot_len (pa_cons (pv 0) pa_nil)) (pe_callB call_len_seq (by rfl) T.b_len PySem.boot_len (pa_cons (pv 1) pa_nil)) (nomark _))))) (pss_one (ps_ret pe_bl)) (pss_nil))
      (pss_cons (ps_for PassesOwn.never rfl (pi_range1 (by rfl) T.b_range (pa_cons (pe_callB call_len_seq (by rfl) T.b_len PySem.boot_len (pa_cons (pv 1) pa_nil)) pa_nil)) (pg_name (i := 2) sc_law_same.nd rfl (Or.inl rfl)) (pss_one (ps_if (pt_not (pt_val (pe_call G_law_same (by first | exact hr.mono (by decide) | exact hr.mono (by omega)) (by rfl) T.d_law_same.g T.d_law_same.k T.d_law_same.b .nil pass0 (pa_cons (pe_ix ix_tup (pv 0) (pv 2) (fun _ _ => rfl)) (pa_cons (pe_ix ix_tup (pv 1) (pv 2) (fun _ _ => rfl)) pa_nil))))) (pss_one (ps_ret pe_bl)) (pss_nil))))
      (pss_one (ps_ret pe_bl))))), ?_⟩
      cases h with
      | int d i =>
        refine q_when (b := true) (et_B (ev_isi (t := .type "int") (ev_var rfl) ev_c (.ty _) (fun H1 e1 => .base (.int i)) (kit1 (b := true) (by decide +kernel)))) (fun _ H1 e1 => ?_) (fun h => nomatch h)
        exact s_ret (ev_is (ev_andV (a := true) (ev_call (ea_cons (ev_var rfl) ea_nil) (fun H2 e2 Q2 q2 E2 => ⟨i, rfl, fun H3 e3 => q2 H3 e3⟩)) fun _ => ev_op (ev_var rfl) (ev_var rfl) rv_eqI) (by rw [decide_eq_true rfl]; rfl)) fun H2 e2 => q H2 (e1.trans e2)
      | str d z =>
        refine q_when (b := false) (et_B (ev_isi (t := .type "str") (ev_var rfl) ev_c (.ty _) (fun H1 e1 => .base (.str z)) (kit1 (b := false) (by decide +kernel)))) (fun h => nomatch h) (fun _ H1 e1 => ?_)
        refine q_when (b := true) (et_B (ev_isi (t := .type "str") (ev_var rfl) ev_c (.ty _) (fun H1 e1 => .base (.str z)) (kit1 (b := true) (by decide +kernel)))) (fun _ H2 e2 => ?_) (fun h => nomatch h)
        exact s_ret (ev_is (ev_andV (a := true) (ev_isi (t := .type "str") (ev_var rfl) ev_c (.ty _) (fun H1 e1 => .base (.str z)) (kit1 (b := true) (by decide +kernel))) fun _ => ev_op (ev_var rfl) (ev_var rfl) rv_eqS) (by rw [decide_eq_true rfl]; rfl)) fun H3 e3 => q H3 ((e1.trans e2).trans e3)
      | @tup _ a b xs ys hx hy hl he hr2 =>
        refine q_when (b := false) (et_B (ev_isi (t := .type "tuple") (ev_var rfl) ev_c (.ty _) (fun H1 e1 => tyX_tup (ex_t e1 hy)) (kit1 (b := false) (by decide +kernel)))) (fun h => nomatch h) (fun _ H1 e1 => ?_)
        refine q_when (b := false) (et_B (ev_isi (t := .type "tuple") (ev_var rfl) ev_c (.ty _) (fun H2 e2 => tyX_tup (ex_t (e1.trans e2) hy)) (kit1 (b := false) (by decide +kernel)))) (fun h => nomatch h) (fun _ H2 e2 => ?_)
        have e12 := e1.trans e2
        refine q_when (b := false) (et_is (et_or (et_not (et_B (ev_isi (t := .type "tuple") (ev_var rfl) ev_c (.ty _) (fun H3 e3 => tyX_tup (ex_t (e12.trans e3) hx)) (kit1 (b := true) (by decide +kernel))))) fun _ => et_test (ev_op (ev_cb (ea_cons (ev_var rfl) ea_nil) (rc_lenT (ex_t e12 hx))) (ev_cb (ea_cons (ev_var rfl) ea_nil) (rc_lenT (ex_t e12 hy))) rv_neI)) (by rw [he, decide_eq_true rfl]; rfl)) (fun h => nomatch h) (fun _ H3 e3 => ?_)
        have e13 := e12.trans e3
        refine q_forR1 (n := (ys.length : Int)) (ea_cons (ev_cb (ea_cons (ev_var rfl) ea_nil) (rc_lenT (ex_t e13 hy))) ea_nil) (by omega) (fun i σ' H' => ∃ y, σ' = [some (.ref a), some (.ref b), y] ∧ Ex H H') (fun H4 e4 => ⟨none, rfl, e13.trans e4⟩) (fun i σ' H' hi ⟨y, hσ, e4⟩ => ?_) (fun σ' H' ⟨y, hσ, e4⟩ => ?_)
        · subst hσ
          have i1 : i < ys.length := by omega
          have i2 : i < xs.length := by omega
          have gx := List.getElem?_eq_getElem i2
          have gy := List.getElem?_eq_getElem i1
          exact s_when (b := false) (et_is (et_not (et_B (ev_call (ea_cons (ev_op (ev_var rfl) (ev_var rfl) (rv_ixT (ex_t e4 hx) (at_of (j := i) rfl gx))) (ea_cons (ev_op (ev_var rfl) (ev_var rfl) (rv_ixT (ex_t e4 hy) (at_of (j := i) rfl gy))) ea_nil)) (fun H5 e5 Q5 q5 E5 => ⟨_, _, rfl, (hr2 i _ _ gx gy).keep (TupKeep.of (e4.trans e5)), fun H6 e6 => q5 H6 e6⟩)))) rfl) (fun h => nomatch h) (fun _ H5 e5 => ⟨_, rfl, e4.trans e5⟩)
        · subst hσ
          exact s_ret ev_c fun H5 e5 => q H5 (e4.trans e5)
theorem ok_lfits (T : Txt w K mg fa fd cv) : FnOk P w K mg base CX0 1 (fa 53) (fd 53) ["text"] spFits := by
  refine T.d_law_fits.F.ok sc_law_fits (fun vs H Q E h => ?_) (fun cdv A outer s H vs Q E hr h => ?_)
  · obtain ⟨z, rfl, _⟩ := h
    rfl
  · obtain ⟨z, rfl, hz, q⟩ := h
    refine ⟨_, pss_cons (ps_set (i := 1) sc_law_fits.nd rfl (Or.inl rfl) pe_int)
      (pss_cons (ps_for PassesOwn.never rfl (pi_str (pv 0)) (pg_name (i := 2) sc_law_fits.nd rfl (Or.inl rfl)) (pss_cons (ps_set (i := 1) sc_law_fits.nd rfl (Or.inl rfl) (pe_op op_sub (pe_op op_add (pv 1) (pe_callTy call_int1 (by rfl) T.b_int PyProof.Rows.boot_int (pa_cons (pe_cmpR op_eq (pv 2) pe_str (nomark _)) pa_nil))) (pe_callTy call_int1 (by rfl) T.b_int PyProof.Rows.boot_int (pa_cons (pe_cmpR op_eq (pv 2) pe_str (nomark _)) pa_nil))))
      (pss_one (ps_if (pt_cmpR op_gt (pv 1) pe_int (nomark _)) (pss_one (ps_ret pe_bl)) (pss_nil)))))
      (pss_one (ps_ret (pe_cmpR op_le (pe_callB call_len_str (by rfl) T.b_len PySem.boot_len (pa_cons (pv 0) pa_nil)) pe_int (nomark _))))), ?_⟩
    refine q_asg (v := .int 0) ev_c fun H1 e1 => ?_
    refine q_forS (s := z) (ev_var rfl) (fun i σ' H' => ∃ (d : Int) (y : Option V), σ' = [some (.str z), some (.int d), y] ∧ Ex H H') (fun H2 e2 => ⟨0, none, rfl, e1.trans e2⟩) (fun i c σ' H' hi ⟨d, y, hσ, e2⟩ => ?_) (fun σ' H' ⟨d, y, hσ, e2⟩ => ?_)
    · subst hσ
      refine q_asg (ev_op (ev_op (ev_var rfl) (ev_cb (ea_cons (ev_op (ev_var rfl) ev_c rv_eqS) ea_nil) rc_intB) rv_I0) (ev_cb (ea_cons (ev_op (ev_var rfl) ev_c rv_eqS) ea_nil) rc_intB) rv_I0) fun H3 e3 => ?_
      exact s_when (et_test (ev_op (ev_var rfl) ev_c rv_I0)) (fun _ H4 e4 => s_ret ev_c fun H5 e5 => q false H5 (((e2.trans e3).trans e4).trans e5) (fun h => nomatch h)) (fun _ H4 e4 => ⟨_, _, rfl, (e2.trans e3).trans e4⟩)
    · subst hσ
      exact s_ret (ev_op (ev_cb (ea_cons (ev_var rfl) ea_nil) (rc_lenS (sz_of (by omega)))) ev_c rv_I0) fun H3 e3 => q _ H3 (e2.trans e3) fun h => by have := of_decide_eq_true h; omega
end


/-! the law's count of nodes; tokens of a number or a name -/
def spNodes (K : PySem.W.Frag) (d : Nat) : Sp := fun vs H Q _ => ∃ (v : V) (e : Tr), vs = [v] ∧ TrAt K H v e ∧ e.good ∧ Tr.dep e ≤ d ∧ RetV (.int (e.size : Int)) H Q
/-- the parts that the law counts -/
def Tr.kids : Tr → List Tr
  | .int _ => []
  | .nm _ => []
  | .nt e => [e]
  | .bin _ l r => [l, r]
  | .call _ es => es
theorem kids_size (e : Tr) : (e.size : Int) = 1 + ((Tr.kids e).map fun t => (t.size : Int)).sum := by
  have sz : ∀ es : List Tr, ((Tr.sizes es : Nat) : Int) = (es.map fun t => (t.size : Int)).sum := by
    intro es
    induction es with
    | nil => rfl
    | cons a b ih =>
      show ((a.size + Tr.sizes b : Nat) : Int) = (a.size : Int) + (b.map fun t => (t.size : Int)).sum
      rw [← ih]
      omega
  cases e with
  | int i => rfl
  | nm z => rfl
  | nt e =>
    show ((1 + e.size : Nat) : Int) = 1 + ((e.size : Int) + 0)
    omega
  | bin op l r =>
    show ((1 + l.size + r.size : Nat) : Int) = 1 + ((l.size : Int) + ((r.size : Int) + 0))
    omega
  | call n es =>
    show ((1 + Tr.sizes es : Nat) : Int) = 1 + (es.map fun t => (t.size : Int)).sum
    rw [← sz]
    omega
theorem kids_dep {e t : Tr} (h : t ∈ Tr.kids e) : Tr.dep t + 1 ≤ Tr.dep e := by
  cases e with
  | int i => cases h
  | nm z => cases h
  | nt e =>
    rw [List.mem_singleton.mp h]
    show Tr.dep e + 1 ≤ 1 + Tr.dep e
    omega
  | bin op l r =>
    show Tr.dep t + 1 ≤ 1 + max (Tr.dep l) (Tr.dep r)
    rcases List.mem_cons.mp h with rfl | h
    · omega
    · rw [List.mem_singleton.mp h]; omega
  | call n es =>
    have := deps_mem (show t ∈ es from h)
    show Tr.dep t + 1 ≤ 1 + Tr.deps es
    omega
theorem kids_good {e t : Tr} (hg : e.good) (h : t ∈ Tr.kids e) : t.good := by
  cases e with
  | int i => cases h
  | nm z => cases h
  | nt e => rw [List.mem_singleton.mp h]; exact hg
  | bin op l r =>
    rcases List.mem_cons.mp h with rfl | h
    · exact hg.2.1
    · rw [List.mem_singleton.mp h]; exact hg.2.2
  | call n es => exact Tr.goods_iff.mp hg.2.2 t h
theorem ev_sumL {K : PySem.W.Frag} {σ : L2.St} {H : Hp} {te : TE} {ns : List Int} (h : EvL te σ H (ns.map V.int)) : Ev (tCB (rSum K) (tCons te tNil)) σ H (.int ns.sum) := fun H1 e Q q =>
  h H1 e _ fun p H2 hp e2 h2 => ⟨p, ns, rfl, sq_of h2, q H2 e2⟩
section
variable {P : Program} {w : World} {K : PySem.W.Frag} {mg : Str → Option Value} {base : Heap} {fa : Nat → Addr} {fd : Nat → FuncData} {cv : Nat → Value}
theorem ok_lnodes (T : Txt w K mg fa fd cv) : ∀ d, FnOk P w K mg base CX0 (d + 1) (fa 52) (fd 52) ["e"] (spNodes K d)
  | 0 => by
    refine T.d_law_nodes.F.ok sc_law_nodes (fun vs H Q E h => ?_) (fun cdv A outer s H vs Q E hr h => ?_)
    · obtain ⟨v, e, rfl, _⟩ := h
      rfl
    · obtain ⟨v, e, _, _, _, hd, _⟩ := h
      have := dep_pos e
      omega
  | d + 1 => by
    have G_law_nodes := ok_lnodes T d
    refine T.d_law_nodes.F.ok sc_law_nodes (fun vs H Q E h => ?_) (fun cdv A outer s H vs Q E hr h => ?_)
    · obtain ⟨v, e, rfl, _⟩ := h
      rfl
    · obtain ⟨v, e, rfl, ht, hg, hd, q⟩ := h
      refine ⟨_, pss_cons (ps_if (PW.pt (pw_or (pt_val (pe_callB call_isi (by rfl) T.b_isinstance (by decide +kernel) (pa_cons (pv 0) (pa_cons (pe_bltn (v := .ty "int") (by rfl) T.b_int (by decide +kernel) rfl) pa_nil)))) (pw_or1 (pt_val (pe_callB call_isi (by rfl) T.b_isinstance (by decide +kernel) (pa_cons (pv 0) (pa_cons (pe_bltn (v := .ty "str") (by rfl) T.b_str (by decide +kernel) rfl) pa_nil))))))) (pss_one (ps_ret pe_int)) (pss_nil))
      (pss_cons (ps_set (i := 1) sc_law_nodes.nd rfl (Or.inl rfl) (pe_slice sl_tup (pv 0) (po_some pe_int) po_none))
      (pss_cut (ps_if (pt_cmpR op_eq (pe_ix ix_tup (pv 0) pe_int (fun _ _ => rfl)) pe_str (nomark _)) (pss_one (ps_set (i := 1) sc_law_nodes.nd rfl (Or.inl rfl) (pe_ix ix_tup (pv 0) pe_int (fun _ _ => rfl)))) (pss_nil))
      (pss_one (ps_ret (pe_op op_add pe_int (pe_callB (cr_sum rfl) (by rfl) T.b_sum (by decide +kernel) (pa_cons (pe_lc (own := [("part", 2)]) (g := gName 2) rfl sc_law_nodes.nd (pi_tup (pv 1)) (blkOk_by (own := [("part", 2)]) (N := N_law_nodes) (sc := defScope s_law_nodes) (by decide +kernel)) (fun _ _ _ _ _ => pg_name (i := 2) sc_law_nodes.nd rfl (Or.inl rfl)) (fun _ _ _ _ _ => pts_nil) (fun _ _ _ _ _ => (pe_call G_law_nodes (by first | exact hr.mono (by decide) | exact hr.mono (by omega)) (by rfl) T.d_law_nodes.g T.d_law_nodes.k T.d_law_nodes.b .nil pass0 (pa_cons (pv 2) pa_nil)))) pa_nil))))))), ?_⟩
      have fin : ∀ (p : Addr) (ws : List V) (H1 : Hp), Ex H H1 → SqT K H1 p ws → TrsAt K H1 ws (Tr.kids e) → ws.length ≤ 10 → ∀ y : Option V, EvL (tLc (iTup K (tVar 1)) (gName 2) tYes (tCall (spNodes K d) [] E0 (tCons (tVar 2) tNil)) [2]) [some v, some (.ref p), y] H1 ((Tr.kids e).map fun t => V.int (t.size : Int)) := by
        intro p ws H1 e1 hp tw hl y
        refine el_lcTv (ev_var rfl) hp (by omega) (fun _ => rfl) (by rw [List.length_map]; exact tw.len) fun i x H2 e2 hi => ?_
        obtain ⟨t, g, tt⟩ := tw.get hi
        have hm : t ∈ Tr.kids e := List.mem_of_getElem? g
        have hdt := kids_dep hm
        refine ev_is (ev_call (ea_cons (ev_var (by first | rfl | simp)) ea_nil) (fun H3 e3 Q3 q3 E3 => ⟨x, t, rfl, tt.keep (TupKeep.of (e2.trans e3)), kids_good hg hm, by omega, fun H4 e4 => q3 H4 e4⟩)) ?_
        rw [List.getD_eq_getElem?_getD, List.getElem?_map, g]
        rfl
      have last : ∀ (p : Addr) (ws : List V) (H1 : Hp), Ex H H1 → SqT K H1 p ws → TrsAt K H1 ws (Tr.kids e) → ws.length ≤ 10 → ∀ y : Option V, Ev (tOp (rI0 fun i j => V.int (i + j)) (tC (.int 1)) (tCB (rSum K) (tCons (tLc (iTup K (tVar 1)) (gName 2) tYes (tCall (spNodes K d) [] E0 (tCons (tVar 2) tNil)) [2]) tNil))) [some v, some (.ref p), y] H1 (.int (e.size : Int)) := by
        intro p ws H1 e1 hp tw hl y
        rw [kids_size]
        have f := fin p ws H1 e1 hp tw hl y
        rw [show ((Tr.kids e).map fun t => V.int (t.size : Int)) = (((Tr.kids e).map fun t => (t.size : Int)).map V.int) by rw [List.map_map]; rfl] at f
        exact ev_op ev_c (ev_sumL f) rv_I0
      cases ht with
      | int i =>
        exact q_when (b := true) (et_or (b := false) (et_B (ev_isInt (ev_var rfl) ev_c (.int i))) (fun h => nomatch h)) (fun _ H1 e1 => s_ret ev_c fun H2 e2 => q H2 (e1.trans e2)) (fun h => nomatch h)
      | nm z =>
        exact q_when (b := true) (et_or (et_B (ev_isInt (ev_var rfl) ev_c (.nm z))) (fun _ => et_B (ev_isStr (ev_var rfl) ev_c (.nm z)))) (fun _ H1 e1 => s_ret ev_c fun H2 e2 => q H2 (e1.trans e2)) (fun h => nomatch h)
      | nt h t =>
        refine q_when (b := false) (et_or (et_B (ev_isInt (ev_var rfl) ev_c (.nt h t))) (fun _ => et_B (ev_isStr (ev_var rfl) ev_c (.nt h t)))) (fun h => nomatch h) (fun _ H1 e1 => ?_)
        refine q_asgU (ev_slT (ev_var rfl) (eo_some ev_c) eo_none (ex_t e1 h) (not_whole (Nat.le_add_left 1 _))) fun p H2 hp2 e2 h2 => ?_
        refine q_cut (M := fun σ' H' => σ' = [_, some (.ref p), none] ∧ Ex H2 H') (s_when (b := false) (et_is (et_test (ev_op (ev_op (ev_var rfl) ev_c (rv_ixT (ex_t (e1.trans e2) h) (atI_zero rfl))) ev_c rv_eqS)) (by decide +kernel)) (fun h => nomatch h) (fun _ H3 e3 => ⟨rfl, e3⟩)) ?_
        rintro σ' H3 ⟨rfl, e3⟩
        have e13 := (e1.trans e2).trans e3
        exact s_ret (last p _ H3 e13 (ex_t e3 (st_of h2)) (.cons (t.keep (TupKeep.of e13)) .nil) (by show 1 ≤ 10; decide) none) fun H4 e4 => q H4 (e13.trans e4)
      | @bin _ _ _ op _ _ h t u =>
        obtain ⟨o1, o2⟩ := op_call op hg.1
        refine q_when (b := false) (et_or (et_B (ev_isInt (ev_var rfl) ev_c (.bin h t u))) (fun _ => et_B (ev_isStr (ev_var rfl) ev_c (.bin h t u)))) (fun h => nomatch h) (fun _ H1 e1 => ?_)
        refine q_asgU (ev_slT (ev_var rfl) (eo_some ev_c) eo_none (ex_t e1 h) (not_whole (Nat.le_add_left 1 _))) fun p H2 hp2 e2 h2 => ?_
        refine q_cut (M := fun σ' H' => σ' = [_, some (.ref p), none] ∧ Ex H2 H') (s_when (b := false) (et_is (et_test (ev_op (ev_op (ev_var rfl) ev_c (rv_ixT (ex_t (e1.trans e2) h) (atI_zero rfl))) ev_c rv_eqS)) (decide_eq_false o1)) (fun h => nomatch h) (fun _ H3 e3 => ⟨rfl, e3⟩)) ?_
        rintro σ' H3 ⟨rfl, e3⟩
        have e13 := (e1.trans e2).trans e3
        exact s_ret (last p _ H3 e13 (ex_t e3 (st_of h2)) (.cons (t.keep (TupKeep.of e13)) (.cons (u.keep (TupKeep.of e13)) .nil)) (by show 2 ≤ 10; decide) none) fun H4 e4 => q H4 (e13.trans e4)
      | @call a b vs n es h g ts =>
        have l3 : es.length ≤ 3 := hg.2.1
        have lv := ts.len
        refine q_when (b := false) (et_or (et_B (ev_isInt (ev_var rfl) ev_c (.call h g ts))) (fun _ => et_B (ev_isStr (ev_var rfl) ev_c (.call h g ts)))) (fun h => nomatch h) (fun _ H1 e1 => ?_)
        refine q_asgU (ev_slT (ev_var rfl) (eo_some ev_c) eo_none (ex_t e1 h) (not_whole (Nat.le_add_left 1 _))) fun p H2 hp2 e2 h2 => ?_
        refine q_cut (M := fun σ' H' => σ' = [some (.ref a), some (.ref b), none] ∧ Ex H2 H') (s_when (b := true) (et_is (et_test (ev_op (ev_op (ev_var rfl) ev_c (rv_ixT (ex_t (e1.trans e2) h) (atI_zero rfl))) ev_c rv_eqS)) (by decide +kernel)) (fun _ H3 e3 => s_asg (ev_op (ev_var rfl) ev_c (rv_ixT (ex_t ((e1.trans e2).trans e3) h) (at_of (j := 2) rfl rfl))) fun H4 e4 => ⟨rfl, e3.trans e4⟩) (fun h => nomatch h)) ?_
        rintro σ' H3 ⟨rfl, e3⟩
        have e13 := (e1.trans e2).trans e3
        exact s_ret (last b vs H3 e13 (ex_t e13 g) (ts.keep (TupKeep.of e13)) (by omega) none) fun H4 e4 => q H4 (e13.trans e4)
end


/-! the law's tokens of a tree -/
def EvX (te : TE) (σ : L2.St) (H : Hp) (xs : List V) : Prop := ∀ H1, Ex H H1 → ∀ Q : VK, (∀ p H2, Ex H1 H2 → H2 p = some (.lst xs) → Q (.ref p) H2) → te σ H1 Q
section
variable {K : PySem.W.Frag} {σ : L2.St} {H : Hp} {te ta tb t1 t2 : TE} {tz : TS} {D : L2.Ends}
theorem ex_new {xs : List V} (h : EvL te σ H xs) : EvX te σ H xs := fun H1 e Q q => h H1 e _ fun p H2 _ e2 h2 => q p H2 e2 h2
theorem ex_old {p : Addr} {xs : List V} (h : Ev te σ H (.ref p)) (hp : H p = some (.lst xs)) : EvX te σ H xs := fun H1 e Q q => h H1 e _ fun H2 e2 => q p H2 e2 ((e.trans e2) _ _ hp)
theorem el_catX {xs ys : List V} (ha : EvX ta σ H xs) (hb : EvX tb σ H ys) (h : xs.length + ys.length ≤ 100000) : EvL (tOp rCat ta tb) σ H (xs ++ ys) := fun H1 e Q q =>
  ha H1 e _ fun p H2 e2 h2 => hb H2 (e.trans e2) _ fun p' H3 e3 h3 => ⟨p, p', xs, ys, rfl, rfl, e3 _ _ h2, h3, sz_of h, fun l hl => q l _ (fresh_back (e2.trans e3) hl) ((e2.trans e3).trans (Ex.new hl)) upd_same⟩
theorem q_asgC {sp : Sp} {E : XK} {ta : TA} {vs : List V} {i : Nat} (h : EvA ta σ H vs) (k : ∀ H1, Ex H H1 → sp vs H1 (fun v H2 => tz D (σ.set i (some v)) H2) E) : tSeq (tAsg (tCall sp [] E ta) (gName i)) tz D σ H := h H (Ex.refl H) _ fun H1 e1 => by
  rw [List.append_nil]
  exact k H1 e1
theorem s_asgPair {xs : List V} {y : V} {i : Nat} (h1 : EvL t1 σ H xs) (h2 : ∀ H1, Ex H H1 → Ev t2 σ H1 y) (k : ∀ q p H1, Ex H H1 → H1 q = some (.lst xs) → H1 p = some (.lst [.ref q, y]) → D.nx (σ.set i (some (.ref p))) H1) :
    tAsg (tLst (tCons t1 (tCons t2 tNil))) (gName i) D σ H := h1 H (Ex.refl H) _ fun q H1 hq e1 g1 => h2 H1 e1 H1 (Ex.refl H1) _ fun H2 e2 => ⟨(by show 2 ≤ sizeLine; decide), fun p hp => k q p _ ((e1.trans e2).trans (Ex.new hp)) ((Ex.new hp) _ _ (e2 _ _ g1)) upd_same⟩
theorem s_retPair {xs : List V} {y : V} (h1 : EvL t1 σ H xs) (h2 : ∀ H1, Ex H H1 → Ev t2 σ H1 y) (k : ∀ q p H1, H p = none → Ex H H1 → H1 q = some (.lst xs) → H1 p = some (.lst [.ref q, y]) → D.rt (.ref p) H1) :
    tRet (tLst (tCons t1 (tCons t2 tNil))) D σ H := h1 H (Ex.refl H) _ fun q H1 hq e1 g1 => h2 H1 e1 H1 (Ex.refl H1) _ fun H2 e2 => ⟨(by show 2 ≤ sizeLine; decide), fun p hp => k q p _ (fresh_back (e1.trans e2) hp) ((e1.trans e2).trans (Ex.new hp)) ((Ex.new hp) _ _ (e2 _ _ g1)) upd_same⟩
theorem s_retPairV {q : Addr} {xs : List V} {y : V} (h1 : Ev t1 σ H (.ref q)) (h2 : ∀ H1, Ex H H1 → Ev t2 σ H1 y) (hq : H q = some (.lst xs)) (k : ∀ p H1, H p = none → Ex H H1 → H1 q = some (.lst xs) → H1 p = some (.lst [.ref q, y]) → D.rt (.ref p) H1) :
    tRet (tLst (tCons t1 (tCons t2 tNil))) D σ H := h1 H (Ex.refl H) _ fun H1 e1 => h2 H1 e1 H1 (Ex.refl H1) _ fun H2 e2 => ⟨(by show 2 ≤ sizeLine; decide), fun p hp => k p _ (fresh_back (e1.trans e2) hp) ((e1.trans e2).trans (Ex.new hp)) (((e1.trans e2).trans (Ex.new hp)) _ _ hq) upd_same⟩
end
section
variable {σ : L2.St} {H : Hp} {t1 t2 : TE} {D : L2.Ends}
theorem s_asgPairH {R : List V → Hp → Prop} {y : V} {i : Nat} (h1 : EvLH t1 σ H R) (h2 : ∀ H1, Ex H H1 → Ev t2 σ H1 y) (k : ∀ ws q p H0 H1, R ws H0 → Ex H H1 → H1 q = some (.lst ws) → H1 p = some (.lst [.ref q, y]) → D.nx (σ.set i (some (.ref p))) H1) :
    tAsg (tLst (tCons t1 (tCons t2 tNil))) (gName i) D σ H := h1 H (Ex.refl H) _ fun q ws H1 hq e1 g1 r => h2 H1 e1 H1 (Ex.refl H1) _ fun H2 e2 => ⟨(by show 2 ≤ sizeLine; decide), fun p hp => k ws q p H1 _ r ((e1.trans e2).trans (Ex.new hp)) ((Ex.new hp) _ _ (e2 _ _ g1)) upd_same⟩
end
theorem phs_snoc : ∀ {es : List Tr} {ts : List Str}, Phs es ts → es ≠ [] → ∀ {e : Tr} {bx : Bool} {us : List Str}, Ph e bx us → Phs (es ++ [e]) (ts ++ ("," : Str) :: us)
  | _, _, .nil, h, _, _, _, _ => absurd rfl h
  | _, _, .one h, _, _, _, _, p => .cons h (.one p)
  | _, _, .cons (ts := ts) (us := us) h hs, _, _, _, vs, p => by
    have := Phs.cons h (phs_snoc hs (by simp) p)
    rw [show ts ++ ("," : Str) :: (us ++ ("," : Str) :: vs) = ts ++ ("," : Str) :: us ++ ("," : Str) :: vs by simp] at this
    exact this
def pars (n : Nat) (ts : List Str) : List Str := List.replicate n ("(" : Str) ++ ts ++ List.replicate n (")" : Str)
theorem ph_pars {e : Tr} {bx : Bool} {ts : List Str} (h : Ph e bx ts) : ∀ n, ∃ b, (n ≠ 0 → b = true) ∧ Ph e b (pars n ts)
  | 0 => ⟨bx, fun h => absurd rfl h, by unfold pars; simpa using h⟩
  | n + 1 => by
    obtain ⟨b, _, p⟩ := ph_pars h n
    refine ⟨true, fun _ => rfl, ?_⟩
    have := Ph.par p
    unfold pars at *
    rw [show ("(" : Str) :: (List.replicate n ("(" : Str) ++ ts ++ List.replicate n (")" : Str) ++ [(")" : Str)]) = List.replicate (n + 1) ("(" : Str) ++ ts ++ List.replicate (n + 1) (")" : Str) by
      rw [List.replicate_succ, List.replicate_succ' (n := n) (a := (")" : Str))]
      simp] at this
    exact this
def spSole (K : PySem.W.Frag) : Sp := fun vs H Q _ => ∃ (v : V) (e : Tr) (m : Int), vs = [v, .int m] ∧ TrAt K H v e ∧ Tr.fine e ∧ (Tr.isInt e || Tr.isNm e) = true ∧ ∀ (ts : List Str) p H2, Ph e false ts → ts.length ≤ 2 → H p = none → Ex H H2 → H2 p = some (.lst (ts.map V.str)) → Q (.ref p) H2
section
variable {P : Program} {w : World} {K : PySem.W.Frag} {mg : Str → Option Value} {base : Heap} {fa : Nat → Addr} {fd : Nat → FuncData} {cv : Nat → Value}
theorem ok_lsole (T : Txt w K mg fa fd cv) : FnOk P w K mg base CX0 1 (fa 49) (fd 49) ["e", "more"] (spSole K) := by
  refine T.d_law_sole.F.ok sc_law_sole (fun vs H Q E h => ?_) (fun cdv A outer s H vs Q E hr h => ?_)
  · obtain ⟨v, e, m, rfl, _⟩ := h
    rfl
  · obtain ⟨v, e, m, rfl, ht, hf, hl, q⟩ := h
    refine ⟨_, pss_cons (ps_if (pt_val (pe_callB call_isi (by rfl) T.b_isinstance (by decide +kernel) (pa_cons (pv 0) (pa_cons (pe_bltn (v := .ty "str") (by rfl) T.b_str (by decide +kernel) rfl) pa_nil)))) (pss_one (ps_ret (pe_lst (pa_cons (pv 0) pa_nil)))) (pss_nil))
      (pss_cons (ps_if (PW.pt (pw_or (pt_cmpR op_lt (pv 0) pe_int (nomark _)) (pw_or1 (PW.pt (pw_and (pt_cmpR op_eq (pv 0) pe_int (nomark _)) (pw_and1 (pt_cmpR op_gt (pv 1) pe_int (nomark _)))))))) (pss_one (ps_ret (pe_lst (pa_cons pe_str (pa_cons (pe_callTy call_str_int (by rfl) T.b_str (by decide +kernel) (pa_cons (pe_op op_sub pe_int (pv 0)) pa_nil)) pa_nil))))) (pss_nil))
      (pss_one (ps_ret (pe_lst (pa_cons (pe_callTy call_str_int (by rfl) T.b_str (by decide +kernel) (pa_cons (pv 0) pa_nil)) pa_nil))))), ?_⟩
    cases ht with
    | nt _ _ => cases hl
    | bin _ _ _ => cases hl
    | call _ _ _ => cases hl
    | nm z =>
      exact q_when (b := true) (et_B (ev_isStr (ev_var rfl) ev_c (.nm z))) (fun _ H1 e1 => s_retL (el_lst (vs := [.str z]) (ea_cons (ev_var rfl) ea_nil) (by show 1 ≤ 100000; decide)) fun p H2 hp e2 h2 => q [z] p H2 (.nm hf) (by show 1 ≤ 2; decide) (fresh_back e1 hp) (e1.trans e2) h2) (fun h => nomatch h)
    | int i =>
      obtain ⟨h0, h1⟩ : -999 ≤ i ∧ i ≤ 999 := hf
      refine q_when (b := false) (et_B (ev_isStr (ev_var rfl) ev_c (.int i))) (fun h => nomatch h) (fun _ H1 e1 => ?_)
      have strI : ∀ (j : Int) (te : TE) (σ : L2.St) (H2 : Hp), -999 ≤ j → j ≤ 999 → Ev te σ H2 (.int j) → Ev (tCB (fun xs H Q => ∃ i, xs = [V.int i] ∧ i.natAbs.log2 < 1920 ∧ Q (.str ((toString i : String) : Str)) H) (tCons te tNil)) σ H2 (.str (Tr.wr (.int j))) := fun j te σ H2 a b h => ev_cb (ea_cons h ea_nil) (fun H3 _ Q3 q3 => ⟨j, rfl, small_log a b, q3 H3 (Ex.refl H3)⟩)
      refine q_when (b := decide (i < 0) || (decide (i = 0) && decide (m > 0))) (et_or (et_test (ev_op (ev_var rfl) ev_c rv_I0)) fun _ => et_and (et_test (ev_op (ev_var rfl) ev_c rv_eqI)) fun _ => et_test (ev_op (ev_var rfl) ev_c rv_I0)) (fun hb H2 e2 => ?_) (fun hb H2 e2 => ?_)
      · obtain ⟨n, rfl⟩ : ∃ n : Nat, i = -(n : Int) := by
          refine ⟨(-i).toNat, ?_⟩
          simp only [Bool.or_eq_true, Bool.and_eq_true, decide_eq_true_eq] at hb
          omega
        have hn : n ≤ 999 := by omega
        refine s_retL (el_lst (vs := [.str "-", .str (numS n)]) (ea_cons ev_c (ea_cons (ev_is (strI (0 - -(n : Int)) _ _ _ (by omega) (by omega) (ev_op ev_c (ev_var rfl) rv_I0)) (by rw [show (0 : Int) - -(n : Int) = (n : Int) by omega]; rfl)) ea_nil)) (by show 2 ≤ 100000; decide)) fun p H3 hp e3 h3 => q ["-", numS n] p H3 (.neg hn) (by show 2 ≤ 2; decide) (fresh_back (e1.trans e2) hp) ((e1.trans e2).trans e3) h3
      · simp only [Bool.or_eq_false_iff, decide_eq_false_iff_not] at hb
        obtain ⟨n, rfl⟩ := Int.eq_ofNat_of_zero_le (show 0 ≤ i by omega)
        exact s_retL (el_lst (vs := [.str (numS n)]) (ea_cons (strI (n : Int) _ _ _ h0 h1 (ev_var rfl)) ea_nil) (by show 1 ≤ 100000; decide)) fun p H3 hp e3 h3 => q [numS n] p H3 (.pos (by omega)) (by show 1 ≤ 2; decide) (fresh_back (e1.trans e2) hp) ((e1.trans e2).trans e3) h3
theorem ex_pick2 {σ : L2.St} {H : Hp} {t0 t1 ti : TE} {xs0 xs1 : List V} {b : Bool} (h0 : EvL t0 σ H xs0) (h1 : EvL t1 σ H xs1) (hi : Ev ti σ H (.int (if b then 1 else 0))) : EvX (tOp (rIxL K) (tLst (tCons t0 (tCons t1 tNil))) ti) σ H (if b then xs1 else xs0) := fun H1 e Q q =>
  h0 H1 e _ fun a H2 ha e2 g2 => h1 H2 (e.trans e2) _ fun c H3 hc e3 g3 => ⟨(by show 2 ≤ sizeLine; decide), fun p hp => hi _ (((e.trans e2).trans e3).trans (Ex.new hp)) _ fun H4 e4 => by
    have gp : H4 p = some (.lst [.ref a, .ref c]) := e4 _ _ upd_same
    have e14 := ((e2.trans e3).trans (Ex.new hp)).trans e4
    cases b with
    | true => exact ⟨p, _, 1, .ref c, rfl, rfl, sq_of gp, at_of (j := 1) rfl rfl, q c H4 e14 (((Ex.new hp).trans e4) _ _ g3)⟩
    | false => exact ⟨p, _, 0, .ref a, rfl, rfl, sq_of gp, atI_zero rfl, q a H4 e14 (((e3.trans (Ex.new hp)).trans e4) _ _ g2)⟩⟩
theorem sizes_app : ∀ (xs ys : List Tr), Tr.sizes (xs ++ ys) = Tr.sizes xs + Tr.sizes ys
  | [], ys => (Nat.zero_add _).symm
  | x :: xs, ys => by
    show x.size + Tr.sizes (xs ++ ys) = x.size + Tr.sizes xs + Tr.sizes ys
    rw [sizes_app xs ys]
    omega
theorem fines_mem : ∀ {es : List Tr} {e : Tr}, Tr.fines es → e ∈ es → Tr.fine e
  | _ :: es, e, ⟨a, b⟩, h => by
    rcases List.mem_cons.mp h with rfl | h
    · exact a
    · exact fines_mem b h
def spTokens (K : PySem.W.Frag) (d : Nat) : Sp := fun vs H Q _ => ∃ (v : V) (e : Tr) (need : Bool) (a : Addr) (rs : List Int) (n : Nat), vs = [v, .bl need, .ref a, .int (n : Int)] ∧ TrAt K H v e ∧ e.good ∧ Tr.fine e ∧ Tr.dep e ≤ d ∧ SqL K H a (rs.map V.int) ∧ (∀ r ∈ rs, 0 ≤ r ∧ r ≤ 2) ∧ n + e.size ≤ rs.length ∧ e.size ≤ 1000 ∧
  ∀ (bx : Bool) (ts : List Str) p q H2, (need = true → bx = true) → Ph e bx ts → ts.length ≤ 13 * e.size → H p = none → Ex H H2 → H2 q = some (.lst (ts.map V.str)) → H2 p = some (.lst [.ref q, .int ((n + e.size : Nat) : Int)]) → Q (.ref p) H2
def spListed (K : PySem.W.Frag) (d : Nat) : Sp := fun vs H Q _ => ∃ (b : Addr) (ws : List V) (es : List Tr) (a : Addr) (rs : List Int) (n : Nat), vs = [.ref b, .ref a, .int (n : Int)] ∧ SqT K H b ws ∧ TrsAt K H ws es ∧ Tr.goods es ∧ Tr.fines es ∧ es.length ≤ 3 ∧ Tr.deps es ≤ d ∧ SqL K H a (rs.map V.int) ∧ (∀ r ∈ rs, 0 ≤ r ∧ r ≤ 2) ∧ n + Tr.sizes es ≤ rs.length ∧ Tr.sizes es ≤ 1000 ∧
  ∀ (ts : List Str) p q H2, Phs es ts → ts.length ≤ 13 * Tr.sizes es + es.length → Ex H H2 → H2 q = some (.lst (ts.map V.str)) → H2 p = some (.lst [.ref q, .int ((n + Tr.sizes es : Nat) : Int)]) → Q (.ref p) H2
theorem ok_llisted {d k : Nat} (T : Txt w K mg fa fd cv) (G_law_tokens : FnOk P w K mg base CX0 k (fa 50) (fd 50) ["e", "need", "row", "at"] (spTokens K d)) : FnOk P w K mg base CX0 (k + 1) (fa 48) (fd 48) ["parts", "row", "at"] (spListed K d) := by
  refine T.d_law_listed.F.ok sc_law_listed (fun vs H Q E h => ?_) (fun cdv A outer s H vs Q E hr h => ?_)
  · obtain ⟨b, ws, es, a, rs, n, rfl, _⟩ := h
    rfl
  · obtain ⟨b, ws, es, a, rs, n, rfl, hb, tw, hg, hf, hl, hd, ha, hrs, hn, hz, q⟩ := h
    refine ⟨_, pss_cons (ps_set (i := 3) sc_law_listed.nd rfl (Or.inl rfl) (pe_lst pa_nil))
      (pss_cons (ps_set (i := 4) sc_law_listed.nd rfl (Or.inl rfl) (pv 2))
      (pss_cons (ps_for PassesOwn.never rfl (pi_range1 (by rfl) T.b_range (pa_cons (pe_callB call_len_seq (by rfl) T.b_len PySem.boot_len (pa_cons (pv 0) pa_nil)) pa_nil)) (pg_name (i := 5) sc_law_listed.nd rfl (Or.inl rfl)) (pss_cons (ps_set (i := 6) sc_law_listed.nd rfl (Or.inl rfl) (pe_call G_law_tokens (by first | exact hr.mono (by decide) | exact hr.mono (by omega)) (by rfl) T.d_law_tokens.g T.d_law_tokens.k T.d_law_tokens.b .nil pass0 (pa_cons (pe_ix ix_tup (pv 0) (pv 5) (fun _ _ => rfl)) (pa_cons pe_bl (pa_cons (pv 1) (pa_cons (pv 4) pa_nil))))))
      (pss_cons (ps_set (i := 3) sc_law_listed.nd rfl (Or.inl rfl) (pe_op op_cat (pe_op op_cat (pv 3) (pe_ix ix_list (pe_lst (pa_cons (pe_lst pa_nil) (pa_cons (pe_lst (pa_cons pe_str pa_nil)) pa_nil))) (pe_callTy call_int1 (by rfl) T.b_int PyProof.Rows.boot_int (pa_cons (pe_cmpR op_gt (pv 5) pe_int (nomark _)) pa_nil)) (fun _ _ => rfl))) (pe_ix ix_list (pv 6) pe_int (fun _ _ => rfl))))
      (pss_one (ps_set (i := 4) sc_law_listed.nd rfl (Or.inl rfl) (pe_ix ix_list (pv 6) pe_int (fun _ _ => rfl)))))))
      (pss_one (ps_ret (pe_lst (pa_cons (pv 3) (pa_cons (pv 4) pa_nil))))))), ?_⟩
    have lw := tw.len
    refine q_asgL (xs := []) (el_lst ea_nil (by decide)) fun q0 H1 hq0 e1 h1 => ?_
    refine q_asg (ev_var rfl) fun H2 e2 => ?_
    refine q_forR1 (n := (ws.length : Int)) (ea_cons (ev_cb (ea_cons (ev_var rfl) ea_nil) (rc_lenT (ex_t (e1.trans e2) hb))) ea_nil) (by omega) (fun i σ' H' => ∃ (ts : List Str) (q1 : Addr) (y5 y6 : Option V), σ' = [some (.ref b), some (.ref a), some (.int (n : Int)), some (.ref q1), some (.int ((n + Tr.sizes (es.take i) : Nat) : Int)), y5, y6] ∧ Ex H H' ∧ H' q1 = some (.lst (ts.map V.str)) ∧ Phs (es.take i) ts ∧ ts.length ≤ 13 * Tr.sizes (es.take i) + i)
      (fun H3 e3 => ⟨[], q0, none, none, rfl, (e1.trans e2).trans e3, (e2.trans e3) _ _ h1, .nil, Nat.zero_le _⟩) (fun i σ' H' hi ⟨ts, q1, y5, y6, hσ, e3, hq1, ph, hlen⟩ => ?_) (fun σ' H' ⟨ts, q1, y5, y6, hσ, e3, hq1, ph, hlen⟩ => ?_)
    · subst hσ
      have i1 : i < es.length := by omega
      have ge := List.getElem?_eq_getElem i1
      have gw := List.getElem?_eq_getElem (show i < ws.length by omega)
      obtain ⟨t, gt, tt⟩ := tw.get gw
      have et : es[i] = t := Option.some.inj (ge.symm.trans gt)
      have hm : t ∈ es := List.mem_of_getElem? gt
      have htk : es.take (i + 1) = es.take i ++ [t] := by rw [List.take_succ, gt]; rfl
      have hsz : Tr.sizes (es.take (i + 1)) = Tr.sizes (es.take i) + t.size := by rw [htk, sizes_app]; show _ + (t.size + 0) = _; omega
      have hall : Tr.sizes (es.take (i + 1)) ≤ Tr.sizes es := by
        have := sizes_app (es.take (i + 1)) (es.drop (i + 1))
        rw [List.take_append_drop] at this
        omega
      have dm := deps_mem hm
      have sm := sizes_mem hm
      refine q_asgC (ea_cons (ev_op (ev_var rfl) (ev_var rfl) (rv_ixT (ex_t e3 hb) (at_of (j := i) rfl gw))) (ea_cons ev_c (ea_cons (ev_var rfl) (ea_cons (ev_var rfl) ea_nil)))) fun H4 e4 => ?_
      refine ⟨_, t, false, a, rs, n + Tr.sizes (es.take i), rfl, tt.keep (TupKeep.of (e3.trans e4)), Tr.goods_iff.mp hg t hm, fines_mem hf hm, by omega, ex_l (e3.trans e4) ha, hrs, by omega, by omega, fun bx us p2 q2 H5 _ pu lu hp2 e5 hq2 hp2' => ?_⟩
      have hq5 := e5 _ _ (e4 _ _ hq1)
      have pick : EvX (tOp (rIxL K) (tLst (tCons (tLst tNil) (tCons (tLst (tCons (tC (.str ",")) tNil)) tNil))) (tCB (fun xs H Q => (∃ i, xs = [V.int i] ∧ Q (V.int i) H) ∨ ∃ k, xs = [.bl k] ∧ Q (.int (if k then 1 else 0)) H) (tCons (tOp (rI0 fun i j => .bl (decide (i > j))) (tVar 5) (tC (.int 0))) tNil))) [some (.ref b), some (.ref a), some (.int (n : Int)), some (.ref q1), some (.int ((n + Tr.sizes (es.take i) : Nat) : Int)), some (.int (i : Int)), some (.ref p2)] H5 (if decide ((i : Int) > 0) then [.str ","] else []) :=
        ex_pick2 (el_lst ea_nil (by decide)) (el_lst (ea_cons ev_c ea_nil) (by show 1 ≤ 100000; decide)) (ev_cb (ea_cons (ev_op (ev_var rfl) ev_c rv_I0) ea_nil) rc_intB)
      have l1 : (if decide ((i : Int) > 0) then [V.str ","] else ([] : List V)).length ≤ 1 := by split <;> simp
      refine q_asgL (el_catX (ex_new (el_catX (ex_old (ev_var rfl) hq5) pick (by rw [List.length_map]; omega))) (ex_old (ev_op (ev_var rfl) ev_c (rv_ixL (sq_of hp2') (atI_zero rfl))) hq2) (by rw [List.length_append, List.length_map, List.length_map]; omega)) fun q3 H6 hq3 e6 h6 => ?_
      refine s_asg (ev_op (ev_var rfl) ev_c (rv_ixL (sq_of (e6 _ _ hp2')) (at_of (j := 1) rfl rfl))) fun H7 e7 => ?_
      have e37 := ((e3.trans e4).trans e5).trans (e6.trans e7)
      have last : ∀ (ts' : List Str), ts'.map V.str = ts.map V.str ++ (if decide ((i : Int) > 0) then [.str ","] else []) ++ us.map V.str → Phs (es.take (i + 1)) ts' → ts'.length ≤ 13 * Tr.sizes (es.take (i + 1)) + (i + 1) → ∃ (ts : List Str) (q1 : Addr) (y5 y6 : Option V), ([some (.ref b), some (.ref a), some (.int (n : Int)), some (.ref q3), some (.int ((n + Tr.sizes (es.take i) + t.size : Nat) : Int)), some (.int (i : Int)), some (.ref p2)] : L2.St) = [some (.ref b), some (.ref a), some (.int (n : Int)), some (.ref q1), some (.int ((n + Tr.sizes (es.take (i + 1)) : Nat) : Int)), y5, y6] ∧ Ex H H7 ∧ H7 q1 = some (.lst (ts.map V.str)) ∧ Phs (es.take (i + 1)) ts ∧ ts.length ≤ 13 * Tr.sizes (es.take (i + 1)) + (i + 1) :=
        fun ts' h1 h2 h3 => ⟨ts', q3, _, _, by rw [hsz, Nat.add_assoc], e37, by rw [h1]; exact e7 _ _ h6, h2, h3⟩
      by_cases h0 : i = 0
      · subst h0
        have : ts = [] := by cases ph; rfl
        subst this
        refine last us (by rw [show decide (((0 : Nat) : Int) > 0) = false from rfl]; rfl) (by rw [htk]; exact .one pu) ?_
        rw [hsz]
        omega
      · refine last (ts ++ ("," : Str) :: us) ?_ ?_ ?_
        · rw [decide_eq_true (show (i : Int) > 0 by omega)]
          simp
        · rw [htk]
          exact phs_snoc ph (by intro z; have := congrArg List.length z; rw [List.length_take] at this; have h3 : min i es.length = 0 := this; omega) pu
        · rw [List.length_append, List.length_cons, hsz]
          omega
    · subst hσ
      have e0 : es.take (ws.length : Int).toNat = es := by rw [Int.toNat_natCast, lw]; exact List.take_length
      rw [e0] at ph hlen ⊢
      exact s_retPairV (ev_var rfl) (fun H4 e4 => ev_var rfl) hq1 fun p H4 hp e4 g4 g5 => q ts p q1 H4 ph (by rw [Int.toNat_natCast] at hlen; omega) (e3.trans e4) g4 g5
theorem rep_flat (n : Nat) (z : Str) : (List.replicate n [V.str z]).flatten = (List.replicate n z).map V.str := by
  induction n with
  | zero => rfl
  | succ n ih => rw [List.replicate_succ, List.flatten_cons, ih, List.replicate_succ, List.map_cons]; rfl
theorem sp_levelT {v : V} {e : Tr} {H : Hp} (ht : TrAt K H v e) (hg : e.good) : SpV (spLevel K) [v] H (.int e.lv) := sp_level ht hg
theorem ok_ltokens (T : Txt w K mg fa fd cv) : ∀ d, FnOk P w K mg base CX0 (2 * d + 4) (fa 50) (fd 50) ["e", "need", "row", "at"] (spTokens K d)
  | 0 => by
    refine T.d_law_tokens.F.ok sc_law_tokens (fun vs H Q E h => ?_) (fun cdv A outer s H vs Q E hr h => ?_)
    · obtain ⟨v, e, need, a, rs, n, rfl, _⟩ := h
      rfl
    · obtain ⟨v, e, need, a, rs, n, _, _, _, _, hd, _⟩ := h
      have := dep_pos e
      omega
  | d + 1 => by
    have G_law_sole := ok_lsole (P := P) (w := w) (base := base) T
    have G_law_level := ok_level (P := P) (w := w) (base := base) T
    have G_law_left := ok_left (P := P) (w := w) (base := base) T
    have G_law_tokens := ok_ltokens T d
    have G_law_listed := ok_llisted (P := P) (w := w) (base := base) T G_law_tokens
    refine T.d_law_tokens.F.ok sc_law_tokens (fun vs H Q E h => ?_) (fun cdv A outer s H vs Q E hr h => ?_)
    · obtain ⟨v, e, need, a, rs, n, rfl, _⟩ := h
      rfl
    · obtain ⟨v, e, need, a, rs, n, rfl, ht, hg, hf, hd, ha, hrs, hn, hz, q⟩ := h
      refine ⟨_, pss_cut (ps_if (PW.pt (pw_or (pt_val (pe_callB call_isi (by rfl) T.b_isinstance (by decide +kernel) (pa_cons (pv 0) (pa_cons (pe_bltn (v := .ty "int") (by rfl) T.b_int (by decide +kernel) rfl) pa_nil)))) (pw_or1 (pt_val (pe_callB call_isi (by rfl) T.b_isinstance (by decide +kernel) (pa_cons (pv 0) (pa_cons (pe_bltn (v := .ty "str") (by rfl) T.b_str (by decide +kernel) rfl) pa_nil))))))) (pss_one (ps_set (i := 4) sc_law_tokens.nd rfl (Or.inl rfl) (pe_lst (pa_cons (pe_call G_law_sole (by first | exact hr.mono (by decide) | exact hr.mono (by omega)) (by rfl) T.d_law_sole.g T.d_law_sole.k T.d_law_sole.b .nil pass0 (pa_cons (pv 0) (pa_cons (pe_ix ix_list (pv 2) (pv 3) (fun _ _ => rfl)) pa_nil))) (pa_cons (pe_op op_add (pv 3) pe_int) pa_nil))))) (pss_one (ps_if (pt_cmpR op_eq (pe_ix ix_tup (pv 0) pe_int (fun _ _ => rfl)) pe_str (nomark _)) (pss_cons (ps_set (i := 4) sc_law_tokens.nd rfl (Or.inl rfl) (pe_call G_law_listed (by first | exact hr.mono (by decide) | exact hr.mono (by omega)) (by rfl) T.d_law_listed.g T.d_law_listed.k T.d_law_listed.b .nil pass0 (pa_cons (pe_ix ix_tup (pv 0) pe_int (fun _ _ => rfl)) (pa_cons (pv 2) (pa_cons (pe_op op_add (pv 3) pe_int) pa_nil)))))
      (pss_one (ps_set (i := 4) sc_law_tokens.nd rfl (Or.inl rfl) (pe_lst (pa_cons (pe_op op_cat (pe_op op_cat (pe_lst (pa_cons (pe_ix ix_tup (pv 0) pe_int (fun _ _ => rfl)) (pa_cons pe_str pa_nil))) (pe_ix ix_list (pv 4) pe_int (fun _ _ => rfl))) (pe_lst (pa_cons pe_str pa_nil))) (pa_cons (pe_ix ix_list (pv 4) pe_int (fun _ _ => rfl)) pa_nil)))))) (pss_one (ps_if (pt_cmpR op_eq (pe_ix ix_tup (pv 0) pe_int (fun _ _ => rfl)) pe_str (nomark _)) (pss_cons (ps_set (i := 4) sc_law_tokens.nd rfl (Or.inl rfl) (pe_call G_law_tokens (by first | exact hr.mono (by decide) | exact hr.mono (by omega)) (by rfl) T.d_law_tokens.g T.d_law_tokens.k T.d_law_tokens.b .nil pass0 (pa_cons (pe_ix ix_tup (pv 0) pe_int (fun _ _ => rfl)) (pa_cons (pe_cmpR op_lt (pe_call G_law_level (by first | exact hr.mono (by decide) | exact hr.mono (by omega)) (by rfl) T.d_law_level.g T.d_law_level.k T.d_law_level.b .nil pass0 (pa_cons (pe_ix ix_tup (pv 0) pe_int (fun _ _ => rfl)) pa_nil)) pe_int (nomark _)) (pa_cons (pv 2) (pa_cons (pe_op op_add (pv 3) pe_int) pa_nil))))))
      (pss_one (ps_set (i := 4) sc_law_tokens.nd rfl (Or.inl rfl) (pe_lst (pa_cons (pe_op op_cat (pe_lst (pa_cons pe_str pa_nil)) (pe_ix ix_list (pv 4) pe_int (fun _ _ => rfl))) (pa_cons (pe_ix ix_list (pv 4) pe_int (fun _ _ => rfl)) pa_nil)))))) (pss_cons (ps_set (i := 5) sc_law_tokens.nd rfl (Or.inl rfl) (pe_call G_law_tokens (by first | exact hr.mono (by decide) | exact hr.mono (by omega)) (by rfl) T.d_law_tokens.g T.d_law_tokens.k T.d_law_tokens.b .nil pass0 (pa_cons (pe_ix ix_tup (pv 0) pe_int (fun _ _ => rfl)) (pa_cons (pe_call G_law_left (by first | exact hr.mono (by decide) | exact hr.mono (by omega)) (by rfl) T.d_law_left.g T.d_law_left.k T.d_law_left.b .nil pass0 (pa_cons (pv 0) pa_nil)) (pa_cons (pv 2) (pa_cons (pe_op op_add (pv 3) pe_int) pa_nil))))))
      (pss_cons (ps_set (i := 6) sc_law_tokens.nd rfl (Or.inl rfl) (pe_call G_law_tokens (by first | exact hr.mono (by decide) | exact hr.mono (by omega)) (by rfl) T.d_law_tokens.g T.d_law_tokens.k T.d_law_tokens.b .nil pass0 (pa_cons (pe_ix ix_tup (pv 0) pe_int (fun _ _ => rfl)) (pa_cons (pe_cmpR op_le (pe_call G_law_level (by first | exact hr.mono (by decide) | exact hr.mono (by omega)) (by rfl) T.d_law_level.g T.d_law_level.k T.d_law_level.b .nil pass0 (pa_cons (pe_ix ix_tup (pv 0) pe_int (fun _ _ => rfl)) pa_nil)) (pe_call G_law_level (by first | exact hr.mono (by decide) | exact hr.mono (by omega)) (by rfl) T.d_law_level.g T.d_law_level.k T.d_law_level.b .nil pass0 (pa_cons (pv 0) pa_nil)) (nomark _)) (pa_cons (pv 2) (pa_cons (pe_ix ix_list (pv 5) pe_int (fun _ _ => rfl)) pa_nil))))))
      (pss_one (ps_set (i := 4) sc_law_tokens.nd rfl (Or.inl rfl) (pe_lst (pa_cons (pe_op op_cat (pe_op op_cat (pe_ix ix_list (pv 5) pe_int (fun _ _ => rfl)) (pe_lst (pa_cons (pe_ix ix_tup (pv 0) pe_int (fun _ _ => rfl)) pa_nil))) (pe_ix ix_list (pv 6) pe_int (fun _ _ => rfl))) (pa_cons (pe_ix ix_list (pv 6) pe_int (fun _ _ => rfl)) pa_nil))))))))))))
      (pss_cons (ps_set (i := 7) sc_law_tokens.nd rfl (Or.inl rfl) (pe_op op_add (pe_callTy call_int1 (by rfl) T.b_int PyProof.Rows.boot_int (pa_cons (pv 1) pa_nil)) (pe_ix ix_list (pv 2) (pv 3) (fun _ _ => rfl))))
      (pss_one (ps_ret (pe_lst (pa_cons (pe_op op_cat (pe_op op_cat (pe_op op_rep (pe_lst (pa_cons pe_str pa_nil)) (pv 7)) (pe_ix ix_list (pv 4) pe_int (fun _ _ => rfl))) (pe_op op_rep (pe_lst (pa_cons pe_str pa_nil)) (pv 7))) (pa_cons (pe_ix ix_list (pv 4) pe_int (fun _ _ => rfl)) pa_nil)))))), ?_⟩
      have sp := Tr.size_pos e
      have hnl : n < rs.length := by omega
      have gr := List.getElem?_eq_getElem hnl
      have gr2 : (rs.map V.int)[n]? = some (.int rs[n]) := by rw [List.getElem?_map, gr]; rfl
      have hr2 := hrs _ (List.mem_of_getElem? gr)
      refine q_cut (M := fun σ' H' => ∃ (p q0 : Addr) (ts : List Str) (y5 y6 : Option V), σ' = [some v, some (.bl need), some (.ref a), some (.int (n : Int)), some (.ref p), y5, y6, none] ∧ Ex H H' ∧ H' q0 = some (.lst (ts.map V.str)) ∧ H' p = some (.lst [.ref q0, .int ((n + e.size : Nat) : Int)]) ∧ Ph e false ts ∧ ts.length + 6 ≤ 13 * e.size) ?_ ?_
      · cases ht with
        | int i =>
          refine s_if (b := true) (et_or (b := false) (et_B (ev_isInt (ev_var rfl) ev_c (.int i))) (fun h => nomatch h)) (fun _ H1 e1 => ?_) (fun h => nomatch h)
          refine s_asgPairH (R := fun ws _ => ∃ ts : List Str, ws = ts.map V.str ∧ Ph (.int i) false ts ∧ ts.length ≤ 2) (fun H2 e2 Q2 q2 => (ea_cons (ev_var rfl) (ea_cons (ev_op (ev_var rfl) (ev_var rfl) (rv_ixL (ex_l (e1.trans e2) ha) (at_of (j := n) rfl gr2))) ea_nil) : EvA (tCons (tVar 0) (tCons (tOp (rIxL K) (tVar 2) (tVar 3)) tNil)) _ H2 _) H2 (Ex.refl H2) _ fun H3 e3 => ⟨_, .int i, _, rfl, .int i, hf, rfl, fun ts p H4 ph hl hp e4 h4 => q2 p _ H4 (fresh_back e3 hp) (e3.trans e4) h4 ⟨ts, rfl, ph, hl⟩⟩) (fun H2 e2 => ev_op (ev_var rfl) ev_c rv_I0) fun ws q0 p H2 H3 ⟨ts, ew, ph, hl⟩ e3 g1 g2 => ?_
          subst ew
          exact ⟨p, q0, ts, none, none, rfl, e1.trans e3, g1, g2, ph, by show ts.length + 6 ≤ 13 * 1; omega⟩
        | nm z =>
          refine s_if (b := true) (et_or (et_B (ev_isInt (ev_var rfl) ev_c (.nm z))) (fun _ => et_B (ev_isStr (ev_var rfl) ev_c (.nm z)))) (fun _ H1 e1 => ?_) (fun h => nomatch h)
          refine s_asgPairH (R := fun ws _ => ∃ ts : List Str, ws = ts.map V.str ∧ Ph (.nm z) false ts ∧ ts.length ≤ 2) (fun H2 e2 Q2 q2 => (ea_cons (ev_var rfl) (ea_cons (ev_op (ev_var rfl) (ev_var rfl) (rv_ixL (ex_l (e1.trans e2) ha) (at_of (j := n) rfl gr2))) ea_nil) : EvA (tCons (tVar 0) (tCons (tOp (rIxL K) (tVar 2) (tVar 3)) tNil)) _ H2 _) H2 (Ex.refl H2) _ fun H3 e3 => ⟨_, .nm z, _, rfl, .nm z, hf, rfl, fun ts p H4 ph hl hp e4 h4 => q2 p _ H4 (fresh_back e3 hp) (e3.trans e4) h4 ⟨ts, rfl, ph, hl⟩⟩) (fun H2 e2 => ev_op (ev_var rfl) ev_c rv_I0) fun ws q0 p H2 H3 ⟨ts, ew, ph, hl⟩ e3 g1 g2 => ?_
          subst ew
          exact ⟨p, q0, ts, none, none, rfl, e1.trans e3, g1, g2, ph, by show ts.length + 6 ≤ 13 * 1; omega⟩
        | @nt b u e h t =>
          have hz' : 1 + e.size ≤ 1000 := hz
          have hn' : n + (1 + e.size) ≤ rs.length := hn
          have hd' : 1 + Tr.dep e ≤ d + 1 := hd
          refine s_if (b := false) (et_or (et_B (ev_isInt (ev_var rfl) ev_c (.nt h t))) (fun _ => et_B (ev_isStr (ev_var rfl) ev_c (.nt h t)))) (fun h => nomatch h) (fun _ H1 e1 => ?_)
          refine s_if (b := false) (et_is (et_test (ev_op (ev_op (ev_var rfl) ev_c (rv_ixT (ex_t e1 h) (atI_zero rfl))) ev_c rv_eqS)) (by decide +kernel)) (fun h => nomatch h) (fun _ H2 e2 => ?_)
          refine s_if (b := true) (et_is (et_test (ev_op (ev_op (ev_var rfl) ev_c (rv_ixT (ex_t (e1.trans e2) h) (atI_zero rfl))) ev_c rv_eqS)) (by decide +kernel)) (fun _ H3 e3 => ?_) (fun h => nomatch h)
          have e13 := (e1.trans e2).trans e3
          have h3 := ex_t e13 h
          have t3 := t.keep (TupKeep.of e13)
          refine q_asgC (ea_cons (ev_op (ev_var rfl) ev_c (rv_ixT h3 (at_of (j := 1) rfl rfl))) (ea_cons (ev_op (ev_call (ea_cons (ev_op (ev_var rfl) ev_c (rv_ixT h3 (at_of (j := 1) rfl rfl))) ea_nil) (sp_level t3 hg)) ev_c rv_I0) (ea_cons (ev_var rfl) (ea_cons (ev_op (ev_var rfl) ev_c rv_I0) ea_nil)))) fun H4 e4 => ?_
          refine ⟨_, e, _, a, rs, n + 1, rfl, t3.keep (TupKeep.of e4), hg, hf, by omega, ex_l (e13.trans e4) ha, hrs, by omega, by omega, fun bx ts p1 q1 H5 hb ph hl hp1 e5 g1 g2 => ?_⟩
          refine s_asgPair (xs := (("not" : Str) :: ts).map V.str) (el_catX (xs := [.str "not"]) (ex_new (el_lst (ea_cons ev_c ea_nil) (by show 1 ≤ 100000; decide))) (ex_old (ev_op (ev_var rfl) ev_c (rv_ixL (sq_of g2) (atI_zero rfl))) g1) (by rw [List.length_map]; show 1 + _ ≤ _; omega)) (fun H6 e6 => ev_op (ev_var rfl) ev_c (rv_ixL (sq_of (e6 _ _ g2)) (at_of (j := 1) rfl rfl))) fun q0 p H6 e6 g3 g4 => ?_
          refine ⟨p, q0, ("not" : Str) :: ts, none, none, rfl, ((e13.trans e4).trans e5).trans e6, g3, ?_, .nt ph ?_, ?_⟩
          · rw [g4, show n + Tr.size (.nt e) = n + 1 + e.size by show n + (1 + e.size) = _; omega]
          · by_cases c : e.lv < 3
            · exact .inl (hb (decide_eq_true c))
            · exact .inr (by omega)
          · show ts.length + 1 + 6 ≤ 13 * (1 + e.size)
            omega
        | @bin b u1 u2 op l r h t u =>
          obtain ⟨o1, o2⟩ := op_call op hg.1
          have hz' : 1 + l.size + r.size ≤ 1000 := hz
          have hn' : n + (1 + l.size + r.size) ≤ rs.length := hn
          have hd' : 1 + max (Tr.dep l) (Tr.dep r) ≤ d + 1 := hd
          refine s_if (b := false) (et_or (et_B (ev_isInt (ev_var rfl) ev_c (.bin h t u))) (fun _ => et_B (ev_isStr (ev_var rfl) ev_c (.bin h t u)))) (fun h => nomatch h) (fun _ H1 e1 => ?_)
          refine s_if (b := false) (et_is (et_test (ev_op (ev_op (ev_var rfl) ev_c (rv_ixT (ex_t e1 h) (atI_zero rfl))) ev_c rv_eqS)) (decide_eq_false o1)) (fun h => nomatch h) (fun _ H2 e2 => ?_)
          refine s_if (b := false) (et_is (et_test (ev_op (ev_op (ev_var rfl) ev_c (rv_ixT (ex_t (e1.trans e2) h) (atI_zero rfl))) ev_c rv_eqS)) (decide_eq_false o2)) (fun h => nomatch h) (fun _ H3 e3 => ?_)
          have e13 := (e1.trans e2).trans e3
          have h3 := ex_t e13 h
          have t3 := t.keep (TupKeep.of e13)
          have u3 := u.keep (TupKeep.of e13)
          refine q_asgC (ea_cons (ev_op (ev_var rfl) ev_c (rv_ixT h3 (at_of (j := 1) rfl rfl))) (ea_cons (ev_call (ea_cons (ev_var rfl) ea_nil) (sp_left (.bin h3 t3 u3) hg)) (ea_cons (ev_var rfl) (ea_cons (ev_op (ev_var rfl) ev_c rv_I0) ea_nil)))) fun H4 e4 => ?_
          refine ⟨_, l, _, a, rs, n + 1, rfl, t3.keep (TupKeep.of e4), hg.2.1, hf.2.1, by omega, ex_l (e13.trans e4) ha, hrs, by omega, by omega, fun bl ts1 p1 q1 H5 hb1 ph1 hl1 hp1 e5 g1 g2 => ?_⟩
          have e35 := e4.trans e5
          have h5 := ex_t e35 h3
          have t5 := t3.keep (TupKeep.of e35)
          have u5 := u3.keep (TupKeep.of e35)
          refine q_asgC (ea_cons (ev_op (ev_var rfl) ev_c (rv_ixT h5 (at_of (j := 2) rfl rfl))) (ea_cons (ev_op (ev_call (ea_cons (ev_op (ev_var rfl) ev_c (rv_ixT h5 (at_of (j := 2) rfl rfl))) ea_nil) (sp_level u5 hg.2.2)) (ev_call (ea_cons (ev_var rfl) ea_nil) (sp_level (.bin h5 t5 u5) hg)) rv_I0) (ea_cons (ev_var rfl) (ea_cons (ev_op (ev_var rfl) ev_c (rv_ixL (sq_of g2) (at_of (j := 1) rfl rfl))) ea_nil)))) fun H6 e6 => ?_
          refine ⟨_, r, _, a, rs, n + 1 + l.size, rfl, u5.keep (TupKeep.of e6), hg.2.2, hf.2.2, by omega, ex_l ((e13.trans e35).trans e6) ha, hrs, by omega, by omega, fun br ts2 p2 q2 H7 hb2 ph2 hl2 hp2 e7 g3 g4 => ?_⟩
          have e57 := e6.trans e7
          refine s_asgPair (xs := (ts1 ++ op :: ts2).map V.str) (by
            rw [show (ts1 ++ op :: ts2).map V.str = ts1.map V.str ++ [.str op] ++ ts2.map V.str by simp]
            exact el_catX (ex_new (el_catX (ex_old (ev_op (ev_var (i := 5) rfl) ev_c (rv_ixL (sq_of (e57 _ _ g2)) (atI_zero rfl))) (e57 _ _ g1)) (ex_new (el_lst (vs := [.str op]) (ea_cons (ev_op (ev_var (i := 0) rfl) ev_c (rv_ixT (ex_t e57 h5) (atI_zero rfl))) ea_nil) (by show 1 ≤ 100000; decide))) (by rw [List.length_map]; show _ + 1 ≤ _; omega))) (ex_old (ev_op (ev_var (i := 6) rfl) ev_c (rv_ixL (sq_of g4) (atI_zero rfl))) g3) (by rw [List.length_append, List.length_map, List.length_map]; show _ + 1 + _ ≤ _; omega)) (fun H8 e8 => ev_op (ev_var rfl) ev_c (rv_ixL (sq_of (e8 _ _ g4)) (at_of (j := 1) rfl rfl))) fun q0 p H8 e8 g5 g6 => ?_
          refine ⟨p, q0, ts1 ++ op :: ts2, _, _, rfl, ((e13.trans e35).trans e57).trans e8, g5, ?_, .bin hg.1 ph1 ph2 ?_ ?_, ?_⟩
          · rw [g6, show n + Tr.size (.bin op l r) = n + 1 + l.size + r.size by show n + (1 + l.size + r.size) = _; omega]
          · by_cases c : leftB (.bin op l r) = true
            · exact .inl (hb1 c)
            · refine .inr ?_
              unfold leftB at c
              simp only [Bool.or_eq_true, Bool.and_eq_true, decide_eq_true_eq, not_or] at c
              exact ⟨by omega, c.2⟩
          · by_cases c : r.lv ≤ lvl op
            · exact .inl (hb2 (decide_eq_true c))
            · exact .inr (by omega)
          · rw [List.length_append, List.length_cons]
            show ts1.length + (ts2.length + 1) + 6 ≤ 13 * (1 + l.size + r.size)
            omega
        | @call b c vs m es h g ts =>
          have l3 : es.length ≤ 3 := hg.2.1
          have hz' : 1 + Tr.sizes es ≤ 1000 := hz
          have hn' : n + (1 + Tr.sizes es) ≤ rs.length := hn
          have hd' : 1 + Tr.deps es ≤ d + 1 := hd
          refine s_if (b := false) (et_or (et_B (ev_isInt (ev_var rfl) ev_c (.call h g ts))) (fun _ => et_B (ev_isStr (ev_var rfl) ev_c (.call h g ts)))) (fun h => nomatch h) (fun _ H1 e1 => ?_)
          refine s_if (b := true) (et_is (et_test (ev_op (ev_op (ev_var rfl) ev_c (rv_ixT (ex_t e1 h) (atI_zero rfl))) ev_c rv_eqS)) (by decide +kernel)) (fun _ H2 e2 => ?_) (fun h => nomatch h)
          have e12 := e1.trans e2
          have h2 := ex_t e12 h
          refine q_asgC (ea_cons (ev_op (ev_var rfl) ev_c (rv_ixT h2 (at_of (j := 2) rfl rfl))) (ea_cons (ev_var rfl) (ea_cons (ev_op (ev_var rfl) ev_c rv_I0) ea_nil))) fun H3 e3 => ?_
          refine ⟨c, vs, es, a, rs, n + 1, rfl, ex_t (e12.trans e3) g, ts.keep (TupKeep.of (e12.trans e3)), hg.2.2, hf.2.2, l3, by omega, ex_l (e12.trans e3) ha, hrs, by omega, by omega, fun ls p1 q1 H4 ph hl e4 g1 g2 => ?_⟩
          refine s_asgPair (xs := (m :: ("(" : Str) :: (ls ++ [(")" : Str)])).map V.str) (by
            rw [show (m :: ("(" : Str) :: (ls ++ [(")" : Str)])).map V.str = [.str m, .str "("] ++ ls.map V.str ++ [.str ")"] by simp]
            exact el_catX (ex_new (el_catX (ex_new (el_lst (vs := [.str m, .str "("]) (ea_cons (ev_op (ev_var (i := 0) rfl) ev_c (rv_ixT (ex_t (e3.trans e4) h2) (at_of (j := 1) rfl rfl))) (ea_cons ev_c ea_nil)) (by show 2 ≤ 100000; decide))) (ex_old (ev_op (ev_var (i := 4) rfl) ev_c (rv_ixL (sq_of g2) (atI_zero rfl))) g1) (by rw [List.length_map]; show 2 + _ ≤ _; omega))) (ex_new (el_lst (vs := [.str ")"]) (ea_cons ev_c ea_nil) (by show 1 ≤ 100000; decide))) (by rw [List.length_append, List.length_map]; show 2 + _ + 1 ≤ _; omega)) (fun H5 e5 => ev_op (ev_var rfl) ev_c (rv_ixL (sq_of (e5 _ _ g2)) (at_of (j := 1) rfl rfl))) fun q0 p H5 e5 g3 g4 => ?_
          refine ⟨p, q0, _, none, none, rfl, ((e12.trans e3).trans e4).trans e5, g3, ?_, .call hf.1 l3 ph, ?_⟩
          · rw [g4, show n + Tr.size (.call m es) = n + 1 + Tr.sizes es by show n + (1 + Tr.sizes es) = _; omega]
          · rw [List.length_cons, List.length_cons, List.length_append]
            show ls.length + 1 + 1 + 1 + 6 ≤ 13 * (1 + Tr.sizes es)
            omega
      · rintro σ' H1 ⟨p, q0, ts, y5, y6, rfl, e1, hq0, hp0, ph, hl⟩
        obtain ⟨c, hc⟩ : ∃ c : Nat, (if need then (1 : Int) else 0) + rs[n] = (c : Int) := ⟨((if need then (1 : Int) else 0) + rs[n]).toNat, by split <;> omega⟩
        have hc3 : c ≤ 3 := by
          have : (if need then (1 : Int) else 0) ≤ 1 := by split <;> omega
          omega
        have hc1 : need = true → c ≠ 0 := fun h => by rw [if_pos h] at hc; omega
        refine q_asg (v := .int (c : Int)) (ev_is (ev_op (ev_cb (ea_cons (ev_var rfl) ea_nil) rc_intB) (ev_op (ev_var rfl) (ev_var rfl) (rv_ixL (ex_l e1 ha) (at_of (j := n) rfl gr2))) rv_I0) (by rw [hc])) fun H2 e2 => ?_
        obtain ⟨bx, hb, pp⟩ := ph_pars ph c
        have rp : ∀ z : Str, EvL (tOp rRep (tLst (tCons (tC (.str z)) tNil)) (tVar 7)) [some v, some (.bl need), some (.ref a), some (.int (n : Int)), some (.ref p), y5, y6, some (.int (c : Int))] H2 ((List.replicate c z).map V.str) := fun z => by
          rw [← rep_flat]
          exact el_rep (k := (c : Int)) (el_lst (vs := [.str z]) (ea_cons ev_c ea_nil) (by show 1 ≤ 100000; decide)) (ev_var rfl) (by omega) (by omega) (by show 1 * _ ≤ _; omega)
        have fnd : EvX (tOp (rIxL K) (tVar 4) (tC (.int 0))) [some v, some (.bl need), some (.ref a), some (.int (n : Int)), some (.ref p), y5, y6, some (.int (c : Int))] H2 (ts.map V.str) := ex_old (ev_op (ev_var rfl) ev_c (rv_ixL (sq_of (e2 _ _ hp0)) (atI_zero rfl))) (e2 _ _ hq0)
        refine s_retPair (el_catX (ex_new (el_catX (ex_new (rp "(")) fnd (by rw [List.length_map, List.length_map, List.length_replicate]; omega))) (ex_new (rp ")")) (by rw [List.length_append, List.length_map, List.length_map, List.length_map, List.length_replicate, List.length_replicate]; omega)) (fun H3 e3 => ev_op (ev_var rfl) ev_c (rv_ixL (sq_of (e3 _ _ (e2 _ _ hp0))) (at_of (j := 1) rfl rfl))) fun q3 p3 H3 hp3 e3 g3 g4 => ?_
        refine q bx (pars c ts) p3 q3 H3 (fun h => hb (hc1 h)) pp ?_ (fresh_back (e1.trans e2) hp3) ((e1.trans e2).trans e3) (by rw [g3]; unfold pars; simp) g4
        unfold pars
        rw [List.length_append, List.length_append, List.length_replicate, List.length_replicate]
        omega
end


/-! the law's tokens with spaces between them -/
theorem layC_end : ∀ (L : List (Nat × Str)) (k : Nat), layC L k = layC L 0 ++ sp k
  | [], k => rfl
  | (g, u) :: r, k => by
    show sp g ++ (u.cps.toList ++ layC r k) = sp g ++ (u.cps.toList ++ layC r 0) ++ sp k
    rw [layC_end r k]
    simp
def GapL (L : List (Nat × Str)) : Prop := ∀ g t r, L = (g, t) :: r → GapOk t r
theorem gapL_snoc {L : List (Nat × Str)} {g : Nat} {u : Str} (h : GapL L) (hj : ∀ t, (L.map Prod.snd).getLast? = some t → inS "abcdefghijklmnopqrstuvwxyz" (fc t) = true → inS letDig (fc u) = true → g ≠ 0) : GapL (L ++ [(g, u)]) := by
  intro g' t r e
  cases L with
  | nil =>
    cases e
    exact True.intro
  | cons y L =>
    obtain ⟨a, b⟩ := y
    cases e
    refine gap_app L _ t (h _ _ _ rfl) fun v hv => ⟨hj v ?_, True.intro⟩
    rw [← hv]
    rfl
theorem spS_cps (n : Nat) : (spS n).cps.toList = sp n := rfl
theorem spS_len (n : Nat) : (spS n).length = n := by
  show ((List.replicate n 32).toArray).size = _
  simp
def spSpaced (K : PySem.W.Frag) : Sp := fun vs H Q _ => ∃ (a b : Addr) (ts : List Str) (rs : List Int), vs = [.ref a, .ref b] ∧ SqL K H a (ts.map V.str) ∧ SqL K H b (rs.map V.int) ∧ ts ≠ [] ∧ (∀ t ∈ ts, TokOk t) ∧ ts.length ≤ 6000 ∧ 2 ≤ rs.length ∧ rs.length ≤ 1000 ∧ (∀ r ∈ rs, 0 ≤ r ∧ r ≤ 3) ∧
  ∀ (z : Str) (L : List (Nat × Str)) (k : Nat) H2, z.cps.toList = layC L k → L.map Prod.snd = ts → GapL L → z.length ≤ 11 * ts.length + 6 → Ex H H2 → Q (.str z) H2
theorem rv_repS {n : Nat} {H : Hp} (hn : n ≤ 1000) : RV rRepS (.str " ") (.int (n : Int)) H (.str (spS n)) := fun H1 _ _ q => ⟨n, rfl, rfl, hn, q H1 (Ex.refl H1)⟩
def ld36 : Str := "abcdefghijklmnopqrstuvwxyz0123456789"
theorem ld36_cps : ld36 = letDig := by decide +kernel
theorem cut26 : cutS ld36 none (some 26) = "abcdefghijklmnopqrstuvwxyz" := by decide +kernel
section
variable {P : Program} {w : World} {K : PySem.W.Frag} {mg : Str → Option Value} {base : Heap} {fa : Nat → Addr} {fd : Nat → FuncData} {cv : Nat → Value}
theorem ok_lspaced (T : Txt w K mg fa fd cv) : FnOk P w K mg base CX0 1 (fa 51) (fd 51) ["tokens", "row"] (spSpaced K) := by
  refine T.d_law_spaced.F.ok sc_law_spaced (fun vs H Q E h => ?_) (fun cdv A outer s H vs Q E hr h => ?_)
  · obtain ⟨a, b, ts, rs, rfl, _⟩ := h
    rfl
  · obtain ⟨a, b, ts, rs, rfl, ha, hb, hne, htok, hlen, hr2, hr3, hrs, q⟩ := h
    refine ⟨_, pss_cons (ps_set (i := 2) sc_law_spaced.nd rfl (Or.inl rfl) pe_str)
      (pss_cons (ps_set (i := 3) sc_law_spaced.nd rfl (Or.inl rfl) (pe_op op_repS pe_str (pe_ix ix_list (pv 1) pe_int (fun _ _ => rfl))))
      (pss_cons (ps_for PassesOwn.never rfl (pi_range1 (by rfl) T.b_range (pa_cons (pe_callB call_len_seq (by rfl) T.b_len PySem.boot_len (pa_cons (pv 0) pa_nil)) pa_nil)) (pg_name (i := 4) sc_law_spaced.nd rfl (Or.inl rfl)) (pss_cons (ps_set (i := 5) sc_law_spaced.nd rfl (Or.inl rfl) (pe_ix ix_list (pv 1) (pe_op op_add pe_int (pe_op op_mod (pe_callTy call_int1 (by rfl) T.b_int PyProof.Rows.boot_int (pa_cons (pv 4) pa_nil)) (pe_op op_sub (pe_callB call_len_seq (by rfl) T.b_len PySem.boot_len (pa_cons (pv 1) pa_nil)) pe_int))) (fun _ _ => rfl)))
      (pss_cut (ps_if (PW.pt (pw_and (pt_cmpR op_gt (pv 4) pe_int (nomark _)) (pw_and (pt_cmpR op_in_sign (pe_ix ix_str (pe_ix ix_list (pv 0) (pe_op op_sub (pv 4) pe_int) (fun _ _ => rfl)) pe_int (fun _ _ => rfl)) (pe_slice sl_str (pv 2) po_none (po_some pe_int)) rfl) (pw_and1 (pt_cmpR op_in_sign (pe_ix ix_str (pe_ix ix_list (pv 0) (pv 4) (fun _ _ => rfl)) pe_int (fun _ _ => rfl)) (pv 2) rfl))))) (pss_one (ps_set (i := 5) sc_law_spaced.nd rfl (Or.inl rfl) (pe_callB (call_max2 rfl) (by rfl) T.b_max (by decide +kernel) (pa_cons pe_int (pa_cons (pv 5) pa_nil))))) (pss_nil))
      (pss_cut (ps_if (pt_cmpR op_gt (pv 4) pe_int (nomark _)) (pss_one (ps_set (i := 3) sc_law_spaced.nd rfl (Or.inl rfl) (pe_op op_add_str (pv 3) (pe_op op_repS pe_str (pv 5))))) (pss_nil))
      (pss_one (ps_set (i := 3) sc_law_spaced.nd rfl (Or.inl rfl) (pe_op op_add_str (pv 3) (pe_ix ix_list (pv 0) (pv 4) (fun _ _ => rfl)))))))))
      (pss_one (ps_ret (pe_op op_add_str (pv 3) (pe_op op_repS pe_str (pe_ix ix_list (pv 1) pe_int (fun _ _ => rfl)))))))), ?_⟩
    have lt : (ts.map V.str).length = ts.length := List.length_map _
    have lr : (rs.map V.int).length = rs.length := List.length_map _
    have getR : ∀ i, i < rs.length → ∃ g : Nat, rs[i]? = some (g : Int) ∧ g ≤ 3 := fun i hi => by
      have h := hrs _ (List.getElem_mem hi)
      refine ⟨(rs[i]).toNat, ?_, by omega⟩
      rw [List.getElem?_eq_getElem hi]
      exact congrArg some (by omega)
    have mapR : ∀ {i : Nat} {g : Nat}, rs[i]? = some (g : Int) → (rs.map V.int)[i]? = some (.int (g : Int)) := fun h => by rw [List.getElem?_map, h]; rfl
    obtain ⟨g0, hg0, b0⟩ := getR 0 (by omega)
    obtain ⟨g1, hg1, b1⟩ := getR 1 (by omega)
    refine q_asg (v := .str ld36) ev_c fun H1 e1 => ?_
    refine q_asg (v := .str (spS g0)) (ev_op ev_c (ev_op (ev_var rfl) ev_c (rv_ixL (ex_l e1 hb) (at_of (j := 0) rfl (mapR hg0)))) (rv_repS (by omega))) fun H2 e2 => ?_
    have e12 := e1.trans e2
    refine q_forR1 (n := (ts.length : Int)) (ea_cons (ev_is (ev_cb (ea_cons (ev_var rfl) ea_nil) (rc_lenL (ex_l e12 ha))) (by rw [lt])) ea_nil) (by omega) (fun i σ' H' => ∃ (z : Str) (L : List (Nat × Str)) (y4 y5 : Option V), σ' = [some (.ref a), some (.ref b), some (.str ld36), some (.str z), y4, y5] ∧ Ex H H' ∧ L.map Prod.snd = ts.take i ∧ (i = 0 → z = spS g0 ∧ L = []) ∧ (i ≠ 0 → z.cps.toList = layC L 0) ∧ GapL L ∧ z.length ≤ 11 * i + 3)
      (fun H3 e3 => ⟨spS g0, [], none, none, rfl, e12.trans e3, rfl, fun _ => ⟨rfl, rfl⟩, fun h => absurd rfl h, fun _ _ _ e => (nomatch e), by rw [spS_len]; omega⟩) (fun i σ' H' hi ⟨z, L, y4, y5, hσ, e3, hL, h0, h1, hg, hz⟩ => ?_) (fun σ' H' ⟨z, L, y4, y5, hσ, e3, hL, h0, h1, hg, hz⟩ => ?_)
    · subst hσ
      have i1 : i < ts.length := by omega
      have gt := List.getElem?_eq_getElem i1
      have gtm : (ts.map V.str)[i]? = some (.str ts[i]) := by rw [List.getElem?_map, gt]; rfl
      have tok := htok _ (List.getElem_mem i1)
      have tl8 := tok_len tok
      obtain ⟨c, cr, ec, _⟩ := tok_first tok
      have fcc : fc ts[i] = c := by unfold fc; rw [ec]; rfl
      obtain ⟨g, hgi, bg⟩ := getR (1 + i % (rs.length - 1)) (by have := Nat.mod_lt i (show rs.length - 1 > 0 by omega); omega)
      have eix : (1 : Int) + (i : Int) % ((rs.length : Int) - 1) = ((1 + i % (rs.length - 1) : Nat) : Int) := by
        rw [show (rs.length : Int) - 1 = ((rs.length - 1 : Nat) : Int) by omega, Int.natCast_add, Int.natCast_emod]
        rfl
      have htake : ts.take (i + 1) = ts.take i ++ [ts[i]] := by rw [List.take_succ, gt]; rfl
      refine q_asg (v := .int (g : Int)) (ev_op (ev_var rfl) (ev_is (ev_op ev_c (ev_op (ev_cb (ea_cons (ev_var rfl) ea_nil) rc_int1) (ev_op (ev_is (ev_cb (ea_cons (ev_var rfl) ea_nil) (rc_lenL (ex_l e3 hb))) (by rw [lr])) ev_c rv_I0) (rv_I (by show (0 : Int) < _; omega))) rv_I0) (congrArg V.int eix)) (rv_ixL (ex_l e3 hb) (at_of rfl (mapR hgi)))) fun H4 e4 => ?_
      have e34 := e3.trans e4
      -- the gap
      refine q_cut (M := fun σ' H' => ∃ g' : Nat, σ' = [some (.ref a), some (.ref b), some (.str ld36), some (.str z), some (.int (i : Int)), some (.int (g' : Int))] ∧ Ex H H' ∧ g' ≤ 3 ∧ (∀ t, (L.map Prod.snd).getLast? = some t → inS "abcdefghijklmnopqrstuvwxyz" (fc t) = true → inS letDig (fc ts[i]) = true → g' ≠ 0)) ?_ ?_
      · by_cases hi0 : i = 0
        · subst hi0
          refine s_when (b := false) (et_andF (et_is (et_test (ev_op (ev_var rfl) ev_c rv_I0)) rfl)) (fun h => nomatch h) (fun _ H5 e5 => ⟨g, rfl, e34.trans e5, bg, fun t ht => ?_⟩)
          rw [hL] at ht
          cases ht
        · have ip : i - 1 < ts.length := by omega
          have gp := List.getElem?_eq_getElem ip
          have gpm : (ts.map V.str)[i - 1]? = some (.str ts[i - 1]) := by rw [List.getElem?_map, gp]; rfl
          have tokp := htok _ (List.getElem_mem ip)
          obtain ⟨cp, crp, ecp, _⟩ := tok_first tokp
          have fcp : fc ts[i - 1] = cp := by unfold fc; rw [ecp]; rfl
          have tlp := tok_len tokp
          have last : ∀ t, (L.map Prod.snd).getLast? = some t → t = ts[i - 1] := fun t ht => by
            rw [hL, List.getLast?_take] at ht
            rw [if_neg hi0, gp] at ht
            exact (Option.some.inj ht).symm
          refine s_when (b := inS "abcdefghijklmnopqrstuvwxyz" cp && inS letDig c) (et_is (et_and (a := true) (et_is (et_test (ev_op (ev_var rfl) ev_c rv_I0)) (decide_eq_true (by omega))) fun _ => et_and (et_test (ev_op (ev_op (ev_op (ev_var rfl) (ev_op (ev_var rfl) ev_c rv_I0) (rv_ixL (ex_l e34 ha) (at_of (j := i - 1) (by omega) gpm))) ev_c (rv_ixS (by omega) (atI_zero ecp))) (ev_is (ev_slS (ev_var rfl) eo_none (eo_some ev_c) (by decide +kernel)) (by rw [cut26])) rv_inS)) fun _ => et_test (ev_op (ev_op (ev_op (ev_var rfl) (ev_var rfl) (rv_ixL (ex_l e34 ha) (at_of (j := i) rfl gtm))) ev_c (rv_ixS (by omega) (atI_zero ec))) (ev_var rfl) rv_inS)) (by rw [Bool.true_and, ← ld36_cps]; rfl)) (fun hb H5 e5 => ?_) (fun hb H5 e5 => ?_)
          · refine s_asg (v := .int ((max 1 g : Nat) : Int)) (ev_is (ev_max2 ev_c (ev_var rfl)) ?_) fun H6 e6 => ⟨max 1 g, rfl, (e34.trans e5).trans e6, by omega, fun _ _ _ _ => by omega⟩
            refine congrArg V.int ?_
            split <;> omega
          · refine ⟨g, rfl, e34.trans e5, bg, fun t ht h1 h2 => ?_⟩
            rw [last t ht, fcp] at h1
            rw [fcc] at h2
            rw [h1, h2] at hb
            cases hb
      · rintro σ' H5 ⟨g', rfl, e5, bg', hj⟩
        refine q_cut (M := fun σ' H' => ∃ z' : Str, σ' = [some (.ref a), some (.ref b), some (.str ld36), some (.str z'), some (.int (i : Int)), some (.int (g' : Int))] ∧ Ex H H' ∧ z'.length ≤ 11 * i + 6 ∧ (i = 0 → z' = spS g0) ∧ (i ≠ 0 → z'.cps.toList = layC L 0 ++ sp g')) ?_ ?_
        · by_cases hi0 : i = 0
          · exact s_when (b := false) (et_is (et_test (ev_op (ev_var rfl) ev_c rv_I0)) (decide_eq_false (by omega))) (fun h => nomatch h) (fun _ H6 e6 => ⟨z, rfl, e5.trans e6, by omega, fun _ => (h0 hi0).1, fun h => absurd hi0 h⟩)
          · refine s_when (b := true) (et_is (et_test (ev_op (ev_var rfl) ev_c rv_I0)) (decide_eq_true (by omega))) (fun _ H6 e6 => ?_) (fun h => nomatch h)
            refine s_asg (ev_op (ev_var rfl) (ev_op ev_c (ev_var rfl) (rv_repS (by omega))) (rv_addS (by rw [spS_len]; exact sz_of (by omega)))) fun H7 e7 => ⟨_, rfl, (e5.trans e6).trans e7, by rw [Str.length_append, spS_len]; omega, fun h => absurd h hi0, fun _ => by rw [s_cps, h1 hi0, spS_cps]⟩
        · rintro σ' H6 ⟨z', rfl, e6, hz', c0, c1⟩
          refine s_asg (ev_op (ev_var rfl) (ev_op (ev_var rfl) (ev_var rfl) (rv_ixL (ex_l e6 ha) (at_of (j := i) rfl gtm))) (rv_addS (sz_of (by omega)))) fun H7 e7 => ?_
          by_cases hi0 : i = 0
          · subst hi0
            obtain ⟨rfl, rfl⟩ := h0 rfl
            refine ⟨_, [(g0, ts[0])], _, _, rfl, e6.trans e7, by rw [htake]; rfl, fun h => (nomatch h), fun _ => ?_, fun _ _ _ e => (by cases e; exact True.intro), ?_⟩
            · rw [s_cps, c0 rfl, spS_cps]
              show _ = sp g0 ++ (ts[0].cps.toList ++ [])
              rw [List.append_nil]
            · rw [Str.length_append]
              omega
          · refine ⟨_, L ++ [(g', ts[i])], _, _, rfl, e6.trans e7, by rw [List.map_append, hL, htake]; rfl, fun h => (nomatch h), fun _ => ?_, gapL_snoc hg hj, ?_⟩
            · rw [s_cps, c1 hi0, layC_app]
              show _ = layC L 0 ++ (sp g' ++ (ts[i].cps.toList ++ []))
              rw [List.append_nil, List.append_assoc]
            · rw [Str.length_append]
              omega
    · subst hσ
      have et : ts.take (ts.length : Int).toNat = ts := by rw [Int.toNat_natCast]; exact List.take_length
      have nz : (ts.length : Int).toNat ≠ 0 := by
        intro h
        rw [Int.toNat_natCast] at h
        exact hne (List.length_eq_zero_iff.mp h)
      rw [et] at hL
      rw [Int.toNat_natCast] at hz
      refine s_ret (ev_op (ev_var rfl) (ev_op ev_c (ev_op (ev_var rfl) ev_c (rv_ixL (ex_l e3 hb) (at_of (j := 1) rfl (mapR hg1)))) (rv_repS (by omega))) (rv_addS (by rw [spS_len]; exact sz_of (by omega)))) fun H4 e4 => q _ L g1 H4 ?_ hL hg ?_ (e3.trans e4)
      · rw [s_cps, h1 nz, spS_cps, ← layC_end]
      · rw [Str.length_append, spS_len]
        omega
end


/-! the law's names: the mathematics -/
theorem nodup_filter_ne {α : Type} [DecidableEq α] (n : α) : ∀ C : List α, C.Nodup → C.length ≤ (C.filter (fun c => decide (c ≠ n))).length + 1
  | [], _ => Nat.zero_le _
  | c :: C, h => by
    obtain ⟨h1, h2⟩ := List.nodup_cons.mp h
    by_cases e : c = n
    · subst e
      have : (c :: C).filter (fun x => decide (x ≠ c)) = C := by
        rw [List.filter_cons, if_neg (by simp)]
        exact List.filter_eq_self.mpr fun x hx => decide_eq_true (fun e => h1 (e ▸ hx))
      rw [this]
      exact Nat.le_refl _
    · rw [List.filter_cons, if_pos (decide_eq_true e)]
      have := nodup_filter_ne n C h2
      simp only [List.length_cons]
      omega
theorem two_free {α : Type} [DecidableEq α] : ∀ (N C : List α), C.Nodup → N.length + 2 ≤ C.length → ∃ a ∈ C, ∃ b ∈ C, a ≠ b ∧ a ∉ N ∧ b ∉ N
  | [], C, h, hl => by
    match C, h, hl with
    | a :: b :: C, h, _ => exact ⟨a, by simp, b, by simp, fun e => by subst e; exact (List.nodup_cons.mp h).1 List.mem_cons_self, List.not_mem_nil, List.not_mem_nil⟩
  | n :: N, C, h, hl => by
    have hf := nodup_filter_ne n C h
    obtain ⟨a, ha, b, hb, hne, hna, hnb⟩ := two_free N (C.filter (fun c => decide (c ≠ n))) (h.filter _) (by simp only [List.length_cons] at hl; omega)
    obtain ⟨a1, a2⟩ := List.mem_filter.mp ha
    obtain ⟨b1, b2⟩ := List.mem_filter.mp hb
    exact ⟨a, a1, b, b1, hne, fun h => by rcases List.mem_cons.mp h with h | h; exact of_decide_eq_true a2 h; exact hna h, fun h => by rcases List.mem_cons.mp h with h | h; exact of_decide_eq_true b2 h; exact hnb h⟩
theorem cutS_take (z : Str) (n : Nat) : (cutS z none (some (n : Int))).cps.toList = z.cps.toList.take n := by
  unfold cutS
  rw [HT.sIx_none, HT.sIx_nat]
  show ((z.cps.toList.drop 0).take _) = _
  rw [List.drop_zero]
  have hl := str_len z
  rw [Nat.sub_zero]
  by_cases h : n ≤ z.length
  · rw [Nat.min_eq_left h]
  · rw [Nat.min_eq_right (by omega), List.take_of_length_le (by omega), List.take_of_length_le (by omega)]
theorem cutS_drop (z : Str) (n : Nat) : (cutS z (some (n : Int)) none).cps.toList = z.cps.toList.drop n := by
  unfold cutS
  rw [HT.sIx_none, HT.sIx_nat]
  have hl := str_len z
  show ((z.cps.toList.drop (min n z.length)).take _) = _
  by_cases h : n ≤ z.length
  · rw [Nat.min_eq_left h, List.take_of_length_le (by rw [List.length_drop]; omega)]
  · rw [Nat.min_eq_right (by omega), List.drop_of_length_le (by omega), List.drop_of_length_le (by omega), List.take_nil]
/-- a word: what a name is but for the reserved ones -/
structure wdL (l : List Nat) : Prop where
  pos : 1 ≤ l.length
  le8 : l.length ≤ 8
  fst : ∃ c r, l = c :: r ∧ c ∈ letters.cps.toList
  all : ∀ c ∈ l, signOk c = true
theorem isName_of {z : Str} (h : wdL z.cps.toList) (r : z ∉ reserved) : isName z = true := by
  have hl := str_len z
  obtain ⟨c, l, e, hc⟩ := h.fst
  unfold isName firstOk
  rw [decide_eq_true (by have := h.pos; omega), decide_eq_true (by have := h.le8; omega), e]
  simp only [decide_eq_true hc]
  rw [inV_str, decide_eq_false r, ← e, List.all_eq_true.mpr h.all]
  rfl
theorem wdL_of {z : Str} (h : isName z = true) : wdL z.cps.toList := by
  have hl := str_len z
  unfold isName firstOk at h
  simp only [Bool.and_eq_true, decide_eq_true_eq] at h
  obtain ⟨⟨⟨⟨h1, h2⟩, h3⟩, _⟩, h5⟩ := h
  refine ⟨by omega, by omega, ?_, fun c hc => List.all_eq_true.mp h5 c hc⟩
  cases e : z.cps.toList with
  | nil => rw [e] at hl; simp at hl; omega
  | cons c r =>
    rw [e] at h3
    exact ⟨c, r, rfl, of_decide_eq_true h3⟩
theorem not_res_of {z : Str} (h : isName z = true) : z ∉ reserved := by
  unfold isName at h
  simp only [Bool.and_eq_true, Bool.not_eq_true'] at h
  obtain ⟨⟨_, h4⟩, _⟩ := h
  rw [inV_str] at h4
  exact of_decide_eq_false h4
theorem ld36_ok : ∀ i < 36, ∃ c, ld36.cps.toList[i]? = some c ∧ signOk c = true := fun i hi => by
  have h : ∀ i : Fin 36, (ld36.cps.toList[i.val]?).any signOk = true := by decide +kernel
  have := h ⟨i, hi⟩
  cases e : ld36.cps.toList[i]? with
  | none => rw [e] at this; cases this
  | some c => rw [e] at this; exact ⟨c, rfl, this⟩
theorem ld36_let : ∀ i < 26, ∃ c, ld36.cps.toList[i]? = some c ∧ c ∈ letters.cps.toList := fun i hi => by
  have h : ∀ i : Fin 26, (ld36.cps.toList[i.val]?).any (fun c => decide (c ∈ letters.cps.toList)) = true := by decide +kernel
  have := h ⟨i, hi⟩
  cases e : ld36.cps.toList[i]? with
  | none => rw [e] at this; cases this
  | some c => rw [e] at this; exact ⟨c, rfl, of_decide_eq_true this⟩
theorem ld36_nd : ld36.cps.toList.Nodup := by decide +kernel
theorem ld36_len : ld36.cps.toList.length = 36 := by decide +kernel
theorem let_sign {c : Nat} (h : c ∈ letters.cps.toList) : signOk c = true := by
  unfold signOk
  rw [decide_eq_true h]
  rfl
theorem ld36_all : ∀ c ∈ ld36.cps.toList, signOk c = true := by decide +kernel
theorem res_last : ∀ u ∈ reserved, ∀ v ∈ reserved, u.cps.toList.dropLast = v.cps.toList.dropLast → u = v := by decide +kernel
def cand (z : Str) (c : Nat) : Str := cutS z none (some 7) ++ ⟨#[c]⟩
theorem cand_cps (z : Str) (c : Nat) : (cand z c).cps.toList = z.cps.toList.take 7 ++ [c] := by
  unfold cand
  rw [s_cps]
  have := cutS_take z 7
  rw [show ((7 : Nat) : Int) = 7 from rfl] at this
  rw [this]
theorem cand_inj {z : Str} {c d : Nat} (h : cand z c = cand z d) : c = d := by
  have := congrArg (fun s : Str => s.cps.toList) h
  simp only [cand_cps] at this
  have := List.append_cancel_left this
  exact (List.cons.inj this).1
theorem cand_free (z : Str) {ns : List Str} (h : ns.length ≤ 34) : ∃ c ∈ ld36.cps.toList, cand z c ∉ ns ∧ cand z c ∉ reserved := by
  have nd : (ld36.cps.toList.map (cand z)).Nodup := List.Pairwise.map _ (fun a b hne e => hne (cand_inj e)) ld36_nd
  obtain ⟨a, ha, b, hb, hne, na, nb⟩ := two_free ns _ nd (by rw [List.length_map, ld36_len]; omega)
  obtain ⟨c, hc, rfl⟩ := List.mem_map.mp ha
  obtain ⟨d, hd, rfl⟩ := List.mem_map.mp hb
  by_cases r1 : cand z c ∈ reserved
  · by_cases r2 : cand z d ∈ reserved
    · refine absurd (res_last _ r1 _ r2 ?_) hne
      rw [cand_cps, cand_cps, List.dropLast_concat, List.dropLast_concat]
    · exact ⟨d, hd, nb, r2⟩
  · exact ⟨c, hc, na, r1⟩
theorem wd_cand {z : Str} (h : wdL z.cps.toList) {c : Nat} (hc : c ∈ ld36.cps.toList) : wdL (cand z c).cps.toList := by
  rw [cand_cps]
  obtain ⟨f, r, e, hf⟩ := h.fst
  refine ⟨by rw [List.length_append]; exact Nat.le_add_left _ _, by rw [List.length_append, List.length_take]; show min 7 _ + 1 ≤ 8; omega, ⟨f, r.take 6 ++ [c], by rw [e]; rfl, hf⟩, fun x hx => ?_⟩
  rcases List.mem_append.mp hx with hx | hx
  · exact h.all x (List.mem_of_mem_take hx)
  · rw [List.mem_singleton.mp hx]
    exact ld36_all c hc
theorem wd_take {l : List Nat} {n : Nat} (h1 : 1 ≤ n) (h2 : n ≤ 8) (hf : ∃ c r, l = c :: r ∧ c ∈ letters.cps.toList) (ha : ∀ c ∈ l, signOk c = true) : wdL (l.take n) := by
  obtain ⟨c, r, e, hc⟩ := hf
  obtain ⟨m, rfl⟩ : ∃ m, n = m + 1 := ⟨n - 1, by omega⟩
  refine ⟨?_, by rw [List.length_take]; omega, ⟨c, r.take m, by rw [e]; rfl, hc⟩, fun x hx => ha x (List.mem_of_mem_take hx)⟩
  rw [e, List.length_take, List.length_cons]
  omega
theorem wd_put {l : List Nat} {p c : Nat} (h : wdL l) (hp : p < l.length) (hc : signOk c = true) (h0 : p = 0 → c ∈ letters.cps.toList) : wdL (l.take p ++ [c] ++ l.drop (p + 1)) := by
  have h8 := h.le8
  refine ⟨by simp only [List.length_append, List.length_cons, List.length_nil]; omega, by rw [List.length_append, List.length_append, List.length_take, List.length_drop]; show min p _ + 1 + _ ≤ 8; omega, ?_, fun x hx => ?_⟩
  · obtain ⟨f, r, e, hf⟩ := h.fst
    cases p with
    | zero => exact ⟨c, l.drop 1, rfl, h0 rfl⟩
    | succ p => exact ⟨f, r.take p ++ [c] ++ l.drop (p + 2), by rw [e]; rfl, hf⟩
  · rcases List.mem_append.mp hx with hx | hx
    · rcases List.mem_append.mp hx with hx | hx
      · exact h.all x (List.mem_of_mem_take hx)
      · rw [List.mem_singleton.mp hx]
        exact hc
    · exact h.all x (List.mem_of_mem_drop hx)
def nmB : List Int := [8, 26, 36, 36, 36, 36, 36, 36, 36]
def nmS (m : Nat) : List Int := 3 :: (List.replicate m nmB).flatten
theorem nmF_at : ∀ (m k r : Nat), k < m → r < 9 → ((List.replicate m nmB).flatten)[9 * k + r]? = nmB[r]?
  | m + 1, 0, r, _, hr => by
    rw [List.replicate_succ, List.flatten_cons, List.getElem?_append_left (by show 9 * 0 + r < 9; omega)]
    congr 1
    omega
  | m + 1, k + 1, r, hk, hr => by
    rw [List.replicate_succ, List.flatten_cons, List.getElem?_append_right (by show 9 ≤ 9 * (k + 1) + r; omega)]
    rw [show 9 * (k + 1) + r - nmB.length = 9 * k + r by show 9 * (k + 1) + r - 9 = _; omega]
    exact nmF_at m k r (by omega) hr
theorem nmS_at {m k r : Nat} (hk : k < m) (hr : r < 9) : (nmS m)[1 + 9 * k + r]? = nmB[r]? := by
  rw [show 1 + 9 * k + r = (9 * k + r) + 1 by omega]
  exact nmF_at m k r hk hr
theorem nmS_len (m : Nat) : (nmS m).length = 1 + 9 * m := by
  unfold nmS
  rw [List.length_cons, List.length_flatten, List.map_replicate, List.sum_replicate_nat]
  show m * 9 + 1 = _
  omega
theorem nmS_all (m : Nat) : ∀ x ∈ nmS m, 0 < x ∧ x < 1000000 := fun x hx => by
  rcases List.mem_cons.mp hx with rfl | hx
  · decide
  · obtain ⟨l, hl, hx⟩ := List.mem_flatten.mp hx
    rw [List.eq_of_mem_replicate hl] at hx
    have : ∀ x ∈ nmB, 0 < x ∧ x < 1000000 := by decide
    exact this x hx

/-! the law's names -/
theorem flat_strs (ns : List Str) : (ns.map V.str).all flatV = true := by
  rw [List.all_map]
  exact List.all_eq_true.mpr fun _ _ => rfl
section
variable {K : PySem.W.Frag} {σ : L2.St} {H : Hp} {ta te : TE} {D : L2.Ends} {tz : TS}
/-- xs.append(e), e something of a kind -/
theorem s_appS {l : Addr} {xs : List V} {S : V → Prop} (hl : H l = some (.lst xs)) (ha : Ev ta σ H (.ref l)) (h : EvS te σ H S) (hz : xs.length < 100000) (k : ∀ v H1, S v → Ex H H1 → D.nx σ (upd H1 l (.lst (xs ++ [v])))) :
    tDrop (tBM K "list" rAppend ta (tCons te tNil)) D σ H := ha H (Ex.refl H) _ fun H1 e1 =>
  ⟨Or.inl ⟨rfl, xs, sq_of (e1 l _ hl)⟩, h H1 e1 _ fun v H2 s e2 => ⟨l, xs, v, rfl, rfl, e2 l _ (e1 l _ hl), sz_lt hz, k v H2 s (e1.trans e2)⟩⟩
end
def spFresh (K : PySem.W.Frag) : Sp := fun vs H Q _ => ∃ (z : Str) (a : Addr) (ns : List Str), vs = [.str z, .ref a] ∧ wdL z.cps.toList ∧ SqL K H a (ns.map V.str) ∧ ns.length ≤ 34 ∧ ∀ (y : Str) H2, isName y = true → y ∉ ns → Ex H H2 → Q (.str y) H2
def spNames (K : PySem.W.Frag) : Sp := fun vs H Q _ => ∃ (c : Int) (m : Nat), vs = [.int c, .int (m : Int)] ∧ m ≤ 30 ∧ ∀ (ns : List Str) p H2, ns.length = m → ns.Nodup → (∀ n ∈ ns, isName n = true) → H p = none → Ex H H2 → H2 p = some (.lst (ns.map V.str)) → Q (.ref p) H2
section
variable {P : Program} {w : World} {K : PySem.W.Frag} {mg : Str → Option Value} {base : Heap} {fa : Nat → Addr} {fd : Nat → FuncData} {cv : Nat → Value}
theorem sp_fresh {z : Str} {a : Addr} {ns : List Str} {H : Hp} (hw : wdL z.cps.toList) (h : SqL K H a (ns.map V.str)) (hl : ns.length ≤ 34) : SpS (spFresh K) [.str z, .ref a] H (fun v => ∃ y : Str, v = .str y ∧ isName y = true ∧ y ∉ ns) :=
  fun H1 e Q q E => ⟨z, a, ns, rfl, hw, ex_l e h, hl, fun y H2 h1 h2 e2 => q _ H2 ⟨y, rfl, h1, h2⟩ e2⟩
theorem ok_fresh (T : Txt w K mg fa fd cv) : FnOk P w K mg base CX0 2 (fa 37) (fd 37) ["text", "names"] (spFresh K) := by
  have G_law_reserved := ok_reserved (P := P) (w := w) (base := base) T
  refine T.d_law_fresh.F.ok sc_law_fresh (fun vs H Q E h => ?_) (fun cdv A outer s H vs Q E hr h => ?_)
  · obtain ⟨z, a, ns, rfl, _⟩ := h
    rfl
  · obtain ⟨z, a, ns, rfl, hw, ha, hl, q⟩ := h
    refine ⟨_, pss_cons (ps_set (i := 2) sc_law_fresh.nd rfl (Or.inl rfl) pe_str)
      (pss_cons (ps_set (i := 3) sc_law_fresh.nd rfl (Or.inl rfl) (pe_call0 G_law_reserved (by first | exact hr.mono (by decide) | exact hr.mono (by omega)) (by rfl) T.d_law_reserved.g T.d_law_reserved.k T.d_law_reserved.b .nil pass0))
      (pss_cons (ps_if (PW.pt (pw_and (pt_cmpR op_notIn_seq (pv 0) (pv 1) (by rfl)) (pw_and1 (pt_cmpR op_notIn_seq (pv 0) (pv 3) (by rfl))))) (pss_one (ps_ret (pv 0))) (pss_nil))
      (pss_cons (ps_for PassesOwn.never rfl (pi_str (pv 2)) (pg_name (i := 4) sc_law_fresh.nd rfl (Or.inl rfl)) (pss_cons (ps_set (i := 5) sc_law_fresh.nd rfl (Or.inl rfl) (pe_op op_add_str (pe_slice sl_str (pv 0) po_none (po_some pe_int)) (pv 4)))
      (pss_one (ps_if (PW.pt (pw_and (pt_cmpR op_notIn_seq (pv 5) (pv 1) (by rfl)) (pw_and1 (pt_cmpR op_notIn_seq (pv 5) (pv 3) (by rfl))))) (pss_one (ps_ret (pv 5))) (pss_nil)))))
      (pss_one (ps_ret (pv 0)))))), ?_⟩
    refine q_asg (v := .str ld36) ev_c fun H1 e1 => ?_
    refine q_asgL (el_call ea_nil (sp_reserved _)) fun p H2 hp e2 h2 => ?_
    have e12 := e1.trans e2
    have tst : ∀ (y : Str) (i : Nat) (σ : L2.St) (H3 : Hp), Ex H2 H3 → σ[i]? = some (some (.str y)) → σ[1]? = some (some (.ref a)) → σ[3]? = some (some (.ref p)) → EvT (tAnd (tTest (tOp (rIn K true) (tVar i) (tVar 1))) (tTest (tOp (rIn K true) (tVar i) (tVar 3)))) σ H3 (!decide (y ∈ ns) && !decide (y ∈ reserved)) := fun y i σ H3 e3 g0 g1 g3 => by
      have A := et_and (u := tTest (tOp (rIn K true) (tVar i) (tVar 3))) (et_test (ev_op (ev_var g0) (ev_var g1) (rv_niL (ex_l (e12.trans e3) ha) rfl (flat_strs ns)))) fun _ => et_test (ev_op (ev_var g0) (ev_var g3) (rv_niL (ex_l e3 (sq_of h2)) rfl (flat_strs reserved)))
      rw [inV_str, inV_str] at A
      exact A
    refine q_when (tst z 0 _ H2 (Ex.refl _) rfl rfl rfl) (fun hb H3 e3 => ?_) (fun hb H3 e3 => ?_)
    · obtain ⟨b1, b2⟩ := (Bool.and_eq_true _ _).mp hb
      have c1 := of_decide_eq_false ((Bool.not_eq_true' _).mp b1)
      have c2 := of_decide_eq_false ((Bool.not_eq_true' _).mp b2)
      exact s_ret (ev_var rfl) fun H4 e4 => q z H4 (isName_of hw c2) c1 ((e12.trans e3).trans e4)
    · refine q_forS (s := ld36) (ev_var rfl) (fun i σ' H' => ∃ (y4 y5 : Option V), σ' = [some (.str z), some (.ref a), some (.str ld36), some (.ref p), y4, y5] ∧ Ex H2 H' ∧ ∀ j c, j < i → ld36.cps.toList[j]? = some c → cand z c ∈ ns ∨ cand z c ∈ reserved)
        (fun H4 e4 => ⟨none, none, rfl, e3.trans e4, fun j c h => absurd h (Nat.not_lt_zero _)⟩) (fun i c σ' H' hi ⟨y4, y5, hσ, e4, hall⟩ => ?_) (fun σ' H' ⟨y4, y5, hσ, e4, hall⟩ => ?_)
      · subst hσ
        refine q_asg (v := .str (cand z c)) (ev_op (ev_slS (ev_var rfl) eo_none (eo_some ev_c) (by have := str_len z; have := hw.le8; exact sz_of (by omega))) (ev_var rfl) (rv_addS ?_)) fun H5 e5 => ?_
        · have := cutS_length z none (some 7)
          have := str_len z
          have := hw.le8
          exact sz_of (by show _ + 1 ≤ _; omega)
        refine s_when (tst (cand z c) 5 _ H5 (e4.trans e5) rfl rfl rfl) (fun hb H6 e6 => ?_) (fun hb H6 e6 => ⟨_, _, rfl, (e4.trans e5).trans e6, fun j d hj hd => ?_⟩)
        · obtain ⟨b1, b2⟩ := (Bool.and_eq_true _ _).mp hb
          have c1 := of_decide_eq_false ((Bool.not_eq_true' _).mp b1)
          have c2 := of_decide_eq_false ((Bool.not_eq_true' _).mp b2)
          exact s_ret (ev_var rfl) fun H7 e7 => q _ H7 (isName_of (wd_cand hw (List.mem_of_getElem? hi)) c2) c1 (((e12.trans e4).trans e5).trans (e6.trans e7))
        · by_cases ej : j = i
          · subst ej
            have : c = d := Option.some.inj (hi.symm.trans hd)
            subst this
            rcases Bool.and_eq_false_iff.mp hb with b | b
            · exact .inl (of_decide_eq_true ((Bool.not_eq_false' _).mp b))
            · exact .inr (of_decide_eq_true ((Bool.not_eq_false' _).mp b))
          · exact hall j d (by omega) hd
      · exfalso
        obtain ⟨c, hc, n1, n2⟩ := cand_free z hl
        obtain ⟨j, hj⟩ := List.getElem?_of_mem hc
        rcases hall j c (List.getElem?_eq_some_iff.mp hj).1 hj with h | h
        · exact n1 h
        · exact n2 h
theorem ok_names (T : Txt w K mg fa fd cv) : FnOk P w K mg base CX0 3 (fa 38) (fd 38) ["cell", "many"] (spNames K) := by
  have G_law_digits := ok_digits (P := P) (w := w) (base := base) T
  have G_law_fresh := ok_fresh (P := P) (w := w) (base := base) T
  refine T.d_law_names.F.ok sc_law_names (fun vs H Q E h => ?_) (fun cdv A outer s H vs Q E hr h => ?_)
  · obtain ⟨c, m, rfl, _⟩ := h
    rfl
  · obtain ⟨c, m, rfl, hm, q⟩ := h
    refine ⟨_, pss_cons (ps_set (i := 2) sc_law_names.nd rfl (Or.inl rfl) pe_str)
      (pss_cons (ps_set (i := 3) sc_law_names.nd rfl (Or.inl rfl) (pe_call G_law_digits (by first | exact hr.mono (by decide) | exact hr.mono (by omega)) (by rfl) T.d_law_digits.g T.d_law_digits.k T.d_law_digits.b .nil pass0 (pa_cons (pv 0) (pa_cons (pe_op op_cat (pe_lst (pa_cons pe_int pa_nil)) (pe_op op_rep (pe_lst (pa_cons pe_int (pa_cons pe_int (pa_cons pe_int (pa_cons pe_int (pa_cons pe_int (pa_cons pe_int (pa_cons pe_int (pa_cons pe_int (pa_cons pe_int pa_nil)))))))))) (pv 1))) pa_nil))))
      (pss_cons (ps_set (i := 4) sc_law_names.nd rfl (Or.inl rfl) (pe_lst pa_nil))
      (pss_cons (ps_for PassesOwn.never rfl (pi_range1 (by rfl) T.b_range (pa_cons (pv 1) pa_nil)) (pg_name (i := 5) sc_law_names.nd rfl (Or.inl rfl)) (pss_cons (ps_set (i := 6) sc_law_names.nd rfl (Or.inl rfl) (pe_op op_add pe_int (pe_op op_mul pe_int (pv 5))))
      (pss_cons (ps_set (i := 7) sc_law_names.nd rfl (Or.inl rfl) (pe_ix ix_str (pv 2) (pe_ix ix_list (pv 3) (pe_op op_add (pv 6) pe_int) (fun _ _ => rfl)) (fun _ _ => rfl)))
      (pss_cons (ps_for PassesOwn.never rfl (pi_range1 (by rfl) T.b_range (pa_cons (pe_ix ix_list (pv 3) (pv 6) (fun _ _ => rfl)) pa_nil)) (pg_name (i := 8) sc_law_names.nd rfl (Or.inl rfl)) (pss_one (ps_set (i := 7) sc_law_names.nd rfl (Or.inl rfl) (pe_op op_add_str (pv 7) (pe_ix ix_str (pv 2) (pe_ix ix_list (pv 3) (pe_op op_add (pe_op op_add (pv 6) pe_int) (pv 8)) (fun _ _ => rfl)) (fun _ _ => rfl))))))
      (pss_cut (ps_if (PW.pt (pw_and (pt_cmpR op_gt (pv 5) pe_int (nomark _)) (pw_and1 (pt_cmpR op_eq (pe_ix ix_list (pv 3) pe_int (fun _ _ => rfl)) pe_int (nomark _))))) (pss_cons (ps_set (i := 9) sc_law_names.nd rfl (Or.inl rfl) (pe_op op_mod (pe_callTy call_int1 (by rfl) T.b_int PyProof.Rows.boot_int (pa_cons (pe_ix ix_list (pv 3) (pv 6) (fun _ _ => rfl)) pa_nil)) (pe_callB call_len_str (by rfl) T.b_len PySem.boot_len (pa_cons (pe_ix ix_list (pv 4) pe_int (fun _ _ => rfl)) pa_nil))))
      (pss_one (ps_set (i := 7) sc_law_names.nd rfl (Or.inl rfl) (pe_op op_add_str (pe_op op_add_str (pe_slice sl_str (pe_ix ix_list (pv 4) pe_int (fun _ _ => rfl)) po_none (po_some (pv 9))) (pe_ix ix_list (pe_lst (pa_cons (pe_ix ix_str (pv 7) (pe_un un_neg pe_int) (fun _ _ => rfl)) (pa_cons (pe_ix ix_str (pv 7) pe_int (fun _ _ => rfl)) pa_nil))) (pe_callTy call_int1 (by rfl) T.b_int PyProof.Rows.boot_int (pa_cons (pe_cmpR op_eq (pv 9) pe_int (nomark _)) pa_nil)) (fun _ _ => rfl))) (pe_slice sl_str (pe_ix ix_list (pv 4) pe_int (fun _ _ => rfl)) (po_some (pe_op op_add (pv 9) pe_int)) po_none))))) (pss_nil))
      (pss_cut (ps_if (PW.pt (pw_and (pt_cmpR op_gt (pv 5) pe_int (nomark _)) (pw_and1 (pt_cmpR op_eq (pe_ix ix_list (pv 3) pe_int (fun _ _ => rfl)) pe_int (nomark _))))) (pss_one (ps_set (i := 7) sc_law_names.nd rfl (Or.inl rfl) (pe_slice sl_str (pe_op op_add_str (pe_ix ix_list (pv 4) pe_int (fun _ _ => rfl)) (pv 7)) po_none (po_some (pe_op op_add pe_int (pe_ix ix_list (pv 3) (pv 6) (fun _ _ => rfl))))))) (pss_nil))
      (pss_one (ps_expr (pe_bm PySem.F.plainAttrs_list PySem.F.slot_list_append PySem.F.type_list_append mt_append (pv 4) (pa_cons (pe_call G_law_fresh (by first | exact hr.mono (by decide) | exact hr.mono (by omega)) (by rfl) T.d_law_fresh.g T.d_law_fresh.k T.d_law_fresh.b .nil pass0 (pa_cons (pv 7) (pa_cons (pv 4) pa_nil))) pa_nil))))))))))
      (pss_one (ps_ret (pv 4)))))), ?_⟩
    refine q_asg (v := .str ld36) ev_c fun H1 e1 => ?_
    refine q_asgLS (R := DigR (nmS m)) (elS_call (P := fun vs H5 => ∃ p, vs = [.int c, .ref p] ∧ H5 p = some (.lst ((nmS m).map V.int))) (eaH_weak (eaH_cons (S := fun v => v = .int c) (evS_of (ev_var rfl) rfl) (eaH_consL (xs := (nmS m).map V.int) ?_ (eaH_of ea_nil (P := fun vs _ => vs = []) fun _ _ => rfl))) ?_) ?_) fun xs p H2 hx hp e2 h2 => ?_
    · have := el_cat (ta := tLst (tCons (tC (.int 3)) tNil)) (H := H1) (σ := [some (.int c), some (.int (m : Int)), some (.str ld36)] ++ List.replicate 7 none) (el_lst (vs := [.int 3]) (ea_cons ev_c ea_nil) (by show 1 ≤ 100000; decide)) (el_rep (k := (m : Int)) (xs := nmB.map V.int) (el_lst (ea_cons ev_c (ea_cons ev_c (ea_cons ev_c (ea_cons ev_c (ea_cons ev_c (ea_cons ev_c (ea_cons ev_c (ea_cons ev_c (ea_cons ev_c ea_nil))))))))) (by show 9 ≤ 100000; decide)) (ev_var (i := 1) rfl) (by omega) (by omega) (by show 9 * _ ≤ _; omega)) (by
        rw [Int.toNat_natCast, List.length_flatten, List.map_replicate, List.sum_replicate_nat]
        show 1 + m * 9 ≤ 100000
        omega)
      rw [Int.toNat_natCast] at this
      have e : (nmS m).map V.int = [V.int 3] ++ (List.replicate m (nmB.map V.int)).flatten := by
        unfold nmS
        rw [List.map_cons, List.map_flatten, List.map_replicate]
        rfl
      rw [e]
      exact this
    · rintro vs H5 ⟨v, r, rfl, rfl, p, _, rfl, hp, rfl⟩
      exact ⟨p, rfl, hp⟩
    · rintro vs H5 e5 ⟨p, rfl, hp⟩
      exact sp_digits (sq_of hp) (by rw [nmS_len]; omega) (nmS_all m)
    obtain ⟨rs, rfl, hrl, hrg⟩ := hx
    have rl : rs.length = 1 + 9 * m := by rw [hrl, nmS_len]
    have b0 := hrg 0 3 rfl
    have bd : ∀ (k r : Nat) (s : Int), k < m → r < 9 → nmB[r]? = some s → 0 ≤ rs.getD (1 + 9 * k + r) 0 ∧ rs.getD (1 + 9 * k + r) 0 < s := fun k r s hk hr hs => hrg _ s (by rw [nmS_at hk hr, hs])
    have rowAt : ∀ (n : Nat) (z : Int), n < rs.length → z = (n : Int) → atI (rs.map V.int) z = some (.int (rs.getD n 0)) := fun n z hn e => by
      rw [e]
      exact at_ints hn
    refine q_asgL (xs := []) (el_lst ea_nil (by decide)) fun l H3 hl e3 h3 => ?_
    have hl0 : H l = none := fresh_back (e1.trans e2) hl
    refine q_forR1 (n := (m : Int)) (ea_cons (ev_var rfl) ea_nil) (by omega) (fun i σ' H' => ∃ (ns : List Str) (y5 y6 y7 y8 y9 : Option V), σ' = [some (.int c), some (.int (m : Int)), some (.str ld36), some (.ref p), some (.ref l), y5, y6, y7, y8, y9] ∧ Ex H2 H' ∧ H' l = some (.lst (ns.map V.str)) ∧ ns.length = i ∧ ns.Nodup ∧ ∀ n ∈ ns, isName n = true)
      (fun H4 e4 => ⟨[], _, _, _, _, _, rfl, e3.trans e4, e4 _ _ h3, rfl, List.nodup_nil, fun n hn => nomatch hn⟩) (fun i σ' H' hi ⟨ns, y5, y6, y7, y8, y9, hσ, e4, hns, nl, nnd, nok⟩ => ?_) (fun σ' H' ⟨ns, y5, y6, y7, y8, y9, hσ, e4, hns, nl, nnd, nok⟩ => ?_)
    · subst hσ
      have him : i < m := by omega
      refine q_asg (v := .int ((1 + 9 * i : Nat) : Int)) (ev_is (ev_op ev_c (ev_op ev_c (ev_var rfl) (rv_I (by unfold CMul; omega))) rv_I0) (congrArg V.int (by omega))) fun H5 e5 => ?_
      obtain ⟨w0, w1⟩ := bd i 0 8 him (by omega) rfl
      obtain ⟨v0, v1⟩ := bd i 1 26 him (by omega) rfl
      generalize hn0 : rs.getD (1 + 9 * i + 0) 0 = n0 at w0 w1
      generalize hv0 : rs.getD (1 + 9 * i + 1) 0 = f0 at v0 v1
      obtain ⟨cf, hcf, cfl⟩ := ld36_let f0.toNat (by omega)
      have e25 := e4.trans e5
      refine q_asg (v := .str ⟨#[cf]⟩) (ev_op (ev_var rfl) (ev_op (ev_var rfl) (ev_op (ev_var rfl) ev_c rv_I0) (rv_ixL (sq_of (e25 _ _ h2)) (by rw [rowAt (1 + 9 * i + 1) _ (by omega) (by omega), hv0]))) (rv_ixS (by decide +kernel) (by rw [show f0 = (f0.toNat : Int) by omega]; exact atI_nat hcf))) fun H6 e6 => ?_
      have e26 := e25.trans e6
      refine q_forR1 (n := n0) (ea_cons (ev_op (ev_var rfl) (ev_var rfl) (rv_ixL (sq_of (e26 _ _ h2)) (by rw [rowAt (1 + 9 * i + 0) _ (by omega) (by omega), hn0]))) ea_nil) (by omega) (fun j σ' H' => ∃ (z : Str) (y8 : Option V), σ' = [some (.int c), some (.int (m : Int)), some (.str ld36), some (.ref p), some (.ref l), some (.int (i : Int)), some (.int ((1 + 9 * i : Nat) : Int)), some (.str z), y8, y9] ∧ Ex H' H' ∧ Ex H2 H' ∧ H' l = some (.lst (ns.map V.str)) ∧ wdL z.cps.toList ∧ z.cps.toList.length = 1 + j)
        (fun H7 e7 => ⟨_, _, rfl, Ex.refl _, e26.trans e7, e7 _ _ (e6 _ _ (e5 _ _ hns)), ⟨by show 1 ≤ 1; decide, by show 1 ≤ 8; decide, ⟨cf, [], rfl, cfl⟩, fun x hx => by rw [List.mem_singleton.mp hx]; exact let_sign cfl⟩, rfl⟩) (fun j σ' H' hj ⟨z, y8, hσ, _, e7, hns7, wz, lz⟩ => ?_) (fun σ' H' ⟨z, y8, hσ, _, e7, hns7, wz, lz⟩ => ?_)
      · subst hσ
        obtain ⟨u0, u1⟩ := bd i (2 + j) 36 him (by omega) (by
          have : ∀ j : Fin 7, nmB[2 + j.val]? = some 36 := by decide
          exact this ⟨j, by omega⟩)
        generalize hu0 : rs.getD (1 + 9 * i + (2 + j)) 0 = g0 at u0 u1
        obtain ⟨cg, hcg, cgs⟩ := ld36_ok g0.toNat (by omega)
        refine s_asg (v := .str (z ++ ⟨#[cg]⟩)) (ev_op (ev_var rfl) (ev_op (ev_var rfl) (ev_op (ev_var rfl) (ev_op (ev_op (ev_var rfl) ev_c rv_I0) (ev_var rfl) rv_I0) (rv_ixL (sq_of (e7 _ _ h2)) (by rw [rowAt (1 + 9 * i + (2 + j)) _ (by omega) (by omega), hu0]))) (rv_ixS (by decide +kernel) (by rw [show g0 = (g0.toNat : Int) by omega]; exact atI_nat hcg))) (rv_addS (by have := str_len z; exact sz_of (by show _ + 1 ≤ _; omega)))) fun H8 e8 => ?_
        refine ⟨_, _, rfl, Ex.refl _, e7.trans e8, e8 _ _ hns7, ?_, ?_⟩
        · rw [s_cps]
          refine ⟨by rw [List.length_append]; exact Nat.le_add_left _ _, by rw [List.length_append, lz]; show 1 + j + 1 ≤ 8; omega, ?_, fun x hx => ?_⟩
          · obtain ⟨f, r, e, hf⟩ := wz.fst
            exact ⟨f, r ++ [cg], by rw [e]; rfl, hf⟩
          · rcases List.mem_append.mp hx with hx | hx
            · exact wz.all x hx
            · rw [List.mem_singleton.mp hx]
              exact cgs
        · rw [s_cps, List.length_append, lz]
          show 1 + j + 1 = 1 + (j + 1)
          omega
      · subst hσ
        -- the word, as it is or made like the first name
        refine q_cut (M := fun σ' H' => ∃ (z' : Str) (y9 : Option V), σ' = [some (.int c), some (.int (m : Int)), some (.str ld36), some (.ref p), some (.ref l), some (.int (i : Int)), some (.int ((1 + 9 * i : Nat) : Int)), some (.str z'), y8, y9] ∧ Ex H2 H' ∧ H' l = some (.lst (ns.map V.str)) ∧ wdL z'.cps.toList) ?_ ?_
        · by_cases i0 : i = 0
          · refine s_when (b := false) (et_andF (et_is (et_test (ev_op (ev_var rfl) ev_c rv_I0)) (decide_eq_false (by omega)))) (fun h => nomatch h) (fun _ H8 e8 => ⟨z, y9, rfl, e7.trans e8, e8 _ _ hns7, wz⟩)
          · refine s_when (b := decide (rs.getD 0 0 = 1)) (et_andT (et_is (et_test (ev_op (ev_var rfl) ev_c rv_I0)) (decide_eq_true (by omega))) (et_test (ev_op (ev_op (ev_var rfl) ev_c (rv_ixL (sq_of (e7 _ _ h2)) (rowAt 0 _ (by omega) rfl))) ev_c rv_eqI))) (fun hb H8 e8 => ?_) (fun _ H8 e8 => ⟨z, y9, rfl, e7.trans e8, e8 _ _ hns7, wz⟩)
            obtain ⟨n1, hn1⟩ : ∃ n1, ns[0]? = some n1 := ⟨ns[0], List.getElem?_eq_getElem (by omega)⟩
            have wn := wdL_of (nok n1 (List.mem_of_getElem? hn1))
            have ln := str_len n1
            have lpos : 1 ≤ n1.length := by have := wn.pos; omega
            have l8 : n1.length ≤ 8 := by have := wn.le8; omega
            have at0 : ∀ H', H' l = some (.lst (ns.map V.str)) → RV (rIxL K) (.ref l) (.int 0) H' (.str n1) := fun H' h => rv_ixL (sq_of h) (at_map (j := 0) hn1)
            have hns8 := e8 _ _ hns7
            obtain ⟨pl, hpl, plt⟩ : ∃ pl : Nat, n0 % (n1.length : Int) = (pl : Int) ∧ pl < n1.length := by
              have a1 := Int.emod_nonneg n0 (show (n1.length : Int) ≠ 0 by omega)
              have a2 := Int.emod_lt_of_pos n0 (show (0 : Int) < (n1.length : Int) by omega)
              exact ⟨(n0 % (n1.length : Int)).toNat, by omega, by omega⟩
            refine q_asg (v := .int (pl : Int)) (ev_is (ev_op (ev_cb (ea_cons (ev_op (ev_var rfl) (ev_var rfl) (rv_ixL (sq_of ((e7.trans e8) _ _ h2)) (by rw [rowAt (1 + 9 * i + 0) _ (by omega) (by omega), hn0]))) ea_nil) rc_int1) (ev_cb (ea_cons (ev_op (ev_var rfl) ev_c (at0 _ hns8)) ea_nil) (rc_lenS (sz_of (by omega)))) (rv_I (by show (0 : Int) < (n1.length : Int); omega))) (congrArg V.int hpl)) fun H9 e9 => ?_
            have hns9 := e9 _ _ hns8
            obtain ⟨cz, rz, ez, hcz⟩ := wz.fst
            obtain ⟨cl, hcl, cls⟩ : ∃ cl, atI z.cps.toList (-1) = some cl ∧ signOk cl = true := by
              have hlen : 1 ≤ z.cps.toList.length := wz.pos
              refine ⟨z.cps.toList[z.cps.toList.length - 1]'(by omega), ?_, wz.all _ (List.getElem_mem _)⟩
              unfold atI ixN
              rw [if_neg (by omega), if_pos (by omega)]
              show z.cps.toList[((z.cps.toList.length : Int) + -1).toNat]? = _
              rw [show ((z.cps.toList.length : Int) + -1).toNat = z.cps.toList.length - 1 by omega]
              exact List.getElem?_eq_getElem (by omega)
            obtain ⟨cc, hcc, ccs, cc0⟩ : ∃ cc : Nat, (if pl = 0 then cz else cl) = cc ∧ signOk cc = true ∧ (pl = 0 → cc ∈ letters.cps.toList) := by
              by_cases h : pl = 0
              · exact ⟨cz, by rw [if_pos h], let_sign hcz, fun _ => hcz⟩
              · exact ⟨cl, by rw [if_neg h], cls, fun h' => absurd h' h⟩
            have lz' := str_len z
            refine s_asg (v := .str (cutS n1 none (some (pl : Int)) ++ ⟨#[cc]⟩ ++ cutS n1 (some (((pl + 1 : Nat) : Int))) none)) (ev_op (ev_op (ev_slS (ev_op (ev_var rfl) ev_c (at0 _ hns9)) eo_none (eo_some (ev_var rfl)) (sz_of (by omega))) (ev_opL1 (xs := [.str ⟨#[cl]⟩, .str ⟨#[cz]⟩]) (y := .int (if decide (pl = 0) then 1 else 0)) (el_lst (ea_cons (ev_op (ev_var rfl) (ev_un ev_c ru_neg) (rv_ixS (by omega) hcl)) (ea_cons (ev_op (ev_var rfl) ev_c (rv_ixS (by omega) (atI_zero ez))) ea_nil)) (by show 2 ≤ 100000; decide)) (fun H10 e10 => ev_cb (ea_cons (ev_is (ev_op (ev_var rfl) ev_c rv_eqI) (congrArg V.bl (decide_eq_decide.mpr ⟨fun h => by omega, fun h => by omega⟩))) ea_nil) rc_intB) (fun pp H10 hpp e10 => rv_ixL (v := .str ⟨#[cc]⟩) (sq_of hpp) (by
              rw [← hcc]
              by_cases h : pl = 0
              · rw [decide_eq_true h, if_pos h]
                exact at_of (j := 1) rfl rfl
              · rw [decide_eq_false h, if_neg h]
                exact at_of (j := 0) rfl rfl))) (rv_addS (by have := cutS_length n1 none (some (pl : Int)); exact sz_of (by show _ + 1 ≤ _; omega)))) (ev_slS (ev_op (ev_var rfl) ev_c (at0 _ hns9)) (eo_some (ev_is (ev_op (ev_var rfl) ev_c rv_I0) (congrArg V.int (by omega)))) eo_none (sz_of (by omega))) (rv_addS (by have := cutS_length n1 none (some (pl : Int)); have := cutS_length n1 (some (((pl + 1 : Nat) : Int))) none; rw [Str.length_append]; exact sz_of (by show _ + 1 + _ ≤ _; omega)))) fun H10 e10 => ?_
            refine ⟨_, _, rfl, ((e7.trans e8).trans e9).trans e10, e10 _ _ hns9, ?_⟩
            rw [s_cps, s_cps, cutS_take, cutS_drop]
            exact wd_put wn (by omega) ccs cc0
        · rintro σ' H8 ⟨z', y9', rfl, e8, hns8, wz'⟩
          refine q_cut (M := fun σ' H' => ∃ (z' : Str) (y9 : Option V), σ' = [some (.int c), some (.int (m : Int)), some (.str ld36), some (.ref p), some (.ref l), some (.int (i : Int)), some (.int ((1 + 9 * i : Nat) : Int)), some (.str z'), y8, y9] ∧ Ex H2 H' ∧ H' l = some (.lst (ns.map V.str)) ∧ wdL z'.cps.toList) ?_ ?_
          · by_cases i0 : i = 0
            · exact s_when (b := false) (et_andF (et_is (et_test (ev_op (ev_var rfl) ev_c rv_I0)) (decide_eq_false (by omega)))) (fun h => nomatch h) (fun _ H9 e9 => ⟨z', y9', rfl, e8.trans e9, e9 _ _ hns8, wz'⟩)
            · refine s_when (b := decide (rs.getD 0 0 = 2)) (et_andT (et_is (et_test (ev_op (ev_var rfl) ev_c rv_I0)) (decide_eq_true (by omega))) (et_test (ev_op (ev_op (ev_var rfl) ev_c (rv_ixL (sq_of (e8 _ _ h2)) (rowAt 0 _ (by omega) rfl))) ev_c rv_eqI))) (fun hb H9 e9 => ?_) (fun _ H9 e9 => ⟨z', y9', rfl, e8.trans e9, e9 _ _ hns8, wz'⟩)
              obtain ⟨n1, hn1⟩ : ∃ n1, ns[0]? = some n1 := ⟨ns[0], List.getElem?_eq_getElem (by omega)⟩
              have wn := wdL_of (nok n1 (List.mem_of_getElem? hn1))
              have ln := str_len n1
              have l8 : n1.length ≤ 8 := by have := wn.le8; omega
              have lz' := str_len z'
              have z8 := wz'.le8
              have hns9 := e9 _ _ hns8
              refine s_asg (v := .str (cutS (n1 ++ z') none (some ((1 + n0.toNat : Nat) : Int)))) (ev_slS (ev_op (ev_op (ev_var rfl) ev_c (rv_ixL (sq_of hns9) (at_map (j := 0) hn1))) (ev_var rfl) (rv_addS (sz_of (by omega)))) eo_none (eo_some (ev_is (ev_op ev_c (ev_op (ev_var rfl) (ev_var rfl) (rv_ixL (sq_of ((e8.trans e9) _ _ h2)) (by rw [rowAt (1 + 9 * i + 0) _ (by omega) (by omega), hn0]))) rv_I0) (congrArg V.int (by omega)))) (by rw [Str.length_append]; exact sz_of (by omega))) fun H10 e10 => ?_
              refine ⟨_, _, rfl, (e8.trans e9).trans e10, e10 _ _ hns9, ?_⟩
              rw [cutS_take, s_cps]
              refine wd_take (by omega) (by omega) ?_ fun x hx => ?_
              · obtain ⟨f, r, e, hf⟩ := wn.fst
                exact ⟨f, r ++ z'.cps.toList, by rw [e]; rfl, hf⟩
              · rcases List.mem_append.mp hx with hx | hx
                · exact wn.all x hx
                · exact wz'.all x hx
          · rintro σ' H9 ⟨z3, y93, rfl, e9, hns9, wz3⟩
            refine s_appS (S := fun v => ∃ y : Str, v = .str y ∧ isName y = true ∧ y ∉ ns) hns9 (ev_var rfl) (evS_call (vs := [.str z3, .ref l]) (ea_cons (ev_var rfl) (ea_cons (ev_var rfl) ea_nil)) (sp_fresh wz3 (sq_of hns9) (by omega))) (by rw [List.length_map]; omega) fun v H10 ⟨y, hv, hy, hyn⟩ e10 => ?_
            subst hv
            refine ⟨ns ++ [y], _, _, _, _, _, rfl, Ex.mut (e9.trans e10) hl, by rw [upd_same, List.map_append]; rfl, by rw [List.length_append, nl]; rfl, ?_, fun n hn => ?_⟩
            · rw [List.nodup_append]
              exact ⟨nnd, List.nodup_cons.mpr ⟨List.not_mem_nil, List.nodup_nil⟩, fun a ha b hb e => hyn (by rw [← List.mem_singleton.mp hb, ← e]; exact ha)⟩
            · rcases List.mem_append.mp hn with hn | hn
              · exact nok n hn
              · rw [List.mem_singleton.mp hn]
                exact hy
    · subst hσ
      exact s_ret (ev_var rfl) fun H5 e5 => q ns l H5 (by rw [nl]; rfl) nnd nok hl0 (((e1.trans e2).trans e4).trans e5) (e5 _ _ hns)
end


/-! the law's trees: leaves, joined ones -/
def nmOk (z : Str) : Prop := isName z = true ∨ z ∈ own4
theorem own4_len : ∀ z ∈ own4, z.length ≤ 8 := by decide +kernel
theorem nmOk_len {z : Str} (h : nmOk z) : z.length ≤ 8 := by
  rcases h with h | h
  · have := (wdL_of h).le8
    have := str_len z
    omega
  · exact own4_len z h
theorem isName_len {z : Str} (h : isName z = true) : z.length ≤ 8 := nmOk_len (.inl h)
structure Fit (e : Tr) : Prop where
  g : e.good
  f : Tr.fine e
def TCell (K : PySem.W.Frag) (H : Hp) (x : V) (e : Tr) : Prop := ∃ p v, x = .ref p ∧ SqL K H p [v, .int (e.size : Int), .int (Tr.dep e : Int)] ∧ TrAt K H v e ∧ Fit e
theorem TCell.ex {K : PySem.W.Frag} {H H' : Hp} {x : V} {t : Tr} (e : Ex H H') (h : TCell K H x t) : TCell K H' x t := by
  obtain ⟨p, v, h1, h2, h3, h4⟩ := h
  exact ⟨p, v, h1, ex_l e h2, h3.keep (TupKeep.of e), h4⟩
def CallAt (K : PySem.W.Frag) (H : Hp) (x : V) (c : Str) (n : Nat) : Prop := ∃ p, x = .ref p ∧ SqT K H p [.str c, .int (n : Int)] ∧ isName c = true ∧ n ≤ 3
theorem CallAt.ex {K : PySem.W.Frag} {H H' : Hp} {x : V} {c : Str} {n : Nat} (e : Ex H H') (h : CallAt K H x c n) : CallAt K H' x c n := by
  obtain ⟨p, h1, h2, h3⟩ := h
  exact ⟨p, h1, ex_t e h2, h3⟩
def CallsAt (K : PySem.W.Frag) (H : Hp) (a : Addr) (xs : List V) : Prop := SqL K H a xs ∧ 0 < xs.length ∧ ∀ x ∈ xs, ∃ c n, CallAt K H x c n
theorem CallsAt.ex {K : PySem.W.Frag} {H H' : Hp} {a : Addr} {xs : List V} (e : Ex H H') (h : CallsAt K H a xs) : CallsAt K H' a xs := by
  obtain ⟨h1, h2, h3⟩ := h
  exact ⟨ex_l e h1, h2, fun x hx => by obtain ⟨c, n, h⟩ := h3 x hx; exact ⟨c, n, h.ex e⟩⟩
theorem paired_len' {α β : Type} {R : α → β → Prop} {xs : List α} {ys : List β} (h : Paired R xs ys) : xs.length = ys.length := paired_len h
theorem mod_nat {i : Int} {n : Nat} (h : 0 < n) : ∃ j : Nat, i % (n : Int) = (j : Int) ∧ j < n := by
  have a1 := Int.emod_nonneg i (show (n : Int) ≠ 0 by omega)
  have a2 := Int.emod_lt_of_pos i (show (0 : Int) < (n : Int) by omega)
  exact ⟨(i % (n : Int)).toNat, by omega, by omega⟩
section
variable {K : PySem.W.Frag} {σ : L2.St} {H H' : Hp} {ta te tl : TE}
/-- a comprehension over a list, its items told -/
theorem el_lcLv {a : Addr} {xs : List V} {j : Nat} {vs : List Nat} {n : List V} (h : Ev tl σ H (.ref a)) (hx : SqL K H a xs) (hz : xs.length ≤ 40000) (hw : ∀ x, wipe ((wipe σ vs).set j (some x)) vs = wipe σ vs) (hn : xs.length = n.length)
    (he : ∀ (i : Nat) (x : V) H1, Ex H H1 → xs[i]? = some x → Ev te ((wipe σ vs).set j (some x)) H1 (n.getD i .non)) : EvL (tLc (iList K tl) (gName j) tYes te vs) σ H n := by
  have g := el_lcL (fun _ => true) (fun i => n.getD i .non) h hx hz hw (fun i x H1 e hi => ev_yes _ _) (fun i x H1 e hi _ => he i x H1 e hi)
  have e : given xs.length (fun _ => true) (fun i => n.getD i .non) = n := by
    unfold given
    rw [hn, List.filter_eq_self.mpr (fun _ _ => rfl)]
    refine List.ext_getElem (by simp) fun i h1 h2 => ?_
    simp at h1 h2 ⊢
    rw [List.getElem?_eq_getElem h1]
    rfl
  rw [← e]
  exact g
/-- tuple(a new list) -/
theorem eu_tupleL {xs : List V} (h : EvL ta σ H xs) : EvU (tCB (fun xs H Q => ∃ p ys, xs = [.ref p] ∧ ((SqL K H p ys ∧ ∀ l, H l = none → Q (.ref l) (upd H l (.tup ys))) ∨ (SqT K H p ys ∧ Q (.ref p) H))) (tCons ta tNil)) σ H xs := fun H1 e Q q =>
  h H1 e _ fun p H2 hp e2 h2 => ⟨p, xs, rfl, .inl ⟨sq_of h2, fun l hl => q l _ (fresh_back e2 hl) (e2.trans (Ex.new hl)) upd_same⟩⟩
/-- a new tuple as an argument: arguments, with what is known of the heap behind them -/
theorem eaH_consU {tr : TA} {xs : List V} {P : List V → Hp → Prop} (h : EvU te σ H xs) (hr : EvAH tr σ H P) : EvAH (tCons te tr) σ H (fun vs H2 => ∃ p r, vs = .ref p :: r ∧ H2 p = some (.tup xs) ∧ P r H2) := fun H1 e Q q =>
  h H1 e _ fun p H2 hp e2 h2 => hr H2 (e.trans e2) _ fun vs H3 hP e3 => q _ H3 ⟨p, vs, rfl, e3 _ _ h2, hP⟩ (e2.trans e3)
theorem s_retTupH {ta : TA} {P : List V → Hp → Prop} {D : L2.Ends} (h : EvAH ta σ H P) (hl : ∀ vs H1, P vs H1 → vs.length ≤ 100000) (k : ∀ vs p H0 H1, P vs H0 → H p = none → Ex H H0 → Ex H0 H1 → H1 p = some (.tup vs) → D.rt (.ref p) H1) : tRet (tTup ta) D σ H :=
  h H (Ex.refl H) _ fun vs H1 r e1 => ⟨sz_of (hl vs H1 r), fun p hp => k vs p H1 _ r (fresh_back e1 hp) e1 (Ex.new hp) upd_same⟩
end
def spLeaf (K : PySem.W.Frag) : Sp := fun vs H Q _ => ∃ (f p : Int) (a : Addr) (ns : List Str) (b : Bool), vs = [.int f, .int p, .ref a, .bl b] ∧ 0 ≤ f ∧ 0 ≤ p ∧ p < 1999 ∧ SqL K H a (ns.map V.str) ∧ 0 < ns.length ∧ (∀ n ∈ ns, nmOk n) ∧
  ∀ v e H2, TrAt K H2 v e → Fit e → e.size = 1 → Tr.dep e = 1 → Ex H H2 → Q v H2
def spJoined (K : PySem.W.Frag) : Sp := fun vs H Q _ => ∃ (f : Int) (n : Str) (a : Addr) (xs : List V) (es : List Tr), vs = [.int f, .str n, .ref a] ∧ 11 ≤ f ∧ isName n = true ∧ SqL K H a xs ∧ Paired (TCell K H) xs es ∧ (f < 24 → es.length = 2) ∧ (24 ≤ f → f < 26 → es.length = 1) ∧ es.length ≤ 3 ∧
  ∀ v e H2, TrAt K H2 v e → Fit e → e.size = 1 + Tr.sizes es → Tr.dep e = 1 + Tr.deps es → Ex H H2 → Q v H2
theorem paired_trs {K : PySem.W.Frag} {H : Hp} : ∀ {xs : List V} {es : List Tr}, Paired (TCell K H) xs es → ∃ vs, TrsAt K H vs es ∧ Tr.goods es ∧ Tr.fines es ∧ vs.length = xs.length ∧ ∀ (i : Nat) (x : V), xs[i]? = some x → ∃ (p : Addr) (v : V) (e : Tr), x = .ref p ∧ vs[i]? = some v ∧ es[i]? = some e ∧ SqL K H p [v, .int (e.size : Int), .int (Tr.dep e : Int)]
  | _, _, .nil => ⟨[], .nil, True.intro, True.intro, rfl, fun i x h => by cases i <;> cases h⟩
  | _, _, .cons ⟨p, v, h1, h2, h3, h4⟩ hs => by
    obtain ⟨vs, t1, t2, t3, t5, t4⟩ := paired_trs hs
    refine ⟨v :: vs, .cons h3 t1, ⟨h4.g, t2⟩, ⟨h4.f, t3⟩, congrArg (· + 1) t5, fun i x h => ?_⟩
    cases i with
    | zero =>
      cases h
      exact ⟨p, v, _, h1, rfl, rfl, h2⟩
    | succ i => exact t4 i x h
section
variable {P : Program} {w : World} {K : PySem.W.Frag} {mg : Str → Option Value} {base : Heap} {fa : Nat → Addr} {fd : Nat → FuncData} {cv : Nat → Value}
theorem ok_leaf (T : Txt w K mg fa fd cv) : FnOk P w K mg base CX0 1 (fa 40) (fd 40) ["form", "pick", "names", "small"] (spLeaf K) := by
  refine T.d_law_leaf.F.ok sc_law_leaf (fun vs H Q E h => ?_) (fun cdv A outer s H vs Q E hr h => ?_)
  · obtain ⟨f, p, a, ns, b, rfl, _⟩ := h
    rfl
  · obtain ⟨f, p, a, ns, b, rfl, hf, hp, hp2, ha, hn, hok, q⟩ := h
    refine ⟨_, pss_cons (ps_if (PW.pt (pw_or (pt_cmpR op_lt (pv 0) pe_int (nomark _)) (pw_or1 (PW.pt (pw_and (pt_cmpR op_ge (pv 0) pe_int (nomark _)) (pw_and1 (pt_cmpR op_eq (pe_op op_mod (pe_callTy call_int1 (by rfl) T.b_int PyProof.Rows.boot_int (pa_cons (pv 0) pa_nil)) pe_int) pe_int (nomark _)))))))) (pss_one (ps_ret (pe_ix ix_list (pv 2) (pe_op op_mod (pe_callTy call_int1 (by rfl) T.b_int PyProof.Rows.boot_int (pa_cons (pv 1) pa_nil)) (pe_callB call_len_seq (by rfl) T.b_len PySem.boot_len (pa_cons (pv 2) pa_nil))) (fun _ _ => rfl)))) (pss_nil))
      (pss_cons (ps_if (pt_val (pv 3)) (pss_one (ps_ret (pe_op op_sub (pe_op op_mod (pe_callTy call_int1 (by rfl) T.b_int PyProof.Rows.boot_int (pa_cons (pv 1) pa_nil)) pe_int) pe_int))) (pss_nil))
      (pss_one (ps_ret (pe_op op_sub (pv 1) pe_int)))), ?_⟩
    refine q_when (et_or (et_test (ev_op (ev_var rfl) ev_c rv_I0)) fun _ => et_and (et_test (ev_op (ev_var rfl) ev_c rv_I0)) fun _ => et_test (ev_op (ev_op (ev_cb (ea_cons (ev_var rfl) ea_nil) rc_int1) ev_c (rv_I (by show (0 : Int) < 2; decide))) ev_c rv_eqI)) (fun hb H1 e1 => ?_) (fun hb H1 e1 => ?_)
    · obtain ⟨j, hj, hjl⟩ := mod_nat (i := p) hn
      have g := List.getElem?_eq_getElem hjl
      exact s_ret (ev_op (ev_var rfl) (ev_is (ev_op (ev_cb (ea_cons (ev_var rfl) ea_nil) rc_int1) (ev_is (ev_cb (ea_cons (ev_var rfl) ea_nil) (rc_lenL (ex_l e1 ha))) (by rw [List.length_map])) (rv_I (by show (0 : Int) < _; omega))) (congrArg V.int hj)) (rv_ixL (ex_l e1 ha) (at_map g))) fun H2 e2 => q _ _ H2 (.nm _) ⟨nmOk_len (hok _ (List.getElem_mem hjl)), hok _ (List.getElem_mem hjl)⟩ rfl rfl (e1.trans e2)
    · refine q_when (et_B (ev_var rfl)) (fun hb H2 e2 => ?_) (fun hb H2 e2 => ?_)
      · exact s_ret (ev_op (ev_op (ev_cb (ea_cons (ev_var rfl) ea_nil) rc_int1) ev_c (rv_I (by show (0 : Int) < 7; decide))) ev_c rv_I0) fun H3 e3 => q _ _ H3 (.int _) ⟨by show -999 ≤ _ ∧ _ ≤ 999; omega, by show -999 ≤ _ ∧ _ ≤ 999; omega⟩ rfl rfl ((e1.trans e2).trans e3)
      · exact s_ret (ev_op (ev_var rfl) ev_c rv_I0) fun H3 e3 => q _ _ H3 (.int _) ⟨by show -999 ≤ _ ∧ _ ≤ 999; omega, by show -999 ≤ _ ∧ _ ≤ 999; omega⟩ rfl rfl ((e1.trans e2).trans e3)
theorem ops_at (j : Nat) (h : j < 13) : ∃ op, ops13[j]? = some op ∧ op ∈ ops13 := ⟨ops13[j]'h, List.getElem?_eq_getElem h, List.getElem_mem _⟩
theorem ok_joined (T : Txt w K mg fa fd cv) : FnOk P w K mg base CX0 2 (fa 41) (fd 41) ["form", "name", "parts"] (spJoined K) := by
  have G_law_ops := ok_ops (P := P) (w := w) (base := base) T
  refine T.d_law_joined.F.ok sc_law_joined (fun vs H Q E h => ?_) (fun cdv A outer s H vs Q E hr h => ?_)
  · obtain ⟨f, n, a, xs, es, rfl, _⟩ := h
    rfl
  · obtain ⟨f, n, a, xs, es, rfl, hf, hn, ha, hx, h2, h1, h3, q⟩ := h
    refine ⟨_, pss_cons (ps_if (pt_cmpR op_lt (pv 0) pe_int (nomark _)) (pss_one (ps_ret (pe_tup (pa_cons (pe_ix ix_list (pe_call0 G_law_ops (by first | exact hr.mono (by decide) | exact hr.mono (by omega)) (by rfl) T.d_law_ops.g T.d_law_ops.k T.d_law_ops.b .nil pass0) (pe_op op_sub (pv 0) pe_int) (fun _ _ => rfl)) (pa_cons (pe_ix ix_list (pe_ix ix_list (pv 2) pe_int (fun _ _ => rfl)) pe_int (fun _ _ => rfl)) (pa_cons (pe_ix ix_list (pe_ix ix_list (pv 2) pe_int (fun _ _ => rfl)) pe_int (fun _ _ => rfl)) pa_nil)))))) (pss_nil))
      (pss_cons (ps_if (pt_cmpR op_lt (pv 0) pe_int (nomark _)) (pss_one (ps_ret (pe_tup (pa_cons pe_str (pa_cons (pe_ix ix_list (pe_ix ix_list (pv 2) pe_int (fun _ _ => rfl)) pe_int (fun _ _ => rfl)) pa_nil))))) (pss_nil))
      (pss_one (ps_ret (pe_tup (pa_cons pe_str (pa_cons (pv 1) (pa_cons (pe_callTy call_tuple_of (by rfl) T.b_tuple (by decide +kernel) (pa_cons (pe_lc (own := [("part", 3)]) (g := gName 3) rfl sc_law_joined.nd (pi_list (pv 2)) (blkOk_by (own := [("part", 3)]) (N := N_law_joined) (sc := defScope s_law_joined) (by decide +kernel)) (fun _ _ _ _ _ => pg_name (i := 3) sc_law_joined.nd rfl (Or.inl rfl)) (fun _ _ _ _ _ => pts_nil) (fun _ _ _ _ _ => (pe_ix (r := rIxL K) (by exact ix_list) (pv 3) pe_int (fun _ _ => rfl)))) pa_nil)) pa_nil))))))), ?_⟩
    have lx := paired_len hx
    obtain ⟨vs, tv, tg, tf, lv, ta⟩ := paired_trs hx
    have pt : ∀ (i : Nat) (v : V) (σ : L2.St) (H1 : Hp) (te : TE), Ex H H1 → vs[i]? = some v → Ev te σ H1 (.ref a) → Ev (tOp (rIxL K) (tOp (rIxL K) te (tC (.int (i : Int)))) (tC (.int 0))) σ H1 v := fun i v σ H1 te e1 gv hte => by
      have hi : i < xs.length := by rw [← lv]; exact (List.getElem?_eq_some_iff.mp gv).1
      obtain ⟨p, v', e, ex, g1, g2, hs⟩ := ta i _ (List.getElem?_eq_getElem hi)
      have : v' = v := Option.some.inj (g1.symm.trans gv)
      subst this
      exact ev_op (ev_op hte ev_c (rv_ixL (ex_l e1 ha) (by rw [← ex]; exact atI_nat (List.getElem?_eq_getElem hi)))) ev_c (rv_ixL (ex_l e1 hs) (atI_zero rfl))
    refine q_when (b := decide (f < 24)) (et_test (ev_op (ev_var rfl) ev_c rv_I0)) (fun hb H1 e1 => ?_) (fun hb H1 e1 => ?_)
    · have c := of_decide_eq_true hb
      obtain ⟨op, gop, hop⟩ := ops_at (f - 11).toNat (by omega)
      have l2 := h2 c
      match es, vs, tv, tg, tf, l2, q, pt with
      | [l, r], _, .cons (v := v) tl (.cons (v := u) tr .nil), tg, tf, _, q, pt =>
        refine s_retU (eu_tup (vs := [.str op, v, u]) (ea_cons (ev_opL1 (xs := ops13.map V.str) el_ops (fun H2 e2 => ev_op (ev_var rfl) ev_c rv_I0) fun p H2 hp e2 => rv_ixL (sq_of hp) (at_of (j := (f - 11).toNat) (by omega) (by rw [List.getElem?_map, gop]; rfl))) (ea_cons (pt 0 v _ H1 _ e1 rfl (ev_var rfl)) (ea_cons (pt 1 u _ H1 _ e1 rfl (ev_var rfl)) ea_nil))) (by show 3 ≤ 100000; decide)) fun p H2 hp e2 h2' => ?_
        have e12 := e1.trans e2
        exact q _ (.bin op l r) H2 (.bin (st_of h2') (tl.keep (TupKeep.of e12)) (tr.keep (TupKeep.of e12))) ⟨⟨hop, tg.1, tg.2.1⟩, ⟨hop, tf.1, tf.2.1⟩⟩ (by show 1 + l.size + r.size = 1 + (l.size + (r.size + 0)); omega) (by show 1 + max _ _ = 1 + max _ (max _ 0); rw [Nat.max_zero]) e12
    · refine q_when (b := decide (f < 26)) (et_test (ev_op (ev_var rfl) ev_c rv_I0)) (fun hb2 H2 e2 => ?_) (fun hb2 H2 e2 => ?_)
      · have c := of_decide_eq_false hb
        have l1 := h1 (by omega) (of_decide_eq_true hb2)
        match es, vs, tv, tg, tf, l1, q, pt with
        | [l], _, .cons (v := v) tl .nil, tg, tf, _, q, pt =>
          refine s_retU (eu_tup (vs := [.str "not", v]) (ea_cons ev_c (ea_cons (pt 0 v _ H2 _ (e1.trans e2) rfl (ev_var rfl)) ea_nil)) (by show 2 ≤ 100000; decide)) fun p H3 hp e3 h3' => ?_
          have e13 := (e1.trans e2).trans e3
          exact q _ (.nt l) H3 (.nt (st_of h3') (tl.keep (TupKeep.of e13))) ⟨tg.1, tf.1⟩ (by show 1 + l.size = 1 + (l.size + 0); omega) (by show 1 + _ = 1 + max _ 0; rw [Nat.max_zero]) e13
      · have e12 := e1.trans e2
        have hl : EvL (tLc (iList K (tVar 2)) (gName 3) tYes (tOp (rIxL K) (tVar 3) (tC (.int 0))) [3]) [some (.int f), some (.str n), some (.ref a), none] H2 vs := by
          refine el_lcLv (ev_var rfl) (ex_l e12 ha) (by omega) (fun _ => rfl) lv.symm fun i x H3 e3 hi => ?_
          obtain ⟨p, v', e, ex, g1, g2, hs⟩ := ta i x hi
          subst ex
          exact ev_op (ev_var rfl) ev_c (rv_ixL (ex_l (e12.trans e3) hs) (by rw [List.getD_eq_getElem?_getD, g1]; exact atI_zero rfl))
        refine s_retTupH (P := fun ws H3 => ∃ b, ws = [.str "call", .str n, .ref b] ∧ H3 b = some (.tup vs)) (eaH_weak (eaH_cons (S := fun v => v = .str "call") (evS_of ev_c rfl) (eaH_cons (S := fun v => v = .str n) (evS_of (ev_var rfl) rfl) (eaH_consU (eu_tupleL hl) (eaH_of ea_nil (P := fun vs _ => vs = []) fun _ _ => rfl)))) ?_) (fun ws H3 ⟨b, h, _⟩ => by rw [h]; show 3 ≤ 100000; decide) fun ws p H3 H4 ⟨b, hw, hb⟩ hp e3 e4 h4 => ?_
        · rintro ws H3 ⟨v, r, rfl, rfl, v2, r2, rfl, rfl, b, r3, rfl, hb, rfl⟩
          exact ⟨b, rfl, hb⟩
        subst hw
        have e14 := (e12.trans e3).trans e4
        exact q _ (.call n es) H4 (.call (st_of h4) (st_of (e4 _ _ hb)) (tv.keep (TupKeep.of e14))) ⟨⟨isName_len hn, h3, tg⟩, ⟨hn, h3, tf⟩⟩ rfl rfl e14
end


/-! the law's trees: the row read, joined, and the chain -/
section
variable {K : PySem.W.Frag} {σ : L2.St} {H H' : Hp} {ta te tl : TE} {tz : TS} {D : L2.Ends}
def EvSH (te : TE) (σ : L2.St) (H : Hp) (R : V → Hp → Prop) : Prop := ∀ H1, Ex H H1 → ∀ Q : VK, (∀ v H2, R v H2 → Ex H1 H2 → Q v H2) → te σ H1 Q
theorem eaH_consH {tr : TA} {R : V → Hp → Prop} {P : List V → Hp → Prop} (h : EvSH te σ H R) (kp : ∀ v H1 H2, R v H1 → Ex H1 H2 → R v H2) (hr : EvAH tr σ H P) : EvAH (tCons te tr) σ H (fun vs H2 => ∃ v r, vs = v :: r ∧ R v H2 ∧ P r H2) := fun H1 e Q q =>
  h H1 e _ fun v H2 r e2 => hr H2 (e.trans e2) _ fun vs H3 hP e3 => q _ H3 ⟨v, vs, rfl, kp v _ _ r e3, hP⟩ (e2.trans e3)
theorem s_asgLstH {ta : TA} {i : Nat} {P : List V → Hp → Prop} (h : EvAH ta σ H P) (hl : ∀ vs H1, P vs H1 → vs.length ≤ 100000) (k : ∀ vs p H1 H2, P vs H1 → H1 p = none → Ex H H1 → Ex H1 H2 → H2 p = some (.lst vs) → D.nx (σ.set i (some (.ref p))) H2) : tAsg (tLst ta) (gName i) D σ H :=
  h H (Ex.refl H) _ fun vs H1 r e1 => ⟨sz_of (hl vs H1 r), fun p hp => k vs p H1 _ r hp e1 (Ex.new hp) upd_same⟩
theorem q_asgLstH {ta : TA} {i : Nat} {P : List V → Hp → Prop} (h : EvAH ta σ H P) (hl : ∀ vs H1, P vs H1 → vs.length ≤ 100000) (k : ∀ vs p H1 H2, P vs H1 → H1 p = none → Ex H H1 → Ex H1 H2 → H2 p = some (.lst vs) → tz D (σ.set i (some (.ref p))) H2) : tSeq (tAsg (tLst ta) (gName i)) tz D σ H :=
  s_asgLstH (D := { D with nx := tz D }) h hl k
theorem ev_maxL {ns : List Int} {m : Int} (h : EvL te σ H (ns.map V.int)) (hm : m ∈ ns) (hb : ∀ y ∈ ns, y ≤ m) : Ev (tCB (rMax K) (tCons te tNil)) σ H (.int m) := fun H1 e Q q =>
  h H1 e _ fun p H2 hp e2 h2 => ⟨p, ns, rfl, sq_of h2, List.length_pos_of_mem hm, fun m' hm' hb' => by
    have a := hb m' hm'
    have b := hb' m hm
    rw [show m' = m by omega]
    exact q H2 e2⟩
theorem ev_max2' {a b : Nat} (ha : Ev ta σ H (.int (a : Int))) (hb : Ev te σ H (.int (b : Int))) : Ev (tCB rMax2 (tCons ta (tCons te tNil))) σ H (.int ((max a b : Nat) : Int)) :=
  ev_is (ev_max2 ha hb) (congrArg V.int (by split <;> omega))
end
theorem deps_max (es : List Tr) : (((Tr.deps es : Nat) : Int) ∈ (0 :: es.map fun e => (Tr.dep e : Int))) ∧ ∀ y ∈ (0 :: es.map fun e => (Tr.dep e : Int)), y ≤ ((Tr.deps es : Nat) : Int) := by
  induction es with
  | nil => exact ⟨List.mem_cons_self, fun y hy => by rcases List.mem_cons.mp hy with rfl | h; exact Int.le_refl _; exact nomatch h⟩
  | cons e es ih =>
    obtain ⟨h1, h2⟩ := ih
    have ed : Tr.deps (e :: es) = max (Tr.dep e) (Tr.deps es) := rfl
    constructor
    · by_cases c : Tr.dep e ≤ Tr.deps es
      · rw [ed, Nat.max_eq_right c]
        rcases List.mem_cons.mp h1 with h | h
        · rw [h]; exact List.mem_cons_self
        · exact List.mem_cons_of_mem _ (List.mem_cons_of_mem _ h)
      · rw [ed, Nat.max_eq_left (by omega)]
        exact List.mem_cons_of_mem _ List.mem_cons_self
    · intro y hy
      rw [ed]
      rcases List.mem_cons.mp hy with rfl | hy
      · omega
      · rcases List.mem_cons.mp hy with rfl | hy
        · show (Tr.dep e : Int) ≤ _
          omega
        · have := h2 y (List.mem_cons_of_mem _ hy)
          omega
theorem sizes_sum (es : List Tr) : ((Tr.sizes es : Nat) : Int) = (es.map fun e => (e.size : Int)).sum := by
  induction es with
  | nil => rfl
  | cons e es ih =>
    show ((e.size + Tr.sizes es : Nat) : Int) = (e.size : Int) + (es.map fun e => (e.size : Int)).sum
    rw [← ih]
    omega
theorem len_sizes (es : List Tr) : es.length ≤ Tr.sizes es := by
  rw [Tr.sizes_eq]
  exact sizes_ge es
def TCellH (K : PySem.W.Frag) (H : Hp) (x : V) (e : Tr) : Prop := ∃ p v, x = .ref p ∧ H p = some (.lst [v, .int (e.size : Int), .int (Tr.dep e : Int)]) ∧ TrAt K H v e ∧ Fit e
theorem TCellH.ex {K : PySem.W.Frag} {H H' : Hp} {x : V} {t : Tr} (e : Ex H H') (h : TCellH K H x t) : TCellH K H' x t := by
  obtain ⟨p, v, h1, h2, h3, h4⟩ := h
  exact ⟨p, v, h1, e _ _ h2, h3.keep (TupKeep.of e), h4⟩
theorem TCellH.upd {K : PySem.W.Frag} {H : Hp} {x : V} {t : Tr} {l : Addr} {xs : List V} {o : HO} (h : TCellH K H x t) (hl : H l = some (.lst xs)) (hn : x ≠ .ref l) : TCellH K (upd H l o) x t := by
  obtain ⟨p, v, h1, h2, h3, h4⟩ := h
  exact ⟨p, v, h1, by rw [upd_ne (fun e => hn (by rw [h1, e]))]; exact h2, h3.keep (TupKeep.updL hl), h4⟩
theorem TCellH.toS {K : PySem.W.Frag} {H : Hp} {x : V} {t : Tr} (h : TCellH K H x t) : TCell K H x t := by
  obtain ⟨p, v, h1, h2, h3, h4⟩ := h
  exact ⟨p, v, h1, sq_of h2, h3, h4⟩
theorem paired_mono {α β : Type} {R S : α → β → Prop} : ∀ {xs : List α} {ys : List β}, Paired R xs ys → (∀ x y, x ∈ xs → R x y → S x y) → Paired S xs ys
  | _, _, .nil, _ => .nil
  | _, _, .cons r h, f => .cons (f _ _ List.mem_cons_self r) (paired_mono h fun x y hx => f x y (List.mem_cons_of_mem _ hx))
theorem paired_drop {α β : Type} {R : α → β → Prop} : ∀ (n : Nat) {xs : List α} {ys : List β}, Paired R xs ys → Paired R (xs.drop n) (ys.drop n)
  | 0, _, _, h => h
  | n + 1, _, _, .nil => .nil
  | n + 1, _, _, .cons _ h => paired_drop n h
theorem paired_take {α β : Type} {R : α → β → Prop} : ∀ (n : Nat) {xs : List α} {ys : List β}, Paired R xs ys → Paired R (xs.take n) (ys.take n)
  | 0, _, _, h => .nil
  | n + 1, _, _, .nil => .nil
  | n + 1, _, _, .cons r h => .cons r (paired_take n h)
theorem paired_at {α β : Type} {R : α → β → Prop} : ∀ {xs : List α} {ys : List β} {i : Nat} {x : α}, Paired R xs ys → xs[i]? = some x → ∃ y, ys[i]? = some y ∧ R x y
  | _, _, 0, _, .cons r _, h => by
    cases h
    exact ⟨_, rfl, r⟩
  | _, _, i + 1, _, .cons _ g, h => paired_at (i := i) g h
structure Cells (K : PySem.W.Frag) (H : Hp) (l q : Addr) (xs : List V) (es : List Tr) : Prop where
  at_ : H l = some (.lst xs)
  pr : Paired (TCellH K H) xs es
  ne : ∀ x ∈ xs, x ≠ .ref l ∧ x ≠ .ref q
theorem Cells.ex {K : PySem.W.Frag} {H H' : Hp} {l q : Addr} {xs : List V} {es : List Tr} (e : Ex H H') (h : Cells K H l q xs es) : Cells K H' l q xs es := ⟨e _ _ h.at_, paired_mono h.pr fun _ _ _ r => r.ex e, h.ne⟩
theorem cutV_take {xs : List V} {n : Nat} (h : n ≤ xs.length) : cutV xs none (some (n : Int)) = xs.take n := by
  unfold cutV
  rw [HT.sIx_none, HT.sIx_nat, Nat.min_eq_left h]
  rfl
structure RowOk (rs : List Int) (n : Nat) : Prop where
  len : rs.length = 2 * n
  f : ∀ i < n, 0 ≤ rs.getD (2 * i) 0 ∧ rs.getD (2 * i) 0 < 28
  p : ∀ i < n, 0 ≤ rs.getD (2 * i + 1) 0 ∧ rs.getD (2 * i + 1) 0 < 1999
structure TreeOk (e : Tr) : Prop where
  fit : Fit e
  s : e.size ≤ 400
  d : Tr.dep e ≤ 40
def spTrees (K : PySem.W.Frag) : Sp := fun vs H Q _ => ∃ (a b c : Addr) (s : Bool) (rs : List Int) (n : Nat) (ns : List Str) (cs : List V), vs = [.ref a, .ref b, .ref c, .bl s] ∧ SqL K H a (rs.map V.int) ∧ RowOk rs n ∧ 1 ≤ n ∧ n ≤ 400 ∧ SqL K H b (ns.map V.str) ∧ 0 < ns.length ∧ (∀ n ∈ ns, nmOk n) ∧ CallsAt K H c cs ∧
  ∀ p ys fs H2, H2 p = some (.lst ys) → TrsAt K H2 ys fs → (∀ e ∈ fs, TreeOk e) → 0 < ys.length → ys.length ≤ 500 → Ex H H2 → Q (.ref p) H2
def needOf (f : Int) (c : Nat) : Nat := if f < 11 then 0 else if f < 24 then 2 else if f < 26 then 1 else c
theorem need_at (f : Int) (c : Nat) : atI [V.int 0, .int 2, .int 1, .int (c : Int)] ((if decide (f ≥ 11) then (1 : Int) else 0) + (if decide (f ≥ 24) then (1 : Int) else 0) + (if decide (f ≥ 26) then (1 : Int) else 0)) = some (.int (needOf f c : Int)) := by
  unfold needOf
  by_cases h1 : f < 11
  · rw [if_pos h1, decide_eq_false (by omega), decide_eq_false (by omega), decide_eq_false (by omega)]
    rfl
  · rw [if_neg h1]
    by_cases h2 : f < 24
    · rw [if_pos h2, decide_eq_true (by omega), decide_eq_false (by omega), decide_eq_false (by omega)]
      rfl
    · rw [if_neg h2]
      by_cases h3 : f < 26
      · rw [if_pos h3, decide_eq_true (by omega), decide_eq_true (by omega), decide_eq_false (by omega)]
        rfl
      · rw [if_neg h3, decide_eq_true (by omega), decide_eq_true (by omega), decide_eq_true (by omega)]
        rfl
theorem last_at {xs : List V} (h : 0 < xs.length) : atI xs (-1) = some (xs[xs.length - 1]'(by omega)) := by
  unfold atI ixN
  rw [if_neg (by omega), if_pos (by omega)]
  show xs[((xs.length : Int) + -1).toNat]? = _
  rw [show ((xs.length : Int) + -1).toNat = xs.length - 1 by omega]
  exact List.getElem?_eq_getElem (by omega)
theorem dep_le_deps {es : List Tr} {e : Tr} (h : e ∈ es) : Tr.dep e ≤ Tr.deps es := deps_mem h
theorem size_le_sizes {es : List Tr} {e : Tr} (h : e ∈ es) : e.size ≤ Tr.sizes es := sizes_mem h
section
variable {P : Program} {w : World} {K : PySem.W.Frag} {mg : Str → Option Value} {base : Heap} {fa : Nat → Addr} {fd : Nat → FuncData} {cv : Nat → Value}
theorem ok_trees (T : Txt w K mg fa fd cv) : FnOk P w K mg base CX0 3 (fa 42) (fd 42) ["row", "names", "calls", "small"] (spTrees K) := by
  have G_law_ops := ok_ops (P := P) (w := w) (base := base) T
  have G_law_leaf := ok_leaf (P := P) (w := w) (base := base) T
  have G_law_joined := ok_joined (P := P) (w := w) (base := base) T
  refine T.d_law_trees.F.ok sc_law_trees (fun vs H Q E h => ?_) (fun cdv A outer s H vs Q E hr h => ?_)
  · obtain ⟨a, b, c, s, rs, n, ns, cs, rfl, _⟩ := h
    rfl
  · obtain ⟨a, b, c, sm, rs, n, ns, cs, rfl, ha, hro, hn1, hn4, hb, hns, hnok, hc, q⟩ := h
    refine ⟨_, pss_cons (ps_set (i := 4) sc_law_trees.nd rfl (Or.inl rfl) (pe_lst pa_nil))
      (pss_cons (ps_set (i := 5) sc_law_trees.nd rfl (Or.inl rfl) (pe_lst pa_nil))
      (pss_cons (ps_for PassesOwn.never rfl (pi_range1 (by rfl) T.b_range (pa_cons (pe_op op_fdiv (pe_callB call_len_seq (by rfl) T.b_len PySem.boot_len (pa_cons (pv 0) pa_nil)) pe_int) pa_nil)) (pg_name (i := 6) sc_law_trees.nd rfl (Or.inl rfl)) (pss_cons (ps_set (i := 7) sc_law_trees.nd rfl (Or.inl rfl) (pe_ix ix_list (pv 0) (pe_op op_mul pe_int (pv 6)) (fun _ _ => rfl)))
      (pss_cons (ps_set (i := 8) sc_law_trees.nd rfl (Or.inl rfl) (pe_ix ix_list (pv 0) (pe_op op_add (pe_op op_mul pe_int (pv 6)) pe_int) (fun _ _ => rfl)))
      (pss_cons (ps_set (i := 9) sc_law_trees.nd rfl (Or.inl rfl) (pe_ix ix_list (pv 2) (pe_op op_mod (pe_callTy call_int1 (by rfl) T.b_int PyProof.Rows.boot_int (pa_cons (pv 8) pa_nil)) (pe_callB call_len_seq (by rfl) T.b_len PySem.boot_len (pa_cons (pv 2) pa_nil))) (fun _ _ => rfl)))
      (pss_cons (ps_set (i := 10) sc_law_trees.nd rfl (Or.inl rfl) (pe_ix ix_list (pe_lst (pa_cons pe_int (pa_cons pe_int (pa_cons pe_int (pa_cons (pe_ix ix_tup (pv 9) pe_int (fun _ _ => rfl)) pa_nil))))) (pe_op op_add (pe_op op_add (pe_callTy call_int1 (by rfl) T.b_int PyProof.Rows.boot_int (pa_cons (pe_cmpR op_ge (pv 7) pe_int (nomark _)) pa_nil)) (pe_callTy call_int1 (by rfl) T.b_int PyProof.Rows.boot_int (pa_cons (pe_cmpR op_ge (pv 7) pe_int (nomark _)) pa_nil))) (pe_callTy call_int1 (by rfl) T.b_int PyProof.Rows.boot_int (pa_cons (pe_cmpR op_ge (pv 7) pe_int (nomark _)) pa_nil))) (fun _ _ => rfl)))
      (pss_cons (ps_set (i := 11) sc_law_trees.nd rfl (Or.inl rfl) (pe_slice sl_list (pv 4) (po_some (pe_callB (call_max2 rfl) (by rfl) T.b_max (by decide +kernel) (pa_cons pe_int (pa_cons (pe_op op_sub (pe_callB call_len_seq (by rfl) T.b_len PySem.boot_len (pa_cons (pv 4) pa_nil)) (pv 10)) pa_nil)))) po_none))
      (pss_cons (ps_set (i := 12) sc_law_trees.nd rfl (Or.inl rfl) (pe_callB (cr_max rfl) (by rfl) T.b_max (by decide +kernel) (pa_cons (pe_op op_cat (pe_lst (pa_cons pe_int pa_nil)) (pe_lc (own := [("part", 17)]) (g := gName 17) rfl sc_law_trees.nd (pi_list (pv 11)) (blkOk_by (own := [("part", 17)]) (N := N_law_trees) (sc := defScope s_law_trees) (by decide +kernel)) (fun _ _ _ _ _ => pg_name (i := 17) sc_law_trees.nd rfl (Or.inl rfl)) (fun _ _ _ _ _ => pts_nil) (fun _ _ _ _ _ => (pe_ix (r := rIxL K) (by exact ix_list) (pv 17) pe_int (fun _ _ => rfl))))) pa_nil)))
      (pss_cons (ps_set (i := 13) sc_law_trees.nd rfl (Or.inl rfl) (pe_lst (pa_cons (pe_call G_law_leaf (by first | exact hr.mono (by decide) | exact hr.mono (by omega)) (by rfl) T.d_law_leaf.g T.d_law_leaf.k T.d_law_leaf.b .nil pass0 (pa_cons (pv 7) (pa_cons (pv 8) (pa_cons (pv 1) (pa_cons (pv 3) pa_nil))))) (pa_cons pe_int (pa_cons pe_int pa_nil)))))
      (pss_cut (ps_if (PW.pt (pw_and (pt_cmpR op_ge (pv 7) pe_int (nomark _)) (pw_and (pt_cmpR op_eq (pe_callB call_len_seq (by rfl) T.b_len PySem.boot_len (pa_cons (pv 11) pa_nil)) (pv 10) (nomark _)) (pw_and1 (pt_cmpR op_lt (pv 12) pe_int (nomark _)))))) (pss_cons (ps_set (i := 4) sc_law_trees.nd rfl (Or.inl rfl) (pe_slice sl_list (pv 4) po_none (po_some (pe_op op_sub (pe_callB call_len_seq (by rfl) T.b_len PySem.boot_len (pa_cons (pv 4) pa_nil)) (pv 10)))))
      (pss_one (ps_set (i := 13) sc_law_trees.nd rfl (Or.inl rfl) (pe_lst (pa_cons (pe_call G_law_joined (by first | exact hr.mono (by decide) | exact hr.mono (by omega)) (by rfl) T.d_law_joined.g T.d_law_joined.k T.d_law_joined.b .nil pass0 (pa_cons (pv 7) (pa_cons (pe_ix ix_tup (pv 9) pe_int (fun _ _ => rfl)) (pa_cons (pv 11) pa_nil)))) (pa_cons (pe_op op_add pe_int (pe_callB (cr_sum rfl) (by rfl) T.b_sum (by decide +kernel) (pa_cons (pe_lc (own := [("part", 17)]) (g := gName 17) rfl sc_law_trees.nd (pi_list (pv 11)) (blkOk_by (own := [("part", 17)]) (N := N_law_trees) (sc := defScope s_law_trees) (by decide +kernel)) (fun _ _ _ _ _ => pg_name (i := 17) sc_law_trees.nd rfl (Or.inl rfl)) (fun _ _ _ _ _ => pts_nil) (fun _ _ _ _ _ => (pe_ix (r := rIxL K) (by exact ix_list) (pv 17) pe_int (fun _ _ => rfl)))) pa_nil))) (pa_cons (pe_op op_add pe_int (pv 12)) pa_nil))))))) (pss_nil))
      (pss_cons (ps_expr (pe_bm PySem.F.plainAttrs_list PySem.F.slot_list_append PySem.F.type_list_append mt_append (pv 4) (pa_cons (pv 13) pa_nil)))
      (pss_one (ps_expr (pe_bm PySem.F.plainAttrs_list PySem.F.slot_list_append PySem.F.type_list_append mt_append (pv 5) (pa_cons (pe_ix ix_list (pv 13) pe_int (fun _ _ => rfl)) pa_nil))))))))))))))
      (pss_cons (ps_set (i := 14) sc_law_trees.nd rfl (Or.inl rfl) (pe_ix ix_list (pv 4) (pe_un un_neg pe_int) (fun _ _ => rfl)))
      (pss_cons (ps_for PassesOwn.never rfl (pi_range1 (by rfl) T.b_range (pa_cons (pe_op op_sub (pe_callB call_len_seq (by rfl) T.b_len PySem.boot_len (pa_cons (pv 4) pa_nil)) pe_int) pa_nil)) (pg_name (i := 6) sc_law_trees.nd rfl (Or.inl rfl)) (pss_cons (ps_set (i := 15) sc_law_trees.nd rfl (Or.inl rfl) (pe_ix ix_list (pv 4) (pe_op op_sub (pe_op op_sub (pe_callB call_len_seq (by rfl) T.b_len PySem.boot_len (pa_cons (pv 4) pa_nil)) pe_int) (pv 6)) (fun _ _ => rfl)))
      (pss_cons (ps_set (i := 12) sc_law_trees.nd rfl (Or.inl rfl) (pe_callB (call_max2 rfl) (by rfl) T.b_max (by decide +kernel) (pa_cons (pe_ix ix_list (pv 15) pe_int (fun _ _ => rfl)) (pa_cons (pe_ix ix_list (pv 14) pe_int (fun _ _ => rfl)) pa_nil))))
      (pss_one (ps_if (PW.pt (pw_and (pt_cmpR op_lt (pv 12) pe_int (nomark _)) (pw_and1 (pt_cmpR op_lt (pe_op op_add (pe_ix ix_list (pv 15) pe_int (fun _ _ => rfl)) (pe_ix ix_list (pv 14) pe_int (fun _ _ => rfl))) pe_int (nomark _))))) (pss_cons (ps_set (i := 16) sc_law_trees.nd rfl (Or.inl rfl) (pe_ix ix_list (pe_call0 G_law_ops (by first | exact hr.mono (by decide) | exact hr.mono (by omega)) (by rfl) T.d_law_ops.g T.d_law_ops.k T.d_law_ops.b .nil pass0) (pe_op op_mod (pe_callTy call_int1 (by rfl) T.b_int PyProof.Rows.boot_int (pa_cons (pe_op op_add (pe_ix ix_list (pv 0) (pe_op op_add (pe_op op_mul pe_int (pv 6)) pe_int) (fun _ _ => rfl)) (pe_op op_mul pe_int (pv 6))) pa_nil)) pe_int) (fun _ _ => rfl)))
      (pss_one (ps_set (i := 14) sc_law_trees.nd rfl (Or.inl rfl) (pe_lst (pa_cons (pe_tup (pa_cons (pv 16) (pa_cons (pe_ix ix_list (pv 15) pe_int (fun _ _ => rfl)) (pa_cons (pe_ix ix_list (pv 14) pe_int (fun _ _ => rfl)) pa_nil)))) (pa_cons (pe_op op_add (pe_op op_add pe_int (pe_ix ix_list (pv 15) pe_int (fun _ _ => rfl))) (pe_ix ix_list (pv 14) pe_int (fun _ _ => rfl))) (pa_cons (pe_op op_add pe_int (pv 12)) pa_nil))))))) (pss_nil))))))
      (pss_cons (ps_expr (pe_bm PySem.F.plainAttrs_list PySem.F.slot_list_append PySem.F.type_list_append mt_append (pv 5) (pa_cons (pe_ix ix_list (pv 14) pe_int (fun _ _ => rfl)) pa_nil)))
      (pss_one (ps_ret (pv 5)))))))), ?_⟩
    have rowAt : ∀ (j : Nat) (z : Int), j < rs.length → z = (j : Int) → atI (rs.map V.int) z = some (.int (rs.getD j 0)) := fun j z hj e => by
      rw [e]
      exact at_ints hj
    have lr : (rs.map V.int).length = rs.length := List.length_map _
    have rl := hro.len
    refine q_asgL (xs := []) (el_lst ea_nil (by decide)) fun l0 H1 hl0 e1 h1 => ?_
    refine q_asgL (xs := []) (el_lst ea_nil (by decide)) fun fq H2 hfq e2 h2 => ?_
    have hfq0 : H fq = none := fresh_back e1 hfq
    have e12 := e1.trans e2
    refine q_forR1 (n := (n : Int)) (ea_cons (ev_is (ev_op (ev_is (ev_cb (ea_cons (ev_var rfl) ea_nil) (rc_lenL (ex_l e12 ha))) (by rw [lr])) ev_c (rv_I (by unfold CDiv; omega))) (congrArg V.int (by omega))) ea_nil) (by omega)
      (fun i σ' H' => ∃ (l : Addr) (xs : List V) (es : List Tr) (ys : List V) (fs : List Tr) (y6 y7 y8 y9 y10 y11 y12 y13 : Option V), σ' = [some (.ref a), some (.ref b), some (.ref c), some (.bl sm), some (.ref l), some (.ref fq), y6, y7, y8, y9, y10, y11, y12, y13, none, none, none, none] ∧ Ex H H' ∧ H l = none ∧ l ≠ fq ∧ Cells K H' l fq xs es ∧ Tr.sizes es = i ∧ (∀ e ∈ es, Tr.dep e ≤ 40) ∧ H' fq = some (.lst ys) ∧ TrsAt K H' ys fs ∧ (∀ e ∈ fs, TreeOk e) ∧ ys.length = i)
      (fun H3 e3 => ⟨l0, [], [], [], [], none, none, none, none, none, none, none, none, rfl, e12.trans e3, hl0, (fun e => by rw [e, hfq] at h1; exact nomatch h1), ⟨(e2.trans e3) _ _ h1, .nil, fun x hx => (nomatch hx)⟩, rfl, fun x hx => (nomatch hx), e3 _ _ h2, .nil, fun x hx => (nomatch hx), rfl⟩)
      (fun i σ' H' hi ⟨l, xs, es, ys, fs, y6, y7, y8, y9, y10, y11, y12, y13, hσ, e3, hl, lne, cl, hsz, hdp, hfy, tfs, tok, yl⟩ => ?_)
      (fun σ' H' ⟨l, xs, es, ys, fs, y6, y7, y8, y9, y10, y11, y12, y13, hσ, e3, hl, lne, cl, hsz, hdp, hfy, tfs, tok, yl⟩ => ?_)
    · subst hσ
      have hin : i < n := by omega
      obtain ⟨f0, f1⟩ := hro.f i hin
      obtain ⟨p0, p1⟩ := hro.p i hin
      generalize hf : rs.getD (2 * i) 0 = f at f0 f1
      generalize hp : rs.getD (2 * i + 1) 0 = p at p0 p1
      refine q_asg (v := .int f) (ev_op (ev_var rfl) (ev_op ev_c (ev_var rfl) (rv_I (by unfold CMul; omega))) (rv_ixL (ex_l e3 ha) (by rw [rowAt (2 * i) _ (by omega) (by omega), hf]))) fun H4 e4 => ?_
      refine q_asg (v := .int p) (ev_op (ev_var rfl) (ev_op (ev_op ev_c (ev_var rfl) (rv_I (by unfold CMul; omega))) ev_c rv_I0) (rv_ixL (ex_l (e3.trans e4) ha) (by rw [rowAt (2 * i + 1) _ (by omega) (by omega), hp]))) fun H5 e5 => ?_
      have e35 := (e3.trans e4).trans e5
      obtain ⟨hcl, hcp, hca⟩ := hc
      obtain ⟨j, hj, hjl⟩ := mod_nat (i := p) hcp
      have gcj := List.getElem?_eq_getElem hjl
      obtain ⟨cn, ck, cp, ecp, hct, hcn, hck⟩ := hca _ (List.getElem_mem hjl)
      refine q_asg (v := .ref cp) (ev_op (ev_var rfl) (ev_is (ev_op (ev_cb (ea_cons (ev_var rfl) ea_nil) rc_int1) (ev_cb (ea_cons (ev_var rfl) ea_nil) (rc_lenL (ex_l e35 hcl))) (rv_I (by show (0 : Int) < _; omega))) (congrArg V.int hj)) (rv_ixL (ex_l e35 hcl) (by rw [← ecp]; exact atI_nat gcj))) fun H6 e6 => ?_
      have e36 := e35.trans e6
      refine q_asg (v := .int (needOf f ck : Int)) (ev_opL1 (xs := [V.int 0, .int 2, .int 1, .int (ck : Int)]) (el_lst (ea_cons ev_c (ea_cons ev_c (ea_cons ev_c (ea_cons (ev_op (ev_var rfl) ev_c (rv_ixT (ex_t e36 hct) (at_of (j := 1) rfl rfl))) ea_nil)))) (by show 4 ≤ 100000; decide)) (fun H7 e7 => ev_op (ev_op (ev_cb (ea_cons (ev_op (ev_var rfl) ev_c rv_I0) ea_nil) rc_intB) (ev_cb (ea_cons (ev_op (ev_var rfl) ev_c rv_I0) ea_nil) rc_intB) rv_I0) (ev_cb (ea_cons (ev_op (ev_var rfl) ev_c rv_I0) ea_nil) rc_intB) rv_I0) fun pp H7 hpp e7 => rv_ixL (sq_of hpp) (need_at f ck)) fun H7 e7 => ?_
      have e37 := e36.trans e7
      have c7 := cl.ex (((e4.trans e5).trans e6).trans e7)
      have lx := paired_len cl.pr
      generalize hnd : needOf f ck = nd
      refine q_asgL (xs := xs.drop (xs.length - nd)) (by
        rw [← cut_drop (Nat.sub_le xs.length nd)]
        exact el_sl (ev_var rfl) (eo_some (ev_is (ev_max2 ev_c (ev_op (ev_cb (ea_cons (ev_var rfl) ea_nil) (rc_lenL (sq_of c7.at_))) (ev_var rfl) rv_I0)) (congrArg V.int (by split <;> omega)))) eo_none (sq_of c7.at_)) fun pa H8 hpa e8 h8 => ?_
      have c8 := c7.ex e8
      have pd := paired_drop (xs.length - nd) c8.pr
      have dz : ∀ (m : Nat) (g : Tr → Nat) (σ : L2.St) (H9 : Hp), Ex H8 H9 → σ[11]? = some (some (.ref pa)) → (∀ x, wipe ((wipe σ [17]).set 17 (some x)) [17] = wipe σ [17]) → (wipe σ [17])[11]? = some (some (.ref pa)) → (∀ x, ((wipe σ [17]).set 17 (some x))[17]? = some (some x)) → (∀ e : Tr, ∀ v, ([v, .int (e.size : Int), .int (Tr.dep e : Int)] : List V)[m]? = some (.int (g e : Int))) → EvL (tLc (iList K (tVar 11)) (gName 17) tYes (tOp (rIxL K) (tVar 17) (tC (.int (m : Int)))) [17]) σ H9 (((es.drop (xs.length - nd)).map fun e => (g e : Int)).map V.int) := fun m g σ H9 e9 hs hw hs2 hs3 hg => by
        refine el_lcLv (ev_var hs) (sq_of (e9 _ _ h8)) (by rw [List.length_drop]; have := len_sizes es; omega) hw (by rw [List.length_map, List.length_map]; exact paired_len pd) fun i x H10 e10 hi => ?_
        obtain ⟨e, ge, te⟩ := paired_at pd hi
        obtain ⟨p', v', ex, hp', _⟩ := te
        subst ex
        refine ev_op (ev_var (hs3 _)) ev_c (rv_ixL (sq_of ((e9.trans e10) _ _ hp')) ?_)
        rw [List.getD_eq_getElem?_getD, List.getElem?_map, List.getElem?_map, ge]
        exact atI_nat (hg e v')
      refine q_asg (v := .int ((Tr.deps (es.drop (xs.length - nd)) : Nat) : Int)) (ev_maxL (ns := 0 :: (es.drop (xs.length - nd)).map fun e => (Tr.dep e : Int)) (el_cat (xs := [.int 0]) (el_lst (ea_cons ev_c ea_nil) (by show 1 ≤ 100000; decide)) (dz 2 Tr.dep _ H8 (Ex.refl _) rfl (fun _ => rfl) rfl (fun _ => rfl) fun _ _ => rfl) (by rw [List.length_map, List.length_map, List.length_drop]; have := len_sizes es; show 1 + _ ≤ _; omega)) (deps_max _).1 (deps_max _).2) fun H9 e9 => ?_
      have e39 := (e37.trans e8).trans e9
      have c9 := c8.ex e9
      generalize hdeep : Tr.deps (es.drop (xs.length - nd)) = deep
      refine q_asgLstH (P := fun vs H => ∃ v e, vs = [v, .int 1, .int 1] ∧ TrAt K H v e ∧ Fit e ∧ e.size = 1 ∧ Tr.dep e = 1) (eaH_weak (eaH_consH (R := fun v H => ∃ e, TrAt K H v e ∧ Fit e ∧ e.size = 1 ∧ Tr.dep e = 1) (fun H10 e10 Q10 q10 => (ea_cons (ev_var rfl) (ea_cons (ev_var rfl) (ea_cons (ev_var rfl) (ea_cons (ev_var rfl) ea_nil))) : EvA (tCons (tVar 7) (tCons (tVar 8) (tCons (tVar 1) (tCons (tVar 3) tNil)))) _ H9 [.int f, .int p, .ref b, .bl sm]) H10 e10 _ fun H11 e11 => ⟨f, p, b, ns, sm, rfl, f0, p0, p1, ex_l ((e39.trans e10).trans e11) hb, hns, hnok, fun v e H12 t1 t2 t3 t4 e12' => q10 v H12 ⟨e, t1, t2, t3, t4⟩ (e11.trans e12')⟩) (fun v H1 H2 ⟨e, t1, t2⟩ ex => ⟨e, t1.keep (TupKeep.of ex), t2⟩) (eaH_of (vs := [.int 1, .int 1]) (ea_cons ev_c (ea_cons ev_c ea_nil)) (P := fun vs _ => vs = [.int 1, .int 1]) fun _ _ => rfl)) fun vs H10 ⟨v, r, h1, ⟨e, t⟩, h2⟩ => ⟨v, e, by rw [h1, h2], t⟩) (fun vs H10 ⟨v, e, h, _⟩ => by rw [h]; show 3 ≤ 100000; decide) fun vs mp H10 H11 ⟨v, e, hvs, tv, te1, te2, te3⟩ hmp e10 e11 h11 => ?_
      subst hvs
      have c11 := (c9.ex e10).ex e11
      have e311 := (e39.trans e10).trans e11
      have hmp0 : H mp = none := fresh_back (e39.trans e10) hmp
      have hfy11 : H11 fq = some (.lst ys) := by
        have := ((((((((e4.trans e5).trans e6).trans e7).trans e8).trans e9).trans e10).trans e11)) _ _ hfy
        exact this
      have ex11 : Ex H' H11 := ((((((e4.trans e5).trans e6).trans e7).trans e8).trans e9).trans e10).trans e11
      -- joined or the leaf
      refine q_cut (M := fun σ' H12 => ∃ (l' : Addr) (xs' : List V) (es' : List Tr) (m' : Addr) (v' : V) (e' : Tr), σ' = [some (.ref a), some (.ref b), some (.ref c), some (.bl sm), some (.ref l'), some (.ref fq), some (.int (i : Int)), some (.int f), some (.int p), some (.ref cp), some (.int (nd : Int)), some (.ref pa), some (.int (deep : Int)), some (.ref m'), none, none, none, none] ∧ Ex H11 H12 ∧ H l' = none ∧ l' ≠ fq ∧ m' ≠ l' ∧ m' ≠ fq ∧ Cells K H12 l' fq xs' es' ∧ H12 m' = some (.lst [v', .int (e'.size : Int), .int (Tr.dep e' : Int)]) ∧ TrAt K H12 v' e' ∧ Fit e' ∧ Tr.dep e' ≤ 40 ∧ Tr.sizes es' + e'.size = i + 1 ∧ ∀ e ∈ es', Tr.dep e ≤ 40) ?_ ?_
      · have keepLeaf : ∀ H12, Ex H11 H12 → ∃ (l' : Addr) (xs' : List V) (es' : List Tr) (m' : Addr) (v' : V) (e' : Tr), ([some (.ref a), some (.ref b), some (.ref c), some (.bl sm), some (.ref l), some (.ref fq), some (.int (i : Int)), some (.int f), some (.int p), some (.ref cp), some (.int (nd : Int)), some (.ref pa), some (.int (deep : Int)), some (.ref mp), none, none, none, none] : L2.St) = [some (.ref a), some (.ref b), some (.ref c), some (.bl sm), some (.ref l'), some (.ref fq), some (.int (i : Int)), some (.int f), some (.int p), some (.ref cp), some (.int (nd : Int)), some (.ref pa), some (.int (deep : Int)), some (.ref m'), none, none, none, none] ∧ Ex H11 H12 ∧ H l' = none ∧ l' ≠ fq ∧ m' ≠ l' ∧ m' ≠ fq ∧ Cells K H12 l' fq xs' es' ∧ H12 m' = some (.lst [v', .int (e'.size : Int), .int (Tr.dep e' : Int)]) ∧ TrAt K H12 v' e' ∧ Fit e' ∧ Tr.dep e' ≤ 40 ∧ Tr.sizes es' + e'.size = i + 1 ∧ ∀ e ∈ es', Tr.dep e ≤ 40 := fun H12 e12' => by
          refine ⟨l, xs, es, mp, v, e, rfl, e12', hl, lne, ?_, ?_, c11.ex e12', ?_, tv.keep (TupKeep.of (e11.trans e12')), te1, by omega, by omega, hdp⟩
          · intro z
            rw [z, (c9.ex e10).at_] at hmp
            exact nomatch hmp
          · intro z
            have := ((((((e4.trans e5).trans e6).trans e7).trans e8).trans e9).trans e10) _ _ hfy
            rw [z, this] at hmp
            exact nomatch hmp
          · rw [te2, te3]
            exact e12' _ _ h11
        have ld : (xs.drop (xs.length - nd)).length = min nd xs.length := by rw [List.length_drop]; omega
        refine s_when (b := decide (f ≥ 11) && (decide (min nd xs.length = nd) && decide (deep < 40))) (et_and (et_test (ev_op (ev_is (ev_var rfl) rfl) ev_c rv_I0)) fun _ => et_and (et_is (et_test (ev_op (ev_cb (ea_cons (ev_var rfl) ea_nil) (rc_lenL (sq_of (((e9.trans e10).trans e11) _ _ h8)))) (ev_var rfl) rv_eqI)) (by rw [ld]; exact decide_eq_decide.mpr ⟨fun h => by omega, fun h => by omega⟩)) fun _ => et_is (et_test (ev_op (ev_var rfl) ev_c rv_I0)) (decide_eq_decide.mpr ⟨fun h => by omega, fun h => by omega⟩)) (fun hb H12 e12' => ?_) (fun hb H12 e12' => keepLeaf H12 e12')
        obtain ⟨b1, b23⟩ := (Bool.and_eq_true _ _).mp hb
        obtain ⟨b2, b3⟩ := (Bool.and_eq_true _ _).mp b23
        have b1 := of_decide_eq_true b1
        have b2 := of_decide_eq_true b2
        have b3 := of_decide_eq_true b3
        have hndl : nd ≤ xs.length := by omega
        have c12 := c11.ex e12'
        refine q_asgL (xs := xs.take (xs.length - nd)) (by
          rw [← cutV_take (Nat.sub_le xs.length nd)]
          exact el_sl (ev_var rfl) eo_none (eo_some (ev_is (ev_op (ev_cb (ea_cons (ev_var rfl) ea_nil) (rc_lenL (sq_of c12.at_))) (ev_var rfl) rv_I0) (congrArg V.int (by omega)))) (sq_of c12.at_)) fun l' H13 hl' e13 h13 => ?_
        have c13 := c12.ex e13
        have e813 := ((((e9.trans e10).trans e11).trans e12').trans e13)
        have e313 := (e311.trans e12').trans e13
        have led := paired_len pd
        have lpar : (es.drop (xs.length - nd)).length = nd := by rw [← led, ld, b2]
        have hnd' := hnd
        unfold needOf at hnd'
        rw [if_neg (by omega)] at hnd'
        have jn : EvSH (tCall (spJoined K) [] E0 (tCons (tVar 7) (tCons (tOp (rIxT K) (tVar 9) (tC (.int 0))) (tCons (tVar 11) tNil)))) [some (.ref a), some (.ref b), some (.ref c), some (.bl sm), some (.ref l'), some (.ref fq), some (.int (i : Int)), some (.int f), some (.int p), some (.ref cp), some (.int (nd : Int)), some (.ref pa), some (.int (deep : Int)), some (.ref mp), none, none, none, none] H13 (fun v H => ∃ e, TrAt K H v e ∧ Fit e ∧ e.size = 1 + Tr.sizes (es.drop (xs.length - nd)) ∧ Tr.dep e = 1 + Tr.deps (es.drop (xs.length - nd))) := fun H14 e14 Q14 q14 =>
          (ea_cons (ev_var rfl) (ea_cons (ev_op (ev_var rfl) ev_c (rv_ixT (ex_t e313 hct) (atI_zero rfl))) (ea_cons (ev_var rfl) ea_nil)) : EvA (tCons (tVar 7) (tCons (tOp (rIxT K) (tVar 9) (tC (.int 0))) (tCons (tVar 11) tNil))) _ H13 [.int f, .str cn, .ref pa]) H14 e14 _ fun H15 e15 => ⟨f, cn, pa, xs.drop (xs.length - nd), es.drop (xs.length - nd), rfl, b1, hcn, sq_of (((e813.trans e14).trans e15) _ _ h8), paired_mono pd fun _ _ _ r => (r.ex ((e813.trans e14).trans e15)).toS, fun h => by rw [if_pos h] at hnd'; omega, fun h h' => by rw [if_neg (by omega), if_pos h'] at hnd'; omega, by rw [lpar]; split at hnd' <;> (try split at hnd') <;> omega, fun v e H16 t1 t2 t3 t4 e16 => q14 v H16 ⟨e, t1, t2, t3, t4⟩ (e15.trans e16)⟩
        refine s_asgLstH (P := fun vs H => ∃ v e, vs = [v, .int (e.size : Int), .int (Tr.dep e : Int)] ∧ TrAt K H v e ∧ Fit e ∧ e.size = 1 + Tr.sizes (es.drop (xs.length - nd)) ∧ Tr.dep e = 1 + Tr.deps (es.drop (xs.length - nd))) (eaH_weak (eaH_consH jn (fun v H1 H2 ⟨e, t1, t2⟩ ex => ⟨e, t1.keep (TupKeep.of ex), t2⟩) (eaH_of (vs := [.int ((1 + Tr.sizes (es.drop (xs.length - nd)) : Nat) : Int), .int ((1 + Tr.deps (es.drop (xs.length - nd)) : Nat) : Int)]) (ea_cons (ev_is (ev_op ev_c (ev_sumL (dz 1 Tr.size _ H13 e813 rfl (fun _ => rfl) rfl (fun _ => rfl) fun _ _ => rfl)) rv_I0) (congrArg V.int (by rw [← sizes_sum]; omega))) (ea_cons (ev_is (ev_op ev_c (ev_var rfl) rv_I0) (congrArg V.int (by omega))) ea_nil)) (P := fun vs _ => vs = [.int ((1 + Tr.sizes (es.drop (xs.length - nd)) : Nat) : Int), .int ((1 + Tr.deps (es.drop (xs.length - nd)) : Nat) : Int)]) fun _ _ => rfl)) fun vs H14 ⟨v, r, h1, ⟨e, t1, t2, t3, t4⟩, h2⟩ => ⟨v, e, by rw [h1, h2, t3, t4], t1, t2, t3, t4⟩) (fun vs H14 ⟨v, e, h, _⟩ => by rw [h]; show 3 ≤ 100000; decide) fun vs m' H14 H15 ⟨v', e', hvs', tv', tf', ts', td'⟩ hm' e14 e15 h15 => ?_
        subst hvs'
        have c14 := c13.ex e14
        have hl0' : H l' = none := fresh_back (e311.trans e12') hl'
        have sp := sizes_app (es.take (xs.length - nd)) (es.drop (xs.length - nd))
        rw [List.take_append_drop] at sp
        refine ⟨l', xs.take (xs.length - nd), es.take (xs.length - nd), m', v', e', rfl, ((e12'.trans e13).trans e14).trans e15, hl0', ?_, ?_, ?_, ⟨(e14.trans e15) _ _ h13, paired_mono (paired_take _ c13.pr) fun _ _ _ r => r.ex (e14.trans e15), fun x hx => ⟨?_, (c13.ne x (List.mem_of_mem_take hx)).2⟩⟩, h15, tv'.keep (TupKeep.of e15), tf', by rw [td', hdeep]; omega, by rw [ts']; omega, fun e he => hdp e (List.mem_of_mem_take he)⟩
        · intro z
          rw [z, e12' _ _ hfy11] at hl'
          exact nomatch hl'
        · intro z
          rw [z, e14 _ _ h13] at hm'
          exact nomatch hm'
        · intro z
          rw [z, (((e12'.trans e13).trans e14)) _ _ hfy11] at hm'
          exact nomatch hm'
        · intro z
          subst z
          obtain ⟨ix, hix⟩ := List.getElem?_of_mem (List.mem_of_mem_take hx)
          obtain ⟨_, _, ⟨p', v'', ep, hp', _⟩⟩ := paired_at c12.pr hix
          cases ep
          rw [hp'] at hl'
          exact nomatch hl'
      · rintro σ' H12 ⟨l', xs', es', m', v', e', rfl, e12', hl', lne', ml', mq', cl', hm', tv', tf', td', tsz, hdp'⟩
        have ex12 := ex11.trans e12'
        have hfy12 := ex12 _ _ hfy
        have lx' := paired_len cl'.pr
        have ls' := len_sizes es'
        refine q_app (v := .ref m') cl'.at_ (ev_var rfl) (ev_var rfl) (by omega) fun H13 e13 => ?_
        have c13 := cl'.ex e13
        have tv13 := tv'.keep (TupKeep.of e13)
        have hm13 := e13 _ _ hm'
        have hfy13 := e13 _ _ hfy12
        refine s_app (xs := ys) (v := v') (by rw [upd_ne lne'.symm]; exact hfy13) (ev_var rfl) (ev_op (ev_var rfl) ev_c (rv_ixL (sq_of (by rw [upd_ne ml']; exact hm13)) (atI_zero rfl))) (by omega) fun H14 e14 => ?_
        generalize hU : upd H13 l' (.lst (xs' ++ [.ref m'])) = U at e14
        have uq : U fq = some (.lst ys) := by rw [← hU, upd_ne lne'.symm]; exact hfy13
        have ul : U l' = some (.lst (xs' ++ [.ref m'])) := by rw [← hU]; exact upd_same
        have um : U m' = some (.lst [v', .int (e'.size : Int), .int (Tr.dep e' : Int)]) := by rw [← hU, upd_ne ml']; exact hm13
        have kU : TupKeep K H13 U := by rw [← hU]; exact TupKeep.updL c13.at_
        have k14 : TupKeep K U H14 := TupKeep.of e14
        have pU : Paired (TCellH K U) xs' es' := paired_mono c13.pr fun x y hx r => by rw [← hU]; exact r.upd c13.at_ (c13.ne x hx).1
        have kQ : TupKeep K H14 (upd H14 fq (.lst (ys ++ [v']))) := TupKeep.updL (e14 _ _ uq)
        have dsz : Tr.sizes (es' ++ [e']) = i + 1 := by rw [sizes_app]; show _ + (e'.size + 0) = _; omega
        refine ⟨l', xs' ++ [.ref m'], es' ++ [e'], ys ++ [v'], fs ++ [e'], _, _, _, _, _, _, _, _, rfl, ?_, hl', lne', ⟨?_, ?_, ?_⟩, dsz, ?_, upd_same, ?_, ?_, by rw [List.length_append, yl]; rfl⟩
        · refine Ex.mut ?_ hfq0
          have : Ex H U := by rw [← hU]; exact Ex.mut ((e311.trans e12').trans e13) hl'
          exact this.trans e14
        · rw [upd_ne lne']
          exact e14 _ _ ul
        · refine paired_app (paired_mono pU fun x y hx r => (r.ex e14).upd (e14 _ _ uq) (c13.ne x hx).2) (.cons ⟨m', v', rfl, ?_, ?_, tf'⟩ .nil)
          · rw [upd_ne mq']
            exact e14 _ _ um
          · exact ((tv13.keep kU).keep k14).keep kQ
        · intro x hx
          rcases List.mem_append.mp hx with hx | hx
          · exact c13.ne x hx
          · rw [List.mem_singleton.mp hx]
            exact ⟨fun z => ml' (V.ref.inj z), fun z => mq' (V.ref.inj z)⟩
        · intro x hx
          rcases List.mem_append.mp hx with hx | hx
          · exact hdp' x hx
          · rw [List.mem_singleton.mp hx]
            exact td'
        · have t13 : TrsAt K H13 ys fs := tfs.keep (TupKeep.of (ex12.trans e13))
          exact (((t13.keep kU).keep k14).keep kQ).snoc (((tv13.keep kU).keep k14).keep kQ)
        · intro x hx
          rcases List.mem_append.mp hx with hx | hx
          · exact tok x hx
          · rw [List.mem_singleton.mp hx]
            exact ⟨tf', by omega, td'⟩
    · subst hσ
      have lx := paired_len cl.pr
      have sz : Tr.sizes es = n := by rw [hsz]; rfl
      have xpos : 0 < xs.length := by
        cases es with
        | nil => exact absurd sz (by show (0 : Nat) ≠ n; omega)
        | cons e es => rw [lx]; exact Nat.succ_pos _
      have lxn : xs.length ≤ n := by have := len_sizes es; omega
      have cellAt : ∀ j, j < xs.length → ∃ (p : Addr) (v : V) (e : Tr), xs[j]? = some (.ref p) ∧ H' p = some (.lst [v, .int (e.size : Int), .int (Tr.dep e : Int)]) ∧ TrAt K H' v e ∧ TreeOk e := fun j hj => by
        obtain ⟨e, ge, p, v, ex, hp, tv, tf⟩ := paired_at cl.pr (List.getElem?_eq_getElem hj)
        have hm := List.mem_of_getElem? ge
        exact ⟨p, v, e, by rw [List.getElem?_eq_getElem hj, ex], hp, tv, ⟨tf, by have := size_le_sizes hm; omega, hdp e hm⟩⟩
      obtain ⟨rp, rv, re, grp, hrp, trv, rok⟩ := cellAt (xs.length - 1) (by omega)
      refine q_asg (v := .ref rp) (ev_op (ev_var rfl) (ev_un ev_c ru_neg) (rv_ixL (sq_of cl.at_) (by rw [show (-(1 : Int)) = -1 from rfl, last_at xpos, ← List.getElem?_eq_getElem]; exact grp))) fun H4 e4 => ?_
      refine q_forR1 (n := (xs.length : Int) - 1) (ea_cons (ev_op (ev_cb (ea_cons (ev_var rfl) ea_nil) (rc_lenL (sq_of (e4 _ _ cl.at_)))) ev_c rv_I0) ea_nil) (by omega)
        (fun k σ' H5 => ∃ (rp : Addr) (rv : V) (re : Tr) (y6 y7 y8 y9 y10 y11 y12 y13 y15 y16 y17 : Option V), σ' = [some (.ref a), some (.ref b), some (.ref c), some (.bl sm), some (.ref l), some (.ref fq), y6, y7, y8, y9, y10, y11, y12, y13, some (.ref rp), y15, y16, y17] ∧ Ex H' H5 ∧ H5 rp = some (.lst [rv, .int (re.size : Int), .int (Tr.dep re : Int)]) ∧ TrAt K H5 rv re ∧ TreeOk re ∧ rp ≠ fq)
        (fun H5 e5 => ⟨rp, rv, re, _, _, _, _, _, _, _, _, _, _, _, rfl, e4.trans e5, (e4.trans e5) _ _ hrp, trv.keep (TupKeep.of (e4.trans e5)), rok, ?_⟩)
        (fun k σ' H5 hk ⟨rp, rv, re, y6, y7, y8, y9, y10, y11, y12, y13, y15, y16, y17, hσ, e5, hrp, trv, rok, rne⟩ => ?_) (fun σ' H5 ⟨rp, rv, re, y6, y7, y8, y9, y10, y11, y12, y13, y15, y16, y17, hσ, e5, hrp, trv, rok, rne⟩ => ?_)
      · intro z
        exact (cl.ne _ (List.mem_of_getElem? grp)).2 (by rw [z])
      · subst hσ
        obtain ⟨op, ov, oe, gop, hop, tov, ook⟩ := cellAt (xs.length - 2 - k) (by omega)
        have hop5 := e5 _ _ hop
        refine q_asg (v := .ref op) (ev_op (ev_var rfl) (ev_op (ev_op (ev_cb (ea_cons (ev_var rfl) ea_nil) (rc_lenL (sq_of (e5 _ _ cl.at_)))) ev_c rv_I0) (ev_var rfl) rv_I0) (rv_ixL (sq_of (e5 _ _ cl.at_)) (at_of (j := xs.length - 2 - k) (by omega) gop))) fun H6 e6 => ?_
        refine q_asg (v := .int ((max (Tr.dep oe) (Tr.dep re) : Nat) : Int)) (ev_max2' (ev_op (ev_var rfl) ev_c (rv_ixL (sq_of (e6 _ _ hop5)) (at_of (j := 2) rfl rfl))) (ev_op (ev_var rfl) ev_c (rv_ixL (sq_of (e6 _ _ hrp)) (at_of (j := 2) rfl rfl)))) fun H7 e7 => ?_
        have e57 := e6.trans e7
        refine s_when (b := decide ((max (Tr.dep oe) (Tr.dep re) : Nat) < 40) && decide (oe.size + re.size < 400)) (et_and (et_is (et_test (ev_op (ev_var rfl) ev_c rv_I0)) (decide_eq_decide.mpr ⟨fun h => by omega, fun h => by omega⟩)) fun _ => et_is (et_test (ev_op (ev_op (ev_op (ev_var rfl) ev_c (rv_ixL (sq_of (e57 _ _ hop5)) (at_of (j := 1) rfl rfl))) (ev_op (ev_var rfl) ev_c (rv_ixL (sq_of (e57 _ _ hrp)) (at_of (j := 1) rfl rfl))) rv_I0) ev_c rv_I0)) (decide_eq_decide.mpr ⟨fun h => by omega, fun h => by omega⟩)) (fun hb H8 e8 => ?_) (fun _ H8 e8 => ⟨rp, rv, re, _, _, _, _, _, _, _, _, _, _, _, rfl, (e5.trans e57).trans e8, (e57.trans e8) _ _ hrp, trv.keep (TupKeep.of (e57.trans e8)), rok, rne⟩)
        obtain ⟨b1, b2⟩ := (Bool.and_eq_true _ _).mp hb
        have b1 := of_decide_eq_true b1
        have b2 := of_decide_eq_true b2
        have e58 := e57.trans e8
        obtain ⟨p0, p1⟩ := hro.p k (by omega)
        obtain ⟨j, hj, hjl⟩ := mod_nat (i := rs.getD (2 * k + 1) 0 + 5 * (k : Int)) (n := 13) (by decide)
        obtain ⟨o, go, ho⟩ := ops_at j hjl
        have ha8 := ex_l ((e3.trans e5).trans e58) ha
        refine q_asg (v := .str o) (ev_opL1 (xs := ops13.map V.str) el_ops (fun H9 e9 => ev_is (ev_op (ev_cb (ea_cons (ev_op (ev_op (ev_var rfl) (ev_op (ev_op ev_c (ev_var rfl) (rv_I (by unfold CMul; omega))) ev_c rv_I0) (rv_ixL (ex_l e9 ha8) (rowAt (2 * k + 1) _ (by omega) (by omega)))) (ev_op ev_c (ev_var rfl) (rv_I (by unfold CMul; omega))) rv_I0) ea_nil) rc_int1) ev_c (rv_I (by show (0 : Int) < 13; decide))) (congrArg V.int hj)) fun pp H9 hpp e9 => rv_ixL (sq_of hpp) (atI_nat (by rw [List.getElem?_map, go]; rfl))) fun H9 e9 => ?_
        have e59 := e58.trans e9
        have hop9 := e59 _ _ hop5
        have hrp9 := e59 _ _ hrp
        refine s_asgLstH (P := fun vs H => ∃ tp, vs = [.ref tp, .int ((1 + oe.size + re.size : Nat) : Int), .int ((1 + max (Tr.dep oe) (Tr.dep re) : Nat) : Int)] ∧ H tp = some (.tup [.str o, ov, rv])) (eaH_weak (eaH_consU (xs := [.str o, ov, rv]) (eu_tup (ea_cons (ev_var rfl) (ea_cons (ev_op (ev_var rfl) ev_c (rv_ixL (sq_of hop9) (atI_zero rfl))) (ea_cons (ev_op (ev_var rfl) ev_c (rv_ixL (sq_of hrp9) (atI_zero rfl))) ea_nil))) (by show 3 ≤ 100000; decide)) (eaH_of (vs := [.int ((1 + oe.size + re.size : Nat) : Int), .int ((1 + max (Tr.dep oe) (Tr.dep re) : Nat) : Int)]) (ea_cons (ev_is (ev_op (ev_op ev_c (ev_op (ev_var rfl) ev_c (rv_ixL (sq_of hop9) (at_of (j := 1) rfl rfl))) rv_I0) (ev_op (ev_var rfl) ev_c (rv_ixL (sq_of hrp9) (at_of (j := 1) rfl rfl))) rv_I0) (congrArg V.int (by omega))) (ea_cons (ev_is (ev_op ev_c (ev_var rfl) rv_I0) (congrArg V.int (by omega))) ea_nil)) (P := fun vs _ => vs = [.int ((1 + oe.size + re.size : Nat) : Int), .int ((1 + max (Tr.dep oe) (Tr.dep re) : Nat) : Int)]) fun _ _ => rfl)) fun vs H10 ⟨tp, r, h1, h2, h3⟩ => ⟨tp, by rw [h1, h3], h2⟩) (fun vs H10 ⟨tp, h, _⟩ => by rw [h]; show 3 ≤ 100000; decide) fun vs np H10 H11 ⟨tp, hvs, htp⟩ hnp e10 e11 h11 => ?_
        subst hvs
        have ex := ((e5.trans e59).trans e10).trans e11
        refine ⟨np, .ref tp, .bin o oe re, _, _, _, _, _, _, _, _, _, _, _, rfl, ex, h11, .bin (st_of (e11 _ _ htp)) (tov.keep (TupKeep.of ex)) (trv.keep (TupKeep.of ((e59.trans e10).trans e11))), ⟨⟨⟨ho, ook.fit.g, rok.fit.g⟩, ⟨ho, ook.fit.f, rok.fit.f⟩⟩, by show 1 + _ + _ ≤ 400; omega, by show 1 + max _ _ ≤ 40; omega⟩, ?_⟩
        intro z
        rw [z, ((e5.trans e59).trans e10) _ _ hfy] at hnp
        exact nomatch hnp
      · subst hσ
        have hfy5 := e5 _ _ hfy
        refine q_app (v := rv) hfy5 (ev_var rfl) (ev_op (ev_var rfl) ev_c (rv_ixL (sq_of hrp) (atI_zero rfl))) (by rw [yl]; have : (n : Int).toNat = n := rfl; omega) fun H6 e6 => ?_
        have kQ : TupKeep K H6 (upd H6 fq (.lst (ys ++ [rv]))) := TupKeep.updL (e6 _ _ hfy5)
        refine s_ret (ev_var rfl) fun H7 e7 => q fq (ys ++ [rv]) (fs ++ [re]) H7 (e7 _ _ upd_same) ?_ (fun x hx => ?_) (by rw [List.length_append]; exact Nat.succ_pos _) (by rw [List.length_append, yl]; have : (n : Int).toNat = n := rfl; show _ + 1 ≤ 500; omega) ((Ex.mut ((e3.trans e5).trans e6) hfq0).trans e7)
        · exact (((tfs.keep (TupKeep.of (e5.trans e6))).keep kQ).keep (TupKeep.of e7)).snoc (((trv.keep (TupKeep.of e6)).keep kQ).keep (TupKeep.of e7))
        · rcases List.mem_append.mp hx with hx | hx
          · exact tok x hx
          · rw [List.mem_singleton.mp hx]
            exact rok
end


/-! the law's chain -/
def spChain (K : PySem.W.Frag) : Sp := fun vs H Q _ => ∃ (a b c : Addr) (s : Bool) (rs : List Int) (n : Nat) (ns : List Str) (cs : List V), vs = [.ref a, .ref b, .ref c, .bl s] ∧ SqL K H a (rs.map V.int) ∧ RowOk rs n ∧ n ≤ 39 ∧ SqL K H b (ns.map V.str) ∧ 0 < ns.length ∧ (∀ n ∈ ns, nmOk n) ∧ CallsAt K H c cs ∧
  ∀ p ys fs H2, H2 p = some (.lst ys) → TrsAt K H2 ys fs → (∀ e ∈ fs, TreeOk e) → 0 < ys.length → ys.length ≤ 500 → Ex H H2 → Q (.ref p) H2
section
variable {K : PySem.W.Frag} {σ : L2.St} {H : Hp} {te : TE} {tz : TS} {D : L2.Ends}
theorem q_asgSH {i : Nat} {R : V → Hp → Prop} (h : EvSH te σ H R) (k : ∀ v H1, R v H1 → Ex H H1 → tz D (σ.set i (some v)) H1) : tSeq (tAsg te (gName i)) tz D σ H := h H (Ex.refl H) _ fun v H1 r e => k v H1 r e
theorem s_asgTupH {ta : TA} {i : Nat} {P : List V → Hp → Prop} (h : EvAH ta σ H P) (hl : ∀ vs H1, P vs H1 → vs.length ≤ 100000) (k : ∀ vs p H1 H2, P vs H1 → H1 p = none → Ex H H1 → Ex H1 H2 → H2 p = some (.tup vs) → D.nx (σ.set i (some (.ref p))) H2) : tAsg (tTup ta) (gName i) D σ H :=
  h H (Ex.refl H) _ fun vs H1 r e1 => ⟨sz_of (hl vs H1 r), fun p hp => k vs p H1 _ r hp e1 (Ex.new hp) upd_same⟩
end
/-- arguments of a call of the chain: the leaf everywhere, the tree at one place -/
def argsOf (l e : Tr) (n j : Nat) : List Tr := (List.range n).map fun i => if i = j then e else l
theorem args_trs {K : PySem.W.Frag} {H : Hp} {v u : V} {l e : Tr} (hl : TrAt K H v l) (he : TrAt K H u e) : ∀ (j : Nat) (xs : List Nat), TrsAt K H (xs.map fun i => if i = j then u else v) (xs.map fun i => if i = j then e else l)
  | _, [] => .nil
  | j, i :: xs => by
    refine .cons ?_ (args_trs hl he j xs)
    show TrAt K H (if i = j then u else v) (if i = j then e else l)
    by_cases h : i = j
    · rw [if_pos h, if_pos h]; exact he
    · rw [if_neg h, if_neg h]; exact hl
theorem args_all {P : Tr → Prop} {l e : Tr} (hl : P l) (he : P e) (n j : Nat) : ∀ t ∈ argsOf l e n j, P t := fun t ht => by
  obtain ⟨i, _, rfl⟩ := List.mem_map.mp ht
  show P (if i = j then e else l)
  by_cases h : i = j
  · rw [if_pos h]; exact he
  · rw [if_neg h]; exact hl
theorem fines_iff : ∀ {es : List Tr}, Tr.fines es ↔ ∀ e ∈ es, Tr.fine e
  | [] => ⟨fun _ e h => (List.not_mem_nil h).elim, fun _ => True.intro⟩
  | e :: es => by
    show Tr.fine e ∧ Tr.fines es ↔ _
    rw [fines_iff (es := es)]
    simp
theorem deps_le {d : Nat} : ∀ {es : List Tr}, (∀ e ∈ es, Tr.dep e ≤ d) → Tr.deps es ≤ d
  | [], _ => Nat.zero_le _
  | e :: es, h => Nat.max_le.mpr ⟨h e List.mem_cons_self, deps_le fun x hx => h x (List.mem_cons_of_mem _ hx)⟩
theorem args_size {l e : Tr} (hl : l.size = 1) : ∀ n j, n ≤ 3 → Tr.sizes (argsOf l e n j) ≤ e.size + 2 := fun n j hn => by
  have hp := Tr.size_pos e
  have one : ∀ i, (if i = j then e else l).size = if i = j then e.size else 1 := fun i => by by_cases h : i = j <;> simp [h, hl]
  match n, hn with
  | 0, _ => exact Nat.zero_le _
  | 1, _ =>
    show (if 0 = j then e else l).size + 0 ≤ _
    rw [one]
    split <;> omega
  | 2, _ =>
    show (if 0 = j then e else l).size + ((if 1 = j then e else l).size + 0) ≤ _
    rw [one, one]
    split <;> split <;> omega
  | 3, _ =>
    show (if 0 = j then e else l).size + ((if 1 = j then e else l).size + ((if 2 = j then e else l).size + 0)) ≤ _
    rw [one, one, one]
    split <;> split <;> split <;> omega
section
variable {P : Program} {w : World} {K : PySem.W.Frag} {mg : Str → Option Value} {base : Heap} {fa : Nat → Addr} {fd : Nat → FuncData} {cv : Nat → Value}
theorem ok_chain (T : Txt w K mg fa fd cv) : FnOk P w K mg base CX0 3 (fa 43) (fd 43) ["row", "names", "calls", "small"] (spChain K) := by
  have G_law_ops := ok_ops (P := P) (w := w) (base := base) T
  have G_law_leaf := ok_leaf (P := P) (w := w) (base := base) T
  refine T.d_law_chain.F.ok sc_law_chain (fun vs H Q E h => ?_) (fun cdv A outer s H vs Q E hr h => ?_)
  · obtain ⟨a, b, c, s, rs, n, ns, cs, rfl, _⟩ := h
    rfl
  · obtain ⟨a, b, c, sm, rs, n, ns, cs, rfl, ha, hro, hn4, hb, hns, hnok, hc, q⟩ := h
    refine ⟨_, pss_cons (ps_set (i := 4) sc_law_chain.nd rfl (Or.inr rfl) (pe_ix ix_list (pv 1) pe_int (fun _ _ => rfl)))
      (pss_cons (ps_set (i := 5) sc_law_chain.nd rfl (Or.inl rfl) (pe_lst (pa_cons (pv 4) pa_nil)))
      (pss_cons (ps_for PassesOwn.never rfl (pi_range1 (by rfl) T.b_range (pa_cons (pe_op op_fdiv (pe_callB call_len_seq (by rfl) T.b_len PySem.boot_len (pa_cons (pv 0) pa_nil)) pe_int) pa_nil)) (pg_name (i := 6) sc_law_chain.nd rfl (Or.inl rfl)) (pss_cons (ps_set (i := 7) sc_law_chain.nd rfl (Or.inl rfl) (pe_ix ix_list (pv 0) (pe_op op_mul pe_int (pv 6)) (fun _ _ => rfl)))
      (pss_cons (ps_set (i := 8) sc_law_chain.nd rfl (Or.inr rfl) (pe_ix ix_list (pv 0) (pe_op op_add (pe_op op_mul pe_int (pv 6)) pe_int) (fun _ _ => rfl)))
      (pss_cons (ps_set (i := 9) sc_law_chain.nd rfl (Or.inr rfl) (pe_call G_law_leaf (by first | exact hr.mono (by decide) | exact hr.mono (by omega)) (by rfl) T.d_law_leaf.g T.d_law_leaf.k T.d_law_leaf.b .nil pass0 (pa_cons (pe_op op_mod (pe_callTy call_int1 (by rfl) T.b_int PyProof.Rows.boot_int (pa_cons (pv 8) pa_nil)) pe_int) (pa_cons (pe_op op_mod (pe_callTy call_int1 (by rfl) T.b_int PyProof.Rows.boot_int (pa_cons (pe_op op_add (pe_op op_mul (pv 8) pe_int) (pe_op op_mul pe_int (pv 6))) pa_nil)) pe_int) (pa_cons (pv 1) (pa_cons (pv 3) pa_nil))))))
      (pss_cons (ps_set (i := 10) sc_law_chain.nd rfl (Or.inr rfl) (pe_ix ix_list (pv 2) (pe_op op_mod (pe_callTy call_int1 (by rfl) T.b_int PyProof.Rows.boot_int (pa_cons (pv 8) pa_nil)) (pe_callB call_len_seq (by rfl) T.b_len PySem.boot_len (pa_cons (pv 2) pa_nil))) (fun _ _ => rfl)))
      (pss_cut (ps_if (pt_cmpR op_lt (pv 7) pe_int (nomark _)) (pss_one (ps_set (i := 4) sc_law_chain.nd rfl (Or.inr rfl) (pe_tup (pa_cons (pe_ix ix_list (pe_call0 G_law_ops (by first | exact hr.mono (by decide) | exact hr.mono (by omega)) (by rfl) T.d_law_ops.g T.d_law_ops.k T.d_law_ops.b .nil pass0) (pv 7) (fun _ _ => rfl)) (pa_cons (pv 9) (pa_cons (pv 4) pa_nil)))))) (pss_one (ps_if (pt_cmpR op_lt (pv 7) pe_int (nomark _)) (pss_one (ps_set (i := 4) sc_law_chain.nd rfl (Or.inr rfl) (pe_tup (pa_cons (pe_ix ix_list (pe_call0 G_law_ops (by first | exact hr.mono (by decide) | exact hr.mono (by omega)) (by rfl) T.d_law_ops.g T.d_law_ops.k T.d_law_ops.b .nil pass0) (pe_op op_mod (pe_callTy call_int1 (by rfl) T.b_int PyProof.Rows.boot_int (pa_cons (pv 8) pa_nil)) pe_int) (fun _ _ => rfl)) (pa_cons (pv 9) (pa_cons (pv 4) pa_nil)))))) (pss_one (ps_if (pt_cmpR op_lt (pv 7) pe_int (nomark _)) (pss_one (ps_set (i := 4) sc_law_chain.nd rfl (Or.inr rfl) (pe_tup (pa_cons (pe_ix ix_list (pe_call0 G_law_ops (by first | exact hr.mono (by decide) | exact hr.mono (by omega)) (by rfl) T.d_law_ops.g T.d_law_ops.k T.d_law_ops.b .nil pass0) (pe_op op_mod (pe_callTy call_int1 (by rfl) T.b_int PyProof.Rows.boot_int (pa_cons (pv 8) pa_nil)) pe_int) (fun _ _ => rfl)) (pa_cons (pv 4) (pa_cons (pv 9) pa_nil)))))) (pss_one (ps_if (PW.pt (pw_or (pt_cmpR op_lt (pv 7) pe_int (nomark _)) (pw_or1 (pt_cmpR op_eq (pe_ix ix_tup (pv 10) pe_int (fun _ _ => rfl)) pe_int (nomark _))))) (pss_one (ps_set (i := 4) sc_law_chain.nd rfl (Or.inr rfl) (pe_tup (pa_cons pe_str (pa_cons (pv 4) pa_nil))))) (pss_one (ps_set (i := 4) sc_law_chain.nd rfl (Or.inr rfl) (pe_tup (pa_cons pe_str (pa_cons (pe_ix ix_tup (pv 10) pe_int (fun _ _ => rfl)) (pa_cons (pe_callTy call_tuple_of (by rfl) T.b_tuple (by decide +kernel) (pa_cons (pe_lc (own := [("j", 11)]) (g := gName 11) rfl sc_law_chain.nd (pi_range1 (by rfl) T.b_range (pa_cons (pe_ix ix_tup (pv 10) pe_int (fun _ _ => rfl)) pa_nil)) (blkOk_by (own := [("j", 11)]) (N := N_law_chain) (sc := defScope s_law_chain) (by decide +kernel)) (fun _ _ _ _ _ => pg_name (i := 11) sc_law_chain.nd rfl (Or.inl rfl)) (fun _ _ _ _ _ => pts_nil) (fun _ _ _ _ _ => (pe_ix (r := rIxL K) (by exact ix_list) (pe_lst (pa_cons (pv 9) (pa_cons (pv 4) pa_nil))) (pe_callTy call_int1 (by rfl) T.b_int PyProof.Rows.boot_int (pa_cons (pe_cmpR op_eq (pv 11) (pe_op op_mod (pe_callTy call_int1 (by rfl) T.b_int PyProof.Rows.boot_int (pa_cons (pv 8) pa_nil)) (pe_ix (r := rIxT K) (by exact ix_tup) (pv 10) pe_int (fun _ _ => rfl))) (nomark _)) pa_nil)) (fun _ _ => rfl)))) pa_nil)) pa_nil)))))))))))))
      (pss_one (ps_expr (pe_bm PySem.F.plainAttrs_list PySem.F.slot_list_append PySem.F.type_list_append mt_append (pv 5) (pa_cons (pv 4) pa_nil))))))))))
      (pss_one (ps_ret (pv 5))))), ?_⟩
    have rowAt : ∀ (j : Nat) (z : Int), j < rs.length → z = (j : Int) → atI (rs.map V.int) z = some (.int (rs.getD j 0)) := fun j z hj e => by
      rw [e]
      exact at_ints hj
    have lr : (rs.map V.int).length = rs.length := List.length_map _
    have rl := hro.len
    have n0ok := hnok _ (List.getElem_mem hns)
    refine q_asg (v := .str ns[0]) (ev_op (ev_var rfl) ev_c (rv_ixL hb (at_map (j := 0) (List.getElem?_eq_getElem hns)))) fun H1 e1 => ?_
    refine q_asgL (xs := [.str ns[0]]) (el_lst (ea_cons (ev_var rfl) ea_nil) (by show 1 ≤ 100000; decide)) fun fq H2 hfq e2 h2 => ?_
    have hfq0 : H fq = none := fresh_back e1 hfq
    have e12 := e1.trans e2
    refine q_forR1 (n := (n : Int)) (ea_cons (ev_is (ev_op (ev_is (ev_cb (ea_cons (ev_var rfl) ea_nil) (rc_lenL (ex_l e12 ha))) (by rw [lr])) ev_c (rv_I (by unfold CDiv; omega))) (congrArg V.int (by omega))) ea_nil) (by omega)
      (fun i σ' H' => ∃ (v : V) (e : Tr) (ys : List V) (fs : List Tr) (y6 y7 y8 y9 y10 y11 : Option V), σ' = [some (.ref a), some (.ref b), some (.ref c), some (.bl sm), some v, some (.ref fq), y6, y7, y8, y9, y10, y11] ∧ Ex H H' ∧ TrAt K H' v e ∧ Fit e ∧ e.size ≤ 1 + 3 * i ∧ Tr.dep e ≤ 1 + i ∧ H' fq = some (.lst ys) ∧ TrsAt K H' ys fs ∧ (∀ e ∈ fs, TreeOk e) ∧ ys.length = 1 + i)
      (fun H3 e3 => ⟨_, .nm ns[0], [.str ns[0]], [.nm ns[0]], none, none, none, none, none, none, rfl, e12.trans e3, .nm _, ⟨nmOk_len n0ok, n0ok⟩, Nat.le_refl _, Nat.le_refl _, e3 _ _ h2, .cons (.nm _) .nil, (fun x hx => by rw [List.mem_singleton.mp hx]; exact ⟨⟨nmOk_len n0ok, n0ok⟩, by show 1 ≤ 400; decide, by show 1 ≤ 40; decide⟩), rfl⟩)
      (fun i σ' H' hi ⟨v, e, ys, fs, y6, y7, y8, y9, y10, y11, hσ, e3, tv, tf, ts, td, hfy, tfs, tok, yl⟩ => ?_)
      (fun σ' H' ⟨v, e, ys, fs, y6, y7, y8, y9, y10, y11, hσ, e3, tv, tf, ts, td, hfy, tfs, tok, yl⟩ => ?_)
    · subst hσ
      have hin : i < n := by omega
      obtain ⟨f0, f1⟩ := hro.f i hin
      obtain ⟨p0, p1⟩ := hro.p i hin
      generalize hf : rs.getD (2 * i) 0 = f at f0 f1
      generalize hp : rs.getD (2 * i + 1) 0 = p at p0 p1
      refine q_asg (v := .int f) (ev_op (ev_var rfl) (ev_op ev_c (ev_var rfl) (rv_I (by unfold CMul; omega))) (rv_ixL (ex_l e3 ha) (by rw [rowAt (2 * i) _ (by omega) (by omega), hf]))) fun H4 e4 => ?_
      refine q_asg (v := .int p) (ev_op (ev_var rfl) (ev_op (ev_op ev_c (ev_var rfl) (rv_I (by unfold CMul; omega))) ev_c rv_I0) (rv_ixL (ex_l (e3.trans e4) ha) (by rw [rowAt (2 * i + 1) _ (by omega) (by omega), hp]))) fun H5 e5 => ?_
      have e35 := (e3.trans e4).trans e5
      refine q_asgSH (R := fun v H => ∃ e, TrAt K H v e ∧ Fit e ∧ e.size = 1 ∧ Tr.dep e = 1) (fun H10 e10 Q10 q10 => (ea_cons (ev_op (ev_cb (ea_cons (ev_var rfl) ea_nil) rc_int1) ev_c (rv_I (by show (0 : Int) < 11; decide))) (ea_cons (ev_op (ev_cb (ea_cons (ev_op (ev_op (ev_var rfl) ev_c (rv_I (by unfold CMul; omega))) (ev_op ev_c (ev_var rfl) (rv_I (by unfold CMul; omega))) rv_I0) ea_nil) rc_int1) ev_c (rv_I (by show (0 : Int) < 1999; decide))) (ea_cons (ev_var rfl) (ea_cons (ev_var rfl) ea_nil))) : EvA (tCons _ (tCons _ (tCons (tVar 1) (tCons (tVar 3) tNil)))) _ H5 [.int (p % 11), .int ((p * 7 + 3 * (i : Int)) % 1999), .ref b, .bl sm]) H10 e10 _ fun H11 e11 => ⟨_, _, b, ns, sm, rfl, by omega, by omega, by omega, ex_l ((e35.trans e10).trans e11) hb, hns, hnok, fun v e H12 t1 t2 t3 t4 e12' => q10 v H12 ⟨e, t1, t2, t3, t4⟩ (e11.trans e12')⟩) fun lv H6 ⟨le, tlv, lf, ls, ld⟩ e6 => ?_
      have e36 := e35.trans e6
      obtain ⟨hcl, hcp, hca⟩ := hc
      obtain ⟨j, hj, hjl⟩ := mod_nat (i := p) hcp
      have gcj := List.getElem?_eq_getElem hjl
      obtain ⟨cn, ck, cp, ecp, hct, hcn, hck⟩ := hca _ (List.getElem_mem hjl)
      refine q_asg (v := .ref cp) (ev_op (ev_var rfl) (ev_is (ev_op (ev_cb (ea_cons (ev_var rfl) ea_nil) rc_int1) (ev_cb (ea_cons (ev_var rfl) ea_nil) (rc_lenL (ex_l e36 hcl))) (rv_I (by show (0 : Int) < _; omega))) (congrArg V.int hj)) (rv_ixL (ex_l e36 hcl) (by rw [← ecp]; exact atI_nat gcj))) fun H7 e7 => ?_
      have e37 := e36.trans e7
      have tv7 := tv.keep (TupKeep.of (((e4.trans e5).trans e6).trans e7))
      have tl7 := tlv.keep (TupKeep.of e7)
      refine q_cut (M := fun σ' H8 => ∃ (v' : V) (e' : Tr), σ' = [some (.ref a), some (.ref b), some (.ref c), some (.bl sm), some v', some (.ref fq), some (.int (i : Int)), some (.int f), some (.int p), some lv, some (.ref cp), y11] ∧ Ex H7 H8 ∧ TrAt K H8 v' e' ∧ Fit e' ∧ e'.size ≤ 1 + 3 * (i + 1) ∧ Tr.dep e' ≤ 1 + (i + 1)) ?_ ?_
      · have binR : ∀ (x y : V) (ex ey : Tr) (H8 : Hp) (o : Str), Ex H7 H8 → o ∈ ops13 → TrAt K H7 x ex → TrAt K H7 y ey → Fit ex → Fit ey → ex.size + ey.size ≤ 2 + 3 * i → max (Tr.dep ex) (Tr.dep ey) ≤ 1 + i → ∀ (tp : Addr) (H9 : Hp), Ex H8 H9 → H9 tp = some (.tup [.str o, x, y]) → ∃ (v' : V) (e' : Tr), ([some (.ref a), some (.ref b), some (.ref c), some (.bl sm), some (.ref tp), some (.ref fq), some (.int (i : Int)), some (.int f), some (.int p), some lv, some (.ref cp), y11] : L2.St) = [some (.ref a), some (.ref b), some (.ref c), some (.bl sm), some v', some (.ref fq), some (.int (i : Int)), some (.int f), some (.int p), some lv, some (.ref cp), y11] ∧ Ex H7 H9 ∧ TrAt K H9 v' e' ∧ Fit e' ∧ e'.size ≤ 1 + 3 * (i + 1) ∧ Tr.dep e' ≤ 1 + (i + 1) := fun x y ex ey H8 o e8 ho tx ty fx fy hs hd tp H9 e9 h9 => by
          have k9 : TupKeep K H7 H9 := TupKeep.of (e8.trans e9)
          exact ⟨_, .bin o ex ey, rfl, e8.trans e9, .bin (st_of h9) (tx.keep k9) (ty.keep k9), ⟨⟨ho, fx.g, fy.g⟩, ⟨ho, fx.f, fy.f⟩⟩, by show 1 + _ + _ ≤ _; omega, by show 1 + max _ _ ≤ _; omega⟩
        have opAt : ∀ (z : Int) (H8 : Hp) (ti : TE) (σ : L2.St), 0 ≤ z → z < 13 → (∀ H9, Ex H8 H9 → Ev ti σ H9 (.int z)) → ∃ o, o ∈ ops13 ∧ Ev (tOp (rIxL K) (tCall spOps [] E0 tNil) ti) σ H8 (.str o) := fun z H8 ti σ h0 h1 hi => by
          obtain ⟨o, go, ho⟩ := ops_at z.toNat (by omega)
          exact ⟨o, ho, ev_opL1 (xs := ops13.map V.str) el_ops hi fun pp H9 hpp e9 => rv_ixL (sq_of hpp) (at_of (j := z.toNat) (by omega) (by rw [List.getElem?_map, go]; rfl))⟩
        refine s_if (b := decide (f < 13)) (et_test (ev_op (ev_var rfl) ev_c rv_I0)) (fun hb1 H8 e8 => ?_) (fun hb1 H8 e8 => ?_)
        · obtain ⟨o, ho, evo⟩ := opAt f H8 (tVar 7) [some (.ref a), some (.ref b), some (.ref c), some (.bl sm), some v, some (.ref fq), some (.int (i : Int)), some (.int f), some (.int p), some lv, some (.ref cp), y11] f0 (of_decide_eq_true hb1) fun H9 e9 => ev_var rfl
          exact s_asgU (eu_tup (ea_cons evo (ea_cons (ev_var rfl) (ea_cons (ev_var rfl) ea_nil))) (by show 3 ≤ 100000; decide)) fun tp H9 htp e9 h9 => binR lv v le e H8 o e8 ho tl7 tv7 lf tf (by omega) (by omega) tp H9 e9 h9
        · refine s_if (b := decide (f < 20)) (et_test (ev_op (ev_var rfl) ev_c rv_I0)) (fun hb2 H9 e9 => ?_) (fun hb2 H9 e9 => ?_)
          · obtain ⟨o, ho, evo⟩ := opAt (p % 13) H9 (tOp (rI (fun _ j => (0 : Int) < j) fun i j => V.int (i % j)) (tCB (fun xs H Q => (∃ i, xs = [V.int i] ∧ Q (V.int i) H) ∨ ∃ k, xs = [.bl k] ∧ Q (.int (if k then 1 else 0)) H) (tCons (tVar 8) tNil)) (tC (.int 13))) [some (.ref a), some (.ref b), some (.ref c), some (.bl sm), some v, some (.ref fq), some (.int (i : Int)), some (.int f), some (.int p), some lv, some (.ref cp), y11] (by omega) (by omega) fun H10 e10 => ev_op (ev_cb (ea_cons (ev_var rfl) ea_nil) rc_int1) ev_c (rv_I (by show (0 : Int) < 13; decide))
            exact s_asgU (eu_tup (ea_cons evo (ea_cons (ev_var rfl) (ea_cons (ev_var rfl) ea_nil))) (by show 3 ≤ 100000; decide)) fun tp H10 htp e10 h10 => binR lv v le e H9 o (e8.trans e9) ho tl7 tv7 lf tf (by omega) (by omega) tp H10 e10 h10
          · refine s_if (b := decide (f < 24)) (et_test (ev_op (ev_var rfl) ev_c rv_I0)) (fun hb3 H10 e10 => ?_) (fun hb3 H10 e10 => ?_)
            · obtain ⟨o, ho, evo⟩ := opAt (p % 13) H10 (tOp (rI (fun _ j => (0 : Int) < j) fun i j => V.int (i % j)) (tCB (fun xs H Q => (∃ i, xs = [V.int i] ∧ Q (V.int i) H) ∨ ∃ k, xs = [.bl k] ∧ Q (.int (if k then 1 else 0)) H) (tCons (tVar 8) tNil)) (tC (.int 13))) [some (.ref a), some (.ref b), some (.ref c), some (.bl sm), some v, some (.ref fq), some (.int (i : Int)), some (.int f), some (.int p), some lv, some (.ref cp), y11] (by omega) (by omega) fun H10 e10 => ev_op (ev_cb (ea_cons (ev_var rfl) ea_nil) rc_int1) ev_c (rv_I (by show (0 : Int) < 13; decide))
              exact s_asgU (eu_tup (ea_cons evo (ea_cons (ev_var rfl) (ea_cons (ev_var rfl) ea_nil))) (by show 3 ≤ 100000; decide)) fun tp H11 htp e11 h11 => binR v lv e le H10 o ((e8.trans e9).trans e10) ho tv7 tl7 tf lf (by omega) (by omega) tp H11 e11 h11
            · have e710 := (e8.trans e9).trans e10
              refine s_if (b := decide (f < 26) || decide (ck = 0)) (et_or (et_test (ev_op (ev_var rfl) ev_c rv_I0)) fun _ => et_is (et_test (ev_op (ev_op (ev_var rfl) ev_c (rv_ixT (ex_t (e37.trans e710) hct) (at_of (j := 1) rfl rfl))) ev_c rv_eqI)) (decide_eq_decide.mpr ⟨fun h => by omega, fun h => by omega⟩)) (fun hb4 H11 e11 => ?_) (fun hb4 H11 e11 => ?_)
              · refine s_asgU (eu_tup (vs := [.str "not", v]) (ea_cons ev_c (ea_cons (ev_var rfl) ea_nil)) (by show 2 ≤ 100000; decide)) fun tp H12 htp e12' h12 => ?_
                have k12 : TupKeep K H7 H12 := TupKeep.of ((e710.trans e11).trans e12')
                exact ⟨_, .nt e, rfl, (e710.trans e11).trans e12', .nt (st_of h12) (tv7.keep k12), ⟨tf.g, tf.f⟩, by show 1 + e.size ≤ _; omega, by show 1 + Tr.dep e ≤ _; omega⟩
              · obtain ⟨b41, b42⟩ := Bool.or_eq_false_iff.mp hb4
                have ck0 : 0 < ck := Nat.pos_of_ne_zero (of_decide_eq_false b42)
                have e711 := e710.trans e11
                obtain ⟨jj, hjj, hjjl⟩ := mod_nat (i := p) ck0
                have ctAt : ∀ H12, Ex H11 H12 → ∀ (σ : L2.St), σ[10]? = some (some (.ref cp)) → Ev (tOp (rIxT K) (tVar 10) (tC (.int 1))) σ H12 (.int (ck : Int)) := fun H12 e12' σ hs => ev_op (ev_var hs) ev_c (rv_ixT (ex_t ((e37.trans e711).trans e12') hct) (at_of (j := 1) rfl rfl))
                refine s_asgTupH (P := fun ws H3 => ∃ b, ws = [.str "call", .str cn, .ref b] ∧ H3 b = some (.tup ((List.range ck).map fun i => if i = jj then v else lv))) (eaH_weak (eaH_cons (S := fun v => v = .str "call") (evS_of ev_c rfl) (eaH_cons (S := fun v => v = .str cn) (evS_of (ev_op (ev_var rfl) ev_c (rv_ixT (ex_t (e37.trans e711) hct) (atI_zero rfl))) rfl) (eaH_consU (eu_tupleL (xs := (List.range ck).map fun i => if i = jj then v else lv) ?_) (eaH_of ea_nil (P := fun vs _ => vs = []) fun _ _ => rfl)))) ?_) (fun ws H3 ⟨b, h, _⟩ => by rw [h]; show 3 ≤ 100000; decide) fun ws tp H12 H13 ⟨ab, hw, hab⟩ htp e12' e13 h13 => ?_
                · have e0 : given (ck : Int).toNat (fun _ => true) (fun i => if i = jj then v else lv) = (List.range ck).map fun i => if i = jj then v else lv := by
                    unfold given
                    rw [List.filter_eq_self.mpr (fun _ _ => rfl), Int.toNat_natCast]
                  rw [← e0]
                  refine el_lcR1 (fun _ => true) (fun i => if i = jj then v else lv) (ea_cons (ctAt H11 (Ex.refl _) _ rfl) ea_nil) (by omega) (fun _ => rfl) (fun i H12 e12' hi => ev_yes _ _) (fun i H12 e12' hi _ => by
                    refine ev_opL1 (xs := [lv, v]) (y := .int (if decide (i = jj) then 1 else 0)) (el_lst (ea_cons (ev_var rfl) (ea_cons (ev_var rfl) ea_nil)) (by show 2 ≤ 100000; decide)) (fun H13 e13 => ev_cb (ea_cons (ev_is (ev_op (ev_var rfl) (ev_is (ev_op (ev_cb (ea_cons (ev_var rfl) ea_nil) rc_int1) (ctAt H13 (e12'.trans e13) _ rfl) (rv_I (by show (0 : Int) < (ck : Int); omega))) (congrArg V.int hjj)) rv_eqI) (congrArg V.bl (decide_eq_decide.mpr ⟨fun h => by omega, fun h => by omega⟩))) ea_nil) rc_intB) fun pp H13 hpp e13 => rv_ixL (sq_of hpp) ?_
                    by_cases h : i = jj
                    · rw [decide_eq_true h, if_pos h]
                      exact at_of (j := 1) rfl rfl
                    · rw [decide_eq_false h, if_neg h]
                      exact at_of (j := 0) rfl rfl)
                · rintro ws H3 ⟨v, r, rfl, rfl, v2, r2, rfl, rfl, b, r3, rfl, hb, rfl⟩
                  exact ⟨b, rfl, hb⟩
                subst hw
                have k13 : TupKeep K H7 H13 := TupKeep.of ((e711.trans e12').trans e13)
                have asz := args_size (e := e) ls ck jj hck
                have adp : Tr.deps (argsOf le e ck jj) ≤ 1 + i := deps_le (args_all (P := fun t => Tr.dep t ≤ 1 + i) (by omega) td ck jj)
                have al : (argsOf le e ck jj).length = ck := by unfold argsOf; rw [List.length_map, List.length_range]
                exact ⟨_, .call cn (argsOf le e ck jj), rfl, (e711.trans e12').trans e13, .call (st_of h13) (st_of (e13 _ _ hab)) (args_trs (tl7.keep k13) (tv7.keep k13) jj (List.range ck)), ⟨⟨isName_len hcn, by rw [al]; exact hck, Tr.goods_iff.mpr (args_all lf.g tf.g ck jj)⟩, ⟨hcn, by rw [al]; exact hck, fines_iff.mpr (args_all lf.f tf.f ck jj)⟩⟩, by show 1 + _ ≤ _; omega, by show 1 + _ ≤ _; omega⟩
      · rintro σ' H8 ⟨v', e', rfl, e8, tv', tf', ts', td'⟩
        have e38 := (((e4.trans e5).trans e6).trans e7).trans e8
        have hfy8 := e38 _ _ hfy
        refine s_app (v := v') hfy8 (ev_var rfl) (ev_var rfl) (by omega) fun H9 e9 => ?_
        have kQ : TupKeep K H9 (upd H9 fq (.lst (ys ++ [v']))) := TupKeep.updL (e9 _ _ hfy8)
        refine ⟨v', e', ys ++ [v'], fs ++ [e'], _, _, _, _, _, _, rfl, Ex.mut ((e3.trans e38).trans e9) hfq0, (tv'.keep (TupKeep.of e9)).keep kQ, tf', ts', td', upd_same, ((tfs.keep (TupKeep.of (e38.trans e9))).keep kQ).snoc ((tv'.keep (TupKeep.of e9)).keep kQ), fun x hx => ?_, by rw [List.length_append, yl]; rfl⟩
        rcases List.mem_append.mp hx with hx | hx
        · exact tok x hx
        · rw [List.mem_singleton.mp hx]
          exact ⟨tf', by omega, by omega⟩
    · subst hσ
      exact s_ret (ev_var rfl) fun H5 e5 => q fq ys fs H5 (e5 _ _ hfy) (tfs.keep (TupKeep.of e5)) tok (by omega) (by have : (n : Int).toNat = n := rfl; omega) (e3.trans e5)
end


/-! the law's question, and the law -/
theorem lexs_len : ∀ (n : Nat) (cs : List Nat) (a : Nat) (ts : List (Nat × Str)), lexs n cs a = .ok ts → ts.length ≤ n
  | 0, _, _, ts, h => by
    unfold lexs at h
    cases h
    exact Nat.le_refl _
  | n + 1, cs, a, ts, h => by
    unfold lexs at h
    split at h
    · split at h
      · split at h
        · next us hu =>
          cases h
          exact Nat.succ_le_succ (lexs_len n _ _ _ hu)
        · cases h
      · cases h
    · cases h
      exact Nat.zero_le _
theorem mm_getD {l : List Int} {f : Int → Int} {k : Nat} {d : Int} (g : l[k]? = some d) : ((l.map f).map V.int).getD k .non = V.int (f d) := by
  rw [List.getD_eq_getElem?_getD, List.getElem?_map, List.getElem?_map, g]
  rfl
theorem rep_flatI (n : Nat) (z : Int) : (List.replicate n [V.int z]).flatten = (List.replicate n z).map V.int := by
  induction n with
  | zero => rfl
  | succ n ih => rw [List.replicate_succ, List.flatten_cons, ih, List.replicate_succ, List.map_cons]; rfl
section
variable {K : PySem.W.Frag} {σ : L2.St} {H H' : Hp} {ta te tl t1 t2 : TE} {tz tu : TS} {D : L2.Ends}
theorem q_asgX {i : Nat} {xs : List V} (h : EvX te σ H xs) (k : ∀ p H1, Ex H H1 → H1 p = some (.lst xs) → tz D (σ.set i (some (.ref p))) H1) : tSeq (tAsg te (gName i)) tz D σ H := h H (Ex.refl H) _ fun p H1 e h1 => k p H1 e h1
/-- if a and not b: return False; b known where a holds -/
theorem q_never {R : Prop} (h1 : ∀ Q : VK, (∀ (b : Bool) H1, Ex H H1 → (b = true → R) → Q (.bl b) H1) → t1 σ H Q) (h2 : R → ∀ H1, Ex H H1 → Ev t2 σ H1 (.bl true)) (k : ∀ H1, Ex H H1 → tz D σ H1) : tSeq (tIfS (tAnd (tB t1) (tNot (tB t2))) tu tNext) tz D σ H := by
  refine h1 _ fun b H1 e1 r => ⟨b, rfl, ?_⟩
  cases b with
  | false => exact k H1 e1
  | true => exact h2 (r rfl) H1 e1 H1 (Ex.refl _) _ fun H2 e2 => ⟨true, rfl, k H2 (e1.trans e2)⟩
theorem s_never {R : Prop} (h1 : ∀ Q : VK, (∀ (b : Bool) H1, Ex H H1 → (b = true → R) → Q (.bl b) H1) → t1 σ H Q) (h2 : R → ∀ H1, Ex H H1 → Ev t2 σ H1 (.bl true)) (k : ∀ H1, Ex H H1 → D.nx σ H1) : tIfS (tAnd (tB t1) (tNot (tB t2))) tu tNext D σ H :=
  q_never (tz := tNext) (D := D) h1 h2 k
theorem elH_lcR1 {S : V → Hp → Prop} (kp : ∀ v H1 H2, TupKeep K H1 H2 → S v H1 → S v H2) {ta : TA} {j : Nat} {vs : List Nat} {n : Int} (h : EvA ta σ H [.int n]) (hn : 0 ≤ n ∧ n ≤ 40000) (hw : ∀ x, wipe ((wipe σ vs).set j (some x)) vs = wipe σ vs)
    (he : ∀ (i : Nat) H1, Ex H H1 → (i : Int) < n → EvSH te ((wipe σ vs).set j (some (.int (i : Int)))) H1 S) :
    EvLH (tLc (iRng1 ta) (gName j) tYes te vs) σ H (fun xs H2 => xs.length = n.toNat ∧ ∀ x ∈ xs, S x H2) := fun H0 e Q q => h H0 e _ fun H1 e1 => ⟨n, rfl, by omega, by omega, fun Dl hD =>
  lc_range (lo := 0) (n := n.toNat) (fun i H' => Ex H1 H' ∧ ∃ xs, H' Dl = some (.lst xs) ∧ xs.length = i ∧ ∀ x ∈ xs, S x H') ⟨Ex.new hD, [], upd_same, rfl, fun x hx => by cases hx⟩ (fun i H' hi ⟨x1, xs, x2, x3, x4⟩ => by
    have e0 : (0 : Int) + (i : Int) = (i : Int) := Int.zero_add _
    refine ⟨(by rw [e0]; exact hw _ : wipe ((wipe σ vs).set j (some (.int ((0 : Int) + (i : Int))))) vs = wipe σ vs), ?_⟩
    refine iteT (B := Ex H1 H' ∧ ∃ xs, H' Dl = some (.lst xs) ∧ xs.length = i + 1 ∧ ∀ x ∈ xs, S x H') ?_
    show te ((wipe σ vs).set j (some (.int ((0 : Int) + (i : Int))))) H' _
    rw [e0]
    refine he i H' ((e.trans e1).trans x1) (by omega) H' (Ex.refl H') _ fun v H2 s e2 => ⟨xs, e2 _ _ x2, sz_lt (by omega), Ex.mut (x1.trans e2) hD, xs ++ [v], upd_same, by rw [List.length_append, x3]; rfl, fun x hx => ?_⟩
    have kk : TupKeep K H2 (upd H2 Dl (.lst (xs ++ [v]))) := TupKeep.updL (e2 _ _ x2)
    rcases List.mem_append.mp hx with hx | hx
    · exact kp _ _ _ kk (kp _ _ _ (TupKeep.of e2) (x4 x hx))
    · rw [List.mem_singleton.mp hx]
      exact kp _ _ _ kk s) (fun H' ⟨x1, xs, x2, x3, x4⟩ => q Dl xs H' (fresh_back e1 hD) (e1.trans x1) x2 ⟨x3, x4⟩)⟩
end
def spAsked (K : PySem.W.Frag) : Sp := fun vs H Q _ => ∃ (v : V) (e : Tr) (pl sc : Addr) (ps ns : List Int) (at_ : Int), vs = [v, .ref pl, .ref sc, .int at_] ∧ TrAt K H v e ∧ TreeOk e ∧ SqL K H pl (ps.map V.int) ∧ 9 ≤ ps.length ∧ SqL K H sc (ns.map V.int) ∧ ns.length ≤ 63 ∧ 0 ≤ at_ ∧ at_ ≤ 20 ∧ RetV (.bl true) H Q
theorem tab8 : ∀ d < 8, (([0, 0, 0, 0, 0, 0, 1, 2] : List Int).getD d 0 = 0 ∨ ([0, 0, 0, 0, 0, 0, 1, 2] : List Int).getD d 0 = 1 ∨ ([0, 0, 0, 0, 0, 0, 1, 2] : List Int).getD d 0 = 2) := by decide
theorem tab4 (c : Int) (h : c = 0 ∨ c = 3) : ∀ d < 4, 0 ≤ ([0, 1, 0, c] : List Int).getD d 0 ∧ ([0, 1, 0, c] : List Int).getD d 0 ≤ 3 := fun d hd => by
  match d, hd with
  | 0, _ => exact (by decide : (0 : Int) ≤ 0 ∧ (0 : Int) ≤ 3)
  | 1, _ => exact (by decide : (0 : Int) ≤ 1 ∧ (1 : Int) ≤ 3)
  | 2, _ => exact (by decide : (0 : Int) ≤ 0 ∧ (0 : Int) ≤ 3)
  | 3, _ =>
    show 0 ≤ c ∧ c ≤ 3
    omega
section
variable {P : Program} {w : World} {K : PySem.W.Frag} {mg : Str → Option Value} {base : Heap} {fa : Nat → Addr} {fd : Nat → FuncData} {cv : Nat → Value}
theorem read_same {σ : L2.St} {H : Hp} {te tv : TE} {z : Str} {v : V} {e : Tr} {d : Nat} {E1 E2 : XK} (hz : z.length ≤ 400) (hr : Reads z e) (hg : e.good) (hd : 2 * Tr.dep e + 1 ≤ d) (ht : Ev te σ H (.str z)) (hv : Ev tv σ H v) (tv' : TrAt K H v e) : Ev (tCall (spSame K d) [] E1 (tCons (tCall (spRead K) [] E2 (tCons te tNil)) (tCons tv tNil))) σ H (.bl true) := fun H1 e1 Q q => by
    show tCall (spRead K) [] E2 (tCons te tNil) σ H1 (fun y H2 => tCons tv tNil σ H2 fun vs H3 => spSame K d (y :: vs ++ []) H3 Q E1)
    refine (ea_cons ht ea_nil : EvA (tCons te tNil) σ H [.str z]) H1 e1 _ fun H2 e2 => ?_
    obtain ⟨ts, r', x', bs', l1, l2, o, f⟩ := hr.r
    have ll := lexs_len _ _ _ _ l1
    refine ⟨z, ts, r', x', bs', e, rfl, by omega, l1, by omega, l2, o, f, fun y H3 e3 ty => ?_⟩
    refine hv H3 ((e1.trans e2).trans e3) _ fun H4 e4 => ⟨y, v, rfl, Sm.up (tr_sm (ty.keep (TupKeep.of e4)) (tv'.keep (TupKeep.of (((e1.trans e2).trans e3).trans e4))) hg) _ hd, fun H5 e5 => q H5 (((e2.trans e3).trans e4).trans e5)⟩
theorem sp_fits {σ : L2.St} {H : Hp} {te : TE} {z : Str} {E : XK} (hz : z.length ≤ 90000) (ht : Ev te σ H (.str z)) : ∀ Q : VK, (∀ (b : Bool) H1, Ex H H1 → (b = true → z.length ≤ 400) → Q (.bl b) H1) → tCall spFits [] E (tCons te tNil) σ H Q := fun Q q =>
  (ea_cons ht ea_nil : EvA (tCons te tNil) σ H [.str z]) H (Ex.refl H) _ fun H1 e1 => ⟨z, rfl, hz, fun b H2 e2 h => q b H2 (e1.trans e2) h⟩
theorem ok_asked (T : Txt w K mg fa fd cv) : FnOk P w K mg base CX0 90 (fa 55) (fd 55) ["e", "plan", "script", "at"] (spAsked K) := by
  have G_law_cell := ok_cell (P := P) (w := w) (base := base) T
  have G_law_digits := ok_digits (P := P) (w := w) (base := base) T
  have G_law_written := ok_lwritten (P := P) (w := w) (base := base) T 40
  have G_write_expression := ok_write_expression (P := P) (w := w) (base := base) T
  have G_law_fits := ok_lfits (P := P) (w := w) (base := base) T
  have G_law_same := ok_lsame (P := P) (w := w) (base := base) T 81
  have G_read_expression := ok_read (P := P) (w := w) (base := base) T
  have G_law_nodes := ok_lnodes (P := P) (w := w) (base := base) T 40
  have G_law_tokens := ok_ltokens (P := P) (w := w) (base := base) T 40
  have G_law_spaced := ok_lspaced (P := P) (w := w) (base := base) T
  refine T.d_law_asked.F.ok sc_law_asked (fun vs H Q E h => ?_) (fun cdv A outer s H vs Q E hr h => ?_)
  · obtain ⟨v, e, pl, sc, ps, ns, at_, rfl, _⟩ := h
    rfl
  · obtain ⟨v, e, pl, sc, ps, ns, at_, rfl, tv, tok, hpl, hps, hsc, hns, ha0, ha1, q⟩ := h
    refine ⟨_, pss_cons (ps_set (i := 4) sc_law_asked.nd rfl (Or.inl rfl) (pe_call G_law_written (by first | exact hr.mono (by decide) | exact hr.mono (by omega)) (by rfl) T.d_law_written.g T.d_law_written.k T.d_law_written.b .nil pass0 (pa_cons (pv 0) pa_nil)))
      (pss_cons (ps_set (i := 5) sc_law_asked.nd rfl (Or.inl rfl) (pe_call G_write_expression (by first | exact hr.mono (by decide) | exact hr.mono (by omega)) (by rfl) T.d_write_expression.g T.d_write_expression.k T.d_write_expression.b .nil pass0 (pa_cons (pv 0) pa_nil)))
      (pss_cons (ps_if (PW.pt (pw_or (pt_not (pt_val (pe_callB call_isi (by rfl) T.b_isinstance (by decide +kernel) (pa_cons (pv 5) (pa_cons (pe_bltn (v := .ty "str") (by rfl) T.b_str (by decide +kernel) rfl) pa_nil))))) (pw_or1 (pt_cmpR op_ne (pv 5) (pv 4) (nomark _))))) (pss_one (ps_ret pe_bl)) (pss_nil))
      (pss_cons (ps_if (PW.pt (pw_and (pt_val (pe_call G_law_fits (by first | exact hr.mono (by decide) | exact hr.mono (by omega)) (by rfl) T.d_law_fits.g T.d_law_fits.k T.d_law_fits.b .nil pass0 (pa_cons (pv 4) pa_nil))) (pw_and1 (pt_not (pt_val (pe_call G_law_same (by first | exact hr.mono (by decide) | exact hr.mono (by omega)) (by rfl) T.d_law_same.g T.d_law_same.k T.d_law_same.b .nil pass0 (pa_cons (pe_call G_read_expression (by first | exact hr.mono (by decide) | exact hr.mono (by omega)) (by rfl) T.d_read_expression.g T.d_read_expression.k T.d_read_expression.b .nil pass0 (pa_cons (pv 5) pa_nil)) (pa_cons (pv 0) pa_nil)))))))) (pss_one (ps_ret pe_bl)) (pss_nil))
      (pss_cons (ps_for PassesOwn.never rfl (pi_range1 (by rfl) T.b_range (pa_cons pe_int pa_nil)) (pg_name (i := 6) sc_law_asked.nd rfl (Or.inr rfl)) (pss_cons (ps_set (i := 7) sc_law_asked.nd rfl (Or.inl rfl) (pe_call G_law_digits (by first | exact hr.mono (by decide) | exact hr.mono (by omega)) (by rfl) T.d_law_digits.g T.d_law_digits.k T.d_law_digits.b .nil pass0 (pa_cons (pe_call G_law_cell (by first | exact hr.mono (by decide) | exact hr.mono (by omega)) (by rfl) T.d_law_cell.g T.d_law_cell.k T.d_law_cell.b .nil pass0 (pa_cons (pv 2) (pa_cons (pe_op op_add (pv 3) (pe_op op_mul pe_int (pv 6))) pa_nil))) (pa_cons (pe_op op_rep (pe_lst (pa_cons pe_int pa_nil)) (pe_call G_law_nodes (by first | exact hr.mono (by decide) | exact hr.mono (by omega)) (by rfl) T.d_law_nodes.g T.d_law_nodes.k T.d_law_nodes.b .nil pass0 (pa_cons (pv 0) pa_nil))) pa_nil))))
      (pss_cons (ps_setLc (i := 8) (own := [("digit", 11)]) (g := gName 11) rfl sc_law_asked.nd rfl rfl (sw_true rfl rfl rfl (by decide +kernel)) (pi_list (pv 7)) (blkOk_by (own := [("digit", 11)]) (N := N_law_asked) (sc := defScope s_law_asked) (by decide +kernel)) (fun _ _ _ _ _ => pg_name (i := 11) sc_law_asked.nd rfl (Or.inl rfl)) (fun _ _ _ _ _ => pts_nil) (fun _ _ _ _ _ => (pe_op op_mul (pe_ix (r := rIxL K) (by exact ix_list) (pe_lst (pa_cons pe_int (pa_cons pe_int (pa_cons pe_int (pa_cons pe_int (pa_cons pe_int (pa_cons pe_int (pa_cons pe_int (pa_cons pe_int pa_nil))))))))) (pv 11) (fun _ _ => rfl)) (pe_callTy call_int1 (by rfl) T.b_int PyProof.Rows.boot_int (pa_cons (pe_cmpR op_gt (pe_op op_add (pe_ix (r := rIxL K) (by exact ix_list) (pv 1) pe_int (fun _ _ => rfl)) (pv 6)) pe_int (nomark _)) pa_nil)))))
      (pss_cons (ps_set (i := 9) sc_law_asked.nd rfl (Or.inl rfl) (pe_call G_law_digits (by first | exact hr.mono (by decide) | exact hr.mono (by omega)) (by rfl) T.d_law_digits.g T.d_law_digits.k T.d_law_digits.b .nil pass0 (pa_cons (pe_call G_law_cell (by first | exact hr.mono (by decide) | exact hr.mono (by omega)) (by rfl) T.d_law_cell.g T.d_law_cell.k T.d_law_cell.b .nil pass0 (pa_cons (pv 2) (pa_cons (pe_op op_add (pe_op op_add (pv 3) pe_int) (pe_op op_mul pe_int (pv 6))) pa_nil))) (pa_cons (pe_op op_rep (pe_lst (pa_cons pe_int pa_nil)) pe_int) pa_nil))))
      (pss_cons (ps_setLc (i := 9) (own := [("digit", 11)]) (g := gName 11) rfl sc_law_asked.nd rfl rfl (sw_true rfl rfl rfl (by decide +kernel)) (pi_list (pv 9)) (blkOk_by (own := [("digit", 11)]) (N := N_law_asked) (sc := defScope s_law_asked) (by decide +kernel)) (fun _ _ _ _ _ => pg_name (i := 11) sc_law_asked.nd rfl (Or.inl rfl)) (fun _ _ _ _ _ => pts_nil) (fun _ _ _ _ _ => (pe_op op_mul (pe_ix (r := rIxL K) (by exact ix_list) (pe_lst (pa_cons pe_int (pa_cons pe_int (pa_cons pe_int (pa_cons (pe_ix (r := rIxL K) (by exact ix_list) (pe_lst (pa_cons pe_int (pa_cons pe_int pa_nil))) (pe_callTy call_int1 (by rfl) T.b_int PyProof.Rows.boot_int (pa_cons (pe_cmpR op_eq (pe_ix (r := rIxL K) (by exact ix_list) (pv 1) pe_int (fun _ _ => rfl)) pe_int (nomark _)) pa_nil)) (fun _ _ => rfl)) pa_nil))))) (pv 11) (fun _ _ => rfl)) (pe_callTy call_int1 (by rfl) T.b_int PyProof.Rows.boot_int (pa_cons (pe_or (pe_cmpR op_gt (pe_ix (r := rIxL K) (by exact ix_list) (pv 1) pe_int (fun _ _ => rfl)) pe_int (nomark _)) (pe_one (pe_cmpR op_gt (pv 6) pe_int (nomark _)))) pa_nil)))))
      (pss_cons (ps_set (i := 10) sc_law_asked.nd rfl (Or.inl rfl) (pe_call G_law_spaced (by first | exact hr.mono (by decide) | exact hr.mono (by omega)) (by rfl) T.d_law_spaced.g T.d_law_spaced.k T.d_law_spaced.b .nil pass0 (pa_cons (pe_ix ix_list (pe_call G_law_tokens (by first | exact hr.mono (by decide) | exact hr.mono (by omega)) (by rfl) T.d_law_tokens.g T.d_law_tokens.k T.d_law_tokens.b .nil pass0 (pa_cons (pv 0) (pa_cons pe_bl (pa_cons (pv 8) (pa_cons pe_int pa_nil))))) pe_int (fun _ _ => rfl)) (pa_cons (pv 9) pa_nil))))
      (pss_one (ps_if (PW.pt (pw_and (pt_val (pe_call G_law_fits (by first | exact hr.mono (by decide) | exact hr.mono (by omega)) (by rfl) T.d_law_fits.g T.d_law_fits.k T.d_law_fits.b .nil pass0 (pa_cons (pv 10) pa_nil))) (pw_and1 (pt_not (pt_val (pe_call G_law_same (by first | exact hr.mono (by decide) | exact hr.mono (by omega)) (by rfl) T.d_law_same.g T.d_law_same.k T.d_law_same.b .nil pass0 (pa_cons (pe_call G_read_expression (by first | exact hr.mono (by decide) | exact hr.mono (by omega)) (by rfl) T.d_read_expression.g T.d_read_expression.k T.d_read_expression.b .nil pass0 (pa_cons (pv 10) pa_nil)) (pa_cons (pv 0) pa_nil)))))))) (pss_one (ps_ret pe_bl)) (pss_nil)))))))))
      (pss_one (ps_ret (pe_cmpR op_eq (pe_call G_write_expression (by first | exact hr.mono (by decide) | exact hr.mono (by omega)) (by rfl) T.d_write_expression.g T.d_write_expression.k T.d_write_expression.b .nil pass0 (pa_cons (pv 0) pa_nil)) (pv 4) (nomark _)))))))), ?_⟩
    have esz := tok.s
    have edp := tok.d
    have eg := tok.fit.g
    have wl := Tr.wr_len eg
    have gp : ∀ i, i < ps.length → ∀ (σ : L2.St) H1, Ex H H1 → σ[1]? = some (some (.ref pl)) → Ev (tOp (rIxL K) (tVar 1) (tC (.int (i : Int)))) σ H1 (.int (ps.getD i 0)) := fun i hi σ H1 e1 hs => ev_op (ev_var hs) ev_c (rv_ixL (ex_l e1 hpl) (at_ints hi))
    refine q_asg (v := .str e.wr) (ev_call (ea_cons (ev_var rfl) ea_nil) fun H1 e1 Q1 q1 E1 => ⟨v, e, rfl, tv.keep (TupKeep.of e1), eg, by omega, edp, fun H2 e2 => q1 H2 e2⟩) fun H1 e1 => ?_
    refine q_asg (v := .str e.wr) (ev_call (ea_cons (ev_var rfl) ea_nil) fun H2 e2 Q1 q1 E1 => ⟨v, e, rfl, tv.keep (TupKeep.of (e1.trans e2)), eg, by omega, fun H3 e3 => q1 H3 e3⟩) fun H2 e2 => ?_
    have e12 := e1.trans e2
    refine q_when (b := false) (et_is (et_or (a := false) (b := false) (et_is (et_not (et_B (ev_isStr (ev_var rfl) ev_c (.nm e.wr)))) rfl) fun _ => et_is (et_test (ev_op (ev_var rfl) (ev_var rfl) rv_neS)) (by rw [decide_eq_true rfl]; rfl)) rfl) (fun h => nomatch h) (fun _ H3 e3 => ?_)
    have e13 := e12.trans e3
    refine q_never (sp_fits (by omega) (ev_var rfl)) (fun hz H4 e4 => read_same hz (wr_reads tok.fit.f) eg (by omega) (ev_var rfl) (ev_var rfl) (tv.keep (TupKeep.of (e13.trans e4)))) (fun H4 e4 => ?_)
    have e14 := e13.trans e4
    refine q_forR1 (n := 2) (ea_cons ev_c ea_nil) (by decide) (fun i σ' H' => ∃ (y6 y7 y8 y9 y10 : Option V), σ' = [some v, some (.ref pl), some (.ref sc), some (.int at_), some (.str e.wr), some (.str e.wr), y6, y7, y8, y9, y10, none] ∧ Ex H H') (fun H5 e5 => ⟨none, none, none, none, none, rfl, e14.trans e5⟩) (fun i σ' H' hi ⟨y6, y7, y8, y9, y10, hσ, e5⟩ => ?_) (fun σ' H' ⟨y6, y7, y8, y9, y10, hσ, e5⟩ => ?_)
    · subst hσ
      -- more
      refine q_asgLS (R := DigR (List.replicate e.size 8)) (elS_call (P := fun vs H5 => ∃ (c : Int) (p : Addr), vs = [.int c, .ref p] ∧ H5 p = some (.lst ((List.replicate e.size (8 : Int)).map V.int))) (eaH_weak (eaH_cons (S := fun v => ∃ i : Int, v = .int i) (evS_call (vs := [.ref sc, .int (at_ + 2 * (i : Int))]) (ea_cons (ev_var rfl) (ea_cons (ev_op (ev_var rfl) (ev_op ev_c (ev_var rfl) (rv_I (by unfold CMul; omega))) rv_I0) ea_nil)) (sp_cell (ex_l e5 hsc) hns (by omega) (by omega))) (eaH_consL (xs := (List.replicate e.size (8 : Int)).map V.int) (by
        rw [← rep_flatI]
        exact el_rep (k := (e.size : Int)) (xs := [.int 8]) (el_lst (ea_cons ev_c ea_nil) (by show 1 ≤ 100000; decide)) (ev_call (ea_cons (ev_var rfl) ea_nil) fun H6 e6 Q1 q1 E1 => ⟨v, e, rfl, tv.keep (TupKeep.of (e5.trans e6)), eg, edp, fun H7 e7 => q1 H7 e7⟩) (by omega) (by omega) (by show 1 * _ ≤ _; omega)) (eaH_of ea_nil (P := fun vs _ => vs = []) fun _ _ => rfl))) fun vs H6 ⟨v', r, h1, ⟨c, h2⟩, p, r', h3, h4, h5⟩ => ⟨c, p, by rw [h1, h2, h3, h5], h4⟩) fun vs H6 e6 ⟨c, p, h1, h2⟩ => by subst h1; exact sp_digits (sq_of h2) (by rw [List.length_replicate]; omega) fun x hx => by rw [List.eq_of_mem_replicate hx]; decide) fun xs1 p1 H6 hx1 hp1 e6 h6 => ?_
      obtain ⟨r1, rfl, l1, b1⟩ := hx1
      rw [List.length_replicate] at l1
      have e56 := e5.trans e6
      -- pairs
      refine q_asgLS (R := fun xs => ∃ rs : List Int, xs = rs.map V.int ∧ rs.length = e.size ∧ ∀ r ∈ rs, 0 ≤ r ∧ r ≤ 2) (elS_of (xs := (r1.map fun d => ([0, 0, 0, 0, 0, 0, 1, 2] : List Int).getD d.toNat 0 * (if decide (ps.getD 7 0 + (i : Int) > 0) then 1 else 0)).map V.int) ?_ ⟨_, rfl, by rw [List.length_map, l1], ?_⟩) fun xs2 p2 H7 hx2 hp2 e7 h7 => ?_
      · refine el_lcLv (ev_var rfl) (sq_of h6) (by rw [List.length_map]; omega) (fun _ => rfl) (by rw [List.length_map, List.length_map, List.length_map]) fun k x H8 e8 hi' => ?_
        rw [List.getElem?_map] at hi'
        cases g : r1[k]? with
        | none => rw [g] at hi'; cases hi'
        | some d =>
          rw [g] at hi'
          cases hi'
          have hk : k < e.size := by have := (List.getElem?_eq_some_iff.mp g).1; omega
          have bd := b1 k 8 (by rw [List.getElem?_replicate, if_pos hk])
          rw [List.getD_eq_getElem?_getD, g] at bd
          have bd : 0 ≤ d ∧ d < 8 := bd
          refine ev_is (ev_op (ev_opL1 (xs := ([0, 0, 0, 0, 0, 0, 1, 2] : List Int).map V.int) (el_lst (ea_cons ev_c (ea_cons ev_c (ea_cons ev_c (ea_cons ev_c (ea_cons ev_c (ea_cons ev_c (ea_cons ev_c (ea_cons ev_c ea_nil)))))))) (by show 8 ≤ 100000; decide)) (fun H9 e9 => ev_var rfl) fun pp H9 hpp e9 => rv_ixL (sq_of hpp) (at_intsI bd.1 (by show d < 8; omega))) (ev_cb (ea_cons (ev_op (ev_op (gp 7 (by omega) _ H8 (e56.trans e8) rfl) (ev_var rfl) rv_I0) ev_c rv_I0) ea_nil) rc_intB) (rv_I (.inr (by split <;> decide)))) ?_
          rw [mm_getD g]
      · intro r hr
        obtain ⟨d, hd, rfl⟩ := List.mem_map.mp hr
        obtain ⟨k, g⟩ := List.getElem?_of_mem hd
        have hk : k < e.size := by have := (List.getElem?_eq_some_iff.mp g).1; omega
        have bd := b1 k 8 (by rw [List.getElem?_replicate, if_pos hk])
        rw [List.getD_eq_getElem?_getD, g] at bd
        have bd : 0 ≤ d ∧ d < 8 := bd
        have := tab8 d.toNat (by omega)
        split <;> omega
      obtain ⟨r2, rfl, l2, b2⟩ := hx2
      have e57 := e56.trans e7
      -- gaps
      refine q_asgLS (R := DigR (List.replicate 60 4)) (elS_call (P := fun vs H5 => ∃ (c : Int) (p : Addr), vs = [.int c, .ref p] ∧ H5 p = some (.lst ((List.replicate 60 (4 : Int)).map V.int))) (eaH_weak (eaH_cons (S := fun v => ∃ i : Int, v = .int i) (evS_call (vs := [.ref sc, .int (at_ + 1 + 2 * (i : Int))]) (ea_cons (ev_var rfl) (ea_cons (ev_op (ev_op (ev_var rfl) ev_c rv_I0) (ev_op ev_c (ev_var rfl) (rv_I (by unfold CMul; omega))) rv_I0) ea_nil)) (sp_cell (ex_l e57 hsc) hns (by omega) (by omega))) (eaH_consL (xs := (List.replicate 60 (4 : Int)).map V.int) (by
        rw [← rep_flatI]
        exact el_rep (k := 60) (xs := [.int 4]) (el_lst (ea_cons ev_c ea_nil) (by show 1 ≤ 100000; decide)) ev_c (by decide) (by decide) (by show 1 * 60 ≤ 100000; decide)) (eaH_of ea_nil (P := fun vs _ => vs = []) fun _ _ => rfl))) fun vs H6 ⟨v', r, h1, ⟨c, h2⟩, p, r', h3, h4, h5⟩ => ⟨c, p, by rw [h1, h2, h3, h5], h4⟩) fun vs H6 e6 ⟨c, p, h1, h2⟩ => by subst h1; exact sp_digits (sq_of h2) (by decide) fun x hx => by rw [List.eq_of_mem_replicate hx]; decide) fun xs3 p3 H8 hx3 hp3 e8 h8 => ?_
      obtain ⟨r3, rfl, l3, b3⟩ := hx3
      rw [List.length_replicate] at l3
      have e58 := e57.trans e8
      obtain ⟨cc, hcc, hcv⟩ : ∃ cc : Int, (if decide (ps.getD 8 0 = 2) then (3 : Int) else 0) = cc ∧ (cc = 0 ∨ cc = 3) := ⟨_, rfl, by split <;> simp⟩
      refine q_asgLS (R := fun xs => ∃ rs : List Int, xs = rs.map V.int ∧ rs.length = 60 ∧ ∀ r ∈ rs, 0 ≤ r ∧ r ≤ 3) (elS_of (xs := (r3.map fun d => ([0, 1, 0, cc] : List Int).getD d.toNat 0 * (if (decide (ps.getD 8 0 > 0) || decide ((i : Int) > 0)) then 1 else 0)).map V.int) ?_ ⟨_, rfl, by rw [List.length_map, l3], ?_⟩) fun xs4 p4 H9 hx4 hp4 e9 h9 => ?_
      · refine el_lcLv (ev_var rfl) (sq_of h8) (by rw [List.length_map]; omega) (fun _ => rfl) (by rw [List.length_map, List.length_map, List.length_map]) fun k x H9 e9 hi' => ?_
        rw [List.getElem?_map] at hi'
        cases g : r3[k]? with
        | none => rw [g] at hi'; cases hi'
        | some d =>
          rw [g] at hi'
          cases hi'
          have hk : k < 60 := by have := (List.getElem?_eq_some_iff.mp g).1; omega
          have bd := b3 k 4 (by rw [List.getElem?_replicate, if_pos hk])
          rw [List.getD_eq_getElem?_getD, g] at bd
          have bd : 0 ≤ d ∧ d < 4 := bd
          have e59 := e58.trans e9
          refine ev_is (ev_op (ev_opL1 (xs := ([0, 1, 0, cc] : List Int).map V.int) (el_lst (ea_cons ev_c (ea_cons ev_c (ea_cons ev_c (ea_cons (ev_opL1 (xs := [.int 0, .int 3]) (y := .int (if decide (ps.getD 8 0 = 2) then 1 else 0)) (el_lst (ea_cons ev_c (ea_cons ev_c ea_nil)) (by show 2 ≤ 100000; decide)) (fun H10 e10 => ev_cb (ea_cons (ev_op (gp 8 (by omega) _ H10 (e59.trans e10) rfl) ev_c rv_eqI) ea_nil) rc_intB) fun pp H10 hpp e10 => rv_ixL (v := .int cc) (sq_of hpp) (by
            rw [← hcc]
            by_cases h : ps.getD 8 0 = 2
            · rw [decide_eq_true h]
              exact at_of (j := 1) rfl rfl
            · rw [decide_eq_false h]
              exact at_of (j := 0) rfl rfl)) ea_nil)))) (by show 4 ≤ 100000; decide)) (fun H10 e10 => ev_var rfl) fun pp H10 hpp e10 => rv_ixL (sq_of hpp) (at_intsI bd.1 (by show d < 4; omega))) (ev_cb (ea_cons (ev_orV (ev_op (gp 8 (by omega) _ H9 e59 rfl) ev_c rv_I0) fun _ => ev_op (ev_var rfl) ev_c rv_I0) ea_nil) rc_intB) (rv_I (.inr (by split <;> decide)))) ?_
          rw [mm_getD g]
      · intro r hr
        obtain ⟨d, hd, rfl⟩ := List.mem_map.mp hr
        obtain ⟨k, g⟩ := List.getElem?_of_mem hd
        have hk : k < 60 := by have := (List.getElem?_eq_some_iff.mp g).1; omega
        have bd := b3 k 4 (by rw [List.getElem?_replicate, if_pos hk])
        rw [List.getD_eq_getElem?_getD, g] at bd
        have bd : 0 ≤ d ∧ d < 4 := bd
        have := tab4 cc hcv d.toNat (by omega)
        split <;> omega
      obtain ⟨r4, rfl, l4, b4⟩ := hx4
      have e59 := e58.trans e9
      have h7' := (e8.trans e9) _ _ h7
      -- the text
      refine q_asgSH (R := fun y _ => ∃ z : Str, y = .str z ∧ Reads z e ∧ z.length ≤ 90000) (fun H10 e10 Q10 q10 => ?_) fun y H10 ⟨z, hy, hrz, hzl⟩ e10 => ?_
      · show tCall (spTokens K 40) [] E0 (tCons (tVar 0) (tCons (tC (.bl false)) (tCons (tVar 8) (tCons (tC (.int 0)) tNil)))) [some v, some (.ref pl), some (.ref sc), some (.int at_), some (.str e.wr), some (.str e.wr), some (.int (i : Int)), some (.ref p1), some (.ref p2), some (.ref p4), y10, none] H10 (fun x H11 => tC (.int 0) [some v, some (.ref pl), some (.ref sc), some (.int at_), some (.str e.wr), some (.str e.wr), some (.int (i : Int)), some (.ref p1), some (.ref p2), some (.ref p4), y10, none] H11 fun y H12 => rIxL K x y H12 fun v H13 => tCons (tVar 9) tNil [some v, some (.ref pl), some (.ref sc), some (.int at_), some (.str e.wr), some (.str e.wr), some (.int (i : Int)), some (.ref p1), some (.ref p2), some (.ref p4), y10, none] H13 fun vs H14 => spSpaced K (v :: vs ++ []) H14 Q10 E0)
        refine (ea_cons (ev_var rfl) (ea_cons ev_c (ea_cons (ev_var rfl) (ea_cons ev_c ea_nil))) : EvA (tCons (tVar 0) (tCons (tC (.bl false)) (tCons (tVar 8) (tCons (tC (.int 0)) tNil)))) [some v, some (.ref pl), some (.ref sc), some (.int at_), some (.str e.wr), some (.str e.wr), some (.int (i : Int)), some (.ref p1), some (.ref p2), some (.ref p4), y10, none] H9 [v, .bl false, .ref p2, .int 0]) H10 e10 _ fun H11 e11 => ⟨v, e, false, p2, r2, 0, rfl, tv.keep (TupKeep.of ((e59.trans e10).trans e11)), eg, tok.fit.f, edp, sq_of ((e10.trans e11) _ _ h7'), b2, by omega, by omega, fun bx ts pt qt H12 _ ph tl hpt e12' hqt hpt' => ?_⟩
        refine ⟨pt, [.ref qt, .int ((0 + e.size : Nat) : Int)], 0, .ref qt, rfl, rfl, sq_of hpt', atI_zero rfl, ?_⟩
        have pk := ph_tok ph
        refine (ea_cons (ev_var rfl) ea_nil : EvA (tCons (tVar 9) tNil) _ H9 [.ref p4]) H12 ((e10.trans e11).trans e12') _ fun H13 e13' => ⟨qt, p4, ts, r4, rfl, sq_of (e13' _ _ hqt), sq_of ((((e10.trans e11).trans e12').trans e13') _ _ h9), ?_, pk.ok, by omega, by omega, by omega, b4, fun z L kk H14 hz hL hg hzl e14' => q10 _ H14 ⟨z, rfl, reads_of ph hL hz hg, by omega⟩ (((e11.trans e12').trans e13').trans e14')⟩
        obtain ⟨t, r, et, _⟩ := pk.head
        rw [et]
        exact List.cons_ne_nil _ _
      · subst hy
        have e510 := e59.trans e10
        exact s_never (sp_fits hzl (ev_var rfl)) (fun hz H11 e11 => read_same hz hrz eg (by omega) (ev_var rfl) (ev_var rfl) (tv.keep (TupKeep.of (e510.trans e11)))) (fun H11 e11 => ⟨_, _, _, _, _, rfl, e510.trans e11⟩)
    · subst hσ
      exact s_ret (ev_is (ev_op (ev_call (ea_cons (ev_var rfl) ea_nil) fun H6 e6 Q1 q1 E1 => ⟨v, e, rfl, tv.keep (TupKeep.of (e5.trans e6)), eg, by omega, fun H7 e7 => q1 H7 e7⟩) (ev_var rfl) rv_eqS) (by rw [decide_eq_true rfl])) fun H6 e6 => q H6 (e5.trans e6)
end


/-! the law of expression texts -/
def spLaw (K : PySem.W.Frag) : Sp := fun vs H Q _ => ∃ (a : Addr) (ns : List Int), vs = [.ref a] ∧ SqL K H a (ns.map V.int) ∧ ns.length ≤ 63 ∧ ∀ H', Q (.bl true) H'
def sizes13 : List Int := [16, 30, 100, 400, 4, 39, 2, 3, 3, 3, 4, 400, 400]
def own4L : List Str := ["answer", "finger", "line", "mark"]
theorem own4L_ok : ∀ z ∈ own4L, z ∈ own4 := by decide +kernel
def rowS (n : Nat) : List Int := (List.replicate n ([28, 1999] : List Int)).flatten
theorem rowS_len (n : Nat) : (rowS n).length = 2 * n := by
  unfold rowS
  rw [List.length_flatten, List.map_replicate, List.sum_replicate_nat]
  show n * 2 = _
  omega
theorem rowS_all (n : Nat) : ∀ x ∈ rowS n, 0 < x ∧ x < 1000000 := fun x hx => by
  obtain ⟨l, hl, hx⟩ := List.mem_flatten.mp hx
  rw [List.eq_of_mem_replicate hl] at hx
  have : ∀ x ∈ ([28, 1999] : List Int), 0 < x ∧ x < 1000000 := by decide
  exact this x hx
theorem rowS_at : ∀ (n i : Nat), i < n → (rowS n)[2 * i]? = some 28 ∧ (rowS n)[2 * i + 1]? = some 1999
  | n + 1, 0, _ => ⟨rfl, rfl⟩
  | n + 1, i + 1, h => rowS_at n i (by omega)
theorem rowOk_of {n : Nat} {rs : List Int} (hl : rs.length = (rowS n).length) (hb : ∀ (i : Nat) (s : Int), (rowS n)[i]? = some s → 0 ≤ rs.getD i 0 ∧ rs.getD i 0 < s) : RowOk rs n :=
  ⟨by rw [hl, rowS_len], fun i hi => hb _ 28 (rowS_at n i hi).1, fun i hi => hb _ 1999 (rowS_at n i hi).2⟩
section
variable {K : PySem.W.Frag} {σ : L2.St} {H : Hp} {t0 t1 t2 ti te : TE} {tz : TS} {D : L2.Ends}
theorem ex_pick3 {xs0 xs1 xs2 : List V} {j : Nat} (h0 : EvX t0 σ H xs0) (h1 : EvX t1 σ H xs1) (h2 : EvX t2 σ H xs2) (hi : Ev ti σ H (.int (j : Int))) (hj : j < 3) : EvX (tOp (rIxL K) (tLst (tCons t0 (tCons t1 (tCons t2 tNil)))) ti) σ H (if j = 0 then xs0 else if j = 1 then xs1 else xs2) := fun H1 e Q q =>
  h0 H1 e _ fun a H2 e2 g2 => h1 H2 (e.trans e2) _ fun c H3 e3 g3 => h2 H3 ((e.trans e2).trans e3) _ fun d H4 e4 g4 => ⟨(by show 3 ≤ sizeLine; decide), fun p hp => hi _ ((((e.trans e2).trans e3).trans e4).trans (Ex.new hp)) _ fun H5 e5 => by
    have gp : H5 p = some (.lst [.ref a, .ref c, .ref d]) := e5 _ _ upd_same
    have ex := (((e2.trans e3).trans e4).trans (Ex.new hp)).trans e5
    match j, hj with
    | 0, _ => exact ⟨p, _, 0, .ref a, rfl, rfl, sq_of gp, atI_zero rfl, q a H5 ex ((((e3.trans e4).trans (Ex.new hp)).trans e5) _ _ g2)⟩
    | 1, _ => exact ⟨p, _, 1, .ref c, rfl, rfl, sq_of gp, at_of (j := 1) rfl rfl, q c H5 ex (((e4.trans (Ex.new hp)).trans e5) _ _ g3)⟩
    | 2, _ => exact ⟨p, _, 2, .ref d, rfl, rfl, sq_of gp, at_of (j := 2) rfl rfl, q d H5 ex (((Ex.new hp).trans e5) _ _ g4)⟩⟩
theorem q_asgLH {i : Nat} {R : List V → Hp → Prop} (h : EvLH te σ H R) (k : ∀ p ws H1, H p = none → Ex H H1 → H1 p = some (.lst ws) → R ws H1 → tz D (σ.set i (some (.ref p))) H1) : tSeq (tAsg te (gName i)) tz D σ H := h H (Ex.refl H) _ fun p ws H1 hp e h1 r => k p ws H1 hp e h1 r
end
def TreesAt (K : PySem.W.Frag) (H : Hp) (v : V) : Prop := ∃ p ys fs, v = .ref p ∧ H p = some (.lst ys) ∧ TrsAt K H ys fs ∧ (∀ e ∈ fs, TreeOk e) ∧ 0 < ys.length
section
variable {P : Program} {w : World} {K : PySem.W.Frag} {mg : Str → Option Value} {base : Heap} {fa : Nat → Addr} {fd : Nat → FuncData} {cv : Nat → Value}
theorem ok_law (T : Txt w K mg fa fd cv) : FnOk P w K mg base CX0 91 (fa 56) (fd 56) ["script"] (spLaw K) := by
  have G_law_cell := ok_cell (P := P) (w := w) (base := base) T
  have G_law_digits := ok_digits (P := P) (w := w) (base := base) T
  have G_law_names := ok_names (P := P) (w := w) (base := base) T
  have G_law_chain := ok_chain (P := P) (w := w) (base := base) T
  have G_law_trees := ok_trees (P := P) (w := w) (base := base) T
  have G_law_asked := ok_asked (P := P) (w := w) (base := base) T
  refine T.d_law.F.ok sc_law (fun vs H Q E h => ?_) (fun cdv A outer s H vs Q E hr h => ?_)
  · obtain ⟨a, ns, rfl, _⟩ := h
    rfl
  · obtain ⟨a, ns, rfl, hS, hn, q⟩ := h
    refine ⟨_, pss_cons (ps_set (i := 1) sc_law.nd rfl (Or.inl rfl) (pe_call G_law_digits (by first | exact hr.mono (by decide) | exact hr.mono (by omega)) (by rfl) T.d_law_digits.g T.d_law_digits.k T.d_law_digits.b .nil pass0 (pa_cons (pe_call G_law_cell (by first | exact hr.mono (by decide) | exact hr.mono (by omega)) (by rfl) T.d_law_cell.g T.d_law_cell.k T.d_law_cell.b .nil pass0 (pa_cons (pv 0) (pa_cons pe_int pa_nil))) (pa_cons (pe_lst (pa_cons pe_int (pa_cons pe_int (pa_cons pe_int (pa_cons pe_int (pa_cons pe_int (pa_cons pe_int (pa_cons pe_int (pa_cons pe_int (pa_cons pe_int (pa_cons pe_int (pa_cons pe_int (pa_cons pe_int (pa_cons pe_int pa_nil)))))))))))))) pa_nil))))
      (pss_cons (ps_set (i := 2) sc_law.nd rfl (Or.inl rfl) (pe_call G_law_names (by first | exact hr.mono (by decide) | exact hr.mono (by omega)) (by rfl) T.d_law_names.g T.d_law_names.k T.d_law_names.b .nil pass0 (pa_cons (pe_call G_law_cell (by first | exact hr.mono (by decide) | exact hr.mono (by omega)) (by rfl) T.d_law_cell.g T.d_law_cell.k T.d_law_cell.b .nil pass0 (pa_cons (pv 0) (pa_cons pe_int pa_nil))) (pa_cons pe_int pa_nil))))
      (pss_cons (ps_set (i := 3) sc_law.nd rfl (Or.inl rfl) (pe_lst (pa_cons pe_str (pa_cons pe_str (pa_cons pe_str (pa_cons pe_str pa_nil))))))
      (pss_cons (ps_set (i := 4) sc_law.nd rfl (Or.inl rfl) (pe_op op_cat (pe_slice sl_list (pv 2) po_none (po_some pe_int)) (pe_ix ix_list (pe_lst (pa_cons (pe_lst pa_nil) (pa_cons (pv 3) (pa_cons (pe_lst (pa_cons (pe_ix ix_list (pv 3) (pe_ix ix_list (pv 1) pe_int (fun _ _ => rfl)) (fun _ _ => rfl)) pa_nil)) pa_nil)))) (pe_ix ix_list (pv 1) pe_int (fun _ _ => rfl)) (fun _ _ => rfl))))
      (pss_cons (ps_set (i := 5) sc_law.nd rfl (Or.inr rfl) (pe_ix ix_list (pe_lst (pa_cons (pe_slice sl_list (pv 2) (po_some pe_int) po_none) (pa_cons (pe_slice sl_list (pv 2) po_none (po_some pe_int)) pa_nil))) (pe_ix ix_list (pv 1) pe_int (fun _ _ => rfl)) (fun _ _ => rfl)))
      (pss_cons (ps_setLc (i := 6) (own := [("k", 9)]) (g := gName 9) rfl sc_law.nd rfl rfl (sw_true rfl rfl rfl (by decide +kernel)) (pi_range1 (by rfl) T.b_range (pa_cons pe_int pa_nil)) (blkOk_by (own := [("k", 9)]) (N := N_law) (sc := defScope s_law) (by decide +kernel)) (fun _ _ _ _ _ => pg_name (i := 9) sc_law.nd rfl (Or.inl rfl)) (fun _ _ _ _ _ => pts_nil) (fun _ _ _ _ _ => (pe_tup (pa_cons (pe_ix (r := rIxL K) (by exact ix_list) (pv 5) (pv 9) (fun _ _ => rfl)) (pa_cons (pv 9) pa_nil)))))
      (pss_cons (ps_set (i := 7) sc_law.nd rfl (Or.inl rfl) (pe_ix ix_list (pe_lst (pa_cons (pe_op op_add pe_int (pe_ix ix_list (pv 1) pe_int (fun _ _ => rfl))) (pa_cons (pe_op op_add pe_int (pe_ix ix_list (pv 1) pe_int (fun _ _ => rfl))) (pa_cons (pe_op op_add pe_int (pe_ix ix_list (pv 1) pe_int (fun _ _ => rfl))) (pa_cons (pe_op op_add pe_int (pe_ix ix_list (pv 1) pe_int (fun _ _ => rfl))) pa_nil))))) (pe_callB (call_min2 rfl) (by rfl) T.b_min (by decide +kernel) (pa_cons pe_int (pa_cons (pe_ix ix_list (pv 1) pe_int (fun _ _ => rfl)) pa_nil))) (fun _ _ => rfl)))
      (pss_cut (ps_if (pt_cmpR op_eq (pe_ix ix_list (pv 1) pe_int (fun _ _ => rfl)) pe_int (nomark _)) (pss_one (ps_set (i := 8) sc_law.nd rfl (Or.inl rfl) (pe_call G_law_chain (by first | exact hr.mono (by decide) | exact hr.mono (by omega)) (by rfl) T.d_law_chain.g T.d_law_chain.k T.d_law_chain.b .nil pass0 (pa_cons (pe_call G_law_digits (by first | exact hr.mono (by decide) | exact hr.mono (by omega)) (by rfl) T.d_law_digits.g T.d_law_digits.k T.d_law_digits.b .nil pass0 (pa_cons (pe_call G_law_cell (by first | exact hr.mono (by decide) | exact hr.mono (by omega)) (by rfl) T.d_law_cell.g T.d_law_cell.k T.d_law_cell.b .nil pass0 (pa_cons (pv 0) (pa_cons pe_int pa_nil))) (pa_cons (pe_op op_rep (pe_lst (pa_cons pe_int (pa_cons pe_int pa_nil))) (pe_op op_add pe_int (pe_ix ix_list (pv 1) pe_int (fun _ _ => rfl)))) pa_nil))) (pa_cons (pv 4) (pa_cons (pv 6) (pa_cons (pe_cmpR op_gt (pe_ix ix_list (pv 1) pe_int (fun _ _ => rfl)) pe_int (nomark _)) pa_nil))))))) (pss_one (ps_set (i := 8) sc_law.nd rfl (Or.inl rfl) (pe_call G_law_trees (by first | exact hr.mono (by decide) | exact hr.mono (by omega)) (by rfl) T.d_law_trees.g T.d_law_trees.k T.d_law_trees.b .nil pass0 (pa_cons (pe_call G_law_digits (by first | exact hr.mono (by decide) | exact hr.mono (by omega)) (by rfl) T.d_law_digits.g T.d_law_digits.k T.d_law_digits.b .nil pass0 (pa_cons (pe_call G_law_cell (by first | exact hr.mono (by decide) | exact hr.mono (by omega)) (by rfl) T.d_law_cell.g T.d_law_cell.k T.d_law_cell.b .nil pass0 (pa_cons (pv 0) (pa_cons pe_int pa_nil))) (pa_cons (pe_op op_rep (pe_lst (pa_cons pe_int (pa_cons pe_int pa_nil))) (pv 7)) pa_nil))) (pa_cons (pv 4) (pa_cons (pv 6) (pa_cons (pe_cmpR op_gt (pe_ix ix_list (pv 1) pe_int (fun _ _ => rfl)) pe_int (nomark _)) pa_nil))))))))
      (pss_cons (ps_if (pt_not (pt_val (pe_call G_law_asked (by first | exact hr.mono (by decide) | exact hr.mono (by omega)) (by rfl) T.d_law_asked.g T.d_law_asked.k T.d_law_asked.b .nil pass0 (pa_cons (pe_ix ix_list (pv 8) (pe_un un_neg pe_int) (fun _ _ => rfl)) (pa_cons (pv 1) (pa_cons (pv 0) (pa_cons pe_int pa_nil))))))) (pss_one (ps_ret pe_bl)) (pss_nil))
      (pss_cons (ps_if (pt_not (pt_val (pe_call G_law_asked (by first | exact hr.mono (by decide) | exact hr.mono (by omega)) (by rfl) T.d_law_asked.g T.d_law_asked.k T.d_law_asked.b .nil pass0 (pa_cons (pe_ix ix_list (pv 8) (pe_op op_mod (pe_callTy call_int1 (by rfl) T.b_int PyProof.Rows.boot_int (pa_cons (pe_ix ix_list (pv 1) pe_int (fun _ _ => rfl)) pa_nil)) (pe_callB call_len_seq (by rfl) T.b_len PySem.boot_len (pa_cons (pv 8) pa_nil))) (fun _ _ => rfl)) (pa_cons (pv 1) (pa_cons (pv 0) (pa_cons pe_int pa_nil))))))) (pss_one (ps_ret pe_bl)) (pss_nil))
      (pss_one (ps_ret (pe_call G_law_asked (by first | exact hr.mono (by decide) | exact hr.mono (by omega)) (by rfl) T.d_law_asked.g T.d_law_asked.k T.d_law_asked.b .nil pass0 (pa_cons (pe_ix ix_list (pv 8) (pe_op op_mod (pe_callTy call_int1 (by rfl) T.b_int PyProof.Rows.boot_int (pa_cons (pe_ix ix_list (pv 1) pe_int (fun _ _ => rfl)) pa_nil)) (pe_callB call_len_seq (by rfl) T.b_len PySem.boot_len (pa_cons (pv 8) pa_nil))) (fun _ _ => rfl)) (pa_cons (pv 1) (pa_cons (pv 0) (pa_cons pe_int pa_nil)))))))))))))))), ?_⟩
    have cellS : ∀ (k : Int) (σ : L2.St) (H1 : Hp), 0 ≤ k → k < 1000 → Ex H H1 → σ[0]? = some (some (.ref a)) → EvS (tCall (spCell K) [] E0 (tCons (tVar 0) (tCons (tC (.int k)) tNil))) σ H1 (fun v => ∃ i : Int, v = .int i) := fun k σ H1 h0 h1 e1 hs => evS_call (vs := [.ref a, .int k]) (ea_cons (ev_var hs) (ea_cons ev_c ea_nil)) (sp_cell (ex_l e1 hS) hn h0 h1)
    -- plan
    refine q_asgLS (R := DigR sizes13) (elS_call (P := fun vs H5 => ∃ (c : Int) (p : Addr), vs = [.int c, .ref p] ∧ H5 p = some (.lst (sizes13.map V.int))) (eaH_weak (eaH_cons (S := fun v => ∃ i : Int, v = .int i) (cellS 0 _ H (by decide) (by decide) (Ex.refl _) rfl) (eaH_consL (xs := sizes13.map V.int) (el_lst (ea_cons ev_c (ea_cons ev_c (ea_cons ev_c (ea_cons ev_c (ea_cons ev_c (ea_cons ev_c (ea_cons ev_c (ea_cons ev_c (ea_cons ev_c (ea_cons ev_c (ea_cons ev_c (ea_cons ev_c (ea_cons ev_c ea_nil))))))))))))) (by show 13 ≤ 100000; decide)) (eaH_of ea_nil (P := fun vs _ => vs = []) fun _ _ => rfl))) fun vs H6 ⟨v', r, h1, ⟨c, h2⟩, p, r', h3, h4, h5⟩ => ⟨c, p, by rw [h1, h2, h3, h5], h4⟩) fun vs H6 e6 ⟨c, p, h1, h2⟩ => by subst h1; exact sp_digits (sq_of h2) (by decide) (by decide)) fun xs pl H1 hx hpl e1 h1 => ?_
    obtain ⟨ps, rfl, psl, psb⟩ := hx
    have psl : ps.length = 13 := psl
    have gp : ∀ (i : Nat) (σ : L2.St) (H2 : Hp), i < 13 → Ex H1 H2 → σ[1]? = some (some (.ref pl)) → Ev (tOp (rIxL K) (tVar 1) (tC (.int (i : Int)))) σ H2 (.int (ps.getD i 0)) := fun i σ H2 hi e2 hs => ev_op (ev_var hs) ev_c (rv_ixL (sq_of (e2 _ _ h1)) (at_ints (by omega)))
    have b0 := psb 0 16 rfl
    have b1 := psb 1 30 rfl
    have b2 := psb 2 100 rfl
    have b3 := psb 3 400 rfl
    have b4 := psb 4 4 rfl
    have b5 := psb 5 39 rfl
    have b6 := psb 6 2 rfl
    have b9 := psb 9 3 rfl
    have b10 := psb 10 4 rfl
    -- words
    refine q_asgSH (R := fun v H => ∃ (p : Addr) (zs : List Str), v = .ref p ∧ H p = some (.lst (zs.map V.str)) ∧ zs.length = 8 ∧ ∀ n ∈ zs, isName n = true) (fun H10 e10 Q10 q10 => cellS 1 _ H1 (by decide) (by decide) e1 rfl H10 e10 _ fun v H11 ⟨i, hv⟩ e11 => by
      subst hv
      exact ⟨i, 8, rfl, by decide, fun zs p H12 h1 _ h2 _ e12 h3 => q10 _ H12 ⟨p, zs, rfl, h3, h1, h2⟩ (e11.trans e12)⟩) fun v H2 ⟨pw, zs, hv, hpw, zl, zok⟩ e2 => ?_
    subst hv
    have zok' : ∀ n ∈ zs, nmOk n := fun n hn => .inl (zok n hn)
    -- own
    refine q_asgL (xs := own4L.map V.str) (el_lst (ea_cons ev_c (ea_cons ev_c (ea_cons ev_c (ea_cons ev_c ea_nil)))) (by show 4 ≤ 100000; decide)) fun po H3 hpo e3 h3 => ?_
    have e12 := e1.trans e2
    have e13 := e12.trans e3
    have hpw3 := e3 _ _ hpw
    -- names
    obtain ⟨j9, hj9, j9l⟩ : ∃ j : Nat, ps.getD 9 0 = (j : Int) ∧ j < 3 := ⟨(ps.getD 9 0).toNat, by omega, by omega⟩
    obtain ⟨j10, hj10, j10l⟩ : ∃ j : Nat, ps.getD 10 0 = (j : Int) ∧ j < 4 := ⟨(ps.getD 10 0).toNat, by omega, by omega⟩
    have hnm : ∃ nms : List Str, (zs.map V.str).take 4 ++ (if j9 = 0 then [] else if j9 = 1 then own4L.map V.str else [.str (own4L.getD j10 "")]) = nms.map V.str ∧ 0 < nms.length ∧ nms.length ≤ 8 ∧ ∀ n ∈ nms, nmOk n := by
      have tk : ∀ n ∈ zs.take 4, nmOk n := fun n hn => zok' n (List.mem_of_mem_take hn)
      have lt : (zs.take 4).length = 4 := by rw [List.length_take]; omega
      have own : ∀ z ∈ own4L, nmOk z := fun z hz => .inr (own4L_ok z hz)
      by_cases h0 : j9 = 0
      · exact ⟨zs.take 4, by rw [if_pos h0, List.map_take, List.append_nil], by omega, by omega, tk⟩
      · by_cases h1 : j9 = 1
        · refine ⟨zs.take 4 ++ own4L, by rw [if_neg h0, if_pos h1, List.map_append, List.map_take], by rw [List.length_append]; omega, by rw [List.length_append, lt]; decide, fun n hn => ?_⟩
          rcases List.mem_append.mp hn with hn | hn
          · exact tk n hn
          · exact own n hn
        · refine ⟨zs.take 4 ++ [own4L.getD j10 ""], by rw [if_neg h0, if_neg h1, List.map_append, List.map_take]; rfl, by rw [List.length_append]; exact Nat.succ_pos _, by rw [List.length_append, lt]; show 4 + 1 ≤ 8; decide, fun n hn => ?_⟩
          rcases List.mem_append.mp hn with hn | hn
          · exact tk n hn
          · rw [List.mem_singleton.mp hn, List.getD_eq_getElem?_getD, List.getElem?_eq_getElem (show j10 < own4L.length from j10l)]
            exact own _ (List.getElem_mem _)
    obtain ⟨nms, hnms, nl0, nl8, nok⟩ := hnm
    refine q_asgL (xs := nms.map V.str) (by
      rw [← hnms]
      exact el_catX (ex_new (by
        rw [← cutV_take (xs := zs.map V.str) (n := 4) (by rw [List.length_map]; omega)]
        exact el_sl (ev_var rfl) eo_none (eo_some ev_c) (sq_of hpw3))) (ex_pick3 (j := j9) (ex_new (el_lst ea_nil (by decide))) (ex_old (ev_var rfl) h3) (ex_new (el_lst (vs := [.str (own4L.getD j10 "")]) (ea_cons (ev_op (ev_var rfl) (ev_is (gp 10 _ H3 (by decide) (e2.trans e3) rfl) (congrArg V.int hj10)) (rv_ixL (sq_of h3) (at_map (by rw [List.getElem?_eq_getElem (show j10 < own4L.length from j10l), List.getD_eq_getElem?_getD, List.getElem?_eq_getElem (show j10 < own4L.length from j10l)]; rfl)))) ea_nil) (by show 1 ≤ 100000; decide))) (ev_is (gp 9 _ H3 (by decide) (e2.trans e3) rfl) (congrArg V.int hj9)) j9l) (by rw [← List.length_append, hnms, List.length_map]; omega)) fun pn H4 hpn e4 h4 => ?_
    have hpw4 := e4 _ _ hpw3
    -- called
    have hcd : ∃ cs : List Str, (if decide (ps.getD 6 0 = 1) then (zs.map V.str).take 4 else (zs.map V.str).drop 4) = cs.map V.str ∧ cs.length = 4 ∧ ∀ n ∈ cs, isName n = true := by
      by_cases h : ps.getD 6 0 = 1
      · exact ⟨zs.take 4, by rw [decide_eq_true h, List.map_take]; rfl, by rw [List.length_take]; omega, fun n hn => zok n (List.mem_of_mem_take hn)⟩
      · exact ⟨zs.drop 4, by rw [decide_eq_false h, List.map_drop]; rfl, by rw [List.length_drop]; omega, fun n hn => zok n (List.mem_of_mem_drop hn)⟩
    obtain ⟨cs, hcs, csl, cok⟩ := hcd
    refine q_asgX (xs := cs.map V.str) (by
      rw [← hcs]
      refine ex_pick2 (b := decide (ps.getD 6 0 = 1)) ?_ ?_ (ev_is (gp 6 _ H4 (by decide) ((e2.trans e3).trans e4) rfl) (congrArg V.int (by by_cases h : ps.getD 6 0 = 1; rw [decide_eq_true h, h]; rfl; rw [decide_eq_false h]; show _ = (0 : Int); omega)))
      · rw [← cut_drop (xs := zs.map V.str) (n := 4) (by rw [List.length_map]; omega)]
        exact el_sl (ev_var rfl) (eo_some ev_c) eo_none (sq_of hpw4)
      · rw [← cutV_take (xs := zs.map V.str) (n := 4) (by rw [List.length_map]; omega)]
        exact el_sl (ev_var rfl) eo_none (eo_some ev_c) (sq_of hpw4)) fun pcd H5 e5 h5 => ?_
    -- calls
    refine q_asgLH (R := fun xs H => xs.length = 4 ∧ ∀ x ∈ xs, ∃ c n, CallAt K H x c n) (elH_lcR1 (S := fun x H => ∃ c n, CallAt K H x c n) (n := 4) (fun v H1 H2 k ⟨c, n, p, g1, g2, g3⟩ => ⟨c, n, p, g1, k _ _ g2, g3⟩) (ea_cons ev_c ea_nil) (by decide) (fun _ => rfl) fun i H6 e6 hi => fun H7 e7 Q7 q7 => ?_) fun pc xs H6 hpc e6 h6 ⟨xl, xok⟩ => ?_
    · have g := List.getElem?_eq_getElem (show i < cs.length by omega)
      exact eu_tup (vs := [.str (cs[i]'(by omega)), .int (i : Int)]) (ea_cons (ev_op (ev_var rfl) (ev_var rfl) (rv_ixL (sq_of (e6 _ _ h5)) (at_map g))) (ea_cons (ev_var rfl) ea_nil)) (by show 2 ≤ 100000; decide) H7 e7 _ fun p H8 hp e8 h8 => q7 _ H8 ⟨_, i, p, rfl, st_of h8, cok _ (List.getElem_mem _), by omega⟩ e8
    have e16 := ((e13.trans e4).trans e5).trans e6
    have e116 := (((e2.trans e3).trans e4).trans e5).trans e6
    -- many
    have hmany : ∃ m : Nat, 1 ≤ m ∧ m ≤ 400 ∧ atI [V.int (1 + ps.getD 3 0), .int (1 + ps.getD 2 0), .int (1 + ps.getD 2 0), .int (1 + ps.getD 1 0)] (if ps.getD 0 0 < 3 then ps.getD 0 0 else 3) = some (.int (m : Int)) := by
      have cse : ∀ (z : Int) (i : Nat) (x : Int), z = (i : Int) → ([V.int (1 + ps.getD 3 0), .int (1 + ps.getD 2 0), .int (1 + ps.getD 2 0), .int (1 + ps.getD 1 0)] : List V)[i]? = some (.int x) → 1 ≤ x → x ≤ 400 → ∃ m : Nat, 1 ≤ m ∧ m ≤ 400 ∧ atI [V.int (1 + ps.getD 3 0), .int (1 + ps.getD 2 0), .int (1 + ps.getD 2 0), .int (1 + ps.getD 1 0)] z = some (.int (m : Int)) := fun z i x hz hx h1 h2 => ⟨x.toNat, by omega, by omega, by rw [show ((x.toNat : Nat) : Int) = x by omega]; exact at_of hz hx⟩
      by_cases h0 : ps.getD 0 0 = 0
      · exact cse _ 0 _ (by rw [if_pos (by omega)]; omega) rfl (by omega) (by omega)
      · by_cases h1 : ps.getD 0 0 = 1
        · exact cse _ 1 _ (by rw [if_pos (by omega)]; omega) rfl (by omega) (by omega)
        · by_cases h2 : ps.getD 0 0 = 2
          · exact cse _ 2 _ (by rw [if_pos (by omega)]; omega) rfl (by omega) (by omega)
          · exact cse _ 3 _ (by rw [if_neg (by omega)]; rfl) rfl (by omega) (by omega)
    obtain ⟨m, m1, m4, hm⟩ := hmany
    refine q_asg (v := .int (m : Int)) (ev_opL1 (xs := [V.int (1 + ps.getD 3 0), .int (1 + ps.getD 2 0), .int (1 + ps.getD 2 0), .int (1 + ps.getD 1 0)]) (el_lst (ea_cons (ev_op ev_c (gp 3 _ H6 (by decide) e116 rfl) rv_I0) (ea_cons (ev_op ev_c (gp 2 _ H6 (by decide) e116 rfl) rv_I0) (ea_cons (ev_op ev_c (gp 2 _ H6 (by decide) e116 rfl) rv_I0) (ea_cons (ev_op ev_c (gp 1 _ H6 (by decide) e116 rfl) rv_I0) ea_nil)))) (by show 4 ≤ 100000; decide)) (fun H7 e7 => ev_cb (ea_cons ev_c (ea_cons (gp 0 _ H7 (by decide) (e116.trans e7) rfl) ea_nil)) rc_min2) fun pp H7 hpp e7 => rv_ixL (sq_of hpp) hm) fun H7 e7 => ?_
    have e17 := e16.trans e7
    have e117 := e116.trans e7
    have h4' := ((e5.trans e6).trans e7) _ _ h4
    have cls : CallsAt K H7 pc xs := ⟨sq_of (e7 _ _ h6), by omega, fun x hx => by obtain ⟨c, n, h⟩ := xok x hx; exact ⟨c, n, h.ex e7⟩⟩
    -- a row of digits
    have rowE : ∀ (n : Nat) (tk : TE) (σ : L2.St) (H8 : Hp), n ≤ 400 → Ex H7 H8 → σ[0]? = some (some (.ref a)) → Ev tk σ H8 (.int (n : Int)) → EvSH (tCall (spDigits K) [] E0 (tCons (tCall (spCell K) [] E0 (tCons (tVar 0) (tCons (tC (.int 2)) tNil))) (tCons (tOp rRep (tLst (tCons (tC (.int 28)) (tCons (tC (.int 1999)) tNil))) tk) tNil))) σ H8 (fun v H => ∃ p rs, v = .ref p ∧ SqL K H p (rs.map V.int) ∧ RowOk rs n) := fun n tk σ H8 hn4 e8 hs hk H9 e9 Q9 q9 => by
      refine elS_call (R := DigR (rowS n)) (P := fun vs H5 => ∃ (c : Int) (p : Addr), vs = [.int c, .ref p] ∧ H5 p = some (.lst ((rowS n).map V.int))) (eaH_weak (eaH_cons (S := fun v => ∃ i : Int, v = .int i) (cellS 2 _ H8 (by decide) (by decide) (e17.trans e8) hs) (eaH_consL (xs := (rowS n).map V.int) (by
        have g := el_rep (k := (n : Int)) (xs := [V.int 28, .int 1999]) (ta := tLst (tCons (tC (.int 28)) (tCons (tC (.int 1999)) tNil))) (σ := σ) (H := H8) (el_lst (ea_cons ev_c (ea_cons ev_c ea_nil)) (by show 2 ≤ 100000; decide)) hk (by omega) (by omega) (by show 2 * _ ≤ _; omega)
        have er : (rowS n).map V.int = (List.replicate (n : Int).toNat [V.int 28, .int 1999]).flatten := by
          unfold rowS
          rw [List.map_flatten, List.map_replicate]
          rfl
        rw [er]
        exact g) (eaH_of ea_nil (P := fun vs _ => vs = []) fun _ _ => rfl))) fun vs H6 ⟨v', r, h1, ⟨c, h2⟩, p, r', h3, h4, h5⟩ => ⟨c, p, by rw [h1, h2, h3, h5], h4⟩) (fun vs H6 e6 ⟨c, p, h1, h2⟩ => by subst h1; exact sp_digits (sq_of h2) (by rw [rowS_len]; omega) (rowS_all n)) H9 e9 Q9 fun zs p H10 ⟨rs, hz, hl, hb⟩ hp e10 h10 => ?_
      subst hz
      exact q9 _ H10 ⟨p, rs, rfl, sq_of h10, rowOk_of hl hb⟩ e10
    have st : L2.St := [some (.ref a), some (.ref pl), some (.ref pw), some (.ref po), some (.ref pn), some (.ref pcd), some (.ref pc), some (.int (m : Int)), none, none]
    -- trees
    refine q_cut (M := fun σ' H' => ∃ v, σ' = [some (.ref a), some (.ref pl), some (.ref pw), some (.ref po), some (.ref pn), some (.ref pcd), some (.ref pc), some (.int (m : Int)), some v, none] ∧ Ex H7 H' ∧ TreesAt K H' v) ?_ ?_
    · have restE : ∀ H8, Ex H7 H8 → EvA (tCons (tVar 4) (tCons (tVar 6) (tCons (tOp (rI0 fun i j => .bl (decide (i > j))) (tOp (rIxL K) (tVar 1) (tC (.int 7))) (tC (.int 0))) tNil))) [some (.ref a), some (.ref pl), some (.ref pw), some (.ref po), some (.ref pn), some (.ref pcd), some (.ref pc), some (.int (m : Int)), none, none] H8 [.ref pn, .ref pc, .bl (decide (ps.getD 7 0 > 0))] := fun H8 e8 => ea_cons (ev_var rfl) (ea_cons (ev_var rfl) (ea_cons (ev_op (gp 7 _ H8 (by decide) (e117.trans e8) rfl) ev_c rv_I0) ea_nil))
      refine s_if (b := decide (ps.getD 4 0 = 0)) (et_test (ev_op (gp 4 _ H7 (by decide) e117 rfl) ev_c rv_eqI)) (fun hb H8 e8 => ?_) (fun hb H8 e8 => ?_)
      · refine rowE (1 + ps.getD 5 0).toNat _ _ H8 (by omega) e8 rfl (ev_is (ev_op ev_c (gp 5 _ H8 (by decide) (e117.trans e8) rfl) rv_I0) (congrArg V.int (by omega))) H8 (Ex.refl _) _ fun v H9 ⟨pr, rs, hv, hpr, hro⟩ e9 => ?_
        subst hv
        refine restE H8 e8 H9 e9 _ fun H10 e10 => ⟨pr, pn, pc, _, rs, (1 + ps.getD 5 0).toNat, nms, xs, rfl, ex_l e10 hpr, hro, by omega, sq_of (((e8.trans e9).trans e10) _ _ h4'), nl0, nok, cls.ex ((e8.trans e9).trans e10), fun p ys fs H11 g1 g2 g3 g4 g5 e11 => ?_⟩
        exact ⟨_, rfl, ((e8.trans e9).trans e10).trans e11, p, ys, fs, rfl, g1, g2, g3, g4⟩
      · refine rowE m _ _ H8 m4 e8 rfl (ev_var rfl) H8 (Ex.refl _) _ fun v H9 ⟨pr, rs, hv, hpr, hro⟩ e9 => ?_
        subst hv
        refine restE H8 e8 H9 e9 _ fun H10 e10 => ⟨pr, pn, pc, _, rs, m, nms, xs, rfl, ex_l e10 hpr, hro, m1, m4, sq_of (((e8.trans e9).trans e10) _ _ h4'), nl0, nok, cls.ex ((e8.trans e9).trans e10), fun p ys fs H11 g1 g2 g3 g4 g5 e11 => ?_⟩
        exact ⟨_, rfl, ((e8.trans e9).trans e10).trans e11, p, ys, fs, rfl, g1, g2, g3, g4⟩
    · rintro σ' H8 ⟨v, rfl, e8, pt, ys, fs, rfl, hpt, tfs, tok, y0⟩
      have e18 := e17.trans e8
      have e118 := e117.trans e8
      have askE : ∀ (ti : TE) (z : Int) (j : Nat) (c : Int) (H9 : Hp), Ex H8 H9 → 0 ≤ c → c ≤ 20 → Ev ti [some (.ref a), some (.ref pl), some (.ref pw), some (.ref po), some (.ref pn), some (.ref pcd), some (.ref pc), some (.int (m : Int)), some (.ref pt), none] H9 (.int z) → (hj : j < ys.length) → atI ys z = some ys[j] → Ev (tCall (spAsked K) [] E0 (tCons (tOp (rIxL K) (tVar 8) ti) (tCons (tVar 1) (tCons (tVar 0) (tCons (tC (.int c)) tNil))))) [some (.ref a), some (.ref pl), some (.ref pw), some (.ref po), some (.ref pn), some (.ref pcd), some (.ref pc), some (.int (m : Int)), some (.ref pt), none] H9 (.bl true) := fun ti z j c H9 e9 c0 c1 hti hj hz => by
        obtain ⟨e, ge, te⟩ := tfs.get (List.getElem?_eq_getElem hj)
        refine ev_call (ea_cons (ev_op (ev_var rfl) hti (rv_ixL (sq_of (e9 _ _ hpt)) hz)) (ea_cons (ev_var rfl) (ea_cons (ev_var rfl) (ea_cons ev_c ea_nil)))) fun H10 e10 Q10 q10 E10 => ?_
        have e810 := e9.trans e10
        exact ⟨_, e, pl, a, ps, ns, c, rfl, te.keep (TupKeep.of e810), tok e (List.mem_of_getElem? ge), sq_of ((e118.trans e810) _ _ h1), by omega, ex_l (e18.trans e810) hS, hn, c0, c1, fun H11 e11 => q10 H11 e11⟩
      have modE : ∀ (i : Nat) (H9 : Hp), i < 13 → Ex H8 H9 → ∃ j, ∃ hj : j < ys.length, Ev (tOp (rI (fun _ j => (0 : Int) < j) fun i j => V.int (i % j)) (tCB (fun xs H Q => (∃ i, xs = [V.int i] ∧ Q (V.int i) H) ∨ ∃ k, xs = [.bl k] ∧ Q (.int (if k then 1 else 0)) H) (tCons (tOp (rIxL K) (tVar 1) (tC (.int (i : Int)))) tNil)) (tCB (fun xs H Q => ∃ p ys, xs = [V.ref p] ∧ (SqL K H p ys ∨ SqT K H p ys) ∧ Q (.int ys.length) H) (tCons (tVar 8) tNil))) [some (.ref a), some (.ref pl), some (.ref pw), some (.ref po), some (.ref pn), some (.ref pcd), some (.ref pc), some (.int (m : Int)), some (.ref pt), none] H9 (.int (j : Int)) ∧ atI ys (j : Int) = some ys[j] := fun i H9 hi e9 => by
        obtain ⟨j, hj, hjl⟩ := mod_nat (i := ps.getD i 0) y0
        exact ⟨j, hjl, ev_is (ev_op (ev_cb (ea_cons (gp i _ H9 hi (e118.trans e9) rfl) ea_nil) rc_int1) (ev_cb (ea_cons (ev_var rfl) ea_nil) (rc_lenL (sq_of (e9 _ _ hpt)))) (rv_I (by show (0 : Int) < _; omega))) (congrArg V.int hj), atI_nat (List.getElem?_eq_getElem hjl)⟩
      refine q_when (b := false) (et_is (et_not (et_B (askE _ (-1) (ys.length - 1) 3 H8 (Ex.refl _) (by decide) (by decide) (ev_un ev_c ru_neg) (by omega) (last_at y0)))) rfl) (fun h => nomatch h) (fun _ H9 e9 => ?_)
      obtain ⟨j1, hj1, m1e, m1a⟩ := modE 11 H9 (by decide) e9
      refine q_when (b := false) (et_is (et_not (et_B (askE _ _ j1 7 H9 e9 (by decide) (by decide) m1e hj1 m1a))) rfl) (fun h => nomatch h) (fun _ H10 e10 => ?_)
      obtain ⟨j2, hj2, m2e, m2a⟩ := modE 12 H10 (by decide) (e9.trans e10)
      exact s_ret (askE _ _ j2 11 H10 (e9.trans e10) (by decide) (by decide) m2e hj2 m2a) fun H11 e11 => q H11
end


def DAll (K : PySem.W.Frag) (a : Addr) : List (Str × V) → Prop
  | [] => True
  | p :: r => (∃ u, PySem.W.nsIn K a p.1 = some (some u) ∧ RelV p.2 u) ∧ DAll K a r
theorem DAll.get {K : PySem.W.Frag} {a : Addr} : ∀ {d : List (Str × V)}, DAll K a d → ∀ z v, d.lookup z = some v → ∃ u, PySem.W.nsIn K a z = some (some u) ∧ RelV v u
  | [], _, _, _, h => (nomatch h)
  | (k, x) :: r, ⟨h1, h2⟩, z, v, h => by
    rw [List.lookup_cons] at h
    by_cases e : z = k
    · subst e
      rw [beq_self_eq_true] at h
      cases h
      exact h1
    · rw [beq_false_of_ne e] at h
      exact h2.get z v h
theorem all_mk {l : PySem.W.OpenLaw} {w : World} {K : PySem.W.Frag} {h : Heap} {mg : Str → Option Value} {fa f0 f1 f2 f3 f4 f5 f6 f7 f8 f9 f10 f11 f12 f13 f14 f15 f16 f17 f18 f19 f20 f21 f22 f23 f24 f25 f26 f27 f28 f29 f30 f31 f32 f33 f34 f35 f36 f37 f38 f39 f40 f41 f42 f43 f44 f45 f46 f47 f48 f49 f50 f51 f52 f53 f54 f55 f56 t4 t6 t10 t11 t12 C0 C1 : Addr} (X : K.In h) (G : h.Ns mainGlobals mg) (hfa : mg "law" = some (.ref fa))
    {od0 an0 od1 an1 od2 an2 od3 an3 od4 an4 od5 an5 od6 an6 od7 an7 od8 an8 od9 an9 od10 an10 od11 an11 od12 an12 od13 an13 od14 an14 od15 an15 od16 an16 od17 an17 od18 an18 od19 an19 od20 an20 od21 an21 od22 an22 od23 an23 od24 an24 od25 an25 od26 an26 od27 an27 od28 an28 od29 an29 od30 an30 od31 an31 od32 an32 od33 an33 od34 an34 od35 an35 od36 an36 od37 an37 od38 an38 od39 an39 od40 an40 od41 an41 od42 an42 od43 an43 od44 an44 od45 an45 od46 an46 od47 an47 od48 an48 od49 an49 od50 an50 od51 an51 od52 an52 od53 an53 od54 an54 od55 an55 od56 an56 : Option Addr} {sl0 sl1 sl2 sl3 sl4 sl5 sl6 sl7 sl8 sl9 sl10 sl11 sl12 sl13 sl14 sl15 sl16 sl17 sl18 sl19 sl20 sl21 sl22 sl23 sl24 sl25 sl26 sl27 sl28 sl29 sl30 sl31 sl32 sl33 sl34 sl35 sl36 sl37 sl38 sl39 sl40 sl41 sl42 sl43 sl44 sl45 sl46 sl47 sl48 sl49 sl50 sl51 sl52 sl53 sl54 sl55 sl56 : Array (Option Value)} {oc0 kV0 dc0 pm0 cd0 ct0 oc1 kV1 dc1 pm1 cd1 ct1 oc2 kV2 dc2 pm2 cd2 ct2 oc3 kV3 dc3 pm3 cd3 ct3 oc4 kV4 dc4 pm4 cd4 ct4 oc5 kV5 dc5 pm5 cd5 ct5 oc6 kV6 dc6 pm6 cd6 ct6 oc7 kV7 dc7 pm7 cd7 ct7 oc8 kV8 dc8 pm8 cd8 ct8 oc9 kV9 dc9 pm9 cd9 ct9 oc10 kV10 dc10 pm10 cd10 ct10 oc11 kV11 dc11 pm11 cd11 ct11 oc12 kV12 dc12 pm12 cd12 ct12 oc13 kV13 dc13 pm13 cd13 ct13 oc14 kV14 dc14 pm14 cd14 ct14 oc15 kV15 dc15 pm15 cd15 ct15 oc16 kV16 dc16 pm16 cd16 ct16 oc17 kV17 dc17 pm17 cd17 ct17 oc18 kV18 dc18 pm18 cd18 ct18 oc19 kV19 dc19 pm19 cd19 ct19 oc20 kV20 dc20 pm20 cd20 ct20 oc21 kV21 dc21 pm21 cd21 ct21 oc22 kV22 dc22 pm22 cd22 ct22 oc23 kV23 dc23 pm23 cd23 ct23 oc24 kV24 dc24 pm24 cd24 ct24 oc25 kV25 dc25 pm25 cd25 ct25 oc26 kV26 dc26 pm26 cd26 ct26 oc27 kV27 dc27 pm27 cd27 ct27 oc28 kV28 dc28 pm28 cd28 ct28 oc29 kV29 dc29 pm29 cd29 ct29 oc30 kV30 dc30 pm30 cd30 ct30 oc31 kV31 dc31 pm31 cd31 ct31 oc32 kV32 dc32 pm32 cd32 ct32 oc33 kV33 dc33 pm33 cd33 ct33 oc34 kV34 dc34 pm34 cd34 ct34 oc35 kV35 dc35 pm35 cd35 ct35 oc36 kV36 dc36 pm36 cd36 ct36 oc37 kV37 dc37 pm37 cd37 ct37 oc38 kV38 dc38 pm38 cd38 ct38 oc39 kV39 dc39 pm39 cd39 ct39 oc40 kV40 dc40 pm40 cd40 ct40 oc41 kV41 dc41 pm41 cd41 ct41 oc42 kV42 dc42 pm42 cd42 ct42 oc43 kV43 dc43 pm43 cd43 ct43 oc44 kV44 dc44 pm44 cd44 ct44 oc45 kV45 dc45 pm45 cd45 ct45 oc46 kV46 dc46 pm46 cd46 ct46 oc47 kV47 dc47 pm47 cd47 ct47 oc48 kV48 dc48 pm48 cd48 ct48 oc49 kV49 dc49 pm49 cd49 ct49 oc50 kV50 dc50 pm50 cd50 ct50 oc51 kV51 dc51 pm51 cd51 ct51 oc52 kV52 dc52 pm52 cd52 ct52 oc53 kV53 dc53 pm53 cd53 ct53 oc54 kV54 dc54 pm54 cd54 ct54 oc55 kV55 dc55 pm55 cd55 ct55 oc56 kV56 dc56 pm56 cd56 ct56 u0 u1 u2 u3 du4_0 du4_1 du4_2 du4_3 du4_4 du4_5 du4_6 du4_7 du4_8 du4_9 du4_10 du4_11 du4_12 du4_13 u5 u7 u8 u9 u13 : Value} {te4 : Array DictEntry} {tn4 : Nat} {td6 : Option Addr} {ti6 : Array Value} {tn6 : Nat} {ts6 : Array (Option Value)} {td10 : Option Addr} {ti10 : Array Value} {tn10 : Nat} {ts10 : Array (Option Value)} {td11 : Option Addr} {ti11 : Array Value} {tn11 : Nat} {ts11 : Array (Option Value)} {td12 : Option Addr} {ti12 : Array Value} {tn12 : Nat} {ts12 : Array (Option Value)}
    (ac0 : PySem.W.nsIn K mainGlobals "Bracket" = some (some (.ref C0))) (pg0 : PySem.W.plainGet K C0 Str.empty = true) (hd0 : PySem.W.hasDictIn K C0 = true) (po0 : PySem.W.plainOver K C0 = true) (sa0 : PySem.W.findIn K (.ref C0) "__setattr__" = some (some (.builtin "object.__setattr__"))) (mk0 : PySem.W.makesIn K C0 = true) (kc0 : PySem.W.keepIn K (.ref C0) = true)
    (nf0_arguments : PySem.W.findIn K (.ref C0) "arguments" = some none)
    (nf0_caller : PySem.W.findIn K (.ref C0) "caller" = some none)
    (nf0_operands : PySem.W.findIn K (.ref C0) "operands" = some none)
    (nf0_operators : PySem.W.findIn K (.ref C0) "operators" = some none)
    (ac1 : PySem.W.nsIn K mainGlobals "Reader" = some (some (.ref C1))) (pg1 : PySem.W.plainGet K C1 Str.empty = true) (hd1 : PySem.W.hasDictIn K C1 = true) (po1 : PySem.W.plainOver K C1 = true) (sa1 : PySem.W.findIn K (.ref C1) "__setattr__" = some (some (.builtin "object.__setattr__"))) (mk1 : PySem.W.makesIn K C1 = true) (kc1 : PySem.W.keepIn K (.ref C1) = true)
    (nf1_at : PySem.W.findIn K (.ref C1) "at" = some none)
    (nf1_brackets : PySem.W.findIn K (.ref C1) "brackets" = some none)
    (nf1_tokens : PySem.W.findIn K (.ref C1) "tokens" = some none)
    (a0 : PySem.W.nsIn K mainGlobals "_told" = some (some (.ref f0))) (l0 : K.lookup f0 = some ⟨oc0, od0, .func (PySem.W.fnOf "_told" "_told" (defArgs s_told) (defBody s_told) (defScope s_told) .none kV0 dc0 pm0 an0 cd0 ct0), sl0⟩) (c0 : PySem.W.codeIn K cd0 "_told" = true) (k0 : PySem.W.keepIn K (.ref f0) = true)
    (a1 : PySem.W.nsIn K mainGlobals "is_name" = some (some (.ref f1))) (l1 : K.lookup f1 = some ⟨oc1, od1, .func (PySem.W.fnOf "is_name" "is_name" (defArgs s_is_name) (defBody s_is_name) (defScope s_is_name) .none kV1 dc1 pm1 an1 cd1 ct1), sl1⟩) (c1 : PySem.W.codeIn K cd1 "is_name" = true) (k1 : PySem.W.keepIn K (.ref f1) = true)
    (a2 : PySem.W.nsIn K mainGlobals "parts_of" = some (some (.ref f2))) (l2 : K.lookup f2 = some ⟨oc2, od2, .func (PySem.W.fnOf "parts_of" "parts_of" (defArgs s_parts_of) (defBody s_parts_of) (defScope s_parts_of) .none kV2 dc2 pm2 an2 cd2 ct2), sl2⟩) (c2 : PySem.W.codeIn K cd2 "parts_of" = true) (k2 : PySem.W.keepIn K (.ref f2) = true)
    (a3 : PySem.W.nsIn K mainGlobals "inner_first" = some (some (.ref f3))) (l3 : K.lookup f3 = some ⟨oc3, od3, .func (PySem.W.fnOf "inner_first" "inner_first" (defArgs s_inner_first) (defBody s_inner_first) (defScope s_inner_first) .none kV3 dc3 pm3 an3 cd3 ct3), sl3⟩) (c3 : PySem.W.codeIn K cd3 "inner_first" = true) (k3 : PySem.W.keepIn K (.ref f3) = true)
    (a4 : PySem.W.nsIn K mainGlobals "folded" = some (some (.ref f4))) (l4 : K.lookup f4 = some ⟨oc4, od4, .func (PySem.W.fnOf "folded" "folded" (defArgs s_folded) (defBody s_folded) (defScope s_folded) .none kV4 dc4 pm4 an4 cd4 ct4), sl4⟩) (c4 : PySem.W.codeIn K cd4 "folded" = true) (k4 : PySem.W.keepIn K (.ref f4) = true)
    (a5 : PySem.W.nsIn K mainGlobals "is_number" = some (some (.ref f5))) (l5 : K.lookup f5 = some ⟨oc5, od5, .func (PySem.W.fnOf "is_number" "is_number" (defArgs s_is_number) (defBody s_is_number) (defScope s_is_number) .none kV5 dc5 pm5 an5 cd5 ct5), sl5⟩) (c5 : PySem.W.codeIn K cd5 "is_number" = true) (k5 : PySem.W.keepIn K (.ref f5) = true)
    (a6 : PySem.W.nsIn K mainGlobals "_run_end" = some (some (.ref f6))) (l6 : K.lookup f6 = some ⟨oc6, od6, .func (PySem.W.fnOf "_run_end" "_run_end" (defArgs s_run_end) (defBody s_run_end) (defScope s_run_end) .none kV6 dc6 pm6 an6 cd6 ct6), sl6⟩) (c6 : PySem.W.codeIn K cd6 "_run_end" = true) (k6 : PySem.W.keepIn K (.ref f6) = true)
    (a7 : PySem.W.nsIn K mainGlobals "_token_end" = some (some (.ref f7))) (l7 : K.lookup f7 = some ⟨oc7, od7, .func (PySem.W.fnOf "_token_end" "_token_end" (defArgs s_token_end) (defBody s_token_end) (defScope s_token_end) .none kV7 dc7 pm7 an7 cd7 ct7), sl7⟩) (c7 : PySem.W.codeIn K cd7 "_token_end" = true) (k7 : PySem.W.keepIn K (.ref f7) = true)
    (a8 : PySem.W.nsIn K mainGlobals "_is_token" = some (some (.ref f8))) (l8 : K.lookup f8 = some ⟨oc8, od8, .func (PySem.W.fnOf "_is_token" "_is_token" (defArgs s_is_token) (defBody s_is_token) (defScope s_is_token) .none kV8 dc8 pm8 an8 cd8 ct8), sl8⟩) (c8 : PySem.W.codeIn K cd8 "_is_token" = true) (k8 : PySem.W.keepIn K (.ref f8) = true)
    (a9 : PySem.W.nsIn K mainGlobals "tokens_of" = some (some (.ref f9))) (l9 : K.lookup f9 = some ⟨oc9, od9, .func (PySem.W.fnOf "tokens_of" "tokens_of" (defArgs s_tokens_of) (defBody s_tokens_of) (defScope s_tokens_of) .none kV9 dc9 pm9 an9 cd9 ct9), sl9⟩) (c9 : PySem.W.codeIn K cd9 "tokens_of" = true) (k9 : PySem.W.keepIn K (.ref f9) = true)
    (a10 : PySem.W.nsIn K mainGlobals "_in_brackets" = some (some (.ref f10))) (l10 : K.lookup f10 = some ⟨oc10, od10, .func (PySem.W.fnOf "_in_brackets" "_in_brackets" (defArgs s_in_brackets) (defBody s_in_brackets) (defScope s_in_brackets) .none kV10 dc10 pm10 an10 cd10 ct10), sl10⟩) (c10 : PySem.W.codeIn K cd10 "_in_brackets" = true) (k10 : PySem.W.keepIn K (.ref f10) = true)
    (a11 : PySem.W.nsIn K mainGlobals "_written_pair" = some (some (.ref f11))) (l11 : K.lookup f11 = some ⟨oc11, od11, .func (PySem.W.fnOf "_written_pair" "_written_pair" (defArgs s_written_pair) (defBody s_written_pair) (defScope s_written_pair) .none kV11 dc11 pm11 an11 cd11 ct11), sl11⟩) (c11 : PySem.W.codeIn K cd11 "_written_pair" = true) (k11 : PySem.W.keepIn K (.ref f11) = true)
    (a12 : PySem.W.nsIn K mainGlobals "_written" = some (some (.ref f12))) (l12 : K.lookup f12 = some ⟨oc12, od12, .func (PySem.W.fnOf "_written" "_written" (defArgs s_written) (defBody s_written) (defScope s_written) .none kV12 dc12 pm12 an12 cd12 ct12), sl12⟩) (c12 : PySem.W.codeIn K cd12 "_written" = true) (k12 : PySem.W.keepIn K (.ref f12) = true)
    (a13 : PySem.W.nsIn K mainGlobals "write_expression" = some (some (.ref f13))) (l13 : K.lookup f13 = some ⟨oc13, od13, .func (PySem.W.fnOf "write_expression" "write_expression" (defArgs s_write_expression) (defBody s_write_expression) (defScope s_write_expression) .none kV13 dc13 pm13 an13 cd13 ct13), sl13⟩) (c13 : PySem.W.codeIn K cd13 "write_expression" = true) (k13 : PySem.W.keepIn K (.ref f13) = true)
    (a14 : PySem.W.findIn K (.ref C0) "__init__" = some (some (.ref f14))) (i14 : PySem.W.isFn K (.ref f14) = true) (l14 : K.lookup f14 = some ⟨oc14, od14, .func (PySem.W.fnOf "__init__" "Bracket.__init__" (defArgs s_Bracket___init__) (defBody s_Bracket___init__) (defScope s_Bracket___init__) .none kV14 dc14 pm14 an14 cd14 ct14), sl14⟩) (c14 : PySem.W.codeIn K cd14 "Bracket.__init__" = true) (k14 : PySem.W.keepIn K (.ref f14) = true)
    (a15 : PySem.W.findIn K (.ref C0) "test_may_begin" = some (some (.ref f15))) (i15 : PySem.W.isFn K (.ref f15) = true) (l15 : K.lookup f15 = some ⟨oc15, od15, .func (PySem.W.fnOf "test_may_begin" "Bracket.test_may_begin" (defArgs s_Bracket_test_may_begin) (defBody s_Bracket_test_may_begin) (defScope s_Bracket_test_may_begin) .none kV15 dc15 pm15 an15 cd15 ct15), sl15⟩) (c15 : PySem.W.codeIn K cd15 "Bracket.test_may_begin" = true) (k15 : PySem.W.keepIn K (.ref f15) = true)
    (a16 : PySem.W.findIn K (.ref C0) "compares" = some (some (.ref f16))) (i16 : PySem.W.isFn K (.ref f16) = true) (l16 : K.lookup f16 = some ⟨oc16, od16, .func (PySem.W.fnOf "compares" "Bracket.compares" (defArgs s_Bracket_compares) (defBody s_Bracket_compares) (defScope s_Bracket_compares) .none kV16 dc16 pm16 an16 cd16 ct16), sl16⟩) (c16 : PySem.W.codeIn K cd16 "Bracket.compares" = true) (k16 : PySem.W.keepIn K (.ref f16) = true)
    (a17 : PySem.W.findIn K (.ref C0) "fold" = some (some (.ref f17))) (i17 : PySem.W.isFn K (.ref f17) = true) (l17 : K.lookup f17 = some ⟨oc17, od17, .func (PySem.W.fnOf "fold" "Bracket.fold" (defArgs s_Bracket_fold) (defBody s_Bracket_fold) (defScope s_Bracket_fold) .none kV17 dc17 pm17 an17 cd17 ct17), sl17⟩) (c17 : PySem.W.codeIn K cd17 "Bracket.fold" = true) (k17 : PySem.W.keepIn K (.ref f17) = true)
    (a18 : PySem.W.findIn K (.ref C0) "end_argument" = some (some (.ref f18))) (i18 : PySem.W.isFn K (.ref f18) = true) (l18 : K.lookup f18 = some ⟨oc18, od18, .func (PySem.W.fnOf "end_argument" "Bracket.end_argument" (defArgs s_Bracket_end_argument) (defBody s_Bracket_end_argument) (defScope s_Bracket_end_argument) .none kV18 dc18 pm18 an18 cd18 ct18), sl18⟩) (c18 : PySem.W.codeIn K cd18 "Bracket.end_argument" = true) (k18 : PySem.W.keepIn K (.ref f18) = true)
    (a19 : PySem.W.findIn K (.ref C0) "whole" = some (some (.ref f19))) (i19 : PySem.W.isFn K (.ref f19) = true) (l19 : K.lookup f19 = some ⟨oc19, od19, .func (PySem.W.fnOf "whole" "Bracket.whole" (defArgs s_Bracket_whole) (defBody s_Bracket_whole) (defScope s_Bracket_whole) .none kV19 dc19 pm19 an19 cd19 ct19), sl19⟩) (c19 : PySem.W.codeIn K cd19 "Bracket.whole" = true) (k19 : PySem.W.keepIn K (.ref f19) = true)
    (a20 : PySem.W.findIn K (.ref C1) "__init__" = some (some (.ref f20))) (i20 : PySem.W.isFn K (.ref f20) = true) (l20 : K.lookup f20 = some ⟨oc20, od20, .func (PySem.W.fnOf "__init__" "Reader.__init__" (defArgs s_Reader___init__) (defBody s_Reader___init__) (defScope s_Reader___init__) .none kV20 dc20 pm20 an20 cd20 ct20), sl20⟩) (c20 : PySem.W.codeIn K cd20 "Reader.__init__" = true) (k20 : PySem.W.keepIn K (.ref f20) = true)
    (a21 : PySem.W.findIn K (.ref C1) "token" = some (some (.ref f21))) (i21 : PySem.W.isFn K (.ref f21) = true) (l21 : K.lookup f21 = some ⟨oc21, od21, .func (PySem.W.fnOf "token" "Reader.token" (defArgs s_Reader_token) (defBody s_Reader_token) (defScope s_Reader_token) .none kV21 dc21 pm21 an21 cd21 ct21), sl21⟩) (c21 : PySem.W.codeIn K cd21 "Reader.token" = true) (k21 : PySem.W.keepIn K (.ref f21) = true)
    (a22 : PySem.W.findIn K (.ref C1) "next_token" = some (some (.ref f22))) (i22 : PySem.W.isFn K (.ref f22) = true) (l22 : K.lookup f22 = some ⟨oc22, od22, .func (PySem.W.fnOf "next_token" "Reader.next_token" (defArgs s_Reader_next_token) (defBody s_Reader_next_token) (defScope s_Reader_next_token) .none kV22 dc22 pm22 an22 cd22 ct22), sl22⟩) (c22 : PySem.W.codeIn K cd22 "Reader.next_token" = true) (k22 : PySem.W.keepIn K (.ref f22) = true)
    (a23 : PySem.W.findIn K (.ref C1) "refuse" = some (some (.ref f23))) (i23 : PySem.W.isFn K (.ref f23) = true) (l23 : K.lookup f23 = some ⟨oc23, od23, .func (PySem.W.fnOf "refuse" "Reader.refuse" (defArgs s_Reader_refuse) (defBody s_Reader_refuse) (defScope s_Reader_refuse) .none kV23 dc23 pm23 an23 cd23 ct23), sl23⟩) (c23 : PySem.W.codeIn K cd23 "Reader.refuse" = true) (k23 : PySem.W.keepIn K (.ref f23) = true)
    (a24 : PySem.W.findIn K (.ref C1) "close_bracket" = some (some (.ref f24))) (i24 : PySem.W.isFn K (.ref f24) = true) (l24 : K.lookup f24 = some ⟨oc24, od24, .func (PySem.W.fnOf "close_bracket" "Reader.close_bracket" (defArgs s_Reader_close_bracket) (defBody s_Reader_close_bracket) (defScope s_Reader_close_bracket) .none kV24 dc24 pm24 an24 cd24 ct24), sl24⟩) (c24 : PySem.W.codeIn K cd24 "Reader.close_bracket" = true) (k24 : PySem.W.keepIn K (.ref f24) = true)
    (a25 : PySem.W.findIn K (.ref C1) "read_number" = some (some (.ref f25))) (i25 : PySem.W.isFn K (.ref f25) = true) (l25 : K.lookup f25 = some ⟨oc25, od25, .func (PySem.W.fnOf "read_number" "Reader.read_number" (defArgs s_Reader_read_number) (defBody s_Reader_read_number) (defScope s_Reader_read_number) .none kV25 dc25 pm25 an25 cd25 ct25), sl25⟩) (c25 : PySem.W.codeIn K cd25 "Reader.read_number" = true) (k25 : PySem.W.keepIn K (.ref f25) = true)
    (a26 : PySem.W.findIn K (.ref C1) "read_atom" = some (some (.ref f26))) (i26 : PySem.W.isFn K (.ref f26) = true) (l26 : K.lookup f26 = some ⟨oc26, od26, .func (PySem.W.fnOf "read_atom" "Reader.read_atom" (defArgs s_Reader_read_atom) (defBody s_Reader_read_atom) (defScope s_Reader_read_atom) .none kV26 dc26 pm26 an26 cd26 ct26), sl26⟩) (c26 : PySem.W.codeIn K cd26 "Reader.read_atom" = true) (k26 : PySem.W.keepIn K (.ref f26) = true)
    (a27 : PySem.W.findIn K (.ref C1) "read_opening" = some (some (.ref f27))) (i27 : PySem.W.isFn K (.ref f27) = true) (l27 : K.lookup f27 = some ⟨oc27, od27, .func (PySem.W.fnOf "read_opening" "Reader.read_opening" (defArgs s_Reader_read_opening) (defBody s_Reader_read_opening) (defScope s_Reader_read_opening) .none kV27 dc27 pm27 an27 cd27 ct27), sl27⟩) (c27 : PySem.W.codeIn K cd27 "Reader.read_opening" = true) (k27 : PySem.W.keepIn K (.ref f27) = true)
    (a28 : PySem.W.findIn K (.ref C1) "is_empty_call" = some (some (.ref f28))) (i28 : PySem.W.isFn K (.ref f28) = true) (l28 : K.lookup f28 = some ⟨oc28, od28, .func (PySem.W.fnOf "is_empty_call" "Reader.is_empty_call" (defArgs s_Reader_is_empty_call) (defBody s_Reader_is_empty_call) (defScope s_Reader_is_empty_call) .none kV28 dc28 pm28 an28 cd28 ct28), sl28⟩) (c28 : PySem.W.codeIn K cd28 "Reader.is_empty_call" = true) (k28 : PySem.W.keepIn K (.ref f28) = true)
    (a29 : PySem.W.findIn K (.ref C1) "read_operand" = some (some (.ref f29))) (i29 : PySem.W.isFn K (.ref f29) = true) (l29 : K.lookup f29 = some ⟨oc29, od29, .func (PySem.W.fnOf "read_operand" "Reader.read_operand" (defArgs s_Reader_read_operand) (defBody s_Reader_read_operand) (defScope s_Reader_read_operand) .none kV29 dc29 pm29 an29 cd29 ct29), sl29⟩) (c29 : PySem.W.codeIn K cd29 "Reader.read_operand" = true) (k29 : PySem.W.keepIn K (.ref f29) = true)
    (a30 : PySem.W.findIn K (.ref C1) "read_operator" = some (some (.ref f30))) (i30 : PySem.W.isFn K (.ref f30) = true) (l30 : K.lookup f30 = some ⟨oc30, od30, .func (PySem.W.fnOf "read_operator" "Reader.read_operator" (defArgs s_Reader_read_operator) (defBody s_Reader_read_operator) (defScope s_Reader_read_operator) .none kV30 dc30 pm30 an30 cd30 ct30), sl30⟩) (c30 : PySem.W.codeIn K cd30 "Reader.read_operator" = true) (k30 : PySem.W.keepIn K (.ref f30) = true)
    (a31 : PySem.W.findIn K (.ref C1) "read_whole" = some (some (.ref f31))) (i31 : PySem.W.isFn K (.ref f31) = true) (l31 : K.lookup f31 = some ⟨oc31, od31, .func (PySem.W.fnOf "read_whole" "Reader.read_whole" (defArgs s_Reader_read_whole) (defBody s_Reader_read_whole) (defScope s_Reader_read_whole) .none kV31 dc31 pm31 an31 cd31 ct31), sl31⟩) (c31 : PySem.W.codeIn K cd31 "Reader.read_whole" = true) (k31 : PySem.W.keepIn K (.ref f31) = true)
    (a32 : PySem.W.nsIn K mainGlobals "read_expression" = some (some (.ref f32))) (l32 : K.lookup f32 = some ⟨oc32, od32, .func (PySem.W.fnOf "read_expression" "read_expression" (defArgs s_read_expression) (defBody s_read_expression) (defScope s_read_expression) .none kV32 dc32 pm32 an32 cd32 ct32), sl32⟩) (c32 : PySem.W.codeIn K cd32 "read_expression" = true) (k32 : PySem.W.keepIn K (.ref f32) = true)
    (a33 : PySem.W.nsIn K mainGlobals "_law_whole" = some (some (.ref f33))) (l33 : K.lookup f33 = some ⟨oc33, od33, .func (PySem.W.fnOf "_law_whole" "_law_whole" (defArgs s_law_whole) (defBody s_law_whole) (defScope s_law_whole) .none kV33 dc33 pm33 an33 cd33 ct33), sl33⟩) (c33 : PySem.W.codeIn K cd33 "_law_whole" = true) (k33 : PySem.W.keepIn K (.ref f33) = true)
    (a34 : PySem.W.nsIn K mainGlobals "_law_cell" = some (some (.ref f34))) (l34 : K.lookup f34 = some ⟨oc34, od34, .func (PySem.W.fnOf "_law_cell" "_law_cell" (defArgs s_law_cell) (defBody s_law_cell) (defScope s_law_cell) .none kV34 dc34 pm34 an34 cd34 ct34), sl34⟩) (c34 : PySem.W.codeIn K cd34 "_law_cell" = true) (k34 : PySem.W.keepIn K (.ref f34) = true)
    (a35 : PySem.W.nsIn K mainGlobals "_law_digits" = some (some (.ref f35))) (l35 : K.lookup f35 = some ⟨oc35, od35, .func (PySem.W.fnOf "_law_digits" "_law_digits" (defArgs s_law_digits) (defBody s_law_digits) (defScope s_law_digits) .none kV35 dc35 pm35 an35 cd35 ct35), sl35⟩) (c35 : PySem.W.codeIn K cd35 "_law_digits" = true) (k35 : PySem.W.keepIn K (.ref f35) = true)
    (a36 : PySem.W.nsIn K mainGlobals "_law_reserved" = some (some (.ref f36))) (l36 : K.lookup f36 = some ⟨oc36, od36, .func (PySem.W.fnOf "_law_reserved" "_law_reserved" (defArgs s_law_reserved) (defBody s_law_reserved) (defScope s_law_reserved) .none kV36 dc36 pm36 an36 cd36 ct36), sl36⟩) (c36 : PySem.W.codeIn K cd36 "_law_reserved" = true) (k36 : PySem.W.keepIn K (.ref f36) = true)
    (a37 : PySem.W.nsIn K mainGlobals "_law_fresh" = some (some (.ref f37))) (l37 : K.lookup f37 = some ⟨oc37, od37, .func (PySem.W.fnOf "_law_fresh" "_law_fresh" (defArgs s_law_fresh) (defBody s_law_fresh) (defScope s_law_fresh) .none kV37 dc37 pm37 an37 cd37 ct37), sl37⟩) (c37 : PySem.W.codeIn K cd37 "_law_fresh" = true) (k37 : PySem.W.keepIn K (.ref f37) = true)
    (a38 : PySem.W.nsIn K mainGlobals "_law_names" = some (some (.ref f38))) (l38 : K.lookup f38 = some ⟨oc38, od38, .func (PySem.W.fnOf "_law_names" "_law_names" (defArgs s_law_names) (defBody s_law_names) (defScope s_law_names) .none kV38 dc38 pm38 an38 cd38 ct38), sl38⟩) (c38 : PySem.W.codeIn K cd38 "_law_names" = true) (k38 : PySem.W.keepIn K (.ref f38) = true)
    (a39 : PySem.W.nsIn K mainGlobals "_law_ops" = some (some (.ref f39))) (l39 : K.lookup f39 = some ⟨oc39, od39, .func (PySem.W.fnOf "_law_ops" "_law_ops" (defArgs s_law_ops) (defBody s_law_ops) (defScope s_law_ops) .none kV39 dc39 pm39 an39 cd39 ct39), sl39⟩) (c39 : PySem.W.codeIn K cd39 "_law_ops" = true) (k39 : PySem.W.keepIn K (.ref f39) = true)
    (a40 : PySem.W.nsIn K mainGlobals "_law_leaf" = some (some (.ref f40))) (l40 : K.lookup f40 = some ⟨oc40, od40, .func (PySem.W.fnOf "_law_leaf" "_law_leaf" (defArgs s_law_leaf) (defBody s_law_leaf) (defScope s_law_leaf) .none kV40 dc40 pm40 an40 cd40 ct40), sl40⟩) (c40 : PySem.W.codeIn K cd40 "_law_leaf" = true) (k40 : PySem.W.keepIn K (.ref f40) = true)
    (a41 : PySem.W.nsIn K mainGlobals "_law_joined" = some (some (.ref f41))) (l41 : K.lookup f41 = some ⟨oc41, od41, .func (PySem.W.fnOf "_law_joined" "_law_joined" (defArgs s_law_joined) (defBody s_law_joined) (defScope s_law_joined) .none kV41 dc41 pm41 an41 cd41 ct41), sl41⟩) (c41 : PySem.W.codeIn K cd41 "_law_joined" = true) (k41 : PySem.W.keepIn K (.ref f41) = true)
    (a42 : PySem.W.nsIn K mainGlobals "_law_trees" = some (some (.ref f42))) (l42 : K.lookup f42 = some ⟨oc42, od42, .func (PySem.W.fnOf "_law_trees" "_law_trees" (defArgs s_law_trees) (defBody s_law_trees) (defScope s_law_trees) .none kV42 dc42 pm42 an42 cd42 ct42), sl42⟩) (c42 : PySem.W.codeIn K cd42 "_law_trees" = true) (k42 : PySem.W.keepIn K (.ref f42) = true)
    (a43 : PySem.W.nsIn K mainGlobals "_law_chain" = some (some (.ref f43))) (l43 : K.lookup f43 = some ⟨oc43, od43, .func (PySem.W.fnOf "_law_chain" "_law_chain" (defArgs s_law_chain) (defBody s_law_chain) (defScope s_law_chain) .none kV43 dc43 pm43 an43 cd43 ct43), sl43⟩) (c43 : PySem.W.codeIn K cd43 "_law_chain" = true) (k43 : PySem.W.keepIn K (.ref f43) = true)
    (a44 : PySem.W.nsIn K mainGlobals "_law_level" = some (some (.ref f44))) (l44 : K.lookup f44 = some ⟨oc44, od44, .func (PySem.W.fnOf "_law_level" "_law_level" (defArgs s_law_level) (defBody s_law_level) (defScope s_law_level) .none kV44 dc44 pm44 an44 cd44 ct44), sl44⟩) (c44 : PySem.W.codeIn K cd44 "_law_level" = true) (k44 : PySem.W.keepIn K (.ref f44) = true)
    (a45 : PySem.W.nsIn K mainGlobals "_law_left" = some (some (.ref f45))) (l45 : K.lookup f45 = some ⟨oc45, od45, .func (PySem.W.fnOf "_law_left" "_law_left" (defArgs s_law_left) (defBody s_law_left) (defScope s_law_left) .none kV45 dc45 pm45 an45 cd45 ct45), sl45⟩) (c45 : PySem.W.codeIn K cd45 "_law_left" = true) (k45 : PySem.W.keepIn K (.ref f45) = true)
    (a46 : PySem.W.nsIn K mainGlobals "_law_boxed" = some (some (.ref f46))) (l46 : K.lookup f46 = some ⟨oc46, od46, .func (PySem.W.fnOf "_law_boxed" "_law_boxed" (defArgs s_law_boxed) (defBody s_law_boxed) (defScope s_law_boxed) .none kV46 dc46 pm46 an46 cd46 ct46), sl46⟩) (c46 : PySem.W.codeIn K cd46 "_law_boxed" = true) (k46 : PySem.W.keepIn K (.ref f46) = true)
    (a47 : PySem.W.nsIn K mainGlobals "_law_written" = some (some (.ref f47))) (l47 : K.lookup f47 = some ⟨oc47, od47, .func (PySem.W.fnOf "_law_written" "_law_written" (defArgs s_law_written) (defBody s_law_written) (defScope s_law_written) .none kV47 dc47 pm47 an47 cd47 ct47), sl47⟩) (c47 : PySem.W.codeIn K cd47 "_law_written" = true) (k47 : PySem.W.keepIn K (.ref f47) = true)
    (a48 : PySem.W.nsIn K mainGlobals "_law_listed" = some (some (.ref f48))) (l48 : K.lookup f48 = some ⟨oc48, od48, .func (PySem.W.fnOf "_law_listed" "_law_listed" (defArgs s_law_listed) (defBody s_law_listed) (defScope s_law_listed) .none kV48 dc48 pm48 an48 cd48 ct48), sl48⟩) (c48 : PySem.W.codeIn K cd48 "_law_listed" = true) (k48 : PySem.W.keepIn K (.ref f48) = true)
    (a49 : PySem.W.nsIn K mainGlobals "_law_sole" = some (some (.ref f49))) (l49 : K.lookup f49 = some ⟨oc49, od49, .func (PySem.W.fnOf "_law_sole" "_law_sole" (defArgs s_law_sole) (defBody s_law_sole) (defScope s_law_sole) .none kV49 dc49 pm49 an49 cd49 ct49), sl49⟩) (c49 : PySem.W.codeIn K cd49 "_law_sole" = true) (k49 : PySem.W.keepIn K (.ref f49) = true)
    (a50 : PySem.W.nsIn K mainGlobals "_law_tokens" = some (some (.ref f50))) (l50 : K.lookup f50 = some ⟨oc50, od50, .func (PySem.W.fnOf "_law_tokens" "_law_tokens" (defArgs s_law_tokens) (defBody s_law_tokens) (defScope s_law_tokens) .none kV50 dc50 pm50 an50 cd50 ct50), sl50⟩) (c50 : PySem.W.codeIn K cd50 "_law_tokens" = true) (k50 : PySem.W.keepIn K (.ref f50) = true)
    (a51 : PySem.W.nsIn K mainGlobals "_law_spaced" = some (some (.ref f51))) (l51 : K.lookup f51 = some ⟨oc51, od51, .func (PySem.W.fnOf "_law_spaced" "_law_spaced" (defArgs s_law_spaced) (defBody s_law_spaced) (defScope s_law_spaced) .none kV51 dc51 pm51 an51 cd51 ct51), sl51⟩) (c51 : PySem.W.codeIn K cd51 "_law_spaced" = true) (k51 : PySem.W.keepIn K (.ref f51) = true)
    (a52 : PySem.W.nsIn K mainGlobals "_law_nodes" = some (some (.ref f52))) (l52 : K.lookup f52 = some ⟨oc52, od52, .func (PySem.W.fnOf "_law_nodes" "_law_nodes" (defArgs s_law_nodes) (defBody s_law_nodes) (defScope s_law_nodes) .none kV52 dc52 pm52 an52 cd52 ct52), sl52⟩) (c52 : PySem.W.codeIn K cd52 "_law_nodes" = true) (k52 : PySem.W.keepIn K (.ref f52) = true)
    (a53 : PySem.W.nsIn K mainGlobals "_law_fits" = some (some (.ref f53))) (l53 : K.lookup f53 = some ⟨oc53, od53, .func (PySem.W.fnOf "_law_fits" "_law_fits" (defArgs s_law_fits) (defBody s_law_fits) (defScope s_law_fits) .none kV53 dc53 pm53 an53 cd53 ct53), sl53⟩) (c53 : PySem.W.codeIn K cd53 "_law_fits" = true) (k53 : PySem.W.keepIn K (.ref f53) = true)
    (a54 : PySem.W.nsIn K mainGlobals "_law_same" = some (some (.ref f54))) (l54 : K.lookup f54 = some ⟨oc54, od54, .func (PySem.W.fnOf "_law_same" "_law_same" (defArgs s_law_same) (defBody s_law_same) (defScope s_law_same) .none kV54 dc54 pm54 an54 cd54 ct54), sl54⟩) (c54 : PySem.W.codeIn K cd54 "_law_same" = true) (k54 : PySem.W.keepIn K (.ref f54) = true)
    (a55 : PySem.W.nsIn K mainGlobals "_law_asked" = some (some (.ref f55))) (l55 : K.lookup f55 = some ⟨oc55, od55, .func (PySem.W.fnOf "_law_asked" "_law_asked" (defArgs s_law_asked) (defBody s_law_asked) (defScope s_law_asked) .none kV55 dc55 pm55 an55 cd55 ct55), sl55⟩) (c55 : PySem.W.codeIn K cd55 "_law_asked" = true) (k55 : PySem.W.keepIn K (.ref f55) = true)
    (a56 : PySem.W.nsIn K mainGlobals "law" = some (some (.ref f56))) (l56 : K.lookup f56 = some ⟨oc56, od56, .func (PySem.W.fnOf "law" "law" (defArgs s_law) (defBody s_law) (defScope s_law) .none kV56 dc56 pm56 an56 cd56 ct56), sl56⟩) (c56 : PySem.W.codeIn K cd56 "law" = true) (k56 : PySem.W.keepIn K (.ref f56) = true)
    (g0 : PySem.W.nsIn K mainGlobals "ATOM_LEVEL" = some (some u0)) (h0 : RelV (.int (7)) u0)
    (g1 : PySem.W.nsIn K mainGlobals "COMPARISON_LEVEL" = some (some u1)) (h1 : RelV (.int (4)) u1)
    (g2 : PySem.W.nsIn K mainGlobals "DIGITS" = some (some u2)) (h2 : RelV (.str digits) u2)
    (g3 : PySem.W.nsIn K mainGlobals "LETTERS" = some (some u3)) (h3 : RelV (.str letters) u3)
    (g4 : PySem.W.nsIn K mainGlobals "LEVELS" = some (some (.ref t4))) (o4 : K.lookup t4 = some ⟨.type "dict", none, .dict te4 tn4, #[]⟩) (w4 : PySem.W.KeysLit w.params te4.toList) (h4 : (t4 == PySem.sysModules) = false)
    (dg4_0 : PySem.W.nsIn K t4 "or" = some (some du4_0)) (dr4_0 : RelV (.int (1)) du4_0)
    (dg4_1 : PySem.W.nsIn K t4 "and" = some (some du4_1)) (dr4_1 : RelV (.int (2)) du4_1)
    (dg4_2 : PySem.W.nsIn K t4 "not" = some (some du4_2)) (dr4_2 : RelV (.int (3)) du4_2)
    (dg4_3 : PySem.W.nsIn K t4 "=" = some (some du4_3)) (dr4_3 : RelV (.int (4)) du4_3)
    (dg4_4 : PySem.W.nsIn K t4 "!=" = some (some du4_4)) (dr4_4 : RelV (.int (4)) du4_4)
    (dg4_5 : PySem.W.nsIn K t4 "<" = some (some du4_5)) (dr4_5 : RelV (.int (4)) du4_5)
    (dg4_6 : PySem.W.nsIn K t4 "<=" = some (some du4_6)) (dr4_6 : RelV (.int (4)) du4_6)
    (dg4_7 : PySem.W.nsIn K t4 ">" = some (some du4_7)) (dr4_7 : RelV (.int (4)) du4_7)
    (dg4_8 : PySem.W.nsIn K t4 ">=" = some (some du4_8)) (dr4_8 : RelV (.int (4)) du4_8)
    (dg4_9 : PySem.W.nsIn K t4 "+" = some (some du4_9)) (dr4_9 : RelV (.int (5)) du4_9)
    (dg4_10 : PySem.W.nsIn K t4 "-" = some (some du4_10)) (dr4_10 : RelV (.int (5)) du4_10)
    (dg4_11 : PySem.W.nsIn K t4 "*" = some (some du4_11)) (dr4_11 : RelV (.int (6)) du4_11)
    (dg4_12 : PySem.W.nsIn K t4 "div" = some (some du4_12)) (dr4_12 : RelV (.int (6)) du4_12)
    (dg4_13 : PySem.W.nsIn K t4 "mod" = some (some du4_13)) (dr4_13 : RelV (.int (6)) du4_13)
    (g5 : PySem.W.nsIn K mainGlobals "LONGEST_NAME" = some (some u5)) (h5 : RelV (.int (8)) u5)
    (g6 : PySem.W.nsIn K mainGlobals "LONG_SIGNS" = some (some (.ref t6))) (o6 : K.lookup t6 = some ⟨.type "tuple", td6, .seq ti6 tn6, ts6⟩) (w6 : ti6.size ≤ sizeLine) (h6 : Vals ((["!=", "<=", ">="] : List Str).map V.str) ti6.toList)
    (g7 : PySem.W.nsIn K mainGlobals "MOST_ARGUMENTS" = some (some u7)) (h7 : RelV (.int (3)) u7)
    (g8 : PySem.W.nsIn K mainGlobals "MOST_DIGITS" = some (some u8)) (h8 : RelV (.int (3)) u8)
    (g9 : PySem.W.nsIn K mainGlobals "NOT_LEVEL" = some (some u9)) (h9 : RelV (.int (3)) u9)
    (g10 : PySem.W.nsIn K mainGlobals "OWN_NAMES" = some (some (.ref t10))) (o10 : K.lookup t10 = some ⟨.type "tuple", td10, .seq ti10 tn10, ts10⟩) (w10 : ti10.size ≤ sizeLine) (h10 : Vals ((["answer", "mark", "line", "finger"] : List Str).map V.str) ti10.toList)
    (g11 : PySem.W.nsIn K mainGlobals "RESERVED" = some (some (.ref t11))) (o11 : K.lookup t11 = some ⟨.type "tuple", td11, .seq ti11 tn11, ts11⟩) (w11 : ti11.size ≤ sizeLine) (h11 : Vals (reserved.map V.str) ti11.toList)
    (g12 : PySem.W.nsIn K mainGlobals "SIGNS" = some (some (.ref t12))) (o12 : K.lookup t12 = some ⟨.type "tuple", td12, .seq ti12 tn12, ts12⟩) (w12 : ti12.size ≤ sizeLine) (h12 : Vals ((["!=", "<=", ">=", "<", ">", "=", "+", "-", "*", "(", ")", ","] : List Str).map V.str) ti12.toList)
    (g13 : PySem.W.nsIn K mainGlobals "VERY_LARGE" = some (some u13)) (h13 : RelV (.int (1000000000000000000)) u13)
    (z0 : PySem.W.nsIn K mainGlobals "bool" = some none)
    (z1 : PySem.W.nsIn K mainGlobals "int" = some none)
    (z2 : PySem.W.nsIn K mainGlobals "isinstance" = some none)
    (z3 : PySem.W.nsIn K mainGlobals "len" = some none)
    (z4 : PySem.W.nsIn K mainGlobals "max" = some none)
    (z5 : PySem.W.nsIn K mainGlobals "min" = some none)
    (z6 : PySem.W.nsIn K mainGlobals "range" = some none)
    (z7 : PySem.W.nsIn K mainGlobals "str" = some none)
    (z8 : PySem.W.nsIn K mainGlobals "sum" = some none)
    (z9 : PySem.W.nsIn K mainGlobals "tuple" = some none) :
    ∃ fd : FuncData, (∀ (s : Shared) (v : Value), BindsTo s fd ⟨[v], []⟩ [("script", v)]) ∧ ∀ base : Heap, K.In base → base.Ns mainGlobals mg → FnOk l.prog w K mg base CX0 91 fa fd ["script"] (spLaw K) := by
  have e := hfa.symm.trans (PySem.W.mg_of X G a56)
  cases e
  have F0 := fun_mk (st := s_told) l0 c0 k0
  have b0 := F0.binds (ps := ["number"]) fun _ _ _ _ _ _ us hl => match us, hl with | [_], _ => rfl
  have F1 := fun_mk (st := s_is_name) l1 c1 k1
  have b1 := F1.binds (ps := ["text"]) fun _ _ _ _ _ _ us hl => match us, hl with | [_], _ => rfl
  have F2 := fun_mk (st := s_parts_of) l2 c2 k2
  have b2 := F2.binds (ps := ["expression"]) fun _ _ _ _ _ _ us hl => match us, hl with | [_], _ => rfl
  have F3 := fun_mk (st := s_inner_first) l3 c3 k3
  have b3 := F3.binds (ps := ["expression"]) fun _ _ _ _ _ _ us hl => match us, hl with | [_], _ => rfl
  have F4 := fun_mk (st := s_folded) l4 c4 k4
  have b4 := F4.binds (ps := ["expression", "combine"]) fun _ _ _ _ _ _ us hl => match us, hl with | [_, _], _ => rfl
  have F5 := fun_mk (st := s_is_number) l5 c5 k5
  have b5 := F5.binds (ps := ["text", "most_digits"]) fun _ _ _ _ _ _ us hl => match us, hl with | [_, _], _ => rfl
  have F6 := fun_mk (st := s_run_end) l6 c6 k6
  have b6 := F6.binds (ps := ["text", "at", "signs"]) fun _ _ _ _ _ _ us hl => match us, hl with | [_, _, _], _ => rfl
  have F7 := fun_mk (st := s_token_end) l7 c7 k7
  have b7 := F7.binds (ps := ["text", "at"]) fun _ _ _ _ _ _ us hl => match us, hl with | [_, _], _ => rfl
  have F8 := fun_mk (st := s_is_token) l8 c8 k8
  have b8 := F8.binds (ps := ["text"]) fun _ _ _ _ _ _ us hl => match us, hl with | [_], _ => rfl
  have F9 := fun_mk (st := s_tokens_of) l9 c9 k9
  have b9 := F9.binds (ps := ["text"]) fun _ _ _ _ _ _ us hl => match us, hl with | [_], _ => rfl
  have F10 := fun_mk (st := s_in_brackets) l10 c10 k10
  have b10 := F10.binds (ps := ["text", "needed"]) fun _ _ _ _ _ _ us hl => match us, hl with | [_, _], _ => rfl
  have F11 := fun_mk (st := s_written_pair) l11 c11 k11
  have b11 := F11.binds (ps := ["op", "left", "right"]) fun _ _ _ _ _ _ us hl => match us, hl with | [_, _, _], _ => rfl
  have F12 := fun_mk (st := s_written) l12 c12 k12
  have b12 := F12.binds (ps := ["part", "parts"]) fun _ _ _ _ _ _ us hl => match us, hl with | [_, _], _ => rfl
  have F13 := fun_mk (st := s_write_expression) l13 c13 k13
  have b13 := F13.binds (ps := ["expression"]) fun _ _ _ _ _ _ us hl => match us, hl with | [_], _ => rfl
  have F14 := fun_mk (st := s_Bracket___init__) l14 c14 k14
  have b14 := F14.binds (ps := ["self", "caller"]) fun _ _ _ _ _ _ us hl => match us, hl with | [_, _], _ => rfl
  have F15 := fun_mk (st := s_Bracket_test_may_begin) l15 c15 k15
  have b15 := F15.binds (ps := ["self"]) fun _ _ _ _ _ _ us hl => match us, hl with | [_], _ => rfl
  have F16 := fun_mk (st := s_Bracket_compares) l16 c16 k16
  have b16 := F16.binds (ps := ["self"]) fun _ _ _ _ _ _ us hl => match us, hl with | [_], _ => rfl
  have F17 := fun_mk (st := s_Bracket_fold) l17 c17 k17
  have b17 := F17.binds (ps := ["self", "level"]) fun _ _ _ _ _ _ us hl => match us, hl with | [_, _], _ => rfl
  have F18 := fun_mk (st := s_Bracket_end_argument) l18 c18 k18
  have b18 := F18.binds (ps := ["self"]) fun _ _ _ _ _ _ us hl => match us, hl with | [_], _ => rfl
  have F19 := fun_mk (st := s_Bracket_whole) l19 c19 k19
  have b19 := F19.binds (ps := ["self"]) fun _ _ _ _ _ _ us hl => match us, hl with | [_], _ => rfl
  have F20 := fun_mk (st := s_Reader___init__) l20 c20 k20
  have b20 := F20.binds (ps := ["self", "text"]) fun _ _ _ _ _ _ us hl => match us, hl with | [_, _], _ => rfl
  have F21 := fun_mk (st := s_Reader_token) l21 c21 k21
  have b21 := F21.binds (ps := ["self"]) fun _ _ _ _ _ _ us hl => match us, hl with | [_], _ => rfl
  have F22 := fun_mk (st := s_Reader_next_token) l22 c22 k22
  have b22 := F22.binds (ps := ["self"]) fun _ _ _ _ _ _ us hl => match us, hl with | [_], _ => rfl
  have F23 := fun_mk (st := s_Reader_refuse) l23 c23 k23
  have b23 := F23.binds (ps := ["self"]) fun _ _ _ _ _ _ us hl => match us, hl with | [_], _ => rfl
  have F24 := fun_mk (st := s_Reader_close_bracket) l24 c24 k24
  have b24 := F24.binds (ps := ["self"]) fun _ _ _ _ _ _ us hl => match us, hl with | [_], _ => rfl
  have F25 := fun_mk (st := s_Reader_read_number) l25 c25 k25
  have b25 := F25.binds (ps := ["self", "sign"]) fun _ _ _ _ _ _ us hl => match us, hl with | [_, _], _ => rfl
  have F26 := fun_mk (st := s_Reader_read_atom) l26 c26 k26
  have b26 := F26.binds (ps := ["self"]) fun _ _ _ _ _ _ us hl => match us, hl with | [_], _ => rfl
  have F27 := fun_mk (st := s_Reader_read_opening) l27 c27 k27
  have b27 := F27.binds (ps := ["self"]) fun _ _ _ _ _ _ us hl => match us, hl with | [_], _ => rfl
  have F28 := fun_mk (st := s_Reader_is_empty_call) l28 c28 k28
  have b28 := F28.binds (ps := ["self"]) fun _ _ _ _ _ _ us hl => match us, hl with | [_], _ => rfl
  have F29 := fun_mk (st := s_Reader_read_operand) l29 c29 k29
  have b29 := F29.binds (ps := ["self"]) fun _ _ _ _ _ _ us hl => match us, hl with | [_], _ => rfl
  have F30 := fun_mk (st := s_Reader_read_operator) l30 c30 k30
  have b30 := F30.binds (ps := ["self"]) fun _ _ _ _ _ _ us hl => match us, hl with | [_], _ => rfl
  have F31 := fun_mk (st := s_Reader_read_whole) l31 c31 k31
  have b31 := F31.binds (ps := ["self"]) fun _ _ _ _ _ _ us hl => match us, hl with | [_], _ => rfl
  have F32 := fun_mk (st := s_read_expression) l32 c32 k32
  have b32 := F32.binds (ps := ["text"]) fun _ _ _ _ _ _ us hl => match us, hl with | [_], _ => rfl
  have F33 := fun_mk (st := s_law_whole) l33 c33 k33
  have b33 := F33.binds (ps := ["value"]) fun _ _ _ _ _ _ us hl => match us, hl with | [_], _ => rfl
  have F34 := fun_mk (st := s_law_cell) l34 c34 k34
  have b34 := F34.binds (ps := ["script", "k"]) fun _ _ _ _ _ _ us hl => match us, hl with | [_, _], _ => rfl
  have F35 := fun_mk (st := s_law_digits) l35 c35 k35
  have b35 := F35.binds (ps := ["cell", "sizes"]) fun _ _ _ _ _ _ us hl => match us, hl with | [_, _], _ => rfl
  have F36 := fun_mk (st := s_law_reserved) l36 c36 k36
  have b36 := F36.binds (ps := []) fun _ _ _ _ _ _ us hl => match us, hl with | [], _ => rfl
  have F37 := fun_mk (st := s_law_fresh) l37 c37 k37
  have b37 := F37.binds (ps := ["text", "names"]) fun _ _ _ _ _ _ us hl => match us, hl with | [_, _], _ => rfl
  have F38 := fun_mk (st := s_law_names) l38 c38 k38
  have b38 := F38.binds (ps := ["cell", "many"]) fun _ _ _ _ _ _ us hl => match us, hl with | [_, _], _ => rfl
  have F39 := fun_mk (st := s_law_ops) l39 c39 k39
  have b39 := F39.binds (ps := []) fun _ _ _ _ _ _ us hl => match us, hl with | [], _ => rfl
  have F40 := fun_mk (st := s_law_leaf) l40 c40 k40
  have b40 := F40.binds (ps := ["form", "pick", "names", "small"]) fun _ _ _ _ _ _ us hl => match us, hl with | [_, _, _, _], _ => rfl
  have F41 := fun_mk (st := s_law_joined) l41 c41 k41
  have b41 := F41.binds (ps := ["form", "name", "parts"]) fun _ _ _ _ _ _ us hl => match us, hl with | [_, _, _], _ => rfl
  have F42 := fun_mk (st := s_law_trees) l42 c42 k42
  have b42 := F42.binds (ps := ["row", "names", "calls", "small"]) fun _ _ _ _ _ _ us hl => match us, hl with | [_, _, _, _], _ => rfl
  have F43 := fun_mk (st := s_law_chain) l43 c43 k43
  have b43 := F43.binds (ps := ["row", "names", "calls", "small"]) fun _ _ _ _ _ _ us hl => match us, hl with | [_, _, _, _], _ => rfl
  have F44 := fun_mk (st := s_law_level) l44 c44 k44
  have b44 := F44.binds (ps := ["e"]) fun _ _ _ _ _ _ us hl => match us, hl with | [_], _ => rfl
  have F45 := fun_mk (st := s_law_left) l45 c45 k45
  have b45 := F45.binds (ps := ["e"]) fun _ _ _ _ _ _ us hl => match us, hl with | [_], _ => rfl
  have F46 := fun_mk (st := s_law_boxed) l46 c46 k46
  have b46 := F46.binds (ps := ["e", "need"]) fun _ _ _ _ _ _ us hl => match us, hl with | [_, _], _ => rfl
  have F47 := fun_mk (st := s_law_written) l47 c47 k47
  have b47 := F47.binds (ps := ["e"]) fun _ _ _ _ _ _ us hl => match us, hl with | [_], _ => rfl
  have F48 := fun_mk (st := s_law_listed) l48 c48 k48
  have b48 := F48.binds (ps := ["parts", "row", "at"]) fun _ _ _ _ _ _ us hl => match us, hl with | [_, _, _], _ => rfl
  have F49 := fun_mk (st := s_law_sole) l49 c49 k49
  have b49 := F49.binds (ps := ["e", "more"]) fun _ _ _ _ _ _ us hl => match us, hl with | [_, _], _ => rfl
  have F50 := fun_mk (st := s_law_tokens) l50 c50 k50
  have b50 := F50.binds (ps := ["e", "need", "row", "at"]) fun _ _ _ _ _ _ us hl => match us, hl with | [_, _, _, _], _ => rfl
  have F51 := fun_mk (st := s_law_spaced) l51 c51 k51
  have b51 := F51.binds (ps := ["tokens", "row"]) fun _ _ _ _ _ _ us hl => match us, hl with | [_, _], _ => rfl
  have F52 := fun_mk (st := s_law_nodes) l52 c52 k52
  have b52 := F52.binds (ps := ["e"]) fun _ _ _ _ _ _ us hl => match us, hl with | [_], _ => rfl
  have F53 := fun_mk (st := s_law_fits) l53 c53 k53
  have b53 := F53.binds (ps := ["text"]) fun _ _ _ _ _ _ us hl => match us, hl with | [_], _ => rfl
  have F54 := fun_mk (st := s_law_same) l54 c54 k54
  have b54 := F54.binds (ps := ["told", "due"]) fun _ _ _ _ _ _ us hl => match us, hl with | [_, _], _ => rfl
  have F55 := fun_mk (st := s_law_asked) l55 c55 k55
  have b55 := F55.binds (ps := ["e", "plan", "script", "at"]) fun _ _ _ _ _ _ us hl => match us, hl with | [_, _, _, _], _ => rfl
  have F56 := fun_mk (st := s_law) l56 c56 k56
  have b56 := F56.binds (ps := ["script"]) fun _ _ _ _ _ _ us hl => match us, hl with | [_], _ => rfl
  have T : Txt w K mg (fun n => if n < 100 then ([f0, f1, f2, f3, f4, f5, f6, f7, f8, f9, f10, f11, f12, f13, f14, f15, f16, f17, f18, f19, f20, f21, f22, f23, f24, f25, f26, f27, f28, f29, f30, f31, f32, f33, f34, f35, f36, f37, f38, f39, f40, f41, f42, f43, f44, f45, f46, f47, f48, f49, f50, f51, f52, f53, f54, f55, fa] : List Addr).getD n 0 else if n < 200 then ([0, 0, 0, 0, t4, 0, t6, 0, 0, 0, t10, t11, t12, 0] : List Addr).getD (n - 100) 0 else ([C0, C1] : List Addr).getD (n - 200) 0) (fun n => ([PySem.W.fnOf "_told" "_told" (defArgs s_told) (defBody s_told) (defScope s_told) .none kV0 dc0 pm0 an0 cd0 ct0, PySem.W.fnOf "is_name" "is_name" (defArgs s_is_name) (defBody s_is_name) (defScope s_is_name) .none kV1 dc1 pm1 an1 cd1 ct1, PySem.W.fnOf "parts_of" "parts_of" (defArgs s_parts_of) (defBody s_parts_of) (defScope s_parts_of) .none kV2 dc2 pm2 an2 cd2 ct2, PySem.W.fnOf "inner_first" "inner_first" (defArgs s_inner_first) (defBody s_inner_first) (defScope s_inner_first) .none kV3 dc3 pm3 an3 cd3 ct3, PySem.W.fnOf "folded" "folded" (defArgs s_folded) (defBody s_folded) (defScope s_folded) .none kV4 dc4 pm4 an4 cd4 ct4, PySem.W.fnOf "is_number" "is_number" (defArgs s_is_number) (defBody s_is_number) (defScope s_is_number) .none kV5 dc5 pm5 an5 cd5 ct5, PySem.W.fnOf "_run_end" "_run_end" (defArgs s_run_end) (defBody s_run_end) (defScope s_run_end) .none kV6 dc6 pm6 an6 cd6 ct6, PySem.W.fnOf "_token_end" "_token_end" (defArgs s_token_end) (defBody s_token_end) (defScope s_token_end) .none kV7 dc7 pm7 an7 cd7 ct7, PySem.W.fnOf "_is_token" "_is_token" (defArgs s_is_token) (defBody s_is_token) (defScope s_is_token) .none kV8 dc8 pm8 an8 cd8 ct8, PySem.W.fnOf "tokens_of" "tokens_of" (defArgs s_tokens_of) (defBody s_tokens_of) (defScope s_tokens_of) .none kV9 dc9 pm9 an9 cd9 ct9, PySem.W.fnOf "_in_brackets" "_in_brackets" (defArgs s_in_brackets) (defBody s_in_brackets) (defScope s_in_brackets) .none kV10 dc10 pm10 an10 cd10 ct10, PySem.W.fnOf "_written_pair" "_written_pair" (defArgs s_written_pair) (defBody s_written_pair) (defScope s_written_pair) .none kV11 dc11 pm11 an11 cd11 ct11, PySem.W.fnOf "_written" "_written" (defArgs s_written) (defBody s_written) (defScope s_written) .none kV12 dc12 pm12 an12 cd12 ct12, PySem.W.fnOf "write_expression" "write_expression" (defArgs s_write_expression) (defBody s_write_expression) (defScope s_write_expression) .none kV13 dc13 pm13 an13 cd13 ct13, PySem.W.fnOf "__init__" "Bracket.__init__" (defArgs s_Bracket___init__) (defBody s_Bracket___init__) (defScope s_Bracket___init__) .none kV14 dc14 pm14 an14 cd14 ct14, PySem.W.fnOf "test_may_begin" "Bracket.test_may_begin" (defArgs s_Bracket_test_may_begin) (defBody s_Bracket_test_may_begin) (defScope s_Bracket_test_may_begin) .none kV15 dc15 pm15 an15 cd15 ct15, PySem.W.fnOf "compares" "Bracket.compares" (defArgs s_Bracket_compares) (defBody s_Bracket_compares) (defScope s_Bracket_compares) .none kV16 dc16 pm16 an16 cd16 ct16, PySem.W.fnOf "fold" "Bracket.fold" (defArgs s_Bracket_fold) (defBody s_Bracket_fold) (defScope s_Bracket_fold) .none kV17 dc17 pm17 an17 cd17 ct17, PySem.W.fnOf "end_argument" "Bracket.end_argument" (defArgs s_Bracket_end_argument) (defBody s_Bracket_end_argument) (defScope s_Bracket_end_argument) .none kV18 dc18 pm18 an18 cd18 ct18, PySem.W.fnOf "whole" "Bracket.whole" (defArgs s_Bracket_whole) (defBody s_Bracket_whole) (defScope s_Bracket_whole) .none kV19 dc19 pm19 an19 cd19 ct19, PySem.W.fnOf "__init__" "Reader.__init__" (defArgs s_Reader___init__) (defBody s_Reader___init__) (defScope s_Reader___init__) .none kV20 dc20 pm20 an20 cd20 ct20, PySem.W.fnOf "token" "Reader.token" (defArgs s_Reader_token) (defBody s_Reader_token) (defScope s_Reader_token) .none kV21 dc21 pm21 an21 cd21 ct21, PySem.W.fnOf "next_token" "Reader.next_token" (defArgs s_Reader_next_token) (defBody s_Reader_next_token) (defScope s_Reader_next_token) .none kV22 dc22 pm22 an22 cd22 ct22, PySem.W.fnOf "refuse" "Reader.refuse" (defArgs s_Reader_refuse) (defBody s_Reader_refuse) (defScope s_Reader_refuse) .none kV23 dc23 pm23 an23 cd23 ct23, PySem.W.fnOf "close_bracket" "Reader.close_bracket" (defArgs s_Reader_close_bracket) (defBody s_Reader_close_bracket) (defScope s_Reader_close_bracket) .none kV24 dc24 pm24 an24 cd24 ct24, PySem.W.fnOf "read_number" "Reader.read_number" (defArgs s_Reader_read_number) (defBody s_Reader_read_number) (defScope s_Reader_read_number) .none kV25 dc25 pm25 an25 cd25 ct25, PySem.W.fnOf "read_atom" "Reader.read_atom" (defArgs s_Reader_read_atom) (defBody s_Reader_read_atom) (defScope s_Reader_read_atom) .none kV26 dc26 pm26 an26 cd26 ct26, PySem.W.fnOf "read_opening" "Reader.read_opening" (defArgs s_Reader_read_opening) (defBody s_Reader_read_opening) (defScope s_Reader_read_opening) .none kV27 dc27 pm27 an27 cd27 ct27, PySem.W.fnOf "is_empty_call" "Reader.is_empty_call" (defArgs s_Reader_is_empty_call) (defBody s_Reader_is_empty_call) (defScope s_Reader_is_empty_call) .none kV28 dc28 pm28 an28 cd28 ct28, PySem.W.fnOf "read_operand" "Reader.read_operand" (defArgs s_Reader_read_operand) (defBody s_Reader_read_operand) (defScope s_Reader_read_operand) .none kV29 dc29 pm29 an29 cd29 ct29, PySem.W.fnOf "read_operator" "Reader.read_operator" (defArgs s_Reader_read_operator) (defBody s_Reader_read_operator) (defScope s_Reader_read_operator) .none kV30 dc30 pm30 an30 cd30 ct30, PySem.W.fnOf "read_whole" "Reader.read_whole" (defArgs s_Reader_read_whole) (defBody s_Reader_read_whole) (defScope s_Reader_read_whole) .none kV31 dc31 pm31 an31 cd31 ct31, PySem.W.fnOf "read_expression" "read_expression" (defArgs s_read_expression) (defBody s_read_expression) (defScope s_read_expression) .none kV32 dc32 pm32 an32 cd32 ct32, PySem.W.fnOf "_law_whole" "_law_whole" (defArgs s_law_whole) (defBody s_law_whole) (defScope s_law_whole) .none kV33 dc33 pm33 an33 cd33 ct33, PySem.W.fnOf "_law_cell" "_law_cell" (defArgs s_law_cell) (defBody s_law_cell) (defScope s_law_cell) .none kV34 dc34 pm34 an34 cd34 ct34, PySem.W.fnOf "_law_digits" "_law_digits" (defArgs s_law_digits) (defBody s_law_digits) (defScope s_law_digits) .none kV35 dc35 pm35 an35 cd35 ct35, PySem.W.fnOf "_law_reserved" "_law_reserved" (defArgs s_law_reserved) (defBody s_law_reserved) (defScope s_law_reserved) .none kV36 dc36 pm36 an36 cd36 ct36, PySem.W.fnOf "_law_fresh" "_law_fresh" (defArgs s_law_fresh) (defBody s_law_fresh) (defScope s_law_fresh) .none kV37 dc37 pm37 an37 cd37 ct37, PySem.W.fnOf "_law_names" "_law_names" (defArgs s_law_names) (defBody s_law_names) (defScope s_law_names) .none kV38 dc38 pm38 an38 cd38 ct38, PySem.W.fnOf "_law_ops" "_law_ops" (defArgs s_law_ops) (defBody s_law_ops) (defScope s_law_ops) .none kV39 dc39 pm39 an39 cd39 ct39, PySem.W.fnOf "_law_leaf" "_law_leaf" (defArgs s_law_leaf) (defBody s_law_leaf) (defScope s_law_leaf) .none kV40 dc40 pm40 an40 cd40 ct40, PySem.W.fnOf "_law_joined" "_law_joined" (defArgs s_law_joined) (defBody s_law_joined) (defScope s_law_joined) .none kV41 dc41 pm41 an41 cd41 ct41, PySem.W.fnOf "_law_trees" "_law_trees" (defArgs s_law_trees) (defBody s_law_trees) (defScope s_law_trees) .none kV42 dc42 pm42 an42 cd42 ct42, PySem.W.fnOf "_law_chain" "_law_chain" (defArgs s_law_chain) (defBody s_law_chain) (defScope s_law_chain) .none kV43 dc43 pm43 an43 cd43 ct43, PySem.W.fnOf "_law_level" "_law_level" (defArgs s_law_level) (defBody s_law_level) (defScope s_law_level) .none kV44 dc44 pm44 an44 cd44 ct44, PySem.W.fnOf "_law_left" "_law_left" (defArgs s_law_left) (defBody s_law_left) (defScope s_law_left) .none kV45 dc45 pm45 an45 cd45 ct45, PySem.W.fnOf "_law_boxed" "_law_boxed" (defArgs s_law_boxed) (defBody s_law_boxed) (defScope s_law_boxed) .none kV46 dc46 pm46 an46 cd46 ct46, PySem.W.fnOf "_law_written" "_law_written" (defArgs s_law_written) (defBody s_law_written) (defScope s_law_written) .none kV47 dc47 pm47 an47 cd47 ct47, PySem.W.fnOf "_law_listed" "_law_listed" (defArgs s_law_listed) (defBody s_law_listed) (defScope s_law_listed) .none kV48 dc48 pm48 an48 cd48 ct48, PySem.W.fnOf "_law_sole" "_law_sole" (defArgs s_law_sole) (defBody s_law_sole) (defScope s_law_sole) .none kV49 dc49 pm49 an49 cd49 ct49, PySem.W.fnOf "_law_tokens" "_law_tokens" (defArgs s_law_tokens) (defBody s_law_tokens) (defScope s_law_tokens) .none kV50 dc50 pm50 an50 cd50 ct50, PySem.W.fnOf "_law_spaced" "_law_spaced" (defArgs s_law_spaced) (defBody s_law_spaced) (defScope s_law_spaced) .none kV51 dc51 pm51 an51 cd51 ct51, PySem.W.fnOf "_law_nodes" "_law_nodes" (defArgs s_law_nodes) (defBody s_law_nodes) (defScope s_law_nodes) .none kV52 dc52 pm52 an52 cd52 ct52, PySem.W.fnOf "_law_fits" "_law_fits" (defArgs s_law_fits) (defBody s_law_fits) (defScope s_law_fits) .none kV53 dc53 pm53 an53 cd53 ct53, PySem.W.fnOf "_law_same" "_law_same" (defArgs s_law_same) (defBody s_law_same) (defScope s_law_same) .none kV54 dc54 pm54 an54 cd54 ct54, PySem.W.fnOf "_law_asked" "_law_asked" (defArgs s_law_asked) (defBody s_law_asked) (defScope s_law_asked) .none kV55 dc55 pm55 an55 cd55 ct55, PySem.W.fnOf "law" "law" (defArgs s_law) (defBody s_law) (defScope s_law) .none kV56 dc56 pm56 an56 cd56 ct56] : List FuncData).getD n (PySem.W.fnOf "law" "law" (defArgs s_law) (defBody s_law) (defScope s_law) .none kV56 dc56 pm56 an56 cd56 ct56)) (fun n => ([u0, u1, u2, u3, (.ref t4), u5, (.ref t6), u7, u8, u9, (.ref t10), (.ref t11), (.ref t12), u13] : List Value).getD n .none) :=
    { b_bool := PySem.W.mg_none_of X G z0,
      b_int := PySem.W.mg_none_of X G z1,
      b_isinstance := PySem.W.mg_none_of X G z2,
      b_len := PySem.W.mg_none_of X G z3,
      b_max := PySem.W.mg_none_of X G z4,
      b_min := PySem.W.mg_none_of X G z5,
      b_range := PySem.W.mg_none_of X G z6,
      b_str := PySem.W.mg_none_of X G z7,
      b_sum := PySem.W.mg_none_of X G z8,
      b_tuple := PySem.W.mg_none_of X G z9,
      c_ATOM_LEVEL := PySem.W.mg_of X G g0,
      r_ATOM_LEVEL := h0,
      c_COMPARISON_LEVEL := PySem.W.mg_of X G g1,
      r_COMPARISON_LEVEL := h1,
      c_DIGITS := PySem.W.mg_of X G g2,
      r_DIGITS := h2,
      c_LETTERS := PySem.W.mg_of X G g3,
      r_LETTERS := h3,
      c_LEVELS := PySem.W.mg_of X G g4,
      r_LEVELS := rfl,
      q_LEVELS := ⟨⟨_, _, ⟨o4, w4, h4⟩⟩, (show DAll K t4 levels from ⟨⟨_, dg4_0, dr4_0⟩, ⟨⟨_, dg4_1, dr4_1⟩, ⟨⟨_, dg4_2, dr4_2⟩, ⟨⟨_, dg4_3, dr4_3⟩, ⟨⟨_, dg4_4, dr4_4⟩, ⟨⟨_, dg4_5, dr4_5⟩, ⟨⟨_, dg4_6, dr4_6⟩, ⟨⟨_, dg4_7, dr4_7⟩, ⟨⟨_, dg4_8, dr4_8⟩, ⟨⟨_, dg4_9, dr4_9⟩, ⟨⟨_, dg4_10, dr4_10⟩, ⟨⟨_, dg4_11, dr4_11⟩, ⟨⟨_, dg4_12, dr4_12⟩, ⟨⟨_, dg4_13, dr4_13⟩, True.intro⟩⟩⟩⟩⟩⟩⟩⟩⟩⟩⟩⟩⟩⟩).get⟩,
      c_LONGEST_NAME := PySem.W.mg_of X G g5,
      r_LONGEST_NAME := h5,
      c_LONG_SIGNS := PySem.W.mg_of X G g6,
      r_LONG_SIGNS := rfl,
      q_LONG_SIGNS := fun _ => Or.inr ⟨_, _, _, o6, rfl, rfl, w6, h6⟩,
      c_MOST_ARGUMENTS := PySem.W.mg_of X G g7,
      r_MOST_ARGUMENTS := h7,
      c_MOST_DIGITS := PySem.W.mg_of X G g8,
      r_MOST_DIGITS := h8,
      c_NOT_LEVEL := PySem.W.mg_of X G g9,
      r_NOT_LEVEL := h9,
      c_OWN_NAMES := PySem.W.mg_of X G g10,
      r_OWN_NAMES := rfl,
      q_OWN_NAMES := fun _ => Or.inr ⟨_, _, _, o10, rfl, rfl, w10, h10⟩,
      c_RESERVED := PySem.W.mg_of X G g11,
      r_RESERVED := rfl,
      q_RESERVED := fun _ => Or.inr ⟨_, _, _, o11, rfl, rfl, w11, h11⟩,
      c_SIGNS := PySem.W.mg_of X G g12,
      r_SIGNS := rfl,
      q_SIGNS := fun _ => Or.inr ⟨_, _, _, o12, rfl, rfl, w12, h12⟩,
      c_VERY_LARGE := PySem.W.mg_of X G g13,
      r_VERY_LARGE := h13,
      d_told := ⟨F0, PySem.W.mg_of X G a0, k0, b0⟩,
      d_is_name := ⟨F1, PySem.W.mg_of X G a1, k1, b1⟩,
      d_parts_of := ⟨F2, PySem.W.mg_of X G a2, k2, b2⟩,
      d_inner_first := ⟨F3, PySem.W.mg_of X G a3, k3, b3⟩,
      d_folded := ⟨F4, PySem.W.mg_of X G a4, k4, b4⟩,
      d_is_number := ⟨F5, PySem.W.mg_of X G a5, k5, b5⟩,
      d_run_end := ⟨F6, PySem.W.mg_of X G a6, k6, b6⟩,
      d_token_end := ⟨F7, PySem.W.mg_of X G a7, k7, b7⟩,
      d_is_token := ⟨F8, PySem.W.mg_of X G a8, k8, b8⟩,
      d_tokens_of := ⟨F9, PySem.W.mg_of X G a9, k9, b9⟩,
      d_in_brackets := ⟨F10, PySem.W.mg_of X G a10, k10, b10⟩,
      d_written_pair := ⟨F11, PySem.W.mg_of X G a11, k11, b11⟩,
      d_written := ⟨F12, PySem.W.mg_of X G a12, k12, b12⟩,
      d_write_expression := ⟨F13, PySem.W.mg_of X G a13, k13, b13⟩,
      d_Bracket___init__ := ⟨F14, b14⟩,
      m_Bracket___init__ := ⟨a14, i14, k14⟩,
      d_Bracket_test_may_begin := ⟨F15, b15⟩,
      m_Bracket_test_may_begin := ⟨a15, i15, k15⟩,
      d_Bracket_compares := ⟨F16, b16⟩,
      m_Bracket_compares := ⟨a16, i16, k16⟩,
      d_Bracket_fold := ⟨F17, b17⟩,
      m_Bracket_fold := ⟨a17, i17, k17⟩,
      d_Bracket_end_argument := ⟨F18, b18⟩,
      m_Bracket_end_argument := ⟨a18, i18, k18⟩,
      d_Bracket_whole := ⟨F19, b19⟩,
      m_Bracket_whole := ⟨a19, i19, k19⟩,
      d_Reader___init__ := ⟨F20, b20⟩,
      m_Reader___init__ := ⟨a20, i20, k20⟩,
      d_Reader_token := ⟨F21, b21⟩,
      m_Reader_token := ⟨a21, i21, k21⟩,
      d_Reader_next_token := ⟨F22, b22⟩,
      m_Reader_next_token := ⟨a22, i22, k22⟩,
      d_Reader_refuse := ⟨F23, b23⟩,
      m_Reader_refuse := ⟨a23, i23, k23⟩,
      d_Reader_close_bracket := ⟨F24, b24⟩,
      m_Reader_close_bracket := ⟨a24, i24, k24⟩,
      d_Reader_read_number := ⟨F25, b25⟩,
      m_Reader_read_number := ⟨a25, i25, k25⟩,
      d_Reader_read_atom := ⟨F26, b26⟩,
      m_Reader_read_atom := ⟨a26, i26, k26⟩,
      d_Reader_read_opening := ⟨F27, b27⟩,
      m_Reader_read_opening := ⟨a27, i27, k27⟩,
      d_Reader_is_empty_call := ⟨F28, b28⟩,
      m_Reader_is_empty_call := ⟨a28, i28, k28⟩,
      d_Reader_read_operand := ⟨F29, b29⟩,
      m_Reader_read_operand := ⟨a29, i29, k29⟩,
      d_Reader_read_operator := ⟨F30, b30⟩,
      m_Reader_read_operator := ⟨a30, i30, k30⟩,
      d_Reader_read_whole := ⟨F31, b31⟩,
      m_Reader_read_whole := ⟨a31, i31, k31⟩,
      d_read_expression := ⟨F32, PySem.W.mg_of X G a32, k32, b32⟩,
      d_law_whole := ⟨F33, PySem.W.mg_of X G a33, k33, b33⟩,
      d_law_cell := ⟨F34, PySem.W.mg_of X G a34, k34, b34⟩,
      d_law_digits := ⟨F35, PySem.W.mg_of X G a35, k35, b35⟩,
      d_law_reserved := ⟨F36, PySem.W.mg_of X G a36, k36, b36⟩,
      d_law_fresh := ⟨F37, PySem.W.mg_of X G a37, k37, b37⟩,
      d_law_names := ⟨F38, PySem.W.mg_of X G a38, k38, b38⟩,
      d_law_ops := ⟨F39, PySem.W.mg_of X G a39, k39, b39⟩,
      d_law_leaf := ⟨F40, PySem.W.mg_of X G a40, k40, b40⟩,
      d_law_joined := ⟨F41, PySem.W.mg_of X G a41, k41, b41⟩,
      d_law_trees := ⟨F42, PySem.W.mg_of X G a42, k42, b42⟩,
      d_law_chain := ⟨F43, PySem.W.mg_of X G a43, k43, b43⟩,
      d_law_level := ⟨F44, PySem.W.mg_of X G a44, k44, b44⟩,
      d_law_left := ⟨F45, PySem.W.mg_of X G a45, k45, b45⟩,
      d_law_boxed := ⟨F46, PySem.W.mg_of X G a46, k46, b46⟩,
      d_law_written := ⟨F47, PySem.W.mg_of X G a47, k47, b47⟩,
      d_law_listed := ⟨F48, PySem.W.mg_of X G a48, k48, b48⟩,
      d_law_sole := ⟨F49, PySem.W.mg_of X G a49, k49, b49⟩,
      d_law_tokens := ⟨F50, PySem.W.mg_of X G a50, k50, b50⟩,
      d_law_spaced := ⟨F51, PySem.W.mg_of X G a51, k51, b51⟩,
      d_law_nodes := ⟨F52, PySem.W.mg_of X G a52, k52, b52⟩,
      d_law_fits := ⟨F53, PySem.W.mg_of X G a53, k53, b53⟩,
      d_law_same := ⟨F54, PySem.W.mg_of X G a54, k54, b54⟩,
      d_law_asked := ⟨F55, PySem.W.mg_of X G a55, k55, b55⟩,
      d_law := ⟨F56, PySem.W.mg_of X G a56, k56, b56⟩,
      cl_Bracket := ⟨pg0, hd0, po0, sa0⟩,
      g_Bracket := PySem.W.mg_of X G ac0,
      mk_Bracket := ⟨mk0, a14, i14, kc0⟩,
      n_Bracket_arguments := nf0_arguments,
      n_Bracket_caller := nf0_caller,
      n_Bracket_operands := nf0_operands,
      n_Bracket_operators := nf0_operators,
      cl_Reader := ⟨pg1, hd1, po1, sa1⟩,
      g_Reader := PySem.W.mg_of X G ac1,
      mk_Reader := ⟨mk1, a20, i20, kc1⟩,
      n_Reader_at := nf1_at,
      n_Reader_brackets := nf1_brackets,
      n_Reader_tokens := nf1_tokens }
  exact ⟨PySem.W.fnOf "law" "law" (defArgs s_law) (defBody s_law) (defScope s_law) .none kV56 dc56 pm56 an56 cd56 ct56, fun s v => .of_eq rfl, fun base _ _ => ok_law T⟩
end K02
open PySem PySem.W PyProof.Rows
set_option maxRecDepth 100000 in
set_option maxHeartbeats 0 in
theorem PySem.Challenge.cw_sameroom_k02_expression_texts_holds : PySem.Challenge.rw_sameroom_k02_expression_texts.Holds := by
  w_on; o_law; k_head; (case hw => w_witness2)
  k_fill
  refine L2.walk_of (l := PySem.Challenge.rw_sameroom_k02_expression_texts) (n := 63) (k := 91) (x := "script") (CX := fun _ => L2.CX0) (sp := fun w => K02.spLaw _) rfl (by decide) rfl ⟨rfl, by decide, by decide⟩ (fun w h Y => PySem.W.kIn_of Y) ?F (fun _ _ a ns hl _ hS => ⟨a, ns, rfl, hS, hl, fun _ => rfl⟩) (fun _ _ _ _ _ h => h)
  case F =>
    intro w mg fa h KX G hmg
    refine' K02.all_mk KX G hmg ?zzac0 ?zzpg0 ?zzhd0 ?zzpo0 ?zzsa0 ?zzmk0 ?zzkc0 ?zznf0_arguments ?zznf0_caller ?zznf0_operands ?zznf0_operators ?zzac1 ?zzpg1 ?zzhd1 ?zzpo1 ?zzsa1 ?zzmk1 ?zzkc1 ?zznf1_at ?zznf1_brackets ?zznf1_tokens ?zza0 ?zzl0 ?zzc0 ?zzk0 ?zza1 ?zzl1 ?zzc1 ?zzk1 ?zza2 ?zzl2 ?zzc2 ?zzk2 ?zza3 ?zzl3 ?zzc3 ?zzk3 ?zza4 ?zzl4 ?zzc4 ?zzk4 ?zza5 ?zzl5 ?zzc5 ?zzk5 ?zza6 ?zzl6 ?zzc6 ?zzk6 ?zza7 ?zzl7 ?zzc7 ?zzk7 ?zza8 ?zzl8 ?zzc8 ?zzk8 ?zza9 ?zzl9 ?zzc9 ?zzk9 ?zza10 ?zzl10 ?zzc10 ?zzk10 ?zza11 ?zzl11 ?zzc11 ?zzk11 ?zza12 ?zzl12 ?zzc12 ?zzk12 ?zza13 ?zzl13 ?zzc13 ?zzk13 ?zza14 ?zzi14 ?zzl14 ?zzc14 ?zzk14 ?zza15 ?zzi15 ?zzl15 ?zzc15 ?zzk15 ?zza16 ?zzi16 ?zzl16 ?zzc16 ?zzk16 ?zza17 ?zzi17 ?zzl17 ?zzc17 ?zzk17 ?zza18 ?zzi18 ?zzl18 ?zzc18 ?zzk18 ?zza19 ?zzi19 ?zzl19 ?zzc19 ?zzk19 ?zza20 ?zzi20 ?zzl20 ?zzc20 ?zzk20 ?zza21 ?zzi21 ?zzl21 ?zzc21 ?zzk21 ?zza22 ?zzi22 ?zzl22 ?zzc22 ?zzk22 ?zza23 ?zzi23 ?zzl23 ?zzc23 ?zzk23 ?zza24 ?zzi24 ?zzl24 ?zzc24 ?zzk24 ?zza25 ?zzi25 ?zzl25 ?zzc25 ?zzk25 ?zza26 ?zzi26 ?zzl26 ?zzc26 ?zzk26 ?zza27 ?zzi27 ?zzl27 ?zzc27 ?zzk27 ?zza28 ?zzi28 ?zzl28 ?zzc28 ?zzk28 ?zza29 ?zzi29 ?zzl29 ?zzc29 ?zzk29 ?zza30 ?zzi30 ?zzl30 ?zzc30 ?zzk30 ?zza31 ?zzi31 ?zzl31 ?zzc31 ?zzk31 ?zza32 ?zzl32 ?zzc32 ?zzk32 ?zza33 ?zzl33 ?zzc33 ?zzk33 ?zza34 ?zzl34 ?zzc34 ?zzk34 ?zza35 ?zzl35 ?zzc35 ?zzk35 ?zza36 ?zzl36 ?zzc36 ?zzk36 ?zza37 ?zzl37 ?zzc37 ?zzk37 ?zza38 ?zzl38 ?zzc38 ?zzk38 ?zza39 ?zzl39 ?zzc39 ?zzk39 ?zza40 ?zzl40 ?zzc40 ?zzk40 ?zza41 ?zzl41 ?zzc41 ?zzk41 ?zza42 ?zzl42 ?zzc42 ?zzk42 ?zza43 ?zzl43 ?zzc43 ?zzk43 ?zza44 ?zzl44 ?zzc44 ?zzk44 ?zza45 ?zzl45 ?zzc45 ?zzk45 ?zza46 ?zzl46 ?zzc46 ?zzk46 ?zza47 ?zzl47 ?zzc47 ?zzk47 ?zza48 ?zzl48 ?zzc48 ?zzk48 ?zza49 ?zzl49 ?zzc49 ?zzk49 ?zza50 ?zzl50 ?zzc50 ?zzk50 ?zza51 ?zzl51 ?zzc51 ?zzk51 ?zza52 ?zzl52 ?zzc52 ?zzk52 ?zza53 ?zzl53 ?zzc53 ?zzk53 ?zza54 ?zzl54 ?zzc54 ?zzk54 ?zza55 ?zzl55 ?zzc55 ?zzk55 ?zza56 ?zzl56 ?zzc56 ?zzk56 ?zzg0 ?zzh0 ?zzg1 ?zzh1 ?zzg2 ?zzh2 ?zzg3 ?zzh3 ?zzg4 ?zzo4 ?zzw4 ?zzh4 ?zzdg4_0 ?zzdr4_0 ?zzdg4_1 ?zzdr4_1 ?zzdg4_2 ?zzdr4_2 ?zzdg4_3 ?zzdr4_3 ?zzdg4_4 ?zzdr4_4 ?zzdg4_5 ?zzdr4_5 ?zzdg4_6 ?zzdr4_6 ?zzdg4_7 ?zzdr4_7 ?zzdg4_8 ?zzdr4_8 ?zzdg4_9 ?zzdr4_9 ?zzdg4_10 ?zzdr4_10 ?zzdg4_11 ?zzdr4_11 ?zzdg4_12 ?zzdr4_12 ?zzdg4_13 ?zzdr4_13 ?zzg5 ?zzh5 ?zzg6 ?zzo6 ?zzw6 ?zzh6 ?zzg7 ?zzh7 ?zzg8 ?zzh8 ?zzg9 ?zzh9 ?zzg10 ?zzo10 ?zzw10 ?zzh10 ?zzg11 ?zzo11 ?zzw11 ?zzh11 ?zzg12 ?zzo12 ?zzw12 ?zzh12 ?zzg13 ?zzh13 ?zzz0 ?zzz1 ?zzz2 ?zzz3 ?zzz4 ?zzz5 ?zzz6 ?zzz7 ?zzz8 ?zzz9
    (case zzac0 => k_is)
    (case zzpg0 => k_is)
    (case zzhd0 => k_is)
    (case zzpo0 => k_is)
    (case zzsa0 => k_is)
    (case zzmk0 => k_is)
    (case zzkc0 => k_is)
    (case zznf0_arguments => k_is)
    (case zznf0_caller => k_is)
    (case zznf0_operands => k_is)
    (case zznf0_operators => k_is)
    (case zzac1 => k_is)
    (case zzpg1 => k_is)
    (case zzhd1 => k_is)
    (case zzpo1 => k_is)
    (case zzsa1 => k_is)
    (case zzmk1 => k_is)
    (case zzkc1 => k_is)
    (case zznf1_at => k_is)
    (case zznf1_brackets => k_is)
    (case zznf1_tokens => k_is)
    (case zza0 => k_is)
    (case zzl0 => k_is)
    (case zzc0 => k_is)
    (case zzk0 => k_is)
    (case zza1 => k_is)
    (case zzl1 => k_is)
    (case zzc1 => k_is)
    (case zzk1 => k_is)
    (case zza2 => k_is)
    (case zzl2 => k_is)
    (case zzc2 => k_is)
    (case zzk2 => k_is)
    (case zza3 => k_is)
    (case zzl3 => k_is)
    (case zzc3 => k_is)
    (case zzk3 => k_is)
    (case zza4 => k_is)
    (case zzl4 => k_is)
    (case zzc4 => k_is)
    (case zzk4 => k_is)
    (case zza5 => k_is)
    (case zzl5 => k_is)
    (case zzc5 => k_is)
    (case zzk5 => k_is)
    (case zza6 => k_is)
    (case zzl6 => k_is)
    (case zzc6 => k_is)
    (case zzk6 => k_is)
    (case zza7 => k_is)
    (case zzl7 => k_is)
    (case zzc7 => k_is)
    (case zzk7 => k_is)
    (case zza8 => k_is)
    (case zzl8 => k_is)
    (case zzc8 => k_is)
    (case zzk8 => k_is)
    (case zza9 => k_is)
    (case zzl9 => k_is)
    (case zzc9 => k_is)
    (case zzk9 => k_is)
    (case zza10 => k_is)
    (case zzl10 => k_is)
    (case zzc10 => k_is)
    (case zzk10 => k_is)
    (case zza11 => k_is)
    (case zzl11 => k_is)
    (case zzc11 => k_is)
    (case zzk11 => k_is)
    (case zza12 => k_is)
    (case zzl12 => k_is)
    (case zzc12 => k_is)
    (case zzk12 => k_is)
    (case zza13 => k_is)
    (case zzl13 => k_is)
    (case zzc13 => k_is)
    (case zzk13 => k_is)
    (case zza14 => k_is)
    (case zzi14 => k_is)
    (case zzl14 => k_is)
    (case zzc14 => k_is)
    (case zzk14 => k_is)
    (case zza15 => k_is)
    (case zzi15 => k_is)
    (case zzl15 => k_is)
    (case zzc15 => k_is)
    (case zzk15 => k_is)
    (case zza16 => k_is)
    (case zzi16 => k_is)
    (case zzl16 => k_is)
    (case zzc16 => k_is)
    (case zzk16 => k_is)
    (case zza17 => k_is)
    (case zzi17 => k_is)
    (case zzl17 => k_is)
    (case zzc17 => k_is)
    (case zzk17 => k_is)
    (case zza18 => k_is)
    (case zzi18 => k_is)
    (case zzl18 => k_is)
    (case zzc18 => k_is)
    (case zzk18 => k_is)
    (case zza19 => k_is)
    (case zzi19 => k_is)
    (case zzl19 => k_is)
    (case zzc19 => k_is)
    (case zzk19 => k_is)
    (case zza20 => k_is)
    (case zzi20 => k_is)
    (case zzl20 => k_is)
    (case zzc20 => k_is)
    (case zzk20 => k_is)
    (case zza21 => k_is)
    (case zzi21 => k_is)
    (case zzl21 => k_is)
    (case zzc21 => k_is)
    (case zzk21 => k_is)
    (case zza22 => k_is)
    (case zzi22 => k_is)
    (case zzl22 => k_is)
    (case zzc22 => k_is)
    (case zzk22 => k_is)
    (case zza23 => k_is)
    (case zzi23 => k_is)
    (case zzl23 => k_is)
    (case zzc23 => k_is)
    (case zzk23 => k_is)
    (case zza24 => k_is)
    (case zzi24 => k_is)
    (case zzl24 => k_is)
    (case zzc24 => k_is)
    (case zzk24 => k_is)
    (case zza25 => k_is)
    (case zzi25 => k_is)
    (case zzl25 => k_is)
    (case zzc25 => k_is)
    (case zzk25 => k_is)
    (case zza26 => k_is)
    (case zzi26 => k_is)
    (case zzl26 => k_is)
    (case zzc26 => k_is)
    (case zzk26 => k_is)
    (case zza27 => k_is)
    (case zzi27 => k_is)
    (case zzl27 => k_is)
    (case zzc27 => k_is)
    (case zzk27 => k_is)
    (case zza28 => k_is)
    (case zzi28 => k_is)
    (case zzl28 => k_is)
    (case zzc28 => k_is)
    (case zzk28 => k_is)
    (case zza29 => k_is)
    (case zzi29 => k_is)
    (case zzl29 => k_is)
    (case zzc29 => k_is)
    (case zzk29 => k_is)
    (case zza30 => k_is)
    (case zzi30 => k_is)
    (case zzl30 => k_is)
    (case zzc30 => k_is)
    (case zzk30 => k_is)
    (case zza31 => k_is)
    (case zzi31 => k_is)
    (case zzl31 => k_is)
    (case zzc31 => k_is)
    (case zzk31 => k_is)
    (case zza32 => k_is)
    (case zzl32 => k_is)
    (case zzc32 => k_is)
    (case zzk32 => k_is)
    (case zza33 => k_is)
    (case zzl33 => k_is)
    (case zzc33 => k_is)
    (case zzk33 => k_is)
    (case zza34 => k_is)
    (case zzl34 => k_is)
    (case zzc34 => k_is)
    (case zzk34 => k_is)
    (case zza35 => k_is)
    (case zzl35 => k_is)
    (case zzc35 => k_is)
    (case zzk35 => k_is)
    (case zza36 => k_is)
    (case zzl36 => k_is)
    (case zzc36 => k_is)
    (case zzk36 => k_is)
    (case zza37 => k_is)
    (case zzl37 => k_is)
    (case zzc37 => k_is)
    (case zzk37 => k_is)
    (case zza38 => k_is)
    (case zzl38 => k_is)
    (case zzc38 => k_is)
    (case zzk38 => k_is)
    (case zza39 => k_is)
    (case zzl39 => k_is)
    (case zzc39 => k_is)
    (case zzk39 => k_is)
    (case zza40 => k_is)
    (case zzl40 => k_is)
    (case zzc40 => k_is)
    (case zzk40 => k_is)
    (case zza41 => k_is)
    (case zzl41 => k_is)
    (case zzc41 => k_is)
    (case zzk41 => k_is)
    (case zza42 => k_is)
    (case zzl42 => k_is)
    (case zzc42 => k_is)
    (case zzk42 => k_is)
    (case zza43 => k_is)
    (case zzl43 => k_is)
    (case zzc43 => k_is)
    (case zzk43 => k_is)
    (case zza44 => k_is)
    (case zzl44 => k_is)
    (case zzc44 => k_is)
    (case zzk44 => k_is)
    (case zza45 => k_is)
    (case zzl45 => k_is)
    (case zzc45 => k_is)
    (case zzk45 => k_is)
    (case zza46 => k_is)
    (case zzl46 => k_is)
    (case zzc46 => k_is)
    (case zzk46 => k_is)
    (case zza47 => k_is)
    (case zzl47 => k_is)
    (case zzc47 => k_is)
    (case zzk47 => k_is)
    (case zza48 => k_is)
    (case zzl48 => k_is)
    (case zzc48 => k_is)
    (case zzk48 => k_is)
    (case zza49 => k_is)
    (case zzl49 => k_is)
    (case zzc49 => k_is)
    (case zzk49 => k_is)
    (case zza50 => k_is)
    (case zzl50 => k_is)
    (case zzc50 => k_is)
    (case zzk50 => k_is)
    (case zza51 => k_is)
    (case zzl51 => k_is)
    (case zzc51 => k_is)
    (case zzk51 => k_is)
    (case zza52 => k_is)
    (case zzl52 => k_is)
    (case zzc52 => k_is)
    (case zzk52 => k_is)
    (case zza53 => k_is)
    (case zzl53 => k_is)
    (case zzc53 => k_is)
    (case zzk53 => k_is)
    (case zza54 => k_is)
    (case zzl54 => k_is)
    (case zzc54 => k_is)
    (case zzk54 => k_is)
    (case zza55 => k_is)
    (case zzl55 => k_is)
    (case zzc55 => k_is)
    (case zzk55 => k_is)
    (case zza56 => k_is)
    (case zzl56 => k_is)
    (case zzc56 => k_is)
    (case zzk56 => k_is)
    (case zzg0 => k_is)
    (case zzh0 => exact ⟨_, rfl⟩)
    (case zzg1 => k_is)
    (case zzh1 => exact ⟨_, rfl⟩)
    (case zzg2 => k_is)
    (case zzh2 => exact ⟨_, rfl⟩)
    (case zzg3 => k_is)
    (case zzh3 => exact ⟨_, rfl⟩)
    (case zzg4 => k_is)
    (case zzo4 => k_is)
    (case zzw4 => repeat' (first | exact True.intro | refine ⟨⟨_, _, rfl, rfl⟩, ?_⟩))
    (case zzh4 => first | rfl | decide +kernel | k_is)
    (case zzdg4_0 => k_is)
    (case zzdr4_0 => exact ⟨_, rfl⟩)
    (case zzdg4_1 => k_is)
    (case zzdr4_1 => exact ⟨_, rfl⟩)
    (case zzdg4_2 => k_is)
    (case zzdr4_2 => exact ⟨_, rfl⟩)
    (case zzdg4_3 => k_is)
    (case zzdr4_3 => exact ⟨_, rfl⟩)
    (case zzdg4_4 => k_is)
    (case zzdr4_4 => exact ⟨_, rfl⟩)
    (case zzdg4_5 => k_is)
    (case zzdr4_5 => exact ⟨_, rfl⟩)
    (case zzdg4_6 => k_is)
    (case zzdr4_6 => exact ⟨_, rfl⟩)
    (case zzdg4_7 => k_is)
    (case zzdr4_7 => exact ⟨_, rfl⟩)
    (case zzdg4_8 => k_is)
    (case zzdr4_8 => exact ⟨_, rfl⟩)
    (case zzdg4_9 => k_is)
    (case zzdr4_9 => exact ⟨_, rfl⟩)
    (case zzdg4_10 => k_is)
    (case zzdr4_10 => exact ⟨_, rfl⟩)
    (case zzdg4_11 => k_is)
    (case zzdr4_11 => exact ⟨_, rfl⟩)
    (case zzdg4_12 => k_is)
    (case zzdr4_12 => exact ⟨_, rfl⟩)
    (case zzdg4_13 => k_is)
    (case zzdr4_13 => exact ⟨_, rfl⟩)
    (case zzg5 => k_is)
    (case zzh5 => exact ⟨_, rfl⟩)
    (case zzg6 => k_is)
    (case zzo6 => k_is)
    (case zzw6 => decide +kernel)
    (case zzh6 => repeat' (first | exact Paired.nil | refine' Paired.cons ⟨_, rfl⟩ ?_))
    (case zzg7 => k_is)
    (case zzh7 => exact ⟨_, rfl⟩)
    (case zzg8 => k_is)
    (case zzh8 => exact ⟨_, rfl⟩)
    (case zzg9 => k_is)
    (case zzh9 => exact ⟨_, rfl⟩)
    (case zzg10 => k_is)
    (case zzo10 => k_is)
    (case zzw10 => decide +kernel)
    (case zzh10 => repeat' (first | exact Paired.nil | refine' Paired.cons ⟨_, rfl⟩ ?_))
    (case zzg11 => k_is)
    (case zzo11 => k_is)
    (case zzw11 => decide +kernel)
    (case zzh11 => repeat' (first | exact Paired.nil | refine' Paired.cons ⟨_, rfl⟩ ?_))
    (case zzg12 => k_is)
    (case zzo12 => k_is)
    (case zzw12 => decide +kernel)
    (case zzh12 => repeat' (first | exact Paired.nil | refine' Paired.cons ⟨_, rfl⟩ ?_))
    (case zzg13 => k_is)
    (case zzh13 => exact ⟨_, rfl⟩)
    (case zzz0 => k_is)
    (case zzz1 => k_is)
    (case zzz2 => k_is)
    (case zzz3 => k_is)
    (case zzz4 => k_is)
    (case zzz5 => k_is)
    (case zzz6 => k_is)
    (case zzz7 => k_is)
    (case zzz8 => k_is)
    (case zzz9 => k_is)

