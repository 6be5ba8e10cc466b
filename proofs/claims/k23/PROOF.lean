import PyProof.Rows.All
import Wide.All
import OpenK.AllK
import Wide.FinOn
import HandS.ForMost
import HandS.Evl
import HandS.Style
import HandS.FStr
import HandS.IsInst
import HandS.CallLocal
import HandS.More
import HandS.Star
import HandS.RaiseMore
import HandS.Defaults
import HandS.Conv
import PySem.Challenge.RW_sameroom_k23_bad_graphs
import HandS.Strs
import HandS.SortInts
import KE.GoesEnum
import HandS.NamedTupSort
import HandS.Sort
import KE.KSortTup
import HandS.TupSets
import KE.KEqDict
import KE.DataMinMax
import HandS.ExcSuper
import HandS.ExcInit
import HandS.Nested
import KE.KExcSuper
import HandS.Exc
import HandS.ExcOwn
import HandS.ExcIs
import HandS.ExcField
import HandS.WordsExc
import HandS.CallSlots
import HandS.TryMany
import HandS.MakeKw
import HandS.HeadHook4
import HandS.TupAny
import HandS.TupLen
import HandS.Head0
import HandS.Head1
import HandS.Head2
import HandS.HeadEnd
import HandS.HeadHook1
import HandS.HeadHook2
import HandS.HeadHook3
set_option Elab.async false
set_option linter.all false
set_option maxRecDepth 100000
set_option maxHeartbeats 2000000
/-! own words over HandS and Evl: tests known ahead, chains, signs of texts, loops over texts, calls that hand back something of a kind -/
namespace Own
open PySem L2 Evl
section
variable {K : PySem.W.Frag} {σ : L2.St} {H H' : Hp} {ta tb tc te tl : TE} {t u : TT} {x y z v : V} {r r' : R2} {D : Ends} {tu tw tz : TS} {g : TG}
theorem et_orT (h : EvT t σ H true) : EvT (tOr t u) σ H true := fun H1 e Q q => h H1 e _ fun H2 e2 => by
  show Q true H2
  exact q H2 e2
theorem et_orF {b : Bool} (h : EvT t σ H false) (h2 : EvT u σ H b) : EvT (tOr t u) σ H b := fun H1 e Q q => h H1 e _ fun H2 e2 => by
  show u σ H2 Q
  exact h2 H2 (e.trans e2) Q fun H3 e3 => q H3 (e2.trans e3)
theorem et_andF (h : EvT t σ H false) : EvT (tAnd t u) σ H false := fun H1 e Q q => h H1 e _ fun H2 e2 => by
  show Q false H2
  exact q H2 e2
theorem et_andT {b : Bool} (h : EvT t σ H true) (h2 : EvT u σ H b) : EvT (tAnd t u) σ H b := fun H1 e Q q => h H1 e _ fun H2 e2 => by
  show u σ H2 Q
  exact h2 H2 (e.trans e2) Q fun H3 e3 => q H3 (e2.trans e3)
theorem ev_chain {a b : Bool} (hx : Ev ta σ H x) (hy : Ev tb σ H y) (h1 : RV r x y H (.bl a)) (hz : a = true → Ev tc σ H z) (h2 : a = true → RV r' y z H (.bl b)) : Ev (tChain r r' ta tb tc) σ H (.bl (a && b)) := fun H1 e Q q =>
  hx H1 e _ fun H2 e2 => hy H2 (e.trans e2) _ fun H3 e3 => h1 H3 ((e.trans e2).trans e3) _ fun H4 e4 => ⟨a, rfl, by
    cases a with
    | true =>
      show tc σ H4 fun w' H5 => r' y w' H5 Q
      exact hz rfl H4 (((e.trans e2).trans e3).trans e4) _ fun H5 e5 => h2 rfl H5 ((((e.trans e2).trans e3).trans e4).trans e5) Q fun H6 e6 => q H6 ((((e2.trans e3).trans e4).trans e5).trans e6)
    | false =>
      show Q (.bl false) H4
      exact q H4 ((e2.trans e3).trans e4)⟩
theorem rv_sign {neg : Bool} {c : Nat} {s : Str} : RV (fun x y H Q => ∃ (c : Nat) (z : Str), x = V.str ⟨#[c]⟩ ∧ y = .str z ∧ Q (.bl (if neg then !decide (c ∈ z.cps.toList) else decide (c ∈ z.cps.toList))) H) (.str ⟨#[c]⟩) (.str s) H (.bl (if neg then !decide (c ∈ s.cps.toList) else decide (c ∈ s.cps.toList))) :=
  fun H1 _ Q q => ⟨c, s, rfl, rfl, q H1 (Ex.refl H1)⟩
theorem rv_inS {c : Nat} {s : Str} : RV (fun x y H Q => ∃ (c : Nat) (z : Str), x = V.str ⟨#[c]⟩ ∧ y = .str z ∧ Q (.bl (decide (c ∈ z.cps.toList))) H) (.str ⟨#[c]⟩) (.str s) H (.bl (decide (c ∈ s.cps.toList))) :=
  fun H1 _ Q q => ⟨c, s, rfl, rfl, q H1 (Ex.refl H1)⟩
theorem rv_niS {c : Nat} {s : Str} : RV (fun x y H Q => ∃ (c : Nat) (z : Str), x = V.str ⟨#[c]⟩ ∧ y = .str z ∧ Q (.bl (!decide (c ∈ z.cps.toList))) H) (.str ⟨#[c]⟩) (.str s) H (.bl (!decide (c ∈ s.cps.toList))) :=
  fun H1 _ Q q => ⟨c, s, rfl, rfl, q H1 (Ex.refl H1)⟩
theorem rc_int1 {i : Int} : RC (fun xs H Q => (∃ i, xs = [V.int i] ∧ Q (V.int i) H) ∨ ∃ k, xs = [.bl k] ∧ Q (.int (if k then 1 else 0)) H) [.int i] H (.int i) := fun H1 _ Q q => Or.inl ⟨i, rfl, q H1 (Ex.refl H1)⟩
theorem rc_lenS {s : Str} (h : s.length ≤ sizeLine) : RC (fun xs H Q => ∃ z, xs = [V.str z] ∧ z.length ≤ sizeLine ∧ Q (.int z.length) H) [.str s] H (.int s.length) := fun H1 _ Q q => ⟨s, rfl, h, q H1 (Ex.refl H1)⟩
theorem rc_lenL {K : PySem.W.Frag} {H : Hp} {p : Addr} {ys : List V} (h : SqL K H p ys) : RC (fun xs H Q => ∃ p ys, xs = [V.ref p] ∧ (SqL K H p ys ∨ SqT K H p ys) ∧ Q (.int ys.length) H) [.ref p] H (.int ys.length) := fun H1 e Q q => ⟨p, ys, rfl, .inl (ex_l e h), q H1 (Ex.refl H1)⟩
theorem rc_lenT {K : PySem.W.Frag} {H : Hp} {p : Addr} {ys : List V} (h : SqT K H p ys) : RC (fun xs H Q => ∃ p ys, xs = [V.ref p] ∧ (SqL K H p ys ∨ SqT K H p ys) ∧ Q (.int ys.length) H) [.ref p] H (.int ys.length) := fun H1 e Q q => ⟨p, ys, rfl, .inr (ex_t e h), q H1 (Ex.refl H1)⟩
theorem rc_min2 {H : Hp} {i j : Int} : RC (fun xs H Q => ∃ i j, xs = [V.int i, .int j] ∧ Q (.int (if j < i then j else i)) H) [.int i, .int j] H (.int (if j < i then j else i)) := fun H1 _ Q q => ⟨i, j, rfl, q H1 (Ex.refl H1)⟩
theorem rc_max2 {H : Hp} {i j : Int} : RC (fun xs H Q => ∃ i j, xs = [V.int i, .int j] ∧ Q (.int (if j > i then j else i)) H) [.int i, .int j] H (.int (if j > i then j else i)) := fun H1 _ Q q => ⟨i, j, rfl, q H1 (Ex.refl H1)⟩
theorem rv_addS {s s' : Str} (h : s.length + s'.length ≤ sizeLine) : RV (fun x y H Q => ∃ i j, x = V.str i ∧ y = .str j ∧ i.length + j.length ≤ sizeLine ∧ Q (.str (i ++ j)) H) (.str s) (.str s') H (.str (s ++ s')) := fun H1 _ Q q => ⟨s, s', rfl, rfl, h, q H1 (Ex.refl H1)⟩
theorem int_dec {i j : Int} : decide (V.int i = V.int j) = decide (i = j) := by
  by_cases e : i = j
  · subst e
    rw [decide_eq_true rfl, decide_eq_true rfl]
  · rw [decide_eq_false e, decide_eq_false (fun h => e (V.int.inj h))]
theorem rv_eqI {i j : Int} : RV rEq (.int i) (.int j) H (.bl (decide (i = j))) := by
  rw [← int_dec]
  exact rv_eq rfl
theorem rv_neI {i j : Int} : RV rNe (.int i) (.int j) H (.bl (!decide (i = j))) := by
  rw [← int_dec]
  exact rv_ne rfl
theorem rv_isB {a b : Bool} : RV rIsB (.bl a) (.bl b) H (.bl (decide (a = b))) := fun H1 _ Q q => ⟨a, b, rfl, rfl, q H1 (Ex.refl H1)⟩
/-- a loop over the signs of a text -/
theorem s_forS {j : Nat} {s : Str} (h : Ev tl σ H (.str s)) (Pv : Nat → L2.St → Hp → Prop) (h0 : ∀ H1, Ex H H1 → Pv 0 σ H1)
    (hs : ∀ i c σ' H', s.cps.toList[i]? = some c → Pv i σ' H' → tu { D with nx := Pv (i + 1), ct := Pv (i + 1), bk := D.nx } (σ'.set j (some (.str ⟨#[c]⟩))) H') (hd : ∀ σ' H', Pv s.cps.toList.length σ' H' → D.nx σ' H') : tFor (iStr tl) (gName j) tu D σ H := by
  refine h H (Ex.refl H) _ fun H1 e => ⟨s, rfl, fun i m σ' H' => m = s.cps.toList.length - i ∧ i ≤ s.cps.toList.length ∧ Pv i σ' H', ⟨_, rfl, Nat.zero_le _, h0 H1 e⟩, ?_⟩
  rintro i m σ' H' ⟨rfl, hi, p⟩
  have hl : s.cps.toList.length = s.cps.size := Array.length_toList
  by_cases hlt : i < s.cps.toList.length
  · refine .inr ⟨by show i < s.cps.size; omega, Pv (i + 1), fun σ2 H2 p' => ⟨_, by omega, rfl, by omega, p'⟩, fun x H2 hy => ?_⟩
    obtain ⟨rfl, c, hc, rfl⟩ := hy
    exact hs i c σ' _ (by rw [Array.getElem?_toList]; exact hc) p
  · have e2 : i = s.cps.toList.length := by omega
    subst e2
    exact .inl ⟨by show s.cps.size ≤ _; omega, hd σ' H' p⟩
theorem q_forS {j : Nat} {s : Str} (h : Ev tl σ H (.str s)) (Pv : Nat → L2.St → Hp → Prop) (h0 : ∀ H1, Ex H H1 → Pv 0 σ H1)
    (hs : ∀ i c σ' H', s.cps.toList[i]? = some c → Pv i σ' H' → tu { D with nx := Pv (i + 1), ct := Pv (i + 1), bk := tz D } (σ'.set j (some (.str ⟨#[c]⟩))) H') (hd : ∀ σ' H', Pv s.cps.toList.length σ' H' → tz D σ' H') : tSeq (tFor (iStr tl) (gName j) tu) tz D σ H :=
  s_forS (D := { D with nx := tz D }) h Pv h0 hs hd
end
theorem atI_zero {α : Type} {l r : List α} {c : α} (h : l = c :: r) : atI l 0 = some c := by
  subst h
  exact atI_nat (j := 0) rfl
theorem ev_slS {σ : L2.St} {H : Hp} {te : TE} {tl th : TO} {z : Str} {lo hi : Option Int} (h : Ev te σ H (.str z)) (h1 : EvO tl σ H lo) (h2 : EvO th σ H hi) (hz : z.length ≤ sizeLine) : Ev (tSl rSlS te tl th) σ H (.str (cutS z lo hi)) := fun H1 e Q q =>
  h H1 e _ fun H2 e2 => h1 H2 (e.trans e2) _ fun H3 e3 => h2 H3 ((e.trans e2).trans e3) _ fun H4 e4 => ⟨z, rfl, hz, q H4 ((e2.trans e3).trans e4)⟩
/-! ### what evaluates to something of a kind -/
def EvS (te : TE) (σ : L2.St) (H : Hp) (S : V → Prop) : Prop := ∀ H1, Ex H H1 → ∀ Q : VK, (∀ v H2, S v → Ex H1 H2 → Q v H2) → te σ H1 Q
def EvAS (ta : TA) (σ : L2.St) (H : Hp) (S : List V → Prop) : Prop := ∀ H1, Ex H H1 → ∀ Q : List V → Hp → Prop, (∀ vs H2, S vs → Ex H1 H2 → Q vs H2) → ta σ H1 Q
def SpS (sp : Sp) (vs : List V) (H : Hp) (S : V → Prop) : Prop := ∀ H1, Ex H H1 → ∀ Q : VK, (∀ v H2, S v → Ex H1 H2 → Q v H2) → ∀ E : XK, sp vs H1 Q E
def IsS (n : Nat) (v : V) : Prop := ∃ z : Str, v = .str z ∧ z.length ≤ n
def IsI (lo hi : Int) (v : V) : Prop := ∃ i : Int, v = .int i ∧ lo ≤ i ∧ i < hi
section
variable {K : PySem.W.Frag} {σ : L2.St} {H H' : Hp} {ta tb te : TE} {v x y : V} {r : R2} {D : Ends} {tz : TS} {S S' S'' : V → Prop}
theorem evS_of (h : Ev te σ H v) (s : S v) : EvS te σ H S := fun H1 e Q q => h H1 e Q fun H2 e2 => q v H2 s e2
theorem EvS.mono (e : Ex H H') (h : EvS te σ H S) : EvS te σ H' S := fun H1 a Q q => h H1 (e.trans a) Q q
theorem EvS.weak (h : EvS te σ H S) (w : ∀ v, S v → S' v) : EvS te σ H S' := fun H1 e Q q => h H1 e Q fun v H2 s e2 => q v H2 (w v s) e2
theorem evS_op (ha : EvS ta σ H S) (hb : EvS tb σ H S') (hr : ∀ x y, S x → S' y → ∃ z, S'' z ∧ RV r x y H z) : EvS (tOp r ta tb) σ H S'' := fun H1 e Q q =>
  ha H1 e _ fun x H2 sx e2 => hb H2 (e.trans e2) _ fun y H3 sy e3 => by
    obtain ⟨z, sz, hz⟩ := hr x y sx sy
    exact hz H3 ((e.trans e2).trans e3) Q fun H4 e4 => q z H4 sz ((e2.trans e3).trans e4)
theorem eaS_nil : EvAS tNil σ H (fun vs => vs = []) := fun H1 _ _ q => q [] H1 rfl (Ex.refl H1)
theorem eaS_cons {tr : TA} {R : List V → Prop} (h : EvS te σ H S) (hr : EvAS tr σ H R) : EvAS (tCons te tr) σ H (fun vs => ∃ v r, vs = v :: r ∧ S v ∧ R r) := fun H1 e _ q =>
  h H1 e _ fun v H2 s e2 => hr H2 (e.trans e2) _ fun vs H3 r e3 => q _ H3 ⟨v, vs, rfl, s, r⟩ (e2.trans e3)
theorem eaS_weak {ta : TA} {R R' : List V → Prop} (h : EvAS ta σ H R) (w : ∀ vs, R vs → R' vs) : EvAS ta σ H R' := fun H1 e Q q => h H1 e Q fun vs H2 r e2 => q vs H2 (w vs r) e2
theorem evS_call {sp : Sp} {dvs vs : List V} {E : XK} {ta : TA} (h : EvA ta σ H vs) (hs : SpS sp (vs ++ dvs) H S) : EvS (tCall sp dvs E ta) σ H S := fun H1 e Q q =>
  h H1 e _ fun H2 e2 => hs H2 (e.trans e2) Q (fun v H3 s e3 => q v H3 s (e2.trans e3)) E
theorem evS_callS {sp : Sp} {dvs : List V} {R : List V → Prop} {E : XK} {ta : TA} (h : EvAS ta σ H R) (hs : ∀ vs, R vs → SpS sp (vs ++ dvs) H S) : EvS (tCall sp dvs E ta) σ H S := fun H1 e Q q =>
  h H1 e _ fun vs H2 r e2 => hs vs r H2 (e.trans e2) Q (fun v H3 s e3 => q v H3 s (e2.trans e3)) E
theorem IsS.up {n m : Nat} {v : V} (h : IsS n v) (e : n ≤ m) : IsS m v := by
  obtain ⟨z, e1, e2⟩ := h
  exact ⟨z, e1, by omega⟩
theorem evS_addS {a b : Nat} (ha : EvS ta σ H (IsS a)) (hb : EvS tb σ H (IsS b)) (h : a + b ≤ 100000) : EvS (tOp (fun x y H Q => ∃ i j, x = V.str i ∧ y = .str j ∧ i.length + j.length ≤ sizeLine ∧ Q (.str (i ++ j)) H) ta tb) σ H (IsS (a + b)) :=
  evS_op ha hb fun x y ⟨z, e1, h1⟩ ⟨z', e2, h2⟩ => by
    subst e1 e2
    refine ⟨_, ⟨z ++ z', rfl, ?_⟩, rv_addS (sz_of (by omega))⟩
    rw [Str.length_append]
    omega
def IsE (n : Nat) (v : V) : Prop := ∃ z : Str, v = .str z ∧ z.length = n
theorem IsE.toS {n m : Nat} {v : V} (h : IsE n v) (e : n ≤ m) : IsS m v := by
  obtain ⟨z, e1, e2⟩ := h
  exact ⟨z, e1, by omega⟩
theorem evS_addE {a b : Nat} (ha : EvS ta σ H (IsE a)) (hb : EvS tb σ H (IsE b)) (h : a + b ≤ 100000) : EvS (tOp (fun x y H Q => ∃ i j, x = V.str i ∧ y = .str j ∧ i.length + j.length ≤ sizeLine ∧ Q (.str (i ++ j)) H) ta tb) σ H (IsE (a + b)) :=
  evS_op ha hb fun x y ⟨z, e1, h1⟩ ⟨z', e2, h2⟩ => by
    subst e1 e2
    refine ⟨_, ⟨z ++ z', rfl, ?_⟩, rv_addS (sz_of (by omega))⟩
    rw [Str.length_append]
    omega
theorem s_asgS {i : Nat} (h : EvS te σ H S) (k : ∀ v H1, S v → Ex H H1 → D.nx (σ.set i (some v)) H1) : tAsg te (gName i) D σ H := h H (Ex.refl H) _ fun v H1 s e => k v H1 s e
theorem q_asgS {i : Nat} (h : EvS te σ H S) (k : ∀ v H1, S v → Ex H H1 → tz D (σ.set i (some v)) H1) : tSeq (tAsg te (gName i)) tz D σ H := s_asgS (D := { D with nx := tz D }) h k
theorem s_retS (h : EvS te σ H S) (k : ∀ v H1, S v → Ex H H1 → D.rt v H1) : tRet te D σ H := h H (Ex.refl H) _ fun v H1 s e => k v H1 s e
/-! ### lists of things of a kind -/
def EvLS (te : TE) (σ : L2.St) (H : Hp) (R : List V → Prop) : Prop := ∀ H1, Ex H H1 → ∀ Q : VK, (∀ xs p H2, R xs → H1 p = none → Ex H1 H2 → H2 p = some (.lst xs) → Q (.ref p) H2) → te σ H1 Q
theorem elS_of {xs : List V} {R : List V → Prop} (h : EvL te σ H xs) (r : R xs) : EvLS te σ H R := fun H1 e Q q => h H1 e Q fun p H2 hp e2 h2 => q xs p H2 r hp e2 h2
theorem elS_sl {tl th : TO} {R R' : List V → Prop} {lo hi : Option Int} (h : EvLS te σ H R) (h1 : EvO tl σ H lo) (h2 : EvO th σ H hi) (w : ∀ xs, R xs → R' (cutV xs lo hi)) : EvLS (tSl (rSlL K) te tl th) σ H R' := fun H1 e Q q =>
  h H1 e _ fun xs a H2 rx ha e2 hx => h1 H2 (e.trans e2) _ fun H3 e3 => h2 H3 ((e.trans e2).trans e3) _ fun H4 e4 =>
    ⟨a, xs, rfl, sq_of (e4 _ _ (e3 _ _ hx)), fun p hp => q _ p _ (w xs rx) (fresh_back ((e2.trans e3).trans e4) hp) (((e2.trans e3).trans e4).trans (Ex.new hp)) upd_same⟩
theorem elS_lcR1 {ta : TA} {j : Nat} {vs : List Nat} {n : Int} (h : EvA ta σ H [.int n]) (hn : 0 ≤ n ∧ n ≤ 40000) (hw : ∀ x, wipe ((wipe σ vs).set j (some x)) vs = wipe σ vs)
    (he : ∀ (i : Nat) H1, Ex H H1 → (i : Int) < n → EvS te ((wipe σ vs).set j (some (.int (i : Int)))) H1 S) :
    EvLS (tLc (iRng1 ta) (gName j) tYes te vs) σ H (fun xs => xs.length = n.toNat ∧ ∀ x ∈ xs, S x) := fun H0 e Q q => h H0 e _ fun H1 e1 => ⟨n, rfl, by omega, by omega, fun Dl hD =>
  lc_range (lo := 0) (n := n.toNat) (fun i H' => Ex H1 H' ∧ ∃ xs, H' Dl = some (.lst xs) ∧ xs.length = i ∧ ∀ x ∈ xs, S x) ⟨Ex.new hD, [], upd_same, rfl, fun x hx => by cases hx⟩ (fun i H' hi ⟨x1, xs, x2, x3, x4⟩ => by
    have e0 : (0 : Int) + (i : Int) = (i : Int) := Int.zero_add _
    refine ⟨(by rw [e0]; exact hw _ : wipe ((wipe σ vs).set j (some (.int ((0 : Int) + (i : Int))))) vs = wipe σ vs), ?_⟩
    refine iteT (B := Ex H1 H' ∧ ∃ xs, H' Dl = some (.lst xs) ∧ xs.length = i + 1 ∧ ∀ x ∈ xs, S x) ?_
    show te ((wipe σ vs).set j (some (.int ((0 : Int) + (i : Int))))) H' _
    rw [e0]
    refine he i H' ((e.trans e1).trans x1) (by omega) H' (Ex.refl H') _ fun v H2 s e2 => ⟨xs, e2 _ _ x2, sz_lt (by omega), Ex.mut (x1.trans e2) hD, xs ++ [v], upd_same, by rw [List.length_append, x3]; rfl, fun x hx => ?_⟩
    rcases List.mem_append.mp hx with hx | hx
    · exact x4 x hx
    · rw [List.mem_singleton.mp hx]
      exact s) (fun H' ⟨x1, xs, x2, x3, x4⟩ => q xs Dl H' ⟨x3, x4⟩ (fresh_back e1 hD) (e1.trans x1) x2)⟩
/-- arguments, with what is known of the heap behind them -/
def EvAH (ta : TA) (σ : L2.St) (H : Hp) (P : List V → Hp → Prop) : Prop := ∀ H1, Ex H H1 → ∀ Q : List V → Hp → Prop, (∀ vs H2, P vs H2 → Ex H1 H2 → Q vs H2) → ta σ H1 Q
theorem eaH_of {ta : TA} {vs : List V} {P : List V → Hp → Prop} (h : EvA ta σ H vs) (p : ∀ H1, Ex H H1 → P vs H1) : EvAH ta σ H P := fun H1 e Q q => h H1 e Q fun H2 e2 => q vs H2 (p H2 (e.trans e2)) e2
theorem eaH_weak {ta : TA} {P P' : List V → Hp → Prop} (h : EvAH ta σ H P) (w : ∀ vs H1, P vs H1 → P' vs H1) : EvAH ta σ H P' := fun H1 e Q q => h H1 e Q fun vs H2 r e2 => q vs H2 (w vs H2 r) e2
theorem elS_weak {R R' : List V → Prop} (h : EvLS te σ H R) (w : ∀ xs, R xs → R' xs) : EvLS te σ H R' := fun H1 e Q q => h H1 e Q fun xs p H2 r hp e2 h2 => q xs p H2 (w xs r) hp e2 h2
theorem eaH_consL {tr : TA} {xs : List V} {P : List V → Hp → Prop} (h : EvL te σ H xs) (hr : EvAH tr σ H P) : EvAH (tCons te tr) σ H (fun vs H2 => ∃ p r, vs = .ref p :: r ∧ H2 p = some (.lst xs) ∧ P r H2) := fun H1 e Q q =>
  h H1 e _ fun p H2 hp e2 h2 => hr H2 (e.trans e2) _ fun vs H3 hP e3 => q _ H3 ⟨p, vs, rfl, e3 _ _ h2, hP⟩ (e2.trans e3)
theorem eaH_cons {tr : TA} {P : List V → Hp → Prop} (h : EvS te σ H S) (hr : EvAH tr σ H P) : EvAH (tCons te tr) σ H (fun vs H2 => ∃ v r, vs = v :: r ∧ S v ∧ P r H2) := fun H1 e Q q =>
  h H1 e _ fun v H2 s e2 => hr H2 (e.trans e2) _ fun vs H3 hP e3 => q _ H3 ⟨v, vs, rfl, s, hP⟩ (e2.trans e3)
def SpLS (sp : Sp) (vs : List V) (H : Hp) (R : List V → Prop) : Prop := ∀ Q : VK, (∀ xs p H2, R xs → H p = none → Ex H H2 → H2 p = some (.lst xs) → Q (.ref p) H2) → ∀ E : XK, sp vs H Q E
theorem elS_call {sp : Sp} {dvs : List V} {P : List V → Hp → Prop} {R : List V → Prop} {E : XK} {ta : TA} (h : EvAH ta σ H P) (hs : ∀ vs H1, Ex H H1 → P vs H1 → SpLS sp (vs ++ dvs) H1 R) : EvLS (tCall sp dvs E ta) σ H R := fun H1 e Q q =>
  h H1 e _ fun vs H2 p e2 => hs vs H2 (e.trans e2) p Q (fun xs a H3 r ha e3 h3 => q xs a H3 r (fresh_back e2 ha) (e2.trans e3) h3) E
theorem s_asgLS {i : Nat} {R : List V → Prop} (h : EvLS te σ H R) (k : ∀ xs p H1, R xs → H p = none → Ex H H1 → H1 p = some (.lst xs) → D.nx (σ.set i (some (.ref p))) H1) : tAsg te (gName i) D σ H := h H (Ex.refl H) _ fun xs p H1 r hp e h1 => k xs p H1 r hp e h1
theorem q_asgLS {i : Nat} {R : List V → Prop} (h : EvLS te σ H R) (k : ∀ xs p H1, R xs → H p = none → Ex H H1 → H1 p = some (.lst xs) → tz D (σ.set i (some (.ref p))) H1) : tSeq (tAsg te (gName i)) tz D σ H := s_asgLS (D := { D with nx := tz D }) h k
theorem elS_catV {p : Addr} {xs : List V} {R R' : List V → Prop} (ha : Ev ta σ H (.ref p)) (hx : H p = some (.lst xs)) (hb : EvLS tb σ H R) (w : ∀ ys, R ys → xs.length + ys.length ≤ 100000 ∧ R' (xs ++ ys)) : EvLS (tOp rCat ta tb) σ H R' := fun H1 e Q q =>
  ha H1 e _ fun H2 e2 => hb H2 (e.trans e2) _ fun ys p' H3 r hp' e3 h3 => ⟨p, p', xs, ys, rfl, rfl, ((e.trans e2).trans e3) _ _ hx, h3, sz_of (w ys r).1, fun l hl => q _ l _ (w ys r).2 (fresh_back (e2.trans e3) hl) ((e2.trans e3).trans (Ex.new hl)) upd_same⟩
theorem elS_lst {ta : TA} {R : List V → Prop} (h : EvAS ta σ H R) (hl : ∀ vs, R vs → vs.length ≤ 100000) : EvLS (tLst ta) σ H R := fun H1 e _ q =>
  h H1 e _ fun vs H2 r e2 => ⟨sz_of (hl vs r), fun p hp => q vs p _ r (fresh_back e2 hp) (e2.trans (Ex.new hp)) upd_same⟩
theorem mem_cut {xs : List V} {lo hi : Option Int} {x : V} (h : x ∈ cutV xs lo hi) : x ∈ xs := by
  unfold cutV at h
  exact List.mem_of_mem_drop (List.mem_of_mem_take h)
theorem cut_le (xs : List V) (n : Nat) : (cutV xs none (some (n : Int))).length ≤ n := by
  unfold cutV
  rw [List.length_take]
  refine Nat.le_trans (Nat.min_le_left _ _) ?_
  have h1 : HT.sIx xs.length xs.length (some (n : Int)) ≤ n := by
    unfold HT.sIx
    simp only []
    split <;> omega
  omega
theorem strs_of {n : Nat} : ∀ {xs : List V}, (∀ x ∈ xs, IsS n x) → ∃ ys : List Str, xs = ys.map V.str ∧ ∀ y ∈ ys, y.length ≤ n
  | [], _ => ⟨[], rfl, fun y hy => by cases hy⟩
  | x :: xs, h => by
    obtain ⟨ys, rfl, hy⟩ := strs_of (xs := xs) fun x hx => h x (List.mem_cons_of_mem _ hx)
    obtain ⟨z, rfl, hz⟩ := h x List.mem_cons_self
    refine ⟨z :: ys, rfl, fun y h => ?_⟩
    rcases List.mem_cons.mp h with rfl | h
    · exact hz
    · exact hy y h
theorem join_len (a : Str) (ys : List Str) : (Txt.join a ys).length ≤ (ys.map (·.length)).sum + ys.length * a.length := by
  unfold Txt.join
  rw [StrLaws.glued_eq_join]
  exact StrLaws.join_length_le a ys
theorem sum_le {n : Nat} : ∀ {ys : List Str}, (∀ y ∈ ys, y.length ≤ n) → (ys.map (·.length)).sum ≤ ys.length * n
  | [], _ => Nat.zero_le _
  | y :: ys, h => by
    have ih := sum_le (ys := ys) fun y hy => h y (List.mem_cons_of_mem _ hy)
    have h1 := h y List.mem_cons_self
    show y.length + (ys.map (·.length)).sum ≤ (ys.length + 1) * n
    rw [Nat.succ_mul]
    omega
theorem evS_joinL {to : TE} {a : Str} {m n : Nat} {R : List V → Prop} (ho : Ev to σ H (.str a)) (he : EvLS te σ H R) (hR : ∀ xs, R xs → xs.length ≤ m ∧ ∀ x ∈ xs, IsS n x) (hz : m * n + m * a.length ≤ 16777216) :
    EvS (tM1 (fun x xs H Q => ∃ a p, ∃ ys : List Str, x = .str a ∧ xs = [.ref p] ∧ (SqL K H p (ys.map V.str) ∨ SqT K H p (ys.map V.str)) ∧ (ys.map (·.length)).sum + ys.length * a.length ≤ 16777216 ∧ Q (.str (Txt.join a ys)) H) to te) σ H (IsS (m * n + m * a.length)) := fun H1 e Q q =>
  ho H1 e _ fun H2 e2 => ⟨⟨a, rfl⟩, he H2 (e.trans e2) _ fun xs p H3 rx hp e3 hx => by
    obtain ⟨hm, hs⟩ := hR xs rx
    obtain ⟨ys, rfl, hy⟩ := strs_of hs
    rw [List.length_map] at hm
    have h1 := sum_le hy
    have h2 := Nat.mul_le_mul_right n hm
    have h3 := Nat.mul_le_mul_right a.length hm
    exact ⟨a, p, ys, rfl, rfl, .inl (sq_of hx), by omega, q _ H3 ⟨_, rfl, Nat.le_trans (join_len a ys) (by omega)⟩ (e2.trans e3)⟩⟩
theorem s_appS {l : Addr} {xs : List V} (hl : H l = some (.lst xs)) (ha : Ev ta σ H (.ref l)) (h : EvS te σ H S) (hz : xs.length < 100000) (k : ∀ v H1, S v → Ex H H1 → D.nx σ (upd H1 l (.lst (xs ++ [v])))) :
    tDrop (tBM K "list" rAppend ta (tCons te tNil)) D σ H := ha H (Ex.refl H) _ fun H1 e1 =>
  ⟨Or.inl ⟨rfl, xs, sq_of (e1 l _ hl)⟩, h H1 e1 _ fun v H2 s e2 => ⟨l, xs, v, rfl, rfl, e2 l _ (e1 l _ hl), sz_lt hz, k v H2 s (e1.trans e2)⟩⟩
theorem q_appS {l : Addr} {xs : List V} (hl : H l = some (.lst xs)) (ha : Ev ta σ H (.ref l)) (h : EvS te σ H S) (hz : xs.length < 100000) (k : ∀ v H1, S v → Ex H H1 → tz D σ (upd H1 l (.lst (xs ++ [v])))) :
    tSeq (tDrop (tBM K "list" rAppend ta (tCons te tNil))) tz D σ H := s_appS (D := { D with nx := tz D }) hl ha h hz k
/-! ### lists made of lists -/
theorem el_cat {xs ys : List V} (ha : EvL ta σ H xs) (hb : EvL tb σ H ys) (h : xs.length + ys.length ≤ 100000) : EvL (tOp rCat ta tb) σ H (xs ++ ys) := fun H1 e Q q =>
  ha H1 e _ fun p H2 hp e2 h2 => hb H2 (e.trans e2) _ fun p' H3 hp' e3 h3 => ⟨p, p', xs, ys, rfl, rfl, e3 _ _ h2, h3, sz_of h, fun l hl => q l _ (fresh_back (e2.trans e3) hl) ((e2.trans e3).trans (Ex.new hl)) upd_same⟩
theorem el_catV {p : Addr} {xs ys : List V} (ha : Ev ta σ H (.ref p)) (hx : H p = some (.lst xs)) (hb : EvL tb σ H ys) (h : xs.length + ys.length ≤ 100000) : EvL (tOp rCat ta tb) σ H (xs ++ ys) := fun H1 e Q q =>
  ha H1 e _ fun H2 e2 => hb H2 (e.trans e2) _ fun p' H3 hp' e3 h3 => ⟨p, p', xs, ys, rfl, rfl, ((e.trans e2).trans e3) _ _ hx, h3, sz_of h, fun l hl => q l _ (fresh_back (e2.trans e3) hl) ((e2.trans e3).trans (Ex.new hl)) upd_same⟩
theorem el_rep {xs : List V} {k : Int} (ha : EvL ta σ H xs) (hb : Ev tb σ H (.int k)) (h0 : 0 ≤ k) (h1 : k < 100000) (h : xs.length * k.toNat ≤ 100000) : EvL (tOp rRep ta tb) σ H (List.replicate k.toNat xs).flatten := fun H1 e Q q =>
  ha H1 e _ fun p H2 hp e2 h2 => hb H2 (e.trans e2) _ fun H3 e3 => ⟨p, k, xs, rfl, rfl, e3 _ _ h2, by omega, by omega, sz_of h, fun l hl => q l _ (fresh_back (e2.trans e3) hl) ((e2.trans e3).trans (Ex.new hl)) upd_same⟩
end
theorem at_map {α : Type} {f : α → V} {xs : List α} {j : Nat} {x : α} (h : xs[j]? = some x) : atI (xs.map f) (j : Int) = some (f x) := by
  refine atI_nat ?_
  rw [List.getElem?_map, h]
  rfl
theorem at_get {α : Type} {l : List α} {j : Nat} {d : α} (h : j < l.length) : atI l (j : Int) = some (l.getD j d) := by
  refine atI_nat ?_
  rw [List.getD_eq_getElem?_getD, List.getElem?_eq_getElem h]
  rfl
theorem at_intsI {ns : List Int} {i : Int} (h0 : 0 ≤ i) (h : i < (ns.length : Int)) : atI (ns.map V.int) i = some (.int (ns.getD i.toNat 0)) := by
  obtain ⟨j, rfl⟩ : ∃ j : Nat, i = (j : Int) := ⟨i.toNat, by omega⟩
  refine atI_nat ?_
  rw [List.getElem?_map, List.getD_eq_getElem?_getD, Int.toNat_natCast, List.getElem?_eq_getElem (by omega)]
  rfl
theorem at_ints {ns : List Int} {j : Nat} (h : j < ns.length) : atI (ns.map V.int) (j : Int) = some (.int (ns.getD j 0)) := by
  refine at_map ?_
  rw [List.getD_eq_getElem?_getD, List.getElem?_eq_getElem h]
  rfl
theorem getD_of {α : Type} {l : List α} {j : Nat} {x d : α} (h : l[j]? = some x) : l.getD j d = x := by
  rw [List.getD_eq_getElem?_getD, h]
  rfl
theorem str_len (z : Str) : z.length = z.cps.toList.length := Array.length_toList.symm
theorem all_take_succ {α : Type} {p : α → Bool} : ∀ {l : List α} {i : Nat} {c : α}, l[i]? = some c → (l.take (i + 1)).all p = ((l.take i).all p && p c) := by
  intro l i c h
  have e : l.take (i + 1) = l.take i ++ [c] := by
    rw [List.take_add_one, h]
    rfl
  rw [e, List.all_append, List.all_cons, List.all_nil, Bool.and_true]
end Own

/-! own rules: enumerate over a tuple, sorted of a tuple of ints, index in a tuple of ints -/
namespace OwnG
open PySem PySem.Spec PyProof.Rows L2 Evl Own SrtO Srt
/-- tuple(x) with its own word -/
def rTupOf (K : PySem.W.Frag) : List V → Hp → VK → Prop := fun xs H Q => ∃ p ys, xs = [.ref p] ∧ ((SqL K H p ys ∧ ∀ l, H l = none → Q (.ref l) (upd H l (.tup ys))) ∨ (SqT K H p ys ∧ Q (.ref p) H))
theorem call_tupOf {X : Cx} : CallR X (.type "tuple") (rTupOf X.K) := call_tuple_of
/-- a def with defaults, nothing leaves it -/
theorem okD {P : Program} {w : World} {K : PySem.W.Frag} {mg : Str → Option Value} {base : Heap} {x qual : Str} {params : Arguments} {body : List Stmt} {scope : Scope} {dvs : List V} {kws : List (Str × V)} {f : Addr} {fd : FuncData} {N ps : List Str} {k : Nat} {sp : Sp}
    (F : FunD K x qual params body scope dvs kws f fd) (S : FnScope N ps scope) (len : ∀ vs H Q E, sp vs H Q E → vs.length = ps.length)
    (hb : ∀ (cdv : Value) (A : Around) (outer : List Env) (s : Shared) (H : Hp) (vs : List V) (Q : VK) (E : XK), Room k (A.deeper (envOfC qual scope s.heap.objs.size f cdv)) → sp vs H Q E →
      ∃ t, PSs (cxOf CX0 P w K mg base N qual scope f cdv A outer s H E).nox body t ∧ t { nx := fun _ H' => Q .non H', rt := Q } (start N vs) H) : FnOk P w K mg base CX0 (k + 1) f fd ps sp :=
  F.ok S len fun cdv A outer s H vs Q E hr hsp => by
    obtain ⟨t, h, q⟩ := hb cdv A outer s H vs Q E hr hsp
    exact ⟨t, h.nox, q⟩
/-! ### tuples whose object is known: made by tuple(..) -/
def FzT (H : Hp) (p : Addr) (xs : List V) : Prop := ∃ o : Obj, o.dict = none ∧ H p = some (.frz o (.tup xs))
theorem FzT.sq {K : PySem.W.Frag} {H : Hp} {p : Addr} {xs : List V} (h : FzT H p xs) : SqT K H p xs := by
  obtain ⟨o, _, h⟩ := h
  exact .inl (.inr ⟨o, h⟩)
theorem FzT.ex {H H' : Hp} {p : Addr} {xs : List V} (e : Ex H H') (h : FzT H p xs) : FzT H' p xs := by
  obtain ⟨o, d, h⟩ := h
  exact ⟨o, d, e _ _ h⟩
def rTupF (K : PySem.W.Frag) : List V → Hp → VK → Prop := fun xs H Q => ∃ p ys, xs = [.ref p] ∧ SqL K H p ys ∧ ∀ (l : Addr) (o : Obj), o.dict = none → H l = none → Q (.ref l) (upd H l (.frz o (.tup ys)))
def tTupRgF (te : L2.St → Hp → (Int → Int → Hp → Prop) → Prop) : TE := fun σ H Q => te σ H fun a b H1 => RgOk a b ∧ ∀ (q : Addr) (o : Obj), o.dict = none → H1 q = none → Q (.ref q) (upd H1 q (.frz o (.tup (rgV a b))))
/-- t.index(e), t a tuple whose object is known -/
def tTix (K : PySem.W.Frag) (to : TE) (t : TA) : TE := fun σ H Q => to σ H fun x H1 => (∃ p xs, x = .ref p ∧ FzT H1 p xs) ∧ t σ H1 fun xs H2 => ∃ (p : Addr) (ys : List Int) (z : Int) (j : Nat), x = .ref p ∧ xs = [.int z] ∧ SqT K H2 p (ys.map V.int) ∧ ys[j]? = some z ∧ (∀ m, m < j → ys[m]? ≠ some z) ∧ Q (.int (j : Nat)) H2
section
variable {X : Cx}
theorem call_tupF : CallR X (.type "tuple") (rTupF X.K) := by
  intro pins s σ H xs us Q I r h
  obtain ⟨p, ys, rfl, hq, q⟩ := h
  obtain ⟨u, rfl, rx⟩ := vals1 r
  cases rx
  obtain ⟨its, r', pl, hz⟩ := I.list hq
  have hlen := r'.length
  refine call_tuple_list pl.isList (fun h' kp => ?_) (by simp only [List.size_toArray] <;> omega)
  have I1 : Inv X pins σ H { s with heap := h' } := I.kept (t' := s.toks) kp
  have ho : (h'.push { cls := .type "tuple", data := .seq its.toArray }).get? h'.objs.size = some { cls := .type "tuple", data := .seq its.toArray } := Heap.get?_push_size _ rfl
  exact ⟨.ref h'.objs.size, _, I1.laid (a := h'.objs.size) (o := .frz { cls := .type "tuple", data := .seq its.toArray } (.tup ys)) (t' := s.toks) (fun b o e => Heap.get?_push_of_some _ e) (Nat.le_refl _) ⟨ho, hz, its, r', IsTup.new _ _⟩, rfl, q _ _ rfl (I1.hok.fresh (Nat.le_refl _))⟩
theorem pe_tupRgF {e : Expr} {te : L2.St → Hp → (Int → Int → Hp → Prop) → Prop} {p pos : Pos} (hc : X.calm = true) (hg : Gl X "tuple") (hm : X.mg "tuple" = none) (he : PRg X e te) (na : starEach [e] X.env = (false, eval e X.env) :: starEach [] X.env := by rfl) : PE X (.Call (.Name "tuple" p) [e] [] pos) (tTupRgF te) := by
  refine ⟨fun pins s σ H Q I h => ?_⟩
  refine Call_ (ld_blt I hg hm boot_tuple (PyProof.Rows.callWith_type1 (args_cons (thn (he pins s σ H _ I h) fun x s1 ⟨r, a, b, t, u, v, H1, ex, hr, I1, ok, q⟩ => args_nil ?_) na) na))
  subst ex
  obtain ⟨b1, b2, b3, b4, b5⟩ := ok
  refine call_tuple_range (n := (b - a).toNat) (I1.ok.hd hc) hr (small_one b1 b2 b3 b4) (rangeSize_nat a b) b5 fun h' tk acc hk hi => ?_
  have I2 : Inv X pins σ H1 { s1 with heap := h', toks := tk } := I1.kept hk
  refine ⟨.ref h'.objs.size, _, I2.laid (a := h'.objs.size) (o := .frz { cls := .type "tuple", data := .seq acc.toList.toArray } (.tup (rgV a b))) (t' := tk) (fun c o e => Heap.get?_push_of_some _ e) (Nat.le_refl _) ⟨?_, ?_, acc.toList, vals_rg hi, ?_⟩, rfl, q _ _ rfl (I2.hok.fresh (Nat.le_refl _))⟩
  · rw [Array.toArray_toList]; exact Heap.get?_push_size _ rfl
  · rw [rgV_length, sizeLine_eq]; omega
  · rw [Array.toArray_toList]; exact IsTup.new _ _
/-! ### sorted of a tuple -/
end
def rSortedTI (K : PySem.W.Frag) : List V → Hp → VK → Prop := fun vs H Q => ∃ (a : Addr) (ns : List Int), vs = [V.ref a] ∧ SqT K H a (ns.map V.int) ∧ ∀ (ns' : List Int) (p : Addr), ns'.Perm ns → ns'.Pairwise (· ≤ ·) → H p = none → Q (.ref p) (upd H p (.lst (ns'.map V.int)))
section
variable {X : Cx}
theorem cr_sortedTI : CallR X (.builtin "sorted") (rSortedTI X.K) := by
  intro pins s σ H vs us Q I r h
  obtain ⟨a, ns, rfl, hs, q⟩ := h
  obtain ⟨its, rv, ht, hz⟩ := I.tuple hs
  rw [Vals.ref1 r]
  have hi := rv.ints
  have hz2 : its.length ≤ sizeLine := by rw [← rv.length]; exact hz
  obtain ⟨o, ho, hc, n, hd⟩ := ht
  refine Calls.call_function_entry kind_sorted plain_sorted entry_sorted (args_sorted1 _) ?_
  unfold Builtin.«sorted»
  refine wpAny_bind (m := checkCount "sorted" 1 1 _) (wpAny_pure ?_)
  refine wpAny_bind (wpAny_collect_seq a (.inr rfl) ho hc hd (fun h1 hk => ?_) (by simpa using hz2))
  have I1 : Inv X pins σ H { s with heap := h1 } := I.kept (t' := s.toks) hk
  have e1 : its.toArray.toList = its := by simp
  rw [e1]
  refine wpAny_bind (wpAny_newList ?_ hz2)
  have hoL : (h1.push (seqObj "list" its.toArray 0)).get? h1.objs.size = some (seqObj "list" its.toArray 0) := Heap.get?_push_size _ rfl
  show wpAny _ _ _ _ _ { s with heap := h1.push (seqObj "list" its.toArray 0) }
  refine wpAny_bind (wpAny_holding (wpAny_call_entry slot_list_sort ⟨_, hoL, rfl⟩ entry_list_sort (list_sort_ord swo_int hoL hz2 (fun h2 => ints_sortable hi h2) fun out hs hb => ⟨_, rfl, ?_⟩) (args_list_sort _)))
  refine wpAny_pure ?_
  obtain ⟨k1, k2, k3⟩ := ints_out hi hs hb
  obtain ⟨ep, he'⟩ := sortedHeap_at (vs := its) (out := out.toArray) hoL
  have hlen : ((out.map iv).map V.int).length ≤ sizeLine := by
    rw [List.length_map, k2.length_eq]
    rw [List.length_map] at hz
    exact hz
  refine ⟨_, rfl, .ref h1.objs.size, upd H h1.objs.size (.lst ((out.map iv).map V.int)), ?_, rfl, q _ _ k2 k3 (I1.hok.fresh (Nat.le_refl _))⟩
  refine I1.laid (t' := s.toks) (fun b u hb => ?_) (Nat.le_refl _) ⟨hlen, out, ep, vals_of_ints k1, he'⟩
  have hlt : b < h1.objs.size := Heap.lt_size hb
  show (sortedHeap (h1.push (seqObj "list" its.toArray 0)) h1.objs.size its out.toArray).get? b = some u
  rw [sortedHeap_old (Nat.ne_of_lt hlt) (by rw [size_push']; exact Nat.lt_succ_of_lt hlt)]
  exact Heap.get?_push_of_some _ hb
/-! ### index in a tuple of ints -/
def rTIx (K : PySem.W.Frag) : V → List V → Hp → VK → Prop := fun x xs H Q => ∃ (p : Addr) (ys : List Int) (z : Int) (j : Nat), x = .ref p ∧ xs = [.int z] ∧ SqT K H p (ys.map V.int) ∧ ys[j]? = some z ∧ (∀ m, m < j → ys[m]? ≠ some z) ∧ Q (.int (j : Nat)) H
theorem flat_ints (ys : List Int) : (ys.map V.int).all flatV = true := List.all_eq_true.mpr fun x hx => by
  obtain ⟨i, _, rfl⟩ := List.mem_map.mp hx
  rfl
theorem mt_tup_idxI : MtR X "tuple.index" (rTIx X.K) := by
  intro pins s σ H x xs v us Q I rx rs h
  obtain ⟨p, ys, z, j, rfl, rfl, hq, hy, hno, q⟩ := h
  cases rx
  obtain ⟨u, rfl, t, rfl⟩ := vals1 rs
  obtain ⟨its, r, pl, hz⟩ := I.tuple hq
  obtain ⟨⟨cls, dd, dt, sl⟩, ho, hc, n, hd⟩ := pl
  simp only at hc hd
  subst hc hd
  have hl : its.toArray.size = ys.length := by rw [List.size_toArray, ← r.length, List.length_map]
  have hj : j < its.toArray.size := by rw [hl]; exact (List.getElem?_eq_some_iff.mp hy).1
  have at2 : ∀ (m : Nat) (hm : m < its.toArray.size), ∃ y t', ys[m]? = some y ∧ its.toArray[m] = Value.int y t' := fun m hm => by
    have hm' : m < ys.length := by omega
    obtain ⟨w, hw, t', hw'⟩ := r.get (i := m) (x := .int ys[m]) (by simp [hm'])
    refine ⟨ys[m], t', List.getElem?_eq_getElem hm', ?_⟩
    have e := (List.getElem?_eq_some_iff.mp hw).2
    rw [← hw', ← e]
    simp
  have eqn : ∀ (m : Nat) (hm : m < its.toArray.size), eqU (.int z) its.toArray[m] = decide (ys[m]? = some z) := fun m hm => by
    obtain ⟨y, t', h1, h2⟩ := at2 m hm
    rw [h2, h1]
    show (y == z) = _
    by_cases e : y = z
    · subst e; simp
    · rw [decide_eq_false (fun h => e (Option.some.inj h))]
      exact beq_eq_false_iff_ne.mpr e
  exact call_meets PySem.F.slot_tuple_index ⟨_, ho, rfl⟩ PySem.F.entry_tuple_index (PySem.F.args_tuple_index_2 _ _) (TI.tuple_indexAt p its.toArray n dd sl (.int z t) (eqU (.int z)) j hj (by rw [eqn j hj, hy]; simp) (fun m hm hmj => by rw [eqn m hm]; exact decide_eq_false (hno m hmj)))
    ⟨ho, fun w hw => mem_eqAt (x := .int z) ⟨t, rfl⟩ rfl r (flat_ints ys) w (by simpa using hw), ⟨.int (j : Nat), H, I.tok _, ⟨_, rfl⟩, q⟩⟩
theorem pe_tix {o e : Expr} {to : TE} {t : TA} {apos cpos : Pos} (ho : PE X o to) (ha : PA X [e] t) (hbase : attributeBase o "index" X.env (eval o X.env) = eval o X.env := by rfl)
    (hfew : ((backTo cpos (starEach [e] X.env)).all (fun x => !x.1) && (backToKw cpos (keywordEach [] X.env)).all (fun x => x.1.isSome) && decide ([e].length + ([] : List Keyword).length + (if ([] : List Keyword).isEmpty then 0 else 1) < 30)) = true := by rfl)
    (hline : (apos.endLine == cpos.line) = true := by rfl) (hs : starEach [e] X.env = (false, eval e X.env) :: starEach [] X.env := by rfl) (hplain : (backTo cpos (starEach [] X.env)).any (·.1) = false := by rfl) :
    PE X (.Call (.Attribute o "index" apos) [e] [] cpos) (tTix X.K to t) := by
  refine ⟨fun pins s σ H Q I h => ?_⟩
  refine wpAny_Call_method_late hbase hfew hline rfl (thn (ho.run pins s σ H _ I h) fun v s1 ⟨x, H1, I1, r1, ⟨p, xs, ex, hp⟩, q1⟩ => ?_)
  subst ex
  cases r1
  obtain ⟨ob, hd, hp⟩ := hp
  obtain ⟨hob, _, its, _, hT⟩ := I1.hok p _ hp
  have h1 : s1.TypeIs (.ref p) "tuple" := by
    obtain ⟨o, e, c, _⟩ := hT
    exact ⟨o, e, c⟩
  refine ⟨"tuple", "tuple.index", PySem.F.plainAttrs_tuple, PySem.F.slot_tuple_index, PySem.F.type_tuple_index, h1, fun a e => by cases e; exact ⟨ob, hob, hd⟩, ?_⟩
  have hA := ha.run cpos pins s1 σ H1 _ I1 q1
  rw [hs] at hA ⊢
  refine Calls.callWith_builtin (by show (false || (backTo cpos (starEach [] X.env)).any (·.1)) = false; rw [hplain] <;> rfl) (Calls.evalArgs_plain ?_)
  exact thn hA fun us s2 ⟨vs, H2, I2, r2, q2⟩ => mt_tup_idxI pins s2 σ H2 (.ref p) vs (.ref p) us Q I2 rfl r2 q2
/-! ### enumerate over a tuple -/
set_option maxHeartbeats 4000000 in
theorem enumB1 {v : Value} {o : Obj} {H : Heap → Prop} (B : Begins v o H) :
    Meets (Builtin.«enumerate.__new__» ⟨[.type "enumerate", v], []⟩) (fun _ R s => H s.heap ∧ R (.ok (.ret (.ref (s.heap.push o).objs.size))) { s with heap := (s.heap.push o).push { cls := .type "enumerate", data := .fields #[.none, .bool false, .ref s.heap.objs.size, rawInt 0, .none, .none] } }) :=
  .of_wp fun prog w A R s h => by
    obtain ⟨hp, g, d, tk, os⟩ := s
    obtain ⟨h1, h⟩ := h
    have hsub := sub_enumerate
    have q1 : ∀ {A' : Around} {E : Value → Shared → Prop} {Q : Value → Shared → Prop}, Q (.ref hp.objs.size) ⟨hp.push o, g, d, tk, os⟩ → wpAny (model prog w) A' (pyIter v) Q E ⟨hp, g, d, tk, os⟩ := fun q => B.iter prog w _ _ ⟨hp, g, d, tk, os⟩ _ h1 q
    wp_walk using q1
    refine wpAny_stack_any fun st => wpAny_pure ?_
    split
    · rename_i c _ _ _ _ _
      cases (c == Value.type "enumerate") <;> (wp_walk using q1; exact ⟨_, rfl, h⟩)
    · (wp_walk using q1); exact ⟨_, rfl, h⟩
theorem call_enumT {prog : Program} {w : World} {A : Around} {E : Value → Shared → Prop} {s : Shared} {t : Addr} {items : Array Value} {Q : Value → Shared → Prop} (hT : s.heap.IsTuple t items)
    (h : ∀ h', IsEnum h' (s.heap.objs.size + 1) s.heap.objs.size 0 .none → h'.IsTupleIter s.heap.objs.size t 0 → (∀ b o, s.heap.get? b = some o → h'.get? b = some o) → Q (.ref (s.heap.objs.size + 1)) { s with heap := h' }) :
    wpAny (model prog w) A (call (.type "enumerate") [.ref t]) Q E s := by
  refine callType_new F.called_enumerate (by decide) (F.typeCall_enumerate_1 _) (F.newCall_enumerate_1 _) (fun obj => F.args_object_init_2 obj _) F.entry_enumerate_new (enumB1 (begins_tuple t items)) ⟨hT, ?_⟩
  have hz : (s.heap.push { cls := .type "tuple_iterator", data := .fields #[.ref t, .int 0 0] }).objs.size = s.heap.objs.size + 1 := Heap.size_push ..
  show _ ∧ _
  rw [hz]
  have he : IsEnum ((s.heap.push { cls := .type "tuple_iterator", data := .fields #[.ref t, .int 0 0] }).push { cls := .type "enumerate", data := .fields #[.none, .bool false, .ref s.heap.objs.size, rawInt 0, .none, .none] }) (s.heap.objs.size + 1) s.heap.objs.size 0 .none := by
    have := Heap.get?_push_size (s.heap.push { cls := .type "tuple_iterator", data := .fields #[.ref t, .int 0 0] }) (o := { cls := .type "enumerate", data := .fields #[.none, .bool false, .ref s.heap.objs.size, rawInt 0, .none, .none] }) rfl
    rw [hz] at this
    exact this
  exact ⟨⟨_, he, rfl⟩, h _ he ⟨_, Heap.get?_push_of_some _ (Heap.get?_push_size _ rfl), rfl, rfl⟩ fun b o x => Heap.get?_push_of_some _ (Heap.get?_push_of_some _ x)⟩
theorem enum_endT {prog : Program} {w : World} {A : Around} {E : Value → Shared → Prop} {s : Shared} {e it t : Addr} {i : Nat} {items : Array Value} {old : Value} {Q : Option Value → Shared → Prop} (hh : A.in1.handled = none)
    (he : IsEnum s.heap e it i old) (hit : s.heap.IsTupleIter it t i) (hl : s.heap.IsTuple t items) (hx : items[i]? = none)
    (hQ : ∀ h', Heap.ExtBut it s.heap h' → Q none { s with heap := h' }) : wpAny (model prog w) A (pyNext (.ref e)) Q E s := by
  have hT : s.TypeIs (.ref e) "enumerate" := ⟨_, he, rfl⟩
  unfold pyNext
  refine wpAny_bind (wpAny_attempt (wpAny_callSpecial?_slot (name := Str.ofString "__next__") hT F.slot_enumerate_next (wpAny_call_entry F.slot_enumerate_next hT F.entry_enumerate_next ?_ (F.args_enumerate_next_1 _))))
  show wpAny _ _ (field (.ref e) 2 >>= _) _ _ _
  refine wpAny_bind (wpAny_field he rfl (x := .ref it) rfl ?_)
  refine wpAny_bind (wpAny_nextOf_tuple_end hh hit hl hx fun h' x he' hx' => ?_)
  obtain ⟨o, ho, hc⟩ := hx'
  refine wpAny_bind (wpAny_isInstance (T := "StopIteration") (b := true) ⟨o, ho, hc⟩ isSubtype_stop ?_)
  exact wpAny_pure (hQ _ he')
def IteT (K : PySem.W.Frag) (a : Addr) : It := ⟨fun i H => ∃ (xs : List V) (x : V), SqT K H a xs ∧ xs[i]? = some x, fun i H v H' => ∃ T x, v = .ref T ∧ H T = none ∧ H' = upd H T (.tup [.int (i : Nat), x]) ∧ ∀ xs, SqT K H a xs → xs[i]? = some x, fun i H => ∃ xs : List V, SqT K H a xs ∧ xs.length ≤ i⟩
theorem turn_enumT {P : Program} {w : World} {K : PySem.W.Frag} {elts : List Expr} {kk : Nat} {tpos : Pos} (a e it : Addr) (hna : a ≠ it) :
    Turn P w K (.Tuple elts kk tpos) (IteT K a) [e, it] e (fun i h => (∃ old, IsEnum h e it ((i : Nat) : Int) old) ∧ h.IsTupleIter it a i ∧ e ≠ it ∧ e ≠ a) where
  mem := by simp
  obj := fun i h st b hb => by
    obtain ⟨⟨old, he⟩, ⟨o, ho, hc, hd⟩, _⟩ := st
    rcases (show b = e ∨ b = it by simpa using hb) with z | z
    · rw [z]; exact ⟨_, he, fun v q => nomatch q⟩
    · rw [z]; exact ⟨o, ho, fun v q => by rw [hd] at q; cases q⟩
  keep := fun i h h' st k => let ⟨⟨old, he⟩, hi, hne⟩ := st; ⟨⟨old, k e (by simp) _ he⟩, hi.at fun o q => k it (by simp) o q, hne⟩
  item := by
    intro X hP hw hK hc i pins s σ H E I hf st hg
    subst hP hw hK
    obtain ⟨⟨old, he⟩, hit, hne, hea⟩ := st
    obtain ⟨xs, x, hq, hx⟩ := hg
    obtain ⟨its, rv, p, hz⟩ := I.tuple hq
    obtain ⟨u, hu, ru⟩ := rv.get hx
    have hel : e < s.heap.objs.size := Heap.lt_size he
    have hil : it < s.heap.objs.size := by obtain ⟨_, q, _⟩ := hit; exact Heap.lt_size q
    have hlen : i < its.toArray.size := by simpa using (List.getElem?_eq_some_iff.mp hu).1
    have hd1 : X.A.in1.handled = none := I.ok.hd hc
    refine wpAny_pyNext_enum_itemD (Draws.tuple hd1 it a hna its.toArray) he ⟨hit, p⟩ hlen hne (fun z => by rcases (show e = it ∨ e = a by simpa using z) with z | z; exact hne z; exact hea z) fun y h' tk hP ho hst' hT hsz hk => ?_
    have ey : y = u := Option.some.inj (hP.symm.trans (by simpa using hu))
    subst ey
    refine ⟨_, rfl, wpAny_letOwnedTupleGo_enum (s := { s with heap := h', toks := tk + 1 }) ho fun h'' he' sb => ?_⟩
    have hT2 : h''.get? s.heap.objs.size = some { cls := .type "tuple", data := .seq #[.int i tk, y] } := (sb.2 _ (Nat.ne_of_gt hel)).trans hT
    have new : ObjOk X.prog X.w (upd H s.heap.objs.size (.tup [.int (i : Nat), x])) h'' s.heap.objs.size (.tup [.int (i : Nat), x]) := ⟨by show 2 ≤ sizeLine; decide, [.int i tk, y], .cons ⟨_, rfl⟩ (.cons ru .nil), ⟨_, hT2, rfl, _, rfl⟩⟩
    have I1 : Inv X pins σ (upd H s.heap.objs.size (.tup [.int (i : Nat), x])) { s with heap := h'', toks := tk + 1 } :=
      I.turnedNew (ch := [e, it]) (fun b ob hb q => (sb.2 b (fun z => hb (by simp [z]))).trans (hk b ob (fun z => hb (by simp [z])) (fun z => hb (by simp [z])) q)) hf (Nat.le_refl _) new
    refine ⟨.ref s.heap.objs.size, _, I1, rfl, ⟨_, x, rfl, I.hok.fresh (Nat.le_refl _), rfl, fun ys hy => by rw [I.tuple_inj hy hq]; exact hx⟩, ⟨⟨y, ?_⟩, hst'.1.at fun o q => (sb.2 it (Ne.symm hne)).trans q, hne, hea⟩, fun b hb => ?_⟩
    · have e1 : ((i + 1 : Nat) : Int) = (i : Int) + 1 := by omega
      rw [e1]; exact he'
    · have hb' : b < s.heap.objs.size := by
        rcases (show b = e ∨ b = it by simpa using hb) with z | z
        · rw [z]; exact hel
        · rw [z]; exact hil
      rw [upd_ne (Nat.ne_of_lt hb')]
      exact (hf b hb).1
  done := by
    intro X hP hw hK hc i pins s σ H E I hf st hg
    subst hP hw hK
    obtain ⟨⟨old, he⟩, hit, hne, hea⟩ := st
    obtain ⟨xs, hq, hx⟩ := hg
    obtain ⟨its, rv, p, hz⟩ := I.tuple hq
    obtain ⟨f0, f1, f2, f3, f4, f5⟩ := hf it (by simp)
    have hl := rv.length
    have hd1 : X.A.in1.handled = none := I.ok.hd hc
    exact enum_endT hd1 he hit p (by simp; omega) fun h' eb => ⟨rfl, I.turned (t' := s.toks) (fun b o hb q => eb b o hb q) f0 f1 f3 f4 f5⟩
  self := fun A i s Q E st h => let ⟨⟨_, he⟩, _⟩ := st; wpAny_pyIter_enum he h
def iEnumT (K : PySem.W.Frag) (ta : TA) : TI := fun σ H R => ta σ H fun vs H1 => ∃ a xs, vs = [.ref a] ∧ SqT K H1 a xs ∧ R (IteT K a) H1
theorem pi_enumT {X : Cx} {e : Expr} {ta : TA} {p pos tpos : Pos} {elts : List Expr} {kk : Nat} (hg : Gl X "enumerate") (hm : X.mg "enumerate" = none) (ha : PA X [e] ta) (hs : starEach [e] X.env = [(false, eval e X.env)] := by rfl) : PI X (.Tuple elts kk tpos) (.Call (.Name "enumerate" p) [e] [] pos) (iEnumT X.K ta) := by
  refine ⟨fun pins s σ H R I h => ?_⟩
  refine Call_ (ld_blt I hg hm boot_enumerate (PyProof.Rows.callWith_type1 (thn (ha.run pos pins s σ H _ I h) fun us s1 ⟨vs, H1, I1, r1, q1⟩ => ?_) hs rfl))
  obtain ⟨a, xs, ex, hq, q⟩ := q1
  subst ex
  cases r1 with
  | cons r rr =>
    cases rr
    cases r
    obtain ⟨its, rv, p', hz⟩ := I1.tuple hq
    have hal : a < s1.heap.objs.size := by obtain ⟨o, ho, _⟩ := p'; exact Heap.lt_size ho
    refine call_enumT p' fun h' he hit hk => wpAny_pyIter_enum he ?_
    have I2 : Inv X pins σ H1 { s1 with heap := h' } := I1.kept (t' := s1.toks) hk
    refine ⟨s1.heap.objs.size + 1, [s1.heap.objs.size + 1, s1.heap.objs.size], _, _, H1, rfl, I2, turn_enumT a (s1.heap.objs.size + 1) s1.heap.objs.size (Nat.ne_of_lt hal), ⟨⟨.none, he⟩, hit, Nat.succ_ne_self _, Nat.ne_of_gt (Nat.lt_succ_of_lt hal)⟩, fun b hb => ?_, q⟩
    have hle : s1.heap.objs.size ≤ b := by
      rcases (show b = s1.heap.objs.size + 1 ∨ b = s1.heap.objs.size by simpa using hb) with z | z <;> rw [z]
      · exact Nat.le_add_right _ _
      · exact Nat.le_refl _
    exact I1.fpOk hle (I1.hok.fresh hle)
end
end OwnG

/-! tables of nexts, pointers and tours, as lists of numbers -/
namespace GM
abbrev Tab := List (Option Nat)
def pre (ts : Tab) (k i : Nat) : List Nat := (List.range i).filter (fun j => decide (ts[j]? = some (some k)))
def bk (ts : Tab) (k : Nat) : List Nat := pre ts k ts.length
def TabOk (ts : Tab) : Prop := ∀ (i k : Nat), ts[i]? = some (some k) → k < ts.length
theorem pre_zero (ts : Tab) (k : Nat) : pre ts k 0 = [] := rfl
theorem pre_yes {ts : Tab} {k i : Nat} (h : ts[i]? = some (some k)) : pre ts k (i + 1) = pre ts k i ++ [i] := by
  unfold pre
  rw [List.range_succ, List.filter_append]
  simp [h]
theorem pre_no {ts : Tab} {k i : Nat} (h : ts[i]? ≠ some (some k)) : pre ts k (i + 1) = pre ts k i := by
  unfold pre
  rw [List.range_succ, List.filter_append]
  simp [h]
theorem pre_len (ts : Tab) (k i : Nat) : (pre ts k i).length ≤ i := by
  have := List.length_filter_le (fun j => decide (ts[j]? = some (some k))) (List.range i)
  rw [List.length_range] at this
  exact this
theorem bk_len (ts : Tab) (k : Nat) : (bk ts k).length ≤ ts.length := pre_len ts k _
theorem bk_nodup (ts : Tab) (k : Nat) : (bk ts k).Nodup := List.Nodup.sublist List.filter_sublist List.nodup_range
theorem mem_pre {ts : Tab} {k i j : Nat} : j ∈ pre ts k i ↔ j < i ∧ ts[j]? = some (some k) := by
  unfold pre
  rw [List.mem_filter, List.mem_range]
  simp
theorem mem_bk {ts : Tab} {k j : Nat} : j ∈ bk ts k ↔ ts[j]? = some (some k) := by
  unfold bk
  rw [mem_pre]
  refine ⟨fun h => h.2, fun h => ⟨(List.getElem?_eq_some_iff.mp h).1, h⟩⟩
theorem getD_eq {α : Type} {l : List α} {i : Nat} {d : α} (h : i < l.length) : l.getD i d = l[i] := by
  rw [List.getD_eq_getElem?_getD, List.getElem?_eq_getElem h]
  rfl
theorem idx_getD {l : List Nat} (hn : l.Nodup) {i : Nat} (h : i < l.length) : l.idxOf (l.getD i 0) = i := by
  rw [getD_eq h]
  exact hn.idxOf_getElem i h
theorem getD_idx {l : List Nat} {x : Nat} (h : x ∈ l) : l.getD (l.idxOf x) 0 = x := by
  have g := List.idxOf_lt_length_of_mem h
  rw [getD_eq g]
  exact List.getElem_idxOf g
theorem get_idx {l : List Nat} {x : Nat} (h : x ∈ l) : l[l.idxOf x]? = some x := by
  have g := List.idxOf_lt_length_of_mem h
  rw [List.getElem?_eq_getElem g, List.getElem_idxOf g]
theorem idx_first {l : List Nat} {x : Nat} : ∀ m, m < l.idxOf x → l[m]? ≠ some x := by
  induction l with
  | nil => intro m h; simp at h
  | cons a l ih =>
    intro m h
    by_cases e : a = x
    · subst e
      rw [List.idxOf_cons_self] at h
      omega
    · have hb : (a == x) = false := beq_eq_false_iff_ne.mpr e
      rw [List.idxOf_cons, hb] at h
      simp only [cond_false, Bool.false_eq_true, if_false] at h
      cases m with
      | zero => simpa using e
      | succ m =>
        rw [List.getElem?_cons_succ]
        exact ih m (by omega)
/-! ### turning in a row -/
def rot (row : List Nat) (t b : Nat) : Nat := row.getD ((row.idxOf t + b) % row.length) 0
theorem rot_mem {row : List Nat} {t b : Nat} (h : t ∈ row) : rot row t b ∈ row := by
  have g := List.length_pos_of_mem h
  have g2 := Nat.mod_lt (row.idxOf t + b) g
  unfold rot
  rw [getD_eq g2]
  exact List.getElem_mem g2
theorem rot_rot {row : List Nat} (hn : row.Nodup) {t a b : Nat} (h : t ∈ row) (e : (a + b) % row.length = 0) : rot (row) (rot row t a) b = t := by
  have g := List.length_pos_of_mem h
  have g1 := List.idxOf_lt_length_of_mem h
  have g2 := Nat.mod_lt (row.idxOf t + a) g
  have e1 : row.idxOf (rot row t a) = (row.idxOf t + a) % row.length := idx_getD hn g2
  show row.getD ((row.idxOf (rot row t a) + b) % row.length) 0 = t
  rw [e1, Nat.mod_add_mod, Nat.add_assoc, Nat.add_mod, e, Nat.add_zero, Nat.mod_mod, Nat.mod_eq_of_lt g1]
  exact getD_idx h
theorem rot_fb {row : List Nat} (hn : row.Nodup) {t : Nat} (h : t ∈ row) : rot row (rot row t 1) (row.length - 1) = t := by
  have g := List.length_pos_of_mem h
  exact rot_rot hn h (by rw [Nat.add_sub_cancel' g, Nat.mod_self])
theorem rot_bf {row : List Nat} (hn : row.Nodup) {t : Nat} (h : t ∈ row) : rot row (rot row t (row.length - 1)) 1 = t := by
  have g := List.length_pos_of_mem h
  exact rot_rot hn h (by rw [Nat.sub_add_cancel g, Nat.mod_self])
/-! ### crossing -/
def over (ts : Tab) (s t : Nat) : Nat × Nat := if 0 < t then ((bk ts s).getD (t - 1) 0, 0) else match ts.getD s none with
  | none => (s, 0)
  | some m => (m, (bk ts m).idxOf s + 1)
structure Pt (ts : Tab) (i j : Nat) : Prop where
  s : i < ts.length
  t : j ≤ (bk ts i).length
theorem getD_some {ts : Tab} {s m : Nat} (h : ts.getD s none = some m) : ts[s]? = some (some m) := by
  rw [List.getD_eq_getElem?_getD] at h
  cases e : ts[s]? with
  | none => rw [e] at h; cases h
  | some o =>
    rw [e] at h
    have h : o = some m := h
    rw [h]
theorem over_pos {ts : Tab} {s t : Nat} (h : 0 < t) : over ts s t = ((bk ts s).getD (t - 1) 0, 0) := if_pos h
theorem over_none {ts : Tab} {s : Nat} (h : ts.getD s none = none) : over ts s 0 = (s, 0) := by
  unfold over
  rw [if_neg (Nat.lt_irrefl 0), h]
theorem over_some {ts : Tab} {s m : Nat} (h : ts.getD s none = some m) : over ts s 0 = (m, (bk ts m).idxOf s + 1) := by
  unfold over
  rw [if_neg (Nat.lt_irrefl 0), h]
theorem bk_at {ts : Tab} {s t : Nat} (p : Pt ts s t) (h : 0 < t) : (bk ts s).getD (t - 1) 0 ∈ bk ts s := by
  have g : t - 1 < (bk ts s).length := by have := p.t; omega
  rw [getD_eq g]
  exact List.getElem_mem g
theorem bk_lt {ts : Tab} {s j : Nat} (h : j ∈ bk ts s) : j < ts.length := (List.getElem?_eq_some_iff.mp (mem_bk.mp h)).1
theorem over_ok {ts : Tab} (ok : TabOk ts) {s t : Nat} (p : Pt ts s t) : Pt ts (over ts s t).1 (over ts s t).2 := by
  by_cases h : 0 < t
  · rw [over_pos h]
    exact ⟨bk_lt (bk_at p h), Nat.zero_le _⟩
  · obtain rfl : t = 0 := by omega
    cases e : ts.getD s none with
    | none => rw [over_none e]; exact ⟨p.s, Nat.zero_le _⟩
    | some m =>
      rw [over_some e]
      have e1 := getD_some e
      exact ⟨ok _ _ e1, List.idxOf_lt_length_of_mem (mem_bk.mpr e1)⟩
theorem over_over {ts : Tab} (ok : TabOk ts) {s t : Nat} (p : Pt ts s t) : over ts (over ts s t).1 (over ts s t).2 = (s, t) := by
  by_cases h : 0 < t
  · have m := bk_at p h
    rw [over_pos h]
    have e : ts.getD ((bk ts s).getD (t - 1) 0) none = some s := by
      rw [List.getD_eq_getElem?_getD, mem_bk.mp m]
      rfl
    show over ts ((bk ts s).getD (t - 1) 0) 0 = (s, t)
    rw [over_some e, idx_getD (bk_nodup ts s) (by have := p.t; omega), Nat.sub_add_cancel h]
  · obtain rfl : t = 0 := by omega
    cases e : ts.getD s none with
    | none => rw [over_none e]; exact over_none e
    | some m =>
      rw [over_some e]
      have e1 := getD_some e
      show over ts m ((bk ts m).idxOf s + 1) = (s, 0)
      rw [over_pos (Nat.succ_pos _)]
      show ((bk ts m).getD ((bk ts m).idxOf s) 0, 0) = (s, 0)
      rw [getD_idx (mem_bk.mpr e1)]
/-! ### the tours -/
structure RowsOk (ts : Tab) (rs : List (List Nat)) : Prop where
  len : rs.length = ts.length
  at_ : ∀ k, k < ts.length → (rs.getD k []).Perm (List.range ((bk ts k).length + 1))
section
variable {ts : Tab} {rs : List (List Nat)}
theorem RowsOk.nodup (r : RowsOk ts rs) {k : Nat} (h : k < ts.length) : (rs.getD k []).Nodup := (r.at_ k h).nodup_iff.mpr List.nodup_range
theorem RowsOk.mem (r : RowsOk ts rs) {s t : Nat} (h : s < ts.length) : t ∈ rs.getD s [] ↔ t ≤ (bk ts s).length := by
  rw [(r.at_ s h).mem_iff, List.mem_range]
  omega
theorem RowsOk.has (r : RowsOk ts rs) {s t : Nat} (p : Pt ts s t) : t ∈ rs.getD s [] := (r.mem p.s).mpr p.t
theorem RowsOk.rl (r : RowsOk ts rs) {k : Nat} (h : k < ts.length) : (rs.getD k []).length = (bk ts k).length + 1 := by rw [(r.at_ k h).length_eq, List.length_range]
theorem RowsOk.rot (r : RowsOk ts rs) {s t : Nat} (p : Pt ts s t) (b : Nat) : Pt ts s (rot (rs.getD s []) t b) := ⟨p.s, (r.mem p.s).mp (rot_mem (r.has p))⟩
def lead (ts : Tab) (rs : List (List Nat)) (s t : Nat) : Nat × Nat := ((over ts s t).1, rot (rs.getD (over ts s t).1 []) (over ts s t).2 1)
def befo (rs : List (List Nat)) (s t : Nat) : Nat := rot (rs.getD s []) t ((rs.getD s []).length - 1)
theorem lead_ok (ok : TabOk ts) (r : RowsOk ts rs) {s t : Nat} (p : Pt ts s t) : Pt ts (lead ts rs s t).1 (lead ts rs s t).2 := r.rot (over_ok ok p) 1
theorem befo_ok (r : RowsOk ts rs) {s t : Nat} (p : Pt ts s t) : Pt ts s (befo rs s t) := r.rot p _
theorem back_lead (ok : TabOk ts) (r : RowsOk ts rs) {s t : Nat} (p : Pt ts s t) : over ts (lead ts rs s t).1 (befo rs (lead ts rs s t).1 (lead ts rs s t).2) = (s, t) := by
  have p1 := over_ok ok p
  show over ts (over ts s t).1 (GM.rot (rs.getD (over ts s t).1 []) (GM.rot (rs.getD (over ts s t).1 []) (over ts s t).2 1) ((rs.getD (over ts s t).1 []).length - 1)) = (s, t)
  rw [rot_fb (r.nodup p1.s) (r.has p1)]
  exact over_over ok p
theorem lead_back (ok : TabOk ts) (r : RowsOk ts rs) {s t : Nat} (p : Pt ts s t) : lead ts rs (over ts s (befo rs s t)).1 (over ts s (befo rs s t)).2 = (s, t) := by
  unfold lead
  rw [over_over ok (befo_ok r p)]
  show (s, GM.rot (rs.getD s []) (GM.rot (rs.getD s []) t _) 1) = (s, t)
  rw [rot_bf (r.nodup p.s) (r.has p)]
end
end GM

/-! what evaluates to something told by the heap behind it; lists of lists, tuples of tuples -/
namespace OwnG
open PySem L2 Evl Own GM
abbrev iV (n : Nat) : V := .int (n : Int)
def nV : Option Nat → V
  | none => .non
  | some j => iV j
abbrev nvs (l : List Nat) : List V := l.map iV
theorem ints_map (l : List Nat) : nvs l = (l.map (fun n : Nat => (n : Int))).map V.int := by
  rw [List.map_map]
  rfl
theorem range_ints (n : Nat) : rgV 0 (n : Int) = nvs (List.range n) := by
  unfold rgV
  rw [Int.sub_zero, Int.toNat_natCast]
  refine List.map_congr_left fun i _ => ?_
  show V.int (0 + (i : Int)) = V.int (i : Int)
  rw [Int.zero_add]
def EvH (te : TE) (σ : L2.St) (H : Hp) (R : V → Hp → Prop) : Prop := ∀ H1, Ex H H1 → ∀ Q : VK, (∀ v H2, Ex H1 H2 → R v H2 → Q v H2) → te σ H1 Q
def SpH (sp : Sp) (vs : List V) (H : Hp) (R : V → Hp → Prop) : Prop := ∀ H1, Ex H H1 → ∀ Q : VK, (∀ v H2, Ex H1 H2 → R v H2 → Q v H2) → ∀ E : XK, sp vs H1 Q E
def SpU (sp : Sp) (vs : List V) (H : Hp) (xs : List V) : Prop := ∀ H1, Ex H H1 → ∀ Q : VK, (∀ p H2, H1 p = none → Ex H1 H2 → H2 p = some (.tup xs) → Q (.ref p) H2) → ∀ E : XK, sp vs H1 Q E
def FzV (xs : List V) : V → Hp → Prop := fun v H => ∃ p, v = .ref p ∧ FzT H p xs
def TpV (K : PySem.W.Frag) (xs : List V) : V → Hp → Prop := fun v H => ∃ p, v = .ref p ∧ SqT K H p xs
def LsV (K : PySem.W.Frag) (xs : List V) : V → Hp → Prop := fun v H => ∃ p, v = .ref p ∧ SqL K H p xs
/-- all but lists is kept -/
def Kt (H H' : Hp) : Prop := ∀ a o, H a = some o → (∀ xs, o ≠ .lst xs) → H' a = some o
theorem Kt.of {H H' : Hp} (e : Ex H H') : Kt H H' := fun a o h _ => e a o h
theorem Kt.trans {H H1 H2 : Hp} (a : Kt H H1) (b : Kt H1 H2) : Kt H H2 := fun x o h n => b x o (a x o h n) n
theorem Kt.upd {H : Hp} {p : Addr} {ys : List V} {o : HO} (h : H p = some (.lst ys)) : Kt H (upd H p o) := fun a u ha n => by
  rw [upd_ne (fun e => by rw [e, h] at ha; exact n ys (Option.some.inj ha).symm)]
  exact ha
theorem FzT.kt {H H' : Hp} {p : Addr} {xs : List V} (e : Kt H H') (h : FzT H p xs) : FzT H' p xs := by
  obtain ⟨o, d, h⟩ := h
  exact ⟨o, d, e _ _ h (fun _ z => by cases z)⟩
theorem FzV.kt {H H' : Hp} {xs : List V} {v : V} (e : Kt H H') (h : FzV xs v H) : FzV xs v H' := by
  obtain ⟨p, e1, h⟩ := h
  exact ⟨p, e1, h.kt e⟩
section
variable {K : PySem.W.Frag} {σ : L2.St} {H H' : Hp} {ta tb te to tl : TE} {t tr : TA} {v x y z : V} {r : R2} {R R' : V → Hp → Prop} {D : Ends} {tz : TS} {sp : Sp} {vs dvs : List V} {E : XK}
theorem EvH.mono (e : Ex H H') (h : EvH te σ H R) : EvH te σ H' R := fun H1 a Q q => h H1 (e.trans a) Q q
theorem evH_weak (h : EvH te σ H R) (w : ∀ v H1, R v H1 → R' v H1) : EvH te σ H R' := fun H1 e Q q => h H1 e Q fun v H2 e2 r => q v H2 e2 (w v H2 r)
theorem evH_of (h : Ev te σ H v) (r : ∀ H1, Ex H H1 → R v H1) : EvH te σ H R := fun H1 e Q q => h H1 e Q fun H2 e2 => q v H2 e2 (r H2 (e.trans e2))
theorem evH_L {xs : List V} (h : EvL te σ H xs) : EvH te σ H (LsV K xs) := fun H1 e Q q => h H1 e Q fun p H2 _ e2 h2 => q _ H2 e2 ⟨p, rfl, sq_of h2⟩
theorem evH_Lv {p : Addr} {xs : List V} (h : Ev te σ H (.ref p)) (hs : SqL K H p xs) : EvH te σ H (LsV K xs) := evH_of h fun H1 e => ⟨p, rfl, ex_l e hs⟩
theorem evH_Fv {p : Addr} {xs : List V} (h : Ev te σ H (.ref p)) (hs : FzT H p xs) : EvH te σ H (FzV xs) := evH_of h fun H1 e => ⟨p, rfl, hs.ex e⟩
theorem evH_call (h : EvA t σ H vs) (hs : SpH sp (vs ++ dvs) H R) : EvH (tCall sp dvs E t) σ H R := fun H1 e Q q =>
  h H1 e _ fun H2 e2 => hs H2 (e.trans e2) Q (fun v H3 e3 r => q v H3 (e2.trans e3) r) E
theorem evH_callH {P : List V → Hp → Prop} (h : EvAH t σ H P) (hs : ∀ vs H1, Ex H H1 → P vs H1 → SpH sp (vs ++ dvs) H1 R) : EvH (tCall sp dvs E t) σ H R := fun H1 e Q q =>
  h H1 e _ fun vs H2 p e2 => hs vs H2 (e.trans e2) p H2 (Ex.refl H2) Q (fun v H3 e3 r => q v H3 (e2.trans e3) r) E
theorem eu_call {xs : List V} (h : EvA t σ H vs) (hs : SpU sp (vs ++ dvs) H xs) : EvU (tCall sp dvs E t) σ H xs := fun H1 e Q q =>
  h H1 e _ fun H2 e2 => hs H2 (e.trans e2) Q (fun p H3 hp e3 h3 => q p H3 (fresh_back e2 hp) (e2.trans e3) h3) E
theorem eu_callH {xs : List V} {P : List V → Hp → Prop} (h : EvAH t σ H P) (hs : ∀ vs H1, Ex H H1 → P vs H1 → SpU sp (vs ++ dvs) H1 xs) : EvU (tCall sp dvs E t) σ H xs := fun H1 e Q q =>
  h H1 e _ fun vs H2 p e2 => hs vs H2 (e.trans e2) p H2 (Ex.refl H2) Q (fun p H3 hp e3 h3 => q p H3 (fresh_back e2 hp) (e2.trans e3) h3) E
theorem ev_callH {P : List V → Hp → Prop} (h : EvAH t σ H P) (hs : ∀ vs H1, Ex H H1 → P vs H1 → SpV sp (vs ++ dvs) H1 v) : Ev (tCall sp dvs E t) σ H v := fun H1 e Q q =>
  h H1 e _ fun vs H2 p e2 => hs vs H2 (e.trans e2) p H2 (Ex.refl H2) Q (fun H3 e3 => q H3 (e2.trans e3)) E
theorem evH_meth {a C dx : Addr} {fs : List (Str × V)} {m : Str} (h : Ev te σ H (.ref a)) (ho : H a = some (.ins C dx fs)) (hl : fs.lookup m = none) (ha : EvA t σ H vs) (hs : SpH sp (.ref a :: vs) H R) : EvH (tMeth C m sp [] E te t) σ H R := fun H1 e Q q =>
  h H1 e _ fun H2 e2 => ⟨a, dx, fs, rfl, e2 _ _ (e _ _ ho), hl, ha H2 (e.trans e2) _ fun H3 e3 => by
    rw [List.append_nil]
    exact hs H3 ((e.trans e2).trans e3) Q (fun v H4 e4 r => q v H4 ((e2.trans e3).trans e4) r) E⟩
theorem evH_fld {a C dx : Addr} {fs : List (Str × V)} {f : Str} (h : Ev te σ H (.ref a)) (ho : H a = some (.ins C dx fs)) (hc : Cls K C) (hn : NoAttr K C f) (hl : fs.lookup f = some v) (r : ∀ H1, Ex H H1 → R v H1) : EvH (tFld K te f) σ H R := fun H1 e Q q =>
  h H1 e _ fun H2 e2 => ⟨a, C, dx, fs, v, rfl, e2 _ _ (e _ _ ho), hc, hn, hl, q v H2 e2 (r H2 (e.trans e2))⟩
theorem evH_tupF {xs : List V} (h : EvH te σ H (LsV K xs)) : EvH (tCB (rTupF K) (tCons te tNil)) σ H (FzV xs) := fun H1 e Q q =>
  h H1 e _ fun v H2 e2 ⟨p, ep, hp⟩ => ⟨p, xs, by rw [ep], hp, fun l o d hl => q _ _ (e2.trans (Ex.new hl)) ⟨l, rfl, o, d, upd_same⟩⟩
theorem evH_tupRg {n : Nat} (h : Ev te σ H (iV n)) (hn : n ≤ 100000) : EvH (tTupRgF (tRg1 te)) σ H (FzV (nvs (List.range n))) := fun H1 e Q q =>
  h H1 e _ fun H2 e2 => ⟨(n : Int), rfl, .of_le (Int.le_refl 0) (by omega) (by decide) (by omega), fun l o d hl => q _ _ (e2.trans (Ex.new hl)) ⟨l, rfl, o, d, by rw [← range_ints]; exact upd_same⟩⟩
theorem el_lstRg {n : Nat} (h : Ev te σ H (iV n)) (hn : n ≤ 100000) : EvL (tLstRg (tRg1 te)) σ H (nvs (List.range n)) := fun H1 e Q q =>
  h H1 e _ fun H2 e2 => ⟨(n : Int), rfl, .of_le (Int.le_refl 0) (by omega) (by decide) (by omega), fun l hl => q l _ (fresh_back e2 hl) (e2.trans (Ex.new hl)) (by rw [← range_ints]; exact upd_same)⟩
theorem ev_tix {row : List Nat} {k : Nat} (h : EvH to σ H (FzV (nvs row))) (ha : Ev te σ H (iV k)) (hz : k ∈ row) : Ev (tTix K to (tCons te tNil)) σ H (iV (row.idxOf k)) := fun H1 e Q q =>
  h H1 e _ fun v H2 e2 ⟨p, ep, hp⟩ => ⟨⟨p, _, ep, hp⟩, ha H2 (e.trans e2) _ fun H3 e3 => ⟨p, row.map (fun n : Nat => (n : Int)), (k : Int), row.idxOf k, ep, rfl, by rw [← ints_map]; exact (hp.ex e3).sq, by rw [List.getElem?_map, get_idx hz]; rfl, fun m hm z => by
    rw [List.getElem?_map] at z
    cases e : row[m]? with
    | none => rw [e] at z; cases z
    | some y =>
      rw [e] at z
      have : (y : Int) = (k : Int) := Option.some.inj z
      exact idx_first m hm (by rw [e, Int.ofNat_inj.mp this]), q H3 (e2.trans e3)⟩⟩
theorem ev_ixT {xs : List V} {i : Int} (h : EvH ta σ H (TpV K xs)) (hb : Ev tb σ H (.int i)) (hv : atI xs i = some v) : Ev (tOp (rIxT K) ta tb) σ H v := fun H1 e Q q =>
  h H1 e _ fun w H2 e2 ⟨p, ep, hp⟩ => hb H2 (e.trans e2) _ fun H3 e3 => ⟨p, xs, i, v, ep, rfl, ex_t e3 hp, hv, q H3 (e2.trans e3)⟩
theorem evH_sq {xs : List V} (h : EvH te σ H (FzV xs)) : EvH te σ H (TpV K xs) := evH_weak h fun v H1 ⟨p, e, hp⟩ => ⟨p, e, hp.sq⟩
theorem ev_lenT {xs : List V} (h : EvH te σ H (TpV K xs)) : Ev (tCB (fun xs H Q => ∃ p ys, xs = [V.ref p] ∧ (SqL K H p ys ∨ SqT K H p ys) ∧ Q (.int ys.length) H) (tCons te tNil)) σ H (.int (xs.length : Int)) := fun H1 e Q q =>
  h H1 e _ fun v H2 e2 ⟨p, ep, hp⟩ => ⟨p, xs, by rw [ep], .inr hp, q H2 e2⟩
theorem ev_lenL' {xs : List V} (h : EvH te σ H (LsV K xs)) : Ev (tCB (fun xs H Q => ∃ p ys, xs = [V.ref p] ∧ (SqL K H p ys ∨ SqT K H p ys) ∧ Q (.int ys.length) H) (tCons te tNil)) σ H (.int (xs.length : Int)) := fun H1 e Q q =>
  h H1 e _ fun v H2 e2 ⟨p, ep, hp⟩ => ⟨p, xs, by rw [ep], .inl hp, q H2 e2⟩
theorem ev_ixL' {xs : List V} {i : Int} (h : EvH ta σ H (LsV K xs)) (hb : Ev tb σ H (.int i)) (hv : atI xs i = some v) : Ev (tOp (rIxL K) ta tb) σ H v := fun H1 e Q q =>
  h H1 e _ fun w H2 e2 ⟨p, ep, hp⟩ => hb H2 (e.trans e2) _ fun H3 e3 => ⟨p, xs, i, v, ep, rfl, ex_l e3 hp, hv, q H3 (e2.trans e3)⟩
theorem s_asgH {i : Nat} (h : EvH te σ H R) (k : ∀ v H1, Ex H H1 → R v H1 → D.nx (σ.set i (some v)) H1) : tAsg te (gName i) D σ H := h H (Ex.refl H) _ fun v H1 e r => k v H1 e r
theorem q_asgH {i : Nat} (h : EvH te σ H R) (k : ∀ v H1, Ex H H1 → R v H1 → tz D (σ.set i (some v)) H1) : tSeq (tAsg te (gName i)) tz D σ H := s_asgH (D := { D with nx := tz D }) h k
theorem s_retH (h : EvH te σ H R) (k : ∀ v H1, Ex H H1 → R v H1 → D.rt v H1) : tRet te D σ H := h H (Ex.refl H) _ fun v H1 e r => k v H1 e r
theorem eaHn : EvAH tNil σ H (fun vs _ => vs = []) := fun H1 e Q q => q [] H1 rfl (Ex.refl H1)
theorem eaHv {P : List V → Hp → Prop} (h : Ev te σ H v) (hr : EvAH tr σ H P) : EvAH (tCons te tr) σ H (fun vs H1 => ∃ r, vs = v :: r ∧ P r H1) := fun H1 e Q q =>
  h H1 e _ fun H2 e2 => hr H2 (e.trans e2) _ fun vs H3 p e3 => q _ H3 ⟨vs, rfl, p⟩ (e2.trans e3)
theorem eaHc {P : List V → Hp → Prop} (h : EvH te σ H R) (hs : ∀ v H H', Ex H H' → R v H → R v H') (hr : EvAH tr σ H P) : EvAH (tCons te tr) σ H (fun vs H1 => ∃ v r, vs = v :: r ∧ R v H1 ∧ P r H1) := fun H1 e Q q =>
  h H1 e _ fun v H2 e2 rv => hr H2 (e.trans e2) _ fun vs H3 p e3 => q _ H3 ⟨v, vs, rfl, hs v H2 H3 e3 rv, p⟩ (e2.trans e3)
theorem evH_opIx {xs : List V} {i : Int} (h : EvH ta σ H (TpV K xs)) (hb : Ev tb σ H (.int i)) (hv : atI xs i = some v) (hr : ∀ H1, Ex H H1 → R v H1) : EvH (tOp (rIxT K) ta tb) σ H R := evH_of (ev_ixT h hb hv) hr
end
theorem st_Fz (xs : List V) : ∀ v H H', Ex H H' → FzV xs v H → FzV xs v H' := fun v H H' e h => by
  obtain ⟨p, e1, h⟩ := h
  exact ⟨p, e1, h.ex e⟩
theorem st_Ls {K : PySem.W.Frag} (xs : List V) : ∀ v H H', Ex H H' → LsV K xs v H → LsV K xs v H' := fun v H H' e h => by
  obtain ⟨p, e1, h⟩ := h
  exact ⟨p, e1, ex_l e h⟩
theorem st_Tp {K : PySem.W.Frag} (xs : List V) : ∀ v H H', Ex H H' → TpV K xs v H → TpV K xs v H' := fun v H H' e h => by
  obtain ⟨p, e1, h⟩ := h
  exact ⟨p, e1, ex_t e h⟩
/-! ### equal tuples -/
theorem dp_all {K : PySem.W.Frag} {H : Hp} : ∀ l : List Nat, DpAll K H (nvs l) (l.map fun n : Nat => PyData.int (n : Int))
  | [] => .nil
  | n :: l => .cons (.int n) (dp_all l)
theorem can_ints : ∀ l : List Nat, PyData.canLayAll0 (l.map fun n : Nat => PyData.int (n : Int)) = true
  | [] => rfl
  | n :: l => by simp only [List.map, PyData.canLayAll0, PyData.canLay0, can_ints l, Bool.and_self]
theorem dep_ints : ∀ l : List Nat, PyData.depthAll (l.map fun n : Nat => PyData.int (n : Int)) = 0
  | [] => rfl
  | n :: l => by simp only [List.map, PyData.depthAll, PyData.depth, dep_ints l, Nat.max_self]
theorem sh_ints (l : List Nat) : SeqAt.shaped (.tuple (l.map fun n : Nat => PyData.int (n : Int))) = true := by
  unfold SeqAt.shaped
  simp only [PyData.canLay0, can_ints, PyData.depth, dep_ints]
  decide
theorem eqv_ints : ∀ l : List Nat, PyData.eqvAll (l.map fun n : Nat => PyData.int (n : Int)) (l.map fun n : Nat => PyData.int (n : Int)) = true
  | [] => rfl
  | n :: l => by simp only [List.map, PyData.eqvAll, PyData.eqv, eqv_ints l, beq_self_eq_true, Bool.and_self]
theorem rv_neT {K : PySem.W.Frag} {H : Hp} {p q : Addr} {l : List Nat} (h : SqT K H p (nvs l)) (h' : SqT K H q (nvs l)) : RV (rNeD K) (.ref p) (.ref q) H (.bl false) := fun H1 e Q k =>
  ⟨_, _, .tup (ex_t e h) (dp_all l), .tup (ex_t e h') (dp_all l), sh_ints l, sh_ints l, by
    have : PyData.eqv (.tuple (l.map fun n : Nat => PyData.int (n : Int))) (.tuple (l.map fun n : Nat => PyData.int (n : Int))) = true := by
      simp only [PyData.eqv, eqv_ints]
    rw [this]
    exact k H1 (Ex.refl H1)⟩
theorem rv_eqT {K : PySem.W.Frag} {H : Hp} {p q : Addr} {l : List Nat} (h : SqT K H p (nvs l)) (h' : SqT K H q (nvs l)) : RV (rEqD K) (.ref p) (.ref q) H (.bl true) := fun H1 e Q k =>
  ⟨_, _, .tup (ex_t e h) (dp_all l), .tup (ex_t e h') (dp_all l), sh_ints l, sh_ints l, by
    have : PyData.eqv (.tuple (l.map fun n : Nat => PyData.int (n : Int))) (.tuple (l.map fun n : Nat => PyData.int (n : Int))) = true := by
      simp only [PyData.eqv, eqv_ints]
    rw [this]
    exact k H1 (Ex.refl H1)⟩
section
variable {K : PySem.W.Frag} {σ : L2.St} {H H' : Hp} {ta tb te : TE}
theorem ev_opHH {R R' : V → Hp → Prop} {r : R2} {z : V} (ha : EvH ta σ H R) (hb : EvH tb σ H R') (hs : ∀ v H H', Ex H H' → R v H → R v H') (hr : ∀ x y H1, Ex H H1 → R x H1 → R' y H1 → RV r x y H1 z) : Ev (tOp r ta tb) σ H z := fun H1 e Q q =>
  ha H1 e _ fun x H2 e2 rx => hb H2 (e.trans e2) _ fun y H3 e3 ry => hr x y H3 ((e.trans e2).trans e3) (hs x H2 H3 e3 rx) ry H3 (Ex.refl H3) Q fun H4 e4 => q H4 ((e2.trans e3).trans e4)
/-- two tuples of the same numbers -/
theorem ev_neTT {l : List Nat} (ha : EvH ta σ H (TpV K (nvs l))) (hb : EvH tb σ H (TpV K (nvs l))) : Ev (tOp (rNeD K) ta tb) σ H (.bl false) :=
  ev_opHH ha hb (st_Tp _) fun x y H1 _ ⟨p, e1, h1⟩ ⟨q, e2, h2⟩ => by
    subst e1 e2
    exact rv_neT h1 h2
theorem evH_U {xs : List V} (h : EvU te σ H xs) : EvH te σ H (TpV K xs) := fun H1 e Q q => h H1 e Q fun p H2 _ e2 h2 => q _ H2 e2 ⟨p, rfl, st_of h2⟩
theorem evH_Tv {p : Addr} {xs : List V} (h : Ev te σ H (.ref p)) (hs : SqT K H p xs) : EvH te σ H (TpV K xs) := evH_of h fun H1 e => ⟨p, rfl, ex_t e hs⟩
end
/-! ### lists of lists, tuples of tuples -/
structure LLf (K : PySem.W.Frag) (H : Hp) (a : Addr) (n : Nat) (f : Nat → List Nat) : Prop where
  ex : ∃ ps : List Addr, SqL K H a (ps.map V.ref) ∧ ps.length = n ∧ ∀ i p, ps[i]? = some p → SqL K H p (nvs (f i))
structure TTf (K : PySem.W.Frag) (H : Hp) (a : Addr) (n : Nat) (f : Nat → List Nat) : Prop where
  ex : ∃ ps : List Addr, SqT K H a (ps.map V.ref) ∧ ps.length = n ∧ ∀ i p, ps[i]? = some p → FzT H p (nvs (f i))
section
variable {K : PySem.W.Frag} {σ : L2.St} {H H' : Hp} {a : Addr} {n k : Nat} {f : Nat → List Nat} {ta tb te tl : TE}
theorem LLf.up (e : Ex H H') (h : LLf K H a n f) : LLf K H' a n f := by
  obtain ⟨ps, h1, h2, h3⟩ := h.ex
  exact ⟨ps, ex_l e h1, h2, fun i p hp => ex_l e (h3 i p hp)⟩
theorem TTf.up (e : Ex H H') (h : TTf K H a n f) : TTf K H' a n f := by
  obtain ⟨ps, h1, h2, h3⟩ := h.ex
  exact ⟨ps, ex_t e h1, h2, fun i p hp => (h3 i p hp).ex e⟩
theorem TTf.kt (e : Kt H H') (ht : SqT K H' a = SqT K H a) (h : TTf K H a n f) : TTf K H' a n f := by
  obtain ⟨ps, h1, h2, h3⟩ := h.ex
  exact ⟨ps, by rw [ht]; exact h1, h2, fun i p hp => (h3 i p hp).kt e⟩
theorem TTf.congr {g : Nat → List Nat} (h : TTf K H a n f) (e : ∀ i, i < n → f i = g i) : TTf K H a n g := by
  obtain ⟨ps, h1, h2, h3⟩ := h.ex
  exact ⟨ps, h1, h2, fun i p hp => by rw [← e i (by rw [← h2]; exact (List.getElem?_eq_some_iff.mp hp).1)]; exact h3 i p hp⟩
theorem LLf.at (h : LLf K H a n f) (hk : k < n) : ∃ p : Addr, (∃ xs, SqL K H a xs ∧ xs.length = n ∧ atI xs (k : Int) = some (.ref p)) ∧ SqL K H p (nvs (f k)) := by
  obtain ⟨ps, h1, h2, h3⟩ := h.ex
  have g : ps[k]? = some ps[k] := List.getElem?_eq_getElem (by omega)
  exact ⟨ps[k], ⟨_, h1, by rw [List.length_map, h2], at_map g⟩, h3 k _ g⟩
theorem TTf.at (h : TTf K H a n f) (hk : k < n) : ∃ p : Addr, (∃ xs, SqT K H a xs ∧ xs.length = n ∧ atI xs (k : Int) = some (.ref p)) ∧ FzT H p (nvs (f k)) := by
  obtain ⟨ps, h1, h2, h3⟩ := h.ex
  have g : ps[k]? = some ps[k] := List.getElem?_eq_getElem (by omega)
  exact ⟨ps[k], ⟨_, h1, by rw [List.length_map, h2], at_map g⟩, h3 k _ g⟩
theorem evH_LL (h : LLf K H a n f) (ha : Ev ta σ H (.ref a)) (hb : Ev tb σ H (iV k)) (hk : k < n) : EvH (tOp (rIxL K) ta tb) σ H (LsV K (nvs (f k))) := by
  obtain ⟨p, ⟨xs, h1, _, h2⟩, h3⟩ := h.at hk
  exact evH_Lv (ev_op ha hb (rv_ixL h1 h2)) h3
theorem evH_TT (h : TTf K H a n f) (ha : Ev ta σ H (.ref a)) (hb : Ev tb σ H (iV k)) (hk : k < n) : EvH (tOp (rIxT K) ta tb) σ H (FzV (nvs (f k))) := by
  obtain ⟨p, ⟨xs, h1, _, h2⟩, h3⟩ := h.at hk
  exact evH_Fv (ev_op ha hb (rv_ixT h1 h2)) h3
theorem ev_lenLL (h : LLf K H a n f) (ha : Ev ta σ H (.ref a)) : Ev (tCB (fun xs H Q => ∃ p ys, xs = [V.ref p] ∧ (SqL K H p ys ∨ SqT K H p ys) ∧ Q (.int ys.length) H) (tCons ta tNil)) σ H (iV n) := by
  obtain ⟨ps, h1, h2, h3⟩ := h.ex
  refine ev_is (ev_cb (ea_cons ha ea_nil) (rc_lenL h1)) ?_
  rw [List.length_map, h2]
theorem ev_lenTT (h : TTf K H a n f) (ha : Ev ta σ H (.ref a)) : Ev (tCB (fun xs H Q => ∃ p ys, xs = [V.ref p] ∧ (SqL K H p ys ∨ SqT K H p ys) ∧ Q (.int ys.length) H) (tCons ta tNil)) σ H (iV n) := by
  obtain ⟨ps, h1, h2, h3⟩ := h.ex
  refine ev_is (ev_cb (ea_cons ha ea_nil) (rc_lenT h1)) ?_
  rw [List.length_map, h2]
/-! ### comprehensions whose items are told by the heap -/
def EvLH (te : TE) (σ : L2.St) (H : Hp) (n : Nat) (R : Nat → V → Hp → Prop) : Prop := ∀ H1, Ex H H1 → ∀ Q : VK, (∀ xs p H2, H1 p = none → Ex H1 H2 → H2 p = some (.lst xs) → xs.length = n → (∀ i x, xs[i]? = some x → R i x H2) → Q (.ref p) H2) → te σ H1 Q
def Cq (H : Hp) (R : Nat → V → Hp → Prop) (Dl : Addr) (i : Nat) (H' : Hp) : Prop := H Dl = none ∧ Ex H H' ∧ ∃ acc, H' Dl = some (.lst acc) ∧ acc.length = i ∧ ∀ j x, acc[j]? = some x → R j x H'
theorem cq_turn {R : Nat → V → Hp → Prop} {Dl : Addr} {i : Nat} {σ2 : L2.St} (hst : ∀ i v H H', Kt H H' → R i v H → R i v H') (p : Cq H R Dl i H') (hi : i < 50000) (he : EvH te σ2 H' (R i)) :
    te σ2 H' fun y H4 => ∃ acc, H4 Dl = some (.lst acc) ∧ acc.length < sizeLine ∧ Cq H R Dl (i + 1) (upd H4 Dl (.lst (acc ++ [y]))) := by
  obtain ⟨p1, p2, acc, p3, p4, p5⟩ := p
  refine he H' (Ex.refl H') _ fun y H4 e4 ry => ⟨acc, e4 _ _ p3, sz_lt (by omega), p1, Ex.mut (p2.trans e4) p1, acc ++ [y], upd_same, by rw [List.length_append, p4]; rfl, fun j x hj => ?_⟩
  by_cases c : j < acc.length
  · rw [List.getElem?_append_left c] at hj
    exact hst j x _ _ ((Kt.of e4).trans (Kt.upd (e4 _ _ p3))) (p5 j x hj)
  · rw [List.getElem?_append_right (by omega)] at hj
    have e0 : j - acc.length = 0 := by have := (List.getElem?_eq_some_iff.mp hj).1; simp at this; omega
    rw [e0] at hj
    cases hj
    have : j = i := by omega
    subst this
    exact hst j _ _ _ (Kt.upd (e4 _ _ p3)) ry
theorem elH_lcL {xs : List V} {j : Nat} {vs : List Nat} {R : Nat → V → Hp → Prop} (h : Ev tl σ H (.ref a)) (hx : SqL K H a xs) (hz : xs.length ≤ 40000) (hw : ∀ x, wipe ((wipe σ vs).set j (some x)) vs = wipe σ vs) (hst : ∀ i v H H', Kt H H' → R i v H → R i v H')
    (he : ∀ (i : Nat) (x : V) H1, Ex H H1 → xs[i]? = some x → EvH te ((wipe σ vs).set j (some x)) H1 (R i)) : EvLH (tLc (iList K tl) (gName j) tYes te vs) σ H xs.length R := fun H0 e Q q => h H0 e _ fun H1 e1 => ⟨a, rfl, ⟨xs, ex_l (e.trans e1) hx⟩, fun Dl hD =>
  lc_list (xs := xs) (Cq H1 R Dl) ⟨hD, Ex.new hD, [], upd_same, rfl, fun j x hj => by cases hj⟩ (fun i H' _ p => ex_l ((e.trans e1).trans p.2.1) hx) (fun i x H' hi p => ⟨hw x, iteT (B := Cq H1 R Dl (i + 1) H') (cq_turn hst p (by have := (List.getElem?_eq_some_iff.mp hi).1; omega) (he i x H' ((e.trans e1).trans p.2.1) hi))⟩)
    (fun H' ⟨p1, p2, acc, p3, p4, p5⟩ => q acc Dl H' (fresh_back e1 p1) (e1.trans p2) p3 p4 p5)⟩
theorem elH_lcT {xs : List V} {j : Nat} {vs : List Nat} {R : Nat → V → Hp → Prop} (h : EvH tl σ H (TpV K xs)) (hz : xs.length ≤ 40000) (hw : ∀ x, wipe ((wipe σ vs).set j (some x)) vs = wipe σ vs) (hst : ∀ i v H H', Kt H H' → R i v H → R i v H')
    (he : ∀ (i : Nat) (x : V) H1, Ex H H1 → xs[i]? = some x → EvH te ((wipe σ vs).set j (some x)) H1 (R i)) : EvLH (tLc (iTup K tl) (gName j) tYes te vs) σ H xs.length R := fun H0 e Q q => h H0 e _ fun v H1 e1 ⟨a, ea, hx⟩ => ⟨a, ea, ⟨xs, hx⟩, fun Dl hD =>
  lc_tup (xs := xs) (Cq H1 R Dl) ⟨hD, Ex.new hD, [], upd_same, rfl, fun j x hj => by cases hj⟩ (fun i H' _ p => ex_t p.2.1 hx) (fun i x H' hi p => ⟨hw x, iteT (B := Cq H1 R Dl (i + 1) H') (cq_turn hst p (by have := (List.getElem?_eq_some_iff.mp hi).1; omega) (he i x H' ((e.trans e1).trans p.2.1) hi))⟩)
    (fun H' ⟨p1, p2, acc, p3, p4, p5⟩ => q acc Dl H' (fresh_back e1 p1) (e1.trans p2) p3 p4 p5)⟩
theorem elH_lcR {ta : TA} {j : Nat} {vs : List Nat} {m : Nat} {R : Nat → V → Hp → Prop} (h : EvA ta σ H [iV m]) (hz : m ≤ 40000) (hw : ∀ x, wipe ((wipe σ vs).set j (some x)) vs = wipe σ vs) (hst : ∀ i v H H', Kt H H' → R i v H → R i v H')
    (he : ∀ (i : Nat) H1, Ex H H1 → i < m → EvH te ((wipe σ vs).set j (some (iV i))) H1 (R i)) : EvLH (tLc (iRng1 ta) (gName j) tYes te vs) σ H m R := fun H0 e Q q => h H0 e _ fun H1 e1 => ⟨(m : Int), rfl, by omega, by omega, fun Dl hD =>
  lc_range (lo := 0) (n := m) (Cq H1 R Dl) ⟨hD, Ex.new hD, [], upd_same, rfl, fun j x hj => by cases hj⟩ (fun i H' hi p => by
    have e0 : (0 : Int) + (i : Int) = (i : Int) := Int.zero_add _
    refine ⟨(by rw [e0]; exact hw _ : wipe ((wipe σ vs).set j (some (.int ((0 : Int) + (i : Int))))) vs = wipe σ vs), iteT (B := Cq H1 R Dl (i + 1) H') ?_⟩
    show te ((wipe σ vs).set j (some (.int ((0 : Int) + (i : Int))))) H' _
    rw [e0]
    exact cq_turn hst p (by omega) (he i H' ((e.trans e1).trans p.2.1) hi))
    (fun H' ⟨p1, p2, acc, p3, p4, p5⟩ => q acc Dl H' (fresh_back e1 p1) (e1.trans p2) p3 p4 p5)⟩
/-- tuple([..]) of tuples that are known -/
theorem evH_tupTT (h : EvLH te σ H n (fun i => FzV (nvs (f i)))) : EvH (tCB (rTupF K) (tCons te tNil)) σ H (fun v H1 => ∃ p, v = .ref p ∧ TTf K H1 p n f) := fun H1 e Q q =>
  h H1 e _ fun xs p H2 hp e2 h2 hn hr => ⟨p, xs, rfl, sq_of h2, fun l o d hl => q _ _ (e2.trans (Ex.new hl)) ⟨l, rfl, by
    have hall : ∀ x ∈ xs, ∃ p, x = V.ref p := fun x hx => by
      obtain ⟨i, hi⟩ := List.getElem?_of_mem hx
      obtain ⟨p, e, _⟩ := hr i x hi
      exact ⟨p, e⟩
    obtain ⟨ps, rfl⟩ : ∃ ps : List Addr, xs = ps.map V.ref := by
      clear hr h2 hn
      induction xs with
      | nil => exact ⟨[], rfl⟩
      | cons x xs ih =>
        obtain ⟨p, rfl⟩ := hall x List.mem_cons_self
        obtain ⟨ps, e⟩ := ih fun y hy => hall y (List.mem_cons_of_mem _ hy)
        exact ⟨p :: ps, by rw [e]; rfl⟩
    refine ⟨ps, .inl (.inr ⟨o, upd_same⟩), by rw [← hn, List.length_map], fun i p hi => ?_⟩
    obtain ⟨p', e', h'⟩ := hr i (.ref p) (by rw [List.getElem?_map, hi]; rfl)
    cases e'
    exact h'.ex (Ex.new hl)⟩⟩
/-- [[] for x in a] : new lists, apart from one another -/
def EvN (te : TE) (σ : L2.St) (H : Hp) (n : Nat) : Prop := ∀ H1, Ex H H1 → ∀ Q : VK, (∀ (ps : List Addr) p H2, H1 p = none → Ex H1 H2 → H2 p = some (.lst (ps.map V.ref)) → ps.length = n → ps.Nodup → p ∉ ps → (∀ q ∈ ps, H1 q = none ∧ H2 q = some (.lst [])) → Q (.ref p) H2) → te σ H1 Q
def Cn (H : Hp) (Dl : Addr) (i : Nat) (H' : Hp) : Prop := H Dl = none ∧ Ex H H' ∧ ∃ ps : List Addr, H' Dl = some (.lst (ps.map V.ref)) ∧ ps.length = i ∧ ps.Nodup ∧ Dl ∉ ps ∧ ∀ q ∈ ps, H q = none ∧ H' q = some (.lst [])
theorem cn_turn {Dl : Addr} {i : Nat} {σ2 : L2.St} (p : Cn H Dl i H') (hi : i < 50000) :
    tLst tNil σ2 H' fun y H4 => ∃ acc, H4 Dl = some (.lst acc) ∧ acc.length < sizeLine ∧ Cn H Dl (i + 1) (upd H4 Dl (.lst (acc ++ [y]))) := by
  obtain ⟨p1, p2, ps, p3, p4, p5, p6, p7⟩ := p
  refine ⟨by show 0 ≤ sizeLine; exact Nat.zero_le _, fun q hq => ?_⟩
  have e4 : Ex H' (upd H' q (.lst [])) := Ex.new hq
  have nq : q ≠ Dl := fun e => by rw [e, p3] at hq; cases hq
  have nps : q ∉ ps := fun m => by rw [(p7 q m).2] at hq; cases hq
  refine ⟨ps.map V.ref, e4 _ _ p3, by rw [List.length_map]; exact sz_lt (by omega), p1, Ex.mut (p2.trans e4) p1, ps ++ [q], by rw [upd_same, List.map_append]; rfl, by rw [List.length_append, p4]; rfl, ?_, ?_, fun r hr => ?_⟩
  · exact List.nodup_append.mpr ⟨p5, List.nodup_cons.mpr ⟨by simp, List.nodup_nil⟩, fun a ha b hb => by rw [List.mem_singleton.mp hb]; exact fun e => nps (e ▸ ha)⟩
  · intro m
    rcases List.mem_append.mp m with m | m
    · exact p6 m
    · exact nq (List.mem_singleton.mp m).symm
  · rcases List.mem_append.mp hr with m | m
    · refine ⟨(p7 r m).1, ?_⟩
      have nr : r ≠ Dl := fun e => p6 (by rw [← e]; exact m)
      rw [upd_ne nr]
      exact e4 _ _ (p7 r m).2
    · rw [List.mem_singleton.mp m]
      refine ⟨fresh_back p2 hq, ?_⟩
      rw [upd_ne nq, upd_same]
theorem en_lcL {xs : List V} {j : Nat} {vs : List Nat} (h : Ev tl σ H (.ref a)) (hx : SqL K H a xs) (hz : xs.length ≤ 40000) (hw : ∀ x, wipe ((wipe σ vs).set j (some x)) vs = wipe σ vs) : EvN (tLc (iList K tl) (gName j) tYes (tLst tNil) vs) σ H xs.length := fun H0 e Q q => h H0 e _ fun H1 e1 => ⟨a, rfl, ⟨xs, ex_l (e.trans e1) hx⟩, fun Dl hD =>
  lc_list (xs := xs) (Cn H1 Dl) ⟨hD, Ex.new hD, [], upd_same, rfl, List.nodup_nil, List.not_mem_nil, fun q hq => by cases hq⟩ (fun i H' _ p => ex_l ((e.trans e1).trans p.2.1) hx) (fun i x H' hi p => ⟨hw x, iteT (B := Cn H1 Dl (i + 1) H') (cn_turn p (by have := (List.getElem?_eq_some_iff.mp hi).1; omega))⟩)
    (fun H' ⟨p1, p2, ps, p3, p4, p5, p6, p7⟩ => q ps Dl H' (fresh_back e1 p1) (e1.trans p2) p3 p4 p5 p6 fun r hr => ⟨fresh_back e1 (p7 r hr).1, (p7 r hr).2⟩)⟩
theorem en_lcT {xs : List V} {j : Nat} {vs : List Nat} (h : Ev tl σ H (.ref a)) (hx : SqT K H a xs) (hz : xs.length ≤ 40000) (hw : ∀ x, wipe ((wipe σ vs).set j (some x)) vs = wipe σ vs) : EvN (tLc (iTup K tl) (gName j) tYes (tLst tNil) vs) σ H xs.length := fun H0 e Q q => h H0 e _ fun H1 e1 => ⟨a, rfl, ⟨xs, ex_t (e.trans e1) hx⟩, fun Dl hD =>
  lc_tup (xs := xs) (Cn H1 Dl) ⟨hD, Ex.new hD, [], upd_same, rfl, List.nodup_nil, List.not_mem_nil, fun q hq => by cases hq⟩ (fun i H' _ p => ex_t ((e.trans e1).trans p.2.1) hx) (fun i x H' hi p => ⟨hw x, iteT (B := Cn H1 Dl (i + 1) H') (cn_turn p (by have := (List.getElem?_eq_some_iff.mp hi).1; omega))⟩)
    (fun H' ⟨p1, p2, ps, p3, p4, p5, p6, p7⟩ => q ps Dl H' (fresh_back e1 p1) (e1.trans p2) p3 p4 p5 p6 fun r hr => ⟨fresh_back e1 (p7 r hr).1, (p7 r hr).2⟩)⟩
/-- lists of numbers in a list, being filled -/
structure Fill (H0 H' : Hp) (a : Addr) (n : Nat) (f : Nat → List Nat) (ps : List Addr) : Prop where
  e : Ex H0 H'
  na : H0 a = none
  ha : H' a = some (.lst (ps.map V.ref))
  len : ps.length = n
  nd : ps.Nodup
  ap : a ∉ ps
  at_ : ∀ i p, ps[i]? = some p → H0 p = none ∧ H' p = some (.lst (nvs (f i)))
theorem Fill.start {H0 H1 : Hp} {ps : List Addr} (e : Ex H0 H1) (na : H0 a = none) (ha : H1 a = some (.lst (ps.map V.ref))) (len : ps.length = n) (nd : ps.Nodup) (ap : a ∉ ps) (h : ∀ q ∈ ps, H0 q = none ∧ H1 q = some (.lst [])) : Fill H0 H1 a n (fun _ => []) ps :=
  ⟨e, na, ha, len, nd, ap, fun i p hp => h p (List.mem_of_getElem? hp)⟩
theorem Fill.up {H0 H1 H2 : Hp} {ps : List Addr} (h : Fill H0 H1 a n f ps) (e : Ex H1 H2) : Fill H0 H2 a n f ps := ⟨h.e.trans e, h.na, e _ _ h.ha, h.len, h.nd, h.ap, fun i p hp => ⟨(h.at_ i p hp).1, e _ _ (h.at_ i p hp).2⟩⟩
theorem Fill.congr {H0 H1 : Hp} {ps : List Addr} {g : Nat → List Nat} (h : Fill H0 H1 a n f ps) (e : ∀ i, i < n → f i = g i) : Fill H0 H1 a n g ps := ⟨h.e, h.na, h.ha, h.len, h.nd, h.ap, fun i p hp => by rw [← e i (by rw [← h.len]; exact (List.getElem?_eq_some_iff.mp hp).1)]; exact h.at_ i p hp⟩
theorem Fill.push {H0 H1 : Hp} {ps : List Addr} (h : Fill H0 H1 a n f ps) {m : Nat} {p : Addr} {x : Nat} (hp : ps[m]? = some p) {g : Nat → List Nat} (hg : g m = f m ++ [x]) (hne : ∀ i, i ≠ m → g i = f i) : Fill H0 (upd H1 p (.lst (nvs (f m) ++ [iV x]))) a n g ps := by
  have np : a ≠ p := fun e => h.ap (e ▸ List.mem_of_getElem? hp)
  refine ⟨Ex.mut h.e (h.at_ m p hp).1, h.na, by rw [upd_ne np]; exact h.ha, h.len, h.nd, h.ap, fun i q hq => ⟨(h.at_ i q hq).1, ?_⟩⟩
  by_cases c : i = m
  · subst c
    have : q = p := Option.some.inj (hq.symm.trans hp)
    subst this
    have e2 : nvs (f i ++ [x]) = nvs (f i) ++ [iV x] := List.map_append
    rw [upd_same, hg, e2]
  · have nq : q ≠ p := fun e => c (by
      subst e
      have h1 := List.getElem?_eq_some_iff.mp hq
      have h2 := List.getElem?_eq_some_iff.mp hp
      exact (List.getElem_inj h.nd).mp (h1.2.trans h2.2.symm))
    rw [upd_ne nq, hne i c]
    exact (h.at_ i q hq).2
theorem Fill.ll {H0 H1 : Hp} {ps : List Addr} (h : Fill H0 H1 a n f ps) : LLf K H1 a n f := ⟨ps, sq_of h.ha, h.len, fun i p hp => sq_of (h.at_ i p hp).2⟩
end
end OwnG

/-! graphs on the heap; loops over enumerate; fields -/
namespace OwnG
open PySem L2 Evl Own GM
section
variable {K : PySem.W.Frag} {σ : L2.St} {H H' : Hp} {ta tb te to tl : TE} {t tr : TA} {v x y z : V} {D : Ends} {tz tu : TS} {sp : Sp} {vs dvs : List V} {E : XK}
theorem s_forE {a : Addr} {xs : List V} {i1 i2 : Nat} (h : Ev tl σ H (.ref a)) (hx : SqT K H a xs) (Pv : Nat → L2.St → Hp → Prop) (h0 : ∀ H1, Ex H H1 → Pv 0 σ H1) (hl : ∀ i σ' H', i ≤ xs.length → Pv i σ' H' → SqT K H' a xs)
    (hs : ∀ i x σ' H' H2, xs[i]? = some x → Pv i σ' H' → Ex H' H2 → tu { D with nx := Pv (i + 1), ct := Pv (i + 1), bk := D.nx } ((σ'.set i1 (some (iV i))).set i2 (some x)) H2) (hd : ∀ σ' H', Pv xs.length σ' H' → D.nx σ' H') :
    tFor (iEnumT K (tCons tl tNil)) (gTup K 2 (gCons (gName i1) (gCons (gName i2) gNil))) tu D σ H := h H (Ex.refl H) _ fun H1 e => ⟨a, xs, rfl, ex_t e hx, by
  refine ⟨fun i m σ H => m = xs.length - i ∧ i ≤ xs.length ∧ Pv i σ H, ⟨xs.length, by simp, Nat.zero_le _, h0 H1 e⟩, ?_⟩
  rintro i m σ H ⟨rfl, hi, p⟩
  have q := hl i σ H hi p
  by_cases hlt : i < xs.length
  · refine .inr ⟨⟨xs, xs[i], q, by simp [hlt]⟩, Pv (i + 1), fun σ' H' p' => ⟨xs.length - (i + 1), by omega, rfl, hlt, p'⟩, fun w H' y => ?_⟩
    obtain ⟨T, x, rfl, hT, rfl, hy⟩ := y
    refine ⟨T, [iV i, x], rfl, .inl (.inl upd_same), rfl, _, _, rfl, _, _, rfl, rfl, ?_⟩
    exact hs i x σ H _ (hy xs q) p (Ex.new hT)
  · have e : i = xs.length := by omega
    subst e
    exact .inl ⟨⟨xs, q, Nat.le_refl _⟩, hd σ H p⟩⟩
theorem q_forE {a : Addr} {xs : List V} {i1 i2 : Nat} (h : Ev tl σ H (.ref a)) (hx : SqT K H a xs) (Pv : Nat → L2.St → Hp → Prop) (h0 : ∀ H1, Ex H H1 → Pv 0 σ H1) (hl : ∀ i σ' H', i ≤ xs.length → Pv i σ' H' → SqT K H' a xs)
    (hs : ∀ i x σ' H' H2, xs[i]? = some x → Pv i σ' H' → Ex H' H2 → tu { D with nx := Pv (i + 1), ct := Pv (i + 1), bk := tz D } ((σ'.set i1 (some (iV i))).set i2 (some x)) H2) (hd : ∀ σ' H', Pv xs.length σ' H' → tz D σ' H') :
    tSeq (tFor (iEnumT K (tCons tl tNil)) (gTup K 2 (gCons (gName i1) (gCons (gName i2) gNil))) tu) tz D σ H := s_forE (D := { D with nx := tz D }) h hx Pv h0 hl hs hd
theorem s_fld {a C dx : Addr} {fs : List (Str × V)} {f : Str} {R : V → Hp → Prop} (hv : EvH te σ H R) (h : Ev ta σ H (.ref a)) (hs : ∀ v H H', Ex H H' → R v H → R v H') (ho : H a = some (.ins C dx fs)) (hc : Cls K C) (hn : NoAttr K C f) (hz : fs.length < 1000)
    (k : ∀ v H1, Ex H H1 → R v H1 → D.nx σ (upd H1 a (.ins C dx (putF f v fs)))) : sFld K ta te f D σ H := hv H (Ex.refl H) _ fun v H1 e1 r => h H1 e1 _ fun H2 e2 => ⟨a, C, dx, fs, rfl, e2 _ _ (e1 _ _ ho), hc, hn, hz, k v H2 (e1.trans e2) (hs v H1 H2 e2 r)⟩
theorem q_fld {a C dx : Addr} {fs : List (Str × V)} {f : Str} {R : V → Hp → Prop} (hv : EvH te σ H R) (h : Ev ta σ H (.ref a)) (hs : ∀ v H H', Ex H H' → R v H → R v H') (ho : H a = some (.ins C dx fs)) (hc : Cls K C) (hn : NoAttr K C f) (hz : fs.length < 1000)
    (k : ∀ v H1, Ex H H1 → R v H1 → tz D σ (upd H1 a (.ins C dx (putF f v fs)))) : tSeq (sFld K ta te f) tz D σ H := s_fld (D := { D with nx := tz D }) hv h hs ho hc hn hz k
theorem ev_fld {a C dx : Addr} {fs : List (Str × V)} {f : Str} (h : Ev te σ H (.ref a)) (ho : H a = some (.ins C dx fs)) (hc : Cls K C) (hn : NoAttr K C f) (hl : fs.lookup f = some v) : Ev (tFld K te f) σ H v := fun H1 e Q q =>
  h H1 e _ fun H2 e2 => ⟨a, C, dx, fs, v, rfl, e2 _ _ (e _ _ ho), hc, hn, hl, q H2 e2⟩
theorem q_unpackU {i j : Nat} {v u : V} (h : EvU te σ H [v, u]) (k : ∀ H1, Ex H H1 → tz D ((σ.set i (some v)).set j (some u)) H1) : tSeq (tAsg te (gTup K 2 (gCons (gName i) (gCons (gName j) gNil)))) tz D σ H :=
  h H (Ex.refl H) _ fun p H1 _ e1 h1 => ⟨p, [v, u], rfl, st_of h1, rfl, v, [u], rfl, u, [], rfl, rfl, k H1 e1⟩
theorem s_retC (h : EvA t σ H vs) (k : ∀ H1, Ex H H1 → sp (vs ++ dvs) H1 D.rt E) : tRet (tCall sp dvs E t) D σ H := h H (Ex.refl H) _ fun H1 e1 => k H1 e1
theorem ev_isN (h : Ev te σ H v) : Ev (tOp (fun x y H Q => y = V.non ∧ Q (V.bl (decide (x = V.non))) H) te (tC .non)) σ H (.bl (decide (v = V.non))) := fun H1 e Q q =>
  h H1 e _ fun H2 e2 => ⟨rfl, q H2 e2⟩
theorem ev_notN (h : Ev te σ H v) : Ev (tOp (fun x y H Q => y = V.non ∧ Q (V.bl (!decide (x = V.non))) H) te (tC .non)) σ H (.bl (!decide (v = V.non))) := fun H1 e Q q =>
  h H1 e _ fun H2 e2 => ⟨rfl, q H2 e2⟩
end
theorem nV_non (o : Option Nat) : decide (nV o = V.non) = o.isNone := by
  cases o with
  | none => exact decide_eq_true rfl
  | some j => exact decide_eq_false fun h => by cases h
theorem atI_of {α : Type} {l : List α} {k : Nat} {v : α} (h : l[k]? = some v) : atI l (k : Int) = some v := atI_nat h
theorem at_ints' {l : List Nat} {k : Nat} (h : k < l.length) : atI (nvs l) (k : Int) = some (iV (l.getD k 0)) := by
  refine at_map ?_
  rw [List.getElem?_eq_getElem h, getD_eq h]
theorem at_tab {ts : Tab} {k : Nat} (h : k < ts.length) : atI (ts.map nV) (k : Int) = some (nV (ts.getD k none)) := by
  refine at_map ?_
  rw [List.getElem?_eq_getElem h, getD_eq h]
theorem at_before {l : List Nat} {j : Nat} (h : j < l.length) : atI (nvs l) ((j : Int) - 1) = some (iV (l.getD ((j + (l.length - 1)) % l.length) 0)) := by
  cases j with
  | zero =>
    have e : (0 + (l.length - 1)) % l.length = l.length - 1 := by rw [Nat.zero_add]; exact Nat.mod_eq_of_lt (by omega)
    rw [e]
    unfold atI ixN
    have g : (nvs l).length = l.length := List.length_map _
    rw [if_neg (by show ¬ (0 : Int) ≤ ((0 : Nat) : Int) - 1; decide), if_pos (by rw [g]; show -(l.length : Int) ≤ ((0 : Nat) : Int) - 1; omega)]
    show (nvs l)[(((0 : Nat) : Int) - 1 + ((nvs l).length : Int)).toNat]? = _
    rw [g]
    have e2 : (((0 : Nat) : Int) - 1 + (l.length : Int)).toNat = l.length - 1 := by omega
    rw [e2, List.getElem?_map, List.getElem?_eq_getElem (by omega), getD_eq (by omega)]
    rfl
  | succ m =>
    have e : (m + 1 + (l.length - 1)) % l.length = m := by
      have : m + 1 + (l.length - 1) = m + l.length := by omega
      rw [this, Nat.add_mod_right]
      exact Nat.mod_eq_of_lt (by omega)
    have e2 : (((m + 1 : Nat) : Int) - 1) = (m : Int) := by omega
    rw [e, e2]
    exact at_ints' (by omega)
theorem perm_int {ns : List Int} {n : Nat} {row : List Nat} (h1 : ns.Perm (row.map fun n : Nat => (n : Int))) (h2 : ns.Pairwise (· ≤ ·)) (h3 : row.Perm (List.range n)) : ns = (List.range n).map fun n : Nat => (n : Int) := by
  have p := h1.trans (h3.map fun n : Nat => (n : Int))
  refine List.Perm.eq_of_pairwise (le := (· ≤ ·)) (fun a b _ _ x y => Int.le_antisymm x y) h2 ?_ p
  refine List.pairwise_map.mpr (List.pairwise_le_range.imp fun h => ?_)
  exact Int.ofNat_le.mpr h
theorem el_sortedTI {K : PySem.W.Frag} {σ : L2.St} {H : Hp} {te : TE} {row : List Nat} {n : Nat} (h : EvH te σ H (TpV K (nvs row))) (hp : row.Perm (List.range n)) : EvL (tCB (rSortedTI K) (tCons te tNil)) σ H (nvs (List.range n)) := fun H1 e Q q =>
  h H1 e _ fun v H2 e2 ⟨p, ep, hs⟩ => ⟨p, row.map fun n : Nat => (n : Int), by rw [ep], by rw [← ints_map]; exact hs, fun ns' l h1 h2 hl => by
    rw [perm_int h1 h2 hp, ← ints_map]
    exact q l _ (fresh_back e2 hl) (e2.trans (Ex.new hl)) upd_same⟩
theorem q_asgN {σ : L2.St} {H : Hp} {te : TE} {D : Ends} {tz : TS} {i n : Nat} (h : EvN te σ H n) (k : ∀ (ps : List Addr) p H1, H p = none → Ex H H1 → H1 p = some (.lst (ps.map V.ref)) → ps.length = n → ps.Nodup → p ∉ ps → (∀ q ∈ ps, H q = none ∧ H1 q = some (.lst [])) → tz D (σ.set i (some (.ref p))) H1) :
    tSeq (tAsg te (gName i)) tz D σ H := h H (Ex.refl H) _ fun ps p H1 a b c d e f g => k ps p H1 a b c d e f g
/-! ### all but one address is kept -/
def Ig (g : Addr) (H H' : Hp) : Prop := ∀ a o, H a = some o → a ≠ g → H' a = some o
section
variable {K : PySem.W.Frag} {H H1 H2 : Hp} {g a : Addr} {xs : List V} {n : Nat} {f : Nat → List Nat}
theorem Ig.of (e : Ex H H1) : Ig g H H1 := fun a o h _ => e a o h
theorem Ig.trans (a : Ig g H H1) (b : Ig g H1 H2) : Ig g H H2 := fun x o h n => b x o (a x o h n) n
theorem Ig.upd {o : HO} : Ig g H (upd H g o) := fun a u h n => by rw [upd_ne n]; exact h
theorem Ig.none (h : Ig g H H1) (hg : a ≠ g) (hn : H1 a = none) : H a = none := by
  cases e : H a with
  | none => rfl
  | some o => rw [h a o e hg] at hn; cases hn
theorem sq_ig {C dx : Addr} {fs : List (Str × V)} (h : SqT K H a xs) (hg : H g = some (.ins C dx fs)) (i : Ig g H H1) : SqT K H1 a xs := by
  rcases h with (q | ⟨u, q⟩) | q
  · exact .inl (.inl (i _ _ q (ne_of q hg (by intro z; cases z))))
  · exact .inl (.inr ⟨u, i _ _ q (ne_of q hg (by intro z; cases z))⟩)
  · exact .inr q
theorem fz_ig {C dx : Addr} {fs : List (Str × V)} (h : FzT H a xs) (hg : H g = some (.ins C dx fs)) (i : Ig g H H1) : FzT H1 a xs := by
  obtain ⟨o, d, q⟩ := h
  exact ⟨o, d, i _ _ q (ne_of q hg (by intro z; cases z))⟩
theorem tt_ig {C dx : Addr} {fs : List (Str × V)} (h : TTf K H a n f) (hg : H g = some (.ins C dx fs)) (i : Ig g H H1) : TTf K H1 a n f := by
  obtain ⟨ps, h1, h2, h3⟩ := h.ex
  exact ⟨ps, sq_ig h1 hg i, h2, fun i' p hp => fz_ig (h3 i' p hp) hg i⟩
end
/-! ### a graph -/
def gf (nx bf rt : Addr) : List (Str × V) := [("nexts", .ref nx), ("_before", .ref bf), ("rotation", .ref rt)]
theorem gf_nexts {nx bf rt : Addr} : (gf nx bf rt).lookup ("nexts" : Str) = some (.ref nx) := rfl
theorem gf_before {nx bf rt : Addr} : (gf nx bf rt).lookup ("_before" : Str) = some (.ref bf) := rfl
theorem gf_rot {nx bf rt : Addr} : (gf nx bf rt).lookup ("rotation" : Str) = some (.ref rt) := rfl
theorem gf_nb {nx bf rt : Addr} : (gf nx bf rt).lookup ("nodes_before" : Str) = none := rfl
theorem gf_put {nx bf rt : Addr} : putF "rotation" (.ref rt) (putF "_before" (.ref bf) (putF "nexts" (.ref nx) [])) = gf nx bf rt := rfl

structure GAt (K : PySem.W.Frag) (C : Addr) (H : Hp) (g : Addr) (ts : Tab) (rs : List (List Nat)) : Prop where
  ex : ∃ dx nx bf rt, H g = some (.ins C dx (gf nx bf rt)) ∧ SqT K H nx (ts.map nV) ∧ TTf K H bf ts.length (bk ts) ∧ TTf K H rt ts.length (fun k => rs.getD k [])
theorem GAt.up {K : PySem.W.Frag} {C : Addr} {H H' : Hp} {g : Addr} {ts : Tab} {rs : List (List Nat)} (e : Ex H H') (h : GAt K C H g ts rs) : GAt K C H' g ts rs := by
  obtain ⟨dx, nx, bf, rt, h1, h2, h3, h4⟩ := h.ex
  exact ⟨dx, nx, bf, rt, e _ _ h1, ex_t e h2, h3.up e, h4.up e⟩
end OwnG

/-! isinstance, all(..), list.index for graphs -/
namespace OwnG
open PySem L2 Evl Own GM
section
variable {K : PySem.W.Frag} {σ : L2.St} {H H' : Hp} {ta tb te to : TE} {t : TA} {x v : V}
theorem tyX_tup {a : Addr} {xs : List V} (h : SqT K H a xs) : TyX K H (.ref a) (.type "tuple") := by
  rcases h with (h | ⟨o, h⟩) | ⟨o, its, n, h, hc, _⟩
  · exact .base (.tup h)
  · exact .fTuple h
  · exact .kTuple h hc
theorem kit1 {t u : String} {b : Bool} (h : kitB t u = some b) : PySem.W.kitOne K (.type t) (.type u) = some b := kit_ty h
theorem ev_isi {ty u : Value} {c : V} {b : Bool} {tc : TE} (hx : Ev te σ H x) (hc : Ev tc σ H c) (hp : ClsV c u) (hy : ∀ H1, Ex H H1 → TyX K H1 x ty) (k : PySem.W.kitOne K ty u = some b) : Ev (tCB (rIsi K) (tCons te (tCons tc tNil))) σ H (.bl b) := fun H1 e Q q =>
  hx H1 e _ fun H2 e2 => hc H2 (e.trans e2) _ fun H3 e3 => ⟨x, c, ty, u, b, rfl, hp, hy _ ((e.trans e2).trans e3), k, q _ (e2.trans e3)⟩
theorem ev_isTup {p : Addr} {xs : List V} (hx : Ev te σ H (.ref p)) (h : SqT K H p xs) : Ev (tCB (rIsi K) (tCons te (tCons (tC (.ty "tuple")) tNil))) σ H (.bl true) :=
  ev_isi hx ev_c (.ty _) (fun H1 e1 => tyX_tup (ex_t e1 h)) (kit1 (b := true) (by decide +kernel))
theorem ev_isInt {i : Int} (hx : Ev te σ H (.int i)) : Ev (tCB (rIsi K) (tCons te (tCons (tC (.ty "int")) tNil))) σ H (.bl true) := ev_isi hx ev_c (.ty _) (fun H1 e1 => .base (.int i)) (kit1 (b := true) (by decide +kernel))
theorem ev_isBool {i : Int} (hx : Ev te σ H (.int i)) : Ev (tCB (rIsi K) (tCons te (tCons (tC (.ty "bool")) tNil))) σ H (.bl false) := ev_isi hx ev_c (.ty _) (fun H1 e1 => .base (.int i)) (kit1 (b := false) (by decide +kernel))
theorem ev_all {n : Nat} (h : EvLH te σ H n (fun _ v _ => v = .bl true)) : Ev (tCB (rAll K) (tCons te tNil)) σ H (.bl true) := fun H1 e Q q =>
  h H1 e _ fun xs p H2 hp e2 h2 hn hr => by
    have ex : xs = (List.replicate n true).map V.bl := by
      rw [List.map_replicate]
      refine List.ext_getElem (by rw [hn, List.length_replicate]) fun i a b => ?_
      rw [List.getElem_replicate]
      exact hr i _ (List.getElem?_eq_getElem a)
    have eb : (List.replicate n true).all id = true := List.all_eq_true.mpr fun b hb => (List.mem_replicate.mp hb).2
    refine ⟨p, List.replicate n true, rfl, sq_of (by rw [h2, ex]), ?_⟩
    rw [eb]
    exact q H2 e2
theorem flat_nvs (l : List Nat) : (nvs l).all flatV = true := List.all_eq_true.mpr fun x hx => by
  obtain ⟨i, _, rfl⟩ := List.mem_map.mp hx
  rfl
theorem ev_lix {row : List Nat} {k : Nat} (h : EvH to σ H (LsV K (nvs row))) (ha : Ev te σ H (iV k)) (hz : k ∈ row) : Ev (tBM K "list" (rIndex K) to (tCons te tNil)) σ H (iV (row.idxOf k)) := fun H1 e Q q =>
  h H1 e _ fun v H2 e2 ⟨p, ep, hp⟩ => by
    subst ep
    refine ⟨Or.inl ⟨rfl, _, hp⟩, ha H2 (e.trans e2) _ fun H3 e3 => ⟨p, nvs row, iV k, row.idxOf k, iV k, rfl, rfl, ex_l e3 hp, rfl, flat_nvs row, by rw [List.getElem?_map, get_idx hz]; rfl, (by show ((k : Int) == (k : Int)) = true; exact beq_self_eq_true _), fun m z hm hmz => ?_, q H3 (e2.trans e3)⟩⟩
    rw [List.getElem?_map] at hmz
    cases e : row[m]? with
    | none => rw [e] at hmz; cases hmz
    | some y =>
      rw [e] at hmz
      cases hmz
      show ((y : Int) == (k : Int)) = false
      exact beq_eq_false_iff_ne.mpr fun h => idx_first m hm (by rw [e, Int.ofNat_inj.mp h])
theorem ev_neS (ha : Ev ta σ H x) (hb : Ev tb σ H x) (hs : scal x x = true) : Ev (tOp rNe ta tb) σ H (.bl false) := ev_is (ev_op ha hb (rv_ne hs)) (by rw [decide_eq_true rfl]; rfl)
theorem scal_nV (o : Option Nat) : scal (nV o) (nV o) = true := by cases o <;> rfl
end
theorem at2_0 {α : Type} {x y : α} : atI [x, y] (0 : Int) = some x := atI_nat (j := 0) rfl
theorem at2_1 {α : Type} {x y : α} : atI [x, y] (1 : Int) = some y := atI_nat (j := 1) rfl
end OwnG

namespace GM
/-! ### all predecessors counted -/
def tot (ts : Tab) : Nat → Nat → Nat
  | 0, _ => 0
  | m + 1, i => tot ts m i + (pre ts m i).length
theorem tot_zero (ts : Tab) : ∀ m, tot ts m 0 = 0
  | 0 => rfl
  | m + 1 => by
    show tot ts m 0 + _ = 0
    rw [tot_zero ts m]
    rfl
def hit (ts : Tab) (m i : Nat) : Nat := match ts[i]? with
  | some (some k) => if k < m then 1 else 0
  | _ => 0
theorem hit_le (ts : Tab) (m i : Nat) : hit ts m i ≤ 1 := by
  unfold hit
  split
  · split <;> omega
  · omega
theorem tot_step (ts : Tab) (i : Nat) : ∀ m, tot ts m (i + 1) = tot ts m i + hit ts m i
  | 0 => by
    unfold hit
    split
    · rw [if_neg (Nat.not_lt_zero _)]; rfl
    · rfl
  | m + 1 => by
    show tot ts m (i + 1) + (pre ts m (i + 1)).length = tot ts m i + (pre ts m i).length + hit ts (m + 1) i
    rw [tot_step ts i m]
    by_cases h : ts[i]? = some (some m)
    · rw [pre_yes h, List.length_append]
      unfold hit
      rw [h]
      simp only [Nat.lt_irrefl, if_false, Nat.lt_succ_self, if_true, List.length_cons, List.length_nil]
      omega
    · rw [pre_no h]
      have : hit ts (m + 1) i = hit ts m i := by
        unfold hit
        split
        · rename_i k hk
          have : k ≠ m := fun e => h (by rw [hk, e])
          by_cases c : k < m
          · rw [if_pos c, if_pos (by omega)]
          · rw [if_neg c, if_neg (by omega)]
        · rfl
      omega
theorem tot_le (ts : Tab) (m : Nat) : ∀ i, tot ts m i ≤ i
  | 0 => by rw [tot_zero]; exact Nat.le_refl _
  | i + 1 => by
    rw [tot_step]
    have := tot_le ts m i
    have := hit_le ts m i
    omega
/-- how many fingers the first m nodes have -/
def fing (ts : Tab) (m : Nat) : Nat := tot ts m ts.length + m
theorem fing_succ (ts : Tab) (m : Nat) : fing ts (m + 1) = fing ts m + ((bk ts m).length + 1) := by
  show tot ts m ts.length + (pre ts m ts.length).length + (m + 1) = tot ts m ts.length + m + ((pre ts m ts.length).length + 1)
  omega
theorem fing_le (ts : Tab) (m : Nat) : fing ts m ≤ ts.length + m := Nat.add_le_add_right (tot_le ts m _) m
/-! ### orders -/
theorem perm_erase {α : Type} : ∀ {l : List α} {j : Nat} {x : α}, l[j]? = some x → (x :: l.eraseIdx j).Perm l
  | [], j, x, h => by cases h
  | a :: l, 0, x, h => by
    cases h
    exact .refl _
  | a :: l, j + 1, x, h => by
    have ih := perm_erase (l := l) (j := j) (x := x) h
    show (x :: a :: l.eraseIdx j).Perm (a :: l)
    exact (List.Perm.swap a x _).trans (ih.cons a)
theorem perm_move {α : Type} {o l : List α} {j : Nat} {x : α} (h : l[j]? = some x) : ((o ++ [x]) ++ l.eraseIdx j).Perm (o ++ l) := by
  rw [List.append_assoc]
  exact (perm_erase h).append_left o
theorem rev_range (n : Nat) : ((List.range (n + 1)).map fun k => n - k).Perm (List.range (n + 1)) := by
  have e : ((List.range (n + 1)).map fun k => n - k) = (List.range (n + 1)).reverse := by
    refine List.ext_getElem (by simp) fun i h1 h2 => ?_
    rw [List.getElem_map, List.getElem_reverse, List.getElem_range, List.getElem_range, List.length_range]
    omega
  rw [e]
  exact List.reverse_perm _
theorem getD_map_range {α : Type} (f : Nat → α) (d : α) {n k : Nat} (h : k < n) : ((List.range n).map f).getD k d = f k := by
  rw [getD_eq (by simpa using h), List.getElem_map, List.getElem_range]
theorem getD_snoc {α : Type} (l : List α) (x d : α) : (l ++ [x]).getD l.length d = x := by
  rw [List.getD_eq_getElem?_getD, List.getElem?_append_right (Nat.le_refl _), Nat.sub_self]
  rfl
theorem getD_snoc_lt {α : Type} {l : List α} {x d : α} {i : Nat} (h : i < l.length) : (l ++ [x]).getD i d = l.getD i d := by
  rw [List.getD_eq_getElem?_getD, List.getD_eq_getElem?_getD, List.getElem?_append_left h]
end GM

/-! numbers by kind, lists of known items -/
namespace OwnG
open PySem L2 Evl Own GM
theorem int_iV {i : Int} (h : 0 ≤ i) : V.int i = iV i.toNat := by
  show V.int i = V.int (i.toNat : Int)
  rw [Int.toNat_of_nonneg h]
/-- a next node below n, or none -/
def NxV (n : Nat) (v : V) : Prop := ∃ o : Option Nat, v = nV o ∧ ∀ j, o = some j → j < n
theorem nx_int {n : Nat} {i : Int} (h0 : 0 ≤ i) (h1 : i < (n : Int)) : NxV n (.int i) := ⟨some i.toNat, int_iV h0, fun j e => by cases e; omega⟩
theorem nx_non {n : Nat} : NxV n .non := ⟨none, rfl, fun j e => by cases e⟩
theorem NxV.up {n m : Nat} {v : V} (h : NxV n v) (e : n ≤ m) : NxV m v := by
  obtain ⟨o, ho, hb⟩ := h
  exact ⟨o, ho, fun j hj => Nat.lt_of_lt_of_le (hb j hj) e⟩
/-- a list of such -/
def TabL (n : Nat) (xs : List V) : Prop := ∀ x ∈ xs, NxV n x
theorem TabL.tab {n : Nat} : ∀ {xs : List V}, TabL n xs → ∃ ts : Tab, xs = ts.map nV ∧ ∀ o ∈ ts, ∀ j, o = some j → j < n
  | [], _ => ⟨[], rfl, fun o h => by cases h⟩
  | x :: xs, h => by
    obtain ⟨ts, e, ht⟩ := TabL.tab (xs := xs) fun y hy => h y (List.mem_cons_of_mem _ hy)
    obtain ⟨o, ho, hb⟩ := h x List.mem_cons_self
    refine ⟨o :: ts, by rw [e, ho]; rfl, fun p hp j hj => ?_⟩
    rcases List.mem_cons.mp hp with rfl | hp
    · exact hb j hj
    · exact ht p hp j hj
theorem TabL.ok {n : Nat} {xs : List V} (h : TabL n xs) (hl : xs.length = n) : ∃ ts : Tab, xs = ts.map nV ∧ ts.length = n ∧ TabOk ts := by
  obtain ⟨ts, e, ht⟩ := h.tab
  have hn : ts.length = n := by rw [← hl, e, List.length_map]
  exact ⟨ts, e, hn, fun i k hi => by rw [hn]; exact ht _ (List.mem_of_getElem? hi) k rfl⟩
theorem TabL.snoc {n : Nat} {xs : List V} {x : V} (h : TabL n xs) (hx : NxV n x) : TabL n (xs ++ [x]) := fun y hy => by
  rcases List.mem_append.mp hy with hy | hy
  · exact h y hy
  · rw [List.mem_singleton.mp hy]; exact hx
theorem TabL.set {n j : Nat} {xs : List V} {x : V} (h : TabL n xs) (hx : NxV n x) : TabL n (xs.set j x) := fun y hy => by
  rcases List.mem_or_eq_of_mem_set hy with hy | hy
  · exact h y hy
  · rw [hy]; exact hx
section
variable {K : PySem.W.Frag} {σ : L2.St} {H H' : Hp} {ta tb te to tl : TE} {t tr : TA} {v x : V} {S S' : V → Prop} {D : Ends} {tz : TS}
theorem rc_intB {k : Bool} : RC (fun xs H Q => (∃ i, xs = [V.int i] ∧ Q (V.int i) H) ∨ ∃ k, xs = [.bl k] ∧ Q (.int (if k = true then 1 else 0)) H) [.bl k] H (.int (if k = true then 1 else 0)) := fun H1 _ Q q => Or.inr ⟨k, rfl, q H1 (Ex.refl H1)⟩
theorem el_ofH {n : Nat} {g : Nat → V} (h : EvLH te σ H n (fun i v _ => v = g i)) : EvL te σ H ((List.range n).map g) := fun H1 e Q q => h H1 e Q fun xs p H2 hp e2 h2 hn hr => by
  have ex : xs = (List.range n).map g := by
    refine List.ext_getElem (by rw [hn, List.length_map, List.length_range]) fun i a b => ?_
    rw [List.getElem_map, List.getElem_range]
    exact hr i _ (List.getElem?_eq_getElem a)
  exact q p H2 hp e2 (by rw [h2, ex])
theorem elS_ofH {n : Nat} {R : Nat → V → Hp → Prop} {R' : List V → Prop} (h : EvLH te σ H n R) (w : ∀ xs H1, xs.length = n → (∀ i x, xs[i]? = some x → R i x H1) → R' xs) : EvLS te σ H R' := fun H1 e Q q => h H1 e Q fun xs p H2 hp e2 h2 hn hr => q xs p H2 (w xs H2 hn hr) hp e2 h2
theorem s_retLS {R : List V → Prop} (h : EvLS te σ H R) (k : ∀ xs p H1, R xs → H p = none → Ex H H1 → H1 p = some (.lst xs) → D.rt (.ref p) H1) : tRet te D σ H := h H (Ex.refl H) _ fun xs p H1 r hp e h1 => k xs p H1 r hp e h1
theorem ev_ixLS {xs : List V} {i : Int} (ha : EvL ta σ H xs) (hb : Ev tb σ H (.int i)) (hv : atI xs i = some v) : Ev (tOp (rIxL K) ta tb) σ H v := ev_opL1 ha (fun H1 e1 => hb.mono e1) fun p H1 hp e1 => rv_ixL (sq_of hp) hv
theorem evS_ix {xs : List V} {i : Int} (ha : EvL ta σ H xs) (hb : Ev tb σ H (.int i)) (h0 : 0 ≤ i) (h1 : i < (xs.length : Int)) (hs : ∀ x ∈ xs, S x) : EvS (tOp (rIxL K) ta tb) σ H S := by
  obtain ⟨j, rfl⟩ : ∃ j : Nat, i = (j : Int) := ⟨i.toNat, by omega⟩
  have hj : j < xs.length := by omega
  exact evS_of (ev_ixLS ha hb (atI_nat (List.getElem?_eq_getElem hj))) (hs _ (List.getElem_mem hj))
end
theorem s_appH {K : PySem.W.Frag} {σ : L2.St} {H : Hp} {ta te : TE} {D : Ends} {l : Addr} {xs : List V} {R : V → Hp → Prop} (hl : H l = some (.lst xs)) (ha : Ev ta σ H (.ref l)) (h : EvH te σ H R) (hz : xs.length < 100000) (k : ∀ v H1, Ex H H1 → R v H1 → D.nx σ (upd H1 l (.lst (xs ++ [v])))) :
    tDrop (tBM K "list" rAppend ta (tCons te tNil)) D σ H := ha H (Ex.refl H) _ fun H1 e1 => ⟨Or.inl ⟨rfl, xs, sq_of (e1 l _ hl)⟩, h H1 e1 _ fun v H2 e2 r => ⟨l, xs, v, rfl, rfl, e2 l _ (e1 l _ hl), sz_lt hz, k v H2 (e1.trans e2) r⟩⟩
theorem q_appH {K : PySem.W.Frag} {σ : L2.St} {H : Hp} {ta te : TE} {D : Ends} {tz : TS} {l : Addr} {xs : List V} {R : V → Hp → Prop} (hl : H l = some (.lst xs)) (ha : Ev ta σ H (.ref l)) (h : EvH te σ H R) (hz : xs.length < 100000) (k : ∀ v H1, Ex H H1 → R v H1 → tz D σ (upd H1 l (.lst (xs ++ [v])))) :
    tSeq (tDrop (tBM K "list" rAppend ta (tCons te tNil))) tz D σ H := s_appH (D := { D with nx := tz D }) hl ha h hz k
theorem evH_tupTTv {K : PySem.W.Frag} {σ : L2.St} {H : Hp} {te : TE} {p : Addr} {qs : List Addr} {n : Nat} {f : Nat → List Nat} (h : Ev te σ H (.ref p)) (hs : SqL K H p (qs.map V.ref)) (hn : qs.length = n) (hq : ∀ i a, qs[i]? = some a → FzT H a (nvs (f i))) : EvH (tCB (rTupF K) (tCons te tNil)) σ H (fun v H1 => ∃ p, v = .ref p ∧ TTf K H1 p n f) := fun H1 e Q q =>
  h H1 e _ fun H2 e2 => ⟨p, _, rfl, ex_l (e.trans e2) hs, fun l o d hl => q _ _ (e2.trans (Ex.new hl)) ⟨l, rfl, qs, .inl (.inr ⟨o, upd_same⟩), hn, fun i a hi => (hq i a hi).ex ((e.trans e2).trans (Ex.new hl))⟩⟩
theorem map_erase (l : List Nat) (j : Nat) : (nvs l).eraseIdx j = nvs (l.eraseIdx j) := by
  rw [List.eraseIdx_eq_take_drop_succ, List.eraseIdx_eq_take_drop_succ]
  show _ = List.map iV _
  rw [List.map_append, List.map_take, List.map_drop]
theorem nvs_snoc (l : List Nat) (x : Nat) : nvs (l ++ [x]) = nvs l ++ [iV x] := List.map_append
theorem seqIx {j n : Nat} (h : j < n) : seqIndex? (j : Int) n = some j := by
  have e : (if (j : Int) < 0 then (j : Int) + (n : Int) else (j : Int)) = (j : Int) := if_neg (by omega)
  have e2 : (decide ((0 : Int) ≤ (j : Int)) && decide ((j : Int) < (n : Int))) = true := by
    rw [decide_eq_true (by omega), decide_eq_true (by omega)]
    rfl
  unfold seqIndex?
  simp only [e]
  rw [if_pos e2, Int.toNat_natCast]
/-- o.append(l.pop(j)) -/
theorem s_appPop {K : PySem.W.Frag} {σ : L2.St} {H : Hp} {ta tb te : TE} {D : Ends} {l o : Addr} {xs ys : List V} {j : Nat} {y : V} (ho : Ev ta σ H (.ref o)) (hl : Ev tb σ H (.ref l)) (hi : Ev te σ H (.int (j : Int))) (hO : H o = some (.lst ys)) (hL : H l = some (.lst xs)) (hne : o ≠ l) (hj : xs[j]? = some y) (hz : ys.length < 100000) (hx : xs.length ≤ 100000)
    (k : ∀ H1, Ex H H1 → D.nx σ (upd (upd H1 l (.lst (xs.eraseIdx j))) o (.lst (ys ++ [y])))) : tDrop (tBM K "list" rAppend ta (tCons (tBM K "list" rPopAt tb (tCons te tNil)) tNil)) D σ H := ho H (Ex.refl H) _ fun H3 e3 =>
  ⟨Or.inl ⟨rfl, _, sq_of (e3 _ _ hO)⟩, hl H3 e3 _ fun H4 e4 => ⟨Or.inl ⟨rfl, _, sq_of ((e3.trans e4) _ _ hL)⟩, hi H4 (e3.trans e4) _ fun H5 e5 => by
    have e35 := (e3.trans e4).trans e5
    have hjl := (List.getElem?_eq_some_iff.mp hj).1
    refine ⟨l, xs, (j : Int), j, y, rfl, rfl, e35 _ _ hL, by omega, by omega, seqIx hjl, hj, ?_⟩
    · exact ⟨o, ys, y, rfl, rfl, by rw [upd_ne hne]; exact e35 _ _ hO, sz_lt hz, k H5 e35⟩⟩⟩
def NumV (lo hi : Nat) (v : V) : Prop := ∃ i : Int, v = .int i ∧ (lo : Int) ≤ i ∧ i ≤ (hi : Int)
theorem num_of {lo hi : Nat} {i : Int} (h0 : (lo : Int) ≤ i) (h1 : i ≤ (hi : Int)) : NumV lo hi (.int i) := ⟨i, rfl, h0, h1⟩
theorem rep_map {m : Nat} {x : Int} : (List.replicate ((m : Int)).toNat [V.int x]).flatten = (List.replicate m x).map V.int := by
  rw [Int.toNat_natCast, List.map_replicate]
  induction m with
  | zero => rfl
  | succ m ih => rw [List.replicate_succ, List.flatten_cons, ih]; rfl
theorem rep_non {m : Nat} : (List.replicate ((m : Int)).toNat [V.non]).flatten = List.replicate m V.non := by
  rw [Int.toNat_natCast]
  induction m with
  | zero => rfl
  | succ m ih => rw [List.replicate_succ, List.flatten_cons, ih]; rfl
theorem cut_len {xs : List V} {a b : Nat} (h : b ≤ xs.length) (ha : a ≤ b) : (cutV xs (some (a : Int)) (some (b : Int))).length = b - a := by
  unfold cutV
  rw [HT.sIx_nat, HT.sIx_nat, List.length_take, List.length_drop]
  omega
theorem map_cut {α : Type} (f : α → V) (xs : List α) (a b : Nat) : ∃ ys : List α, cutV (xs.map f) (some (a : Int)) (some (b : Int)) = ys.map f := by
  unfold cutV
  exact ⟨(xs.drop (HT.sIx (xs.map f).length 0 (some (a : Int)))).take (HT.sIx (xs.map f).length (xs.map f).length (some (b : Int)) - HT.sIx (xs.map f).length 0 (some (a : Int))), by rw [List.map_take, List.map_drop]⟩
end OwnG

/-! sorted: lists of tuples of ints, dicts with keys that are ints, of any length -/
namespace OwnG
open PySem PySem.Spec PyProof.Rows L2 Evl Own GM SrtO Srt
theorem pi_listK {X : Cx} {K : PySem.W.Frag} {tg l : Expr} {tl : TE} (hK : X.K = K) (hl : PE X l tl) : PI X tg l (iList K tl) := by
  subst hK
  exact pi_list hl
theorem pi_tupK {X : Cx} {K : PySem.W.Frag} {tg l : Expr} {tl : TE} (hK : X.K = K) (hl : PE X l tl) : PI X tg l (iTup K tl) := by
  subst hK
  exact pi_tup hl
/-! ### tuples of ints, any lengths -/
/-- at v in the heap h: a tuple of these numbers, not none of them -/
def IsTs (h : Heap) (v : Value) (ns : List Int) : Prop := ∃ (a : Addr) (o : Obj) (its : Array Value) (n : Nat), v = .ref a ∧ h.get? a = some o ∧ o.cls = .type "tuple" ∧ o.data = .seq its n ∧ IntsAre its.toList ns ∧ ns ≠ []
theorem IsTs.keeps {h h' : Heap} {v : Value} {ns : List Int} (x : IsTs h v ns) (k : ∀ b o, h.get? b = some o → o.cls = .type "tuple" → h'.get? b = some o) : IsTs h' v ns := by
  obtain ⟨a, o, its, n, e, ho, hc, r⟩ := x
  exact ⟨a, o, its, n, e, k _ _ ho hc, hc, r⟩
section
variable {prog : Program} {w : World} {A : Around} {E : Value → Shared → Prop} {s : Shared}
theorem kat_ints {Q : Bool → Shared → Prop} : ∀ {us vs : List Value} {ns ms : List Int} (i : Nat) (fin : Bool), IntsAre us ns → IntsAre vs ms → (fin = decide (ns.length < ms.length)) → Q (HT.lexLt ns ms) s → PySem.W.KatLex prog w A true fin Q (us.zip vs) i s
  | [], _, _, ms, i, fin, .nil, hv, hf, q => by
    refine PySem.W.kat_nil ?_
    rw [hf]
    cases hv with
    | nil => exact q
    | cons n t h =>
      rw [decide_eq_true (by show 0 < _; simp)]
      exact q
  | _, [], ns, _, i, fin, hu, .nil, hf, q => by
    rw [List.zip_nil_right]
    refine PySem.W.kat_nil ?_
    rw [hf]
    cases hu with
    | nil => exact q
    | cons n t h =>
      rw [decide_eq_false (by simp)]
      exact q
  | _, _, _, _, i, fin, .cons (vs := us) (ns := ns) x t hu, .cons (vs := vs) (ns := ms) y u hv, hf, q => by
    rw [List.zip_cons_cons]
    refine PySem.W.kat_cons (SeqAt.EqAt.int_int x t y u prog w _ _ ?_)
    refine PySem.W.kat_go (fun e => ?_) (fun e => ?_)
    · have ex : x = y := by simpa using e
      refine PySem.W.kat_yes (kat_ints (i + 1) fin hu hv (by rw [hf]; simp) ?_)
      rw [HT.lexLt_cons, if_pos ex] at q
      exact q
    · have ex : ¬ x = y := by simpa using e
      rw [HT.lexLt_cons, if_neg ex] at q
      exact PySem.W.kat_no (TS.oneLt_ints _ q)
theorem ints_len : ∀ {us : List Value} {ns : List Int}, IntsAre us ns → us.length = ns.length
  | _, _, .nil => rfl
  | _, _, .cons n t h => by rw [List.length_cons, List.length_cons, ints_len h]
theorem ts_cmp {vs : List Value} {k : Value → List Int} (hp : ∀ v ∈ vs, IsTs s.heap v (k v)) : Cmp prog w A s (tuples' true) (fun p => p.1 ∈ vs) (lt2 fun v u => HT.lexLt (k v) (k u)) := by
  intro p q hm hm'
  have h1 := hp _ hm
  have h2 := hp _ hm'
  show wpAny (model prog w) A (keyLt' (tuples' true) p.1 q.1) (fun r s' => s' = s ∧ r = HT.lexLt (k p.1) (k q.1)) (fun _ _ => False) s
  generalize k p.1 = x at h1 ⊢
  generalize k q.1 = y at h2 ⊢
  obtain ⟨a, o, its, n, e, ho, hc, hd, i1, _⟩ := h1
  obtain ⟨a', o', its', n', e', ho', hc', hd', i2, _⟩ := h2
  rw [e, e']
  refine PySem.W.kat_lt ho hd ho' hd' ?_
  have l1 := ints_len i1
  have l2 := ints_len i2
  rw [Array.length_toList] at l1 l2
  exact kat_ints 0 _ i1 i2 (by rw [l1, l2]) ⟨rfl, rfl⟩
theorem ts_firsts {h : Heap} {k : Value → List Int} : ∀ {vs : List Value}, (∀ v ∈ vs, IsTs h v (k v)) → ∃ fs : List Value, PySem.W.KatTups h vs fs ∧ fs.length = vs.length ∧ ∀ f ∈ fs, ∃ x t, f = Value.int x t
  | [], _ => ⟨[], PySem.W.KatTups.nil, rfl, fun _ hm => by simp at hm⟩
  | v :: vs, hp => by
    obtain ⟨fs, h1, h2, h3⟩ := ts_firsts (vs := vs) fun v' hm => hp v' (List.mem_cons_of_mem _ hm)
    obtain ⟨a, o, its, n, e, ho, hc, hd, i1, ne⟩ := hp v (List.mem_cons_self ..)
    subst e
    generalize k (Value.ref a) = ns at i1 ne
    obtain ⟨l⟩ := its
    cases i1 with
    | nil => exact absurd rfl ne
    | cons x t hr =>
      refine ⟨.int x t :: fs, PySem.W.KatTups.cons ho hc hd rfl h1, by rw [List.length_cons, List.length_cons, h2], fun f hm => ?_⟩
      rcases List.mem_cons.mp hm with rfl | hm
      · exact ⟨x, t, rfl⟩
      · exact h3 f hm
theorem ts_sortable {a : Addr} {vs : List Value} {k : Value → List Int} (h0 : 0 < vs.length) (hp : ∀ v ∈ vs, IsTs s.heap v (k v)) (ha : ∀ o, s.heap.get? a = some o → o.cls ≠ .type "tuple") : SortableO prog w A s a vs fun v u => HT.lexLt (k v) (k u) := by
  intro h' keep
  have hp' : ∀ v ∈ vs, IsTs h' v (k v) := fun v hm => (hp v hm).keeps fun b o e c => keep b o (fun z => by subst z; exact ha o e c) e
  obtain ⟨fs, h1, h2, h3⟩ := ts_firsts hp'
  refine ⟨tuples' true, fun Q E hq => ?_, ts_cmp (s := { s with heap := h' }) hp'⟩
  refine PySem.W.kat_kind (T := .type "int") h1 (by omega) (fun f hm => ?_) (by rfl) ?_
  · obtain ⟨x, t, rfl⟩ := h3 f hm
    exact PySem.W.Looks.now
  · have e : (Value.type "int" != Value.type "tuple") = true := by first | decide +kernel | rfl | decide
    rw [e]
    exact hq
end
def vAd : Value → Addr
  | .ref a => a
  | _ => 0
theorem vals_refs' : ∀ {ps : List Addr} {us : List Value}, Vals (ps.map V.ref) us → us = ps.map Value.ref
  | [], us, r => by
    rw [List.map_nil] at r
    cases r
    rfl
  | t :: ts, us, r => by
    rw [List.map_cons] at r
    cases r with
    | cons h q =>
      cases h
      rw [List.map_cons, ← vals_refs' q]
theorem vals_of_refs : ∀ ps : List Addr, Vals (ps.map V.ref) (ps.map Value.ref)
  | [] => .nil
  | _ :: ps => .cons rfl (vals_of_refs ps)
theorem srt_map {k : Addr → List Int} : ∀ {ps : List Addr}, Srtd (fun v u => HT.lexLt (k (vAd v)) (k (vAd u))) (ps.map Value.ref) → ps.Pairwise (fun p q => HT.lexLt (k q) (k p) = false) := fun {ps} h => by
  have h' : (ps.map Value.ref).Pairwise (fun v u => HT.lexLt (k (vAd u)) (k (vAd v)) = false) := h
  exact List.pairwise_map.mp h'
def rSortedTs (K : PySem.W.Frag) : List V → Hp → VK → Prop := fun vs H Q => ∃ (a : Addr) (ps : List Addr) (k : Addr → List Nat), vs = [V.ref a] ∧ SqL K H a (ps.map V.ref) ∧ (∀ p ∈ ps, FzT H p (nvs (k p)) ∧ k p ≠ []) ∧
  ∀ (ps' : List Addr) (l : Addr), ps'.Perm ps → ps'.Pairwise (fun p q => HT.lexLt ((k q).map fun n : Nat => (n : Int)) ((k p).map fun n : Nat => (n : Int)) = false) → H l = none → Q (.ref l) (upd H l (.lst (ps'.map V.ref)))
section
variable {X : Cx}
theorem cr_sortedTs : CallR X (.builtin "sorted") (rSortedTs X.K) := by
  intro pins s σ H vs us Q I r h
  obtain ⟨a, ps, k, rfl, hs, hk, q⟩ := h
  obtain ⟨its, rv, hl, hz⟩ := I.list hs
  rw [Vals.ref1 r]
  have ei := vals_refs' rv
  have hz2 : its.length ≤ sizeLine := by rw [← rv.length]; exact hz
  have hT : ∀ v ∈ its, IsTs s.heap v ((k (vAd v)).map fun n : Nat => (n : Int)) := fun v hv => by
    rw [ei] at hv
    obtain ⟨p, hp, rfl⟩ := List.mem_map.mp hv
    obtain ⟨h1, h2⟩ := hk p hp
    obtain ⟨ts, rt, ⟨o, ho, hc, n, hd⟩, _⟩ := I.tuple (h1.sq (K := X.K))
    rw [ints_map] at rt
    exact ⟨p, o, ts.toArray, n, rfl, ho, hc, hd, rt.ints, fun z => h2 (List.map_eq_nil_iff.mp z)⟩
  refine sorted_ord (NtL.swo_lexL fun v => (k (vAd v)).map fun n : Nat => (n : Int)) hl.isList hz2 (fun h2 h₁ a' ha kk => ?_) fun out h1 h2 => ?_
  · refine ts_sortable (s := { s with heap := h₁ }) (by omega) (fun v hm => (hT v hm).keeps fun b o e _ => (kk b o e).2) fun o e => ?_
    have e' : some o = some (seqObj "list" its.toArray 0) := e.symm.trans ha
    cases e'
    intro c
    exact absurd (Value.type.inj c) (by decide)
  · have pm : out.Perm its := h2.perm
    obtain ⟨ps', e2⟩ : ∃ ps' : List Addr, out = ps'.map Value.ref := by
      have hall : ∀ v ∈ out, ∃ p, v = Value.ref p := fun v hv => by
        have := pm.mem_iff.mp hv
        rw [ei] at this
        obtain ⟨p, _, e⟩ := List.mem_map.mp this
        exact ⟨p, e.symm⟩
      clear h1 h2 pm
      induction out with
      | nil => exact ⟨[], rfl⟩
      | cons v vs ih =>
        obtain ⟨p, rfl⟩ := hall v List.mem_cons_self
        obtain ⟨ps', e⟩ := ih fun y hy => hall y (List.mem_cons_of_mem _ hy)
        exact ⟨p :: ps', by rw [e]; rfl⟩
    have pm2 : ps'.Perm ps := by
      rw [e2, ei] at pm
      have := pm.map vAd
      rw [List.map_map, List.map_map] at this
      have i1 : ∀ l : List Addr, l.map (vAd ∘ Value.ref) = l := fun l => (List.map_congr_left fun _ _ => rfl).trans (List.map_id l)
      rw [i1, i1] at this
      exact this
    obtain ⟨ep, he'⟩ := sortedAll_at s.heap its out.toArray
    rw [e2] at h1
    have hlen : (ps'.map V.ref).length ≤ sizeLine := by
      rw [List.length_map, pm2.length_eq]
      rw [List.length_map] at hz
      exact hz
    exact ⟨.ref _, upd H (s.heap.objs.size + 1) (.lst (ps'.map V.ref)), I.laid (t' := s.toks) (fun _ _ => sortedAll_old) (Nat.le_succ _) ⟨hlen, out, ep, by rw [e2]; exact vals_of_refs ps', he'⟩, rfl, q _ _ pm2 (srt_map h1) (I.hok.fresh (Nat.le_succ _))⟩
/-! ### sorted(d), keys that are ints -/
def rSortedDI : List V → Hp → VK → Prop := fun xs H Q => ∃ (a : Addr) (kvs : List (Key × V)) (ks : List Int), xs = [.ref a] ∧ Rd H a (.dK kvs) ∧ kvs.map (·.1) = ks.map Sum.inl ∧
  ∀ (ys : List Int) (p : Addr), ys.Perm ks → ys.Pairwise (· ≤ ·) → H p = none → Q (.ref p) (upd H p (.lst (ys.map V.int)))
theorem ints_at : ∀ {us : List Value} {ks : List Int}, us.length = ks.length → (∀ (j : Nat) (v : Value), us[j]? = some v → ∃ z t, ks[j]? = some z ∧ v = .int z t) → IntsAre us ks
  | [], [], _, _ => .nil
  | [], _ :: _, h, _ => by cases h
  | _ :: _, [], h, _ => by cases h
  | u :: us, z :: ks, h, hj => by
    obtain ⟨z', t, e1, e2⟩ := hj 0 u rfl
    cases e1
    subst e2
    exact .cons z t (ints_at (Nat.succ.inj h) fun j v e => hj (j + 1) v e)
theorem cr_sortedDI (hcalm : X.calm = true) : CallR X (.builtin "sorted") rSortedDI := by
  intro pins s σ H xs us Q I r q
  obtain ⟨a, kvs, ks, ex, hd, hks, q⟩ := q
  subst ex
  rw [Vals.ref1 r]
  obtain ⟨z, lo, vs, rel, dd⟩ := dk_rd I.hok hd
  obtain ⟨ep, hat⟩ := dd.dictAt
  have hkeys : vs.map (·.1) = ks.map Sum.inl := rel.keys.symm.trans hks
  have hl : vs.length = ks.length := by
    have e := congrArg List.length hkeys
    rw [List.length_map, List.length_map] at e
    exact e
  have hl2 : kvs.length = ks.length := by
    have e := congrArg List.length hks
    rw [List.length_map, List.length_map] at e
    exact e
  have h16 : vs.length ≤ sizeLine := by rw [hl, ← hl2]; exact z
  refine Calls.call_function_entry kind_sorted plain_sorted entry_sorted (args_sorted1 _) ?_
  unfold Builtin.«sorted»
  refine wpAny_bind (m := checkCount "sorted" 1 1 _) (wpAny_pure ?_)
  refine wpAny_bind (PySem.W.kdu_collect (A := X.A.in1) (PySem.W.kdl_dict (knd := mixKind X.prog X.w) (kvs := vs) (ep := ep) lo) (I.ok.hd hcalm) hat h16 fun h' tk acc hk hacc => ?_)
  have hal : acc.toList.length = ks.length := by rw [Array.length_toList, hacc.1, hl]
  have hS : IntsAre acc.toList ks := ints_at hal fun j v e => by
    obtain ⟨k, x, e1, e2⟩ := hacc.2 j v (by rw [← Array.getElem?_toList]; exact e)
    have e3 : (vs.map (·.1))[j]? = some k := by rw [List.getElem?_map, e1]; all_goals rfl
    rw [hkeys, List.getElem?_map] at e3
    cases e4 : ks[j]? with
    | none => rw [e4] at e3; cases e3
    | some y =>
      rw [e4] at e3
      have e5 : Sum.inl y = k := Option.some.inj e3
      subst e5
      obtain ⟨t, ev⟩ : RelV (V.int y) v := keyIs_rel (k := Sum.inl y) (v := v) e2
      exact ⟨y, t, rfl, ev⟩
  have hz2 : acc.toList.length ≤ sizeLine := by rw [hal, ← hl2]; exact z
  have I1 : Inv X pins σ H { s with heap := h', toks := tk } := I.kept hk
  refine wpAny_bind (wpAny_newList ?_ hz2)
  have hoL : (h'.push (seqObj "list" acc.toList.toArray 0)).get? h'.objs.size = some (seqObj "list" acc.toList.toArray 0) := Heap.get?_push_size _ rfl
  show wpAny _ _ _ _ _ { s with heap := h'.push (seqObj "list" acc.toList.toArray 0), toks := tk }
  refine wpAny_bind (wpAny_holding (wpAny_call_entry slot_list_sort ⟨_, hoL, rfl⟩ entry_list_sort (list_sort_ord (s := { s with heap := h'.push (seqObj "list" acc.toList.toArray 0), toks := tk }) swo_int hoL hz2 (fun h2 => ints_sortable hS h2) fun out hs hb => ⟨_, rfl, ?_⟩) (args_list_sort _)))
  refine wpAny_pure ?_
  obtain ⟨k1, k2, k3⟩ := ints_out hS hs hb
  obtain ⟨e', he'⟩ := sortedHeap_at (vs := acc.toList) (out := out.toArray) hoL
  have hlen : ((out.map iv).map V.int).length ≤ sizeLine := by
    rw [List.length_map, k2.length_eq, ← hl2]
    exact z
  refine ⟨_, rfl, .ref h'.objs.size, upd H h'.objs.size (.lst ((out.map iv).map V.int)), ?_, rfl, q _ _ k2 k3 (I1.hok.fresh (Nat.le_refl _))⟩
  refine I1.laid (t' := tk) (fun b u hb => ?_) (Nat.le_refl _) ⟨hlen, out, e', vals_of_ints k1, he'⟩
  have hlt : b < h'.objs.size := Heap.lt_size hb
  show (sortedHeap (h'.push (seqObj "list" acc.toList.toArray 0)) h'.objs.size acc.toList out.toArray).get? b = some u
  rw [sortedHeap_old (Nat.ne_of_lt hlt) (by rw [size_push']; exact Nat.lt_succ_of_lt hlt)]
  exact Heap.get?_push_of_some _ hb
end
end OwnG

namespace GM
/-! ### ways along the nexts -/
def nx (ts : Tab) (x : Nat) : Option Nat := ts.getD x none
def Way (ts : Tab) : Option Nat → List Nat → Option Nat → Prop
  | c, [], e => c = e
  | c, x :: l, e => c = some x ∧ Way ts (nx ts x) l e
inductive Fw (ts : Tab) : Nat → Nat → Prop
  | refl (x : Nat) : Fw ts x x
  | step {x y z : Nat} : nx ts x = some y → Fw ts y z → Fw ts x z
section
variable {ts : Tab}
theorem Fw.trans {x y z : Nat} (a : Fw ts x y) (b : Fw ts y z) : Fw ts x z := by
  induction a with
  | refl => exact b
  | step h _ ih => exact .step h (ih b)
theorem way_snoc : ∀ {l : List Nat} {c : Option Nat} {x : Nat}, Way ts c l (some x) → Way ts c (l ++ [x]) (nx ts x)
  | [], c, x, h => ⟨h, rfl⟩
  | y :: l, c, x, h => ⟨h.1, way_snoc h.2⟩
theorem way_split : ∀ {l m : List Nat} {c e : Option Nat}, Way ts c (l ++ m) e → ∃ d, Way ts c l d ∧ Way ts d m e
  | [], m, c, e, h => ⟨c, rfl, h⟩
  | x :: l, m, c, e, h => by
    obtain ⟨d, h1, h2⟩ := way_split (l := l) h.2
    exact ⟨d, ⟨h.1, h1⟩, h2⟩
theorem way_end : ∀ {l : List Nat} {c : Option Nat} {x s : Nat}, Way ts c l (some s) → x ∈ l → Fw ts x s
  | y :: l, c, x, s, h, hx => by
    rcases List.mem_cons.mp hx with e | hx
    · subst e
      cases l with
      | nil => exact .step h.2 (.refl s)
      | cons z l => exact .step h.2.1 (way_end h.2 (List.mem_cons_self ..))
    · exact way_end h.2 hx
theorem way_begin : ∀ {l : List Nat} {b x : Nat} {e : Option Nat}, Way ts (some b) l e → x ∈ l → Fw ts b x
  | y :: l, b, x, e, h, hx => by
    have eb : b = y := Option.some.inj h.1
    subst eb
    rcases List.mem_cons.mp hx with e1 | hx
    · subst e1
      exact .refl _
    · cases l with
      | nil => cases hx
      | cons z l => exact .step h.2.1 (way_begin (b := z) (l := z :: l) (e := e) (And.intro rfl h.2.2) hx)
theorem way_none : ∀ {l : List Nat} {c : Option Nat} {x : Nat}, Way ts c l none → x ∈ l → ∃ e, Fw ts x e ∧ nx ts e = none
  | y :: l, c, x, h, hx => by
    rcases List.mem_cons.mp hx with e | hx
    · subst e
      cases l with
      | nil => exact ⟨x, .refl x, h.2⟩
      | cons z l =>
        obtain ⟨e, h1, h2⟩ := way_none h.2 (List.mem_cons_self ..)
        exact ⟨e, .step h.2.1 h1, h2⟩
    · exact way_none h.2 hx
theorem way_next : ∀ {l : List Nat} {c e : Option Nat} {x : Nat}, Way ts c l e → x ∈ l → nx ts x = e ∨ ∃ y ∈ l, nx ts x = some y
  | y :: l, c, e, x, h, hx => by
    rcases List.mem_cons.mp hx with e1 | hx
    · subst e1
      cases l with
      | nil => exact .inl h.2
      | cons z l => exact .inr ⟨z, by simp, h.2.1⟩
    · rcases way_next h.2 hx with h1 | ⟨z, hz, h1⟩
      · exact .inl h1
      · exact .inr ⟨z, List.mem_cons_of_mem _ hz, h1⟩
/-! ### rings -/
def Ring (ts : Tab) (s : Nat) (R : List Nat) : Prop := s ∈ R ∧ Way ts (some s) R (some s) ∧ R.Nodup
theorem ring_closed {s x y : Nat} {R : List Nat} (h : Ring ts s R) (hx : x ∈ R) (hn : nx ts x = some y) : y ∈ R := by
  rcases way_next h.2.1 hx with h1 | ⟨z, hz, h1⟩
  · rw [hn] at h1
    cases h1
    exact h.1
  · rw [hn] at h1
    cases h1
    exact hz
theorem ring_has {s x : Nat} {R : List Nat} (h : Ring ts s R) (hx : x ∈ R) : ∃ y, nx ts x = some y := by
  rcases way_next h.2.1 hx with h1 | ⟨z, hz, h1⟩
  · exact ⟨s, h1⟩
  · exact ⟨z, h1⟩
theorem ring_fw {s x y : Nat} {R : List Nat} (h : Ring ts s R) (hx : x ∈ R) (f : Fw ts x y) : y ∈ R := by
  induction f with
  | refl => exact hx
  | step e _ ih => exact ih (ring_closed h hx e)
theorem ring_all {s x y : Nat} {R : List Nat} (h : Ring ts s R) (hx : x ∈ R) (hy : y ∈ R) : Fw ts x y := (way_end h.2.1 hx).trans (way_begin h.2.1 hy)
/-- the least -/
def mn (R : List Nat) : Nat := R.min?.getD 0
theorem mn_of {R : List Nat} {m : Nat} (h1 : m ∈ R) (h2 : ∀ y ∈ R, m ≤ y) : mn R = m := by
  unfold mn
  rw [(List.min?_eq_some_iff).mpr ⟨h1, h2⟩]
  rfl
theorem mn_ok {R : List Nat} (h : R ≠ []) : mn R ∈ R ∧ ∀ y ∈ R, mn R ≤ y := by
  cases e : R.min? with
  | none => exact absurd (List.min?_eq_none_iff.mp e) h
  | some m =>
    have := List.min?_eq_some_iff.mp e
    unfold mn
    rw [e]
    exact this
theorem ring_ne {s : Nat} {R : List Nat} (h : Ring ts s R) : R ≠ [] := List.ne_nil_of_mem h.1
theorem ring_mn {s t x : Nat} {R S : List Nat} (h : Ring ts s R) (k : Ring ts t S) (hx : x ∈ R) (hy : x ∈ S) : mn R = mn S := by
  have sub : ∀ y, y ∈ R ↔ y ∈ S := fun y => ⟨fun q => ring_fw k hy (ring_all h hx q), fun q => ring_fw h hx (ring_all k hy q)⟩
  obtain ⟨a1, a2⟩ := mn_ok (ring_ne k)
  exact mn_of ((sub _).mpr a1) fun y q => a2 y ((sub y).mp q)
def norm (R : List Nat) : List Nat := R.drop (R.idxOf (mn R)) ++ R.take (R.idxOf (mn R))
theorem norm_head {s : Nat} {R : List Nat} (h : R ≠ []) : (norm R).getD 0 s = mn R := by
  have m := (mn_ok h).1
  have g := List.idxOf_lt_length_of_mem m
  unfold norm
  rw [List.drop_eq_getElem_cons g, List.getElem_idxOf g]
  rfl
theorem norm_ne {R : List Nat} (h : R ≠ []) : norm R ≠ [] := by
  have m := (mn_ok h).1
  have g := List.idxOf_lt_length_of_mem m
  unfold norm
  rw [List.drop_eq_getElem_cons g]
  simp
theorem norm_len (R : List Nat) : (norm R).length = R.length := by
  unfold norm
  have := List.idxOf_le_length (l := R) (a := mn R)
  rw [List.length_append, List.length_drop, List.length_take]
  omega
/-! ### the walk through all nodes -/
structure Trail (ts : Tab) (D : List Nat) (c : Option Nat) (l : List Nat) (e : Option Nat) : Prop where
  way : Way ts c l e
  nd : l.Nodup
  off : ∀ x ∈ l, x ∉ D
  stop : ∀ s, e = some s → s ∈ D ∨ s ∈ l
theorem trail_det : ∀ {l1 l2 D : List Nat} {c e1 e2 : Option Nat}, Trail ts D c l1 e1 → Trail ts D c l2 e2 → l1 = l2 ∧ e1 = e2
  | [], [], D, c, e1, e2, a, b => ⟨rfl, a.way.symm.trans b.way⟩
  | [], x :: l2, D, c, e1, e2, a, b => by
    have h1 : c = some x := b.way.1
    have h2 : c = e1 := a.way
    rcases a.stop x (h2.symm.trans h1) with q | q
    · exact absurd q (b.off x (List.mem_cons_self ..))
    · cases q
  | x :: l1, [], D, c, e1, e2, a, b => by
    have h1 : c = some x := a.way.1
    have h2 : c = e2 := b.way
    rcases b.stop x (h2.symm.trans h1) with q | q
    · exact absurd q (a.off x (List.mem_cons_self ..))
    · cases q
  | x :: l1, y :: l2, D, c, e1, e2, a, b => by
    have exy : x = y := Option.some.inj (a.way.1.symm.trans b.way.1)
    subst exy
    have tl : ∀ {l : List Nat} {e : Option Nat}, Trail ts D c (x :: l) e → Trail ts (x :: D) (nx ts x) l e := fun {l e} t =>
      ⟨t.way.2, (List.nodup_cons.mp t.nd).2, fun z hz hm => by
        rcases List.mem_cons.mp hm with q | q
        · subst q
          exact (List.nodup_cons.mp t.nd).1 hz
        · exact t.off z (List.mem_cons_of_mem _ hz) q, fun s hs => by
        rcases t.stop s hs with q | q
        · exact .inl (List.mem_cons_of_mem _ q)
        · rcases List.mem_cons.mp q with q | q
          · exact .inl (by rw [q]; exact List.mem_cons_self ..)
          · exact .inr q⟩
    obtain ⟨h1, h2⟩ := trail_det (tl a) (tl b)
    exact ⟨by rw [h1], h2⟩
inductive St (ts : Tab) : Nat → List Nat → List (List Nat) → Prop
  | zero : St ts 0 [] []
  | hit {i s : Nat} {D l : List Nat} {R : List (List Nat)} : St ts i D R → Trail ts D (some i) l (some s) → s ∈ l → St ts (i + 1) (D ++ l) (R ++ [l.drop (l.idxOf s)])
  | miss {i : Nat} {D l : List Nat} {R : List (List Nat)} {e : Option Nat} : St ts i D R → Trail ts D (some i) l e → (∀ s, e = some s → s ∉ l) → St ts (i + 1) (D ++ l) R
theorem St.det {i : Nat} {D E : List Nat} {R S : List (List Nat)} (a : St ts i D R) (b : St ts i E S) : D = E ∧ R = S := by
  induction a generalizing E S with
  | zero =>
    cases b
    exact ⟨rfl, rfl⟩
  | hit a t m ih =>
    cases b with
    | hit b u n =>
      obtain ⟨h1, h2⟩ := ih b
      subst h1 h2
      obtain ⟨h3, h4⟩ := trail_det t u
      subst h3
      cases h4
      exact ⟨rfl, rfl⟩
    | miss b u n =>
      obtain ⟨h1, h2⟩ := ih b
      subst h1 h2
      obtain ⟨h3, h4⟩ := trail_det t u
      subst h3 h4
      exact absurd m (n _ rfl)
  | miss a t m ih =>
    cases b with
    | hit b u n =>
      obtain ⟨h1, h2⟩ := ih b
      subst h1 h2
      obtain ⟨h3, h4⟩ := trail_det t u
      subst h3 h4
      exact absurd n (m _ rfl)
    | miss b u n =>
      obtain ⟨h1, h2⟩ := ih b
      subst h1 h2
      obtain ⟨h3, h4⟩ := trail_det t u
      subst h3 h4
      exact ⟨rfl, rfl⟩
theorem trail_ring {D l : List Nat} {i s : Nat} (t : Trail ts D (some i) l (some s)) (m : s ∈ l) : Ring ts s (l.drop (l.idxOf s)) := by
  have g := List.idxOf_lt_length_of_mem m
  have e : l.drop (l.idxOf s) = s :: l.drop (l.idxOf s + 1) := by
    rw [List.drop_eq_getElem_cons g, List.getElem_idxOf g]
  obtain ⟨d, h1, h2⟩ := way_split (l := l.take (l.idxOf s)) (m := l.drop (l.idxOf s)) (by rw [List.take_append_drop]; exact t.way)
  rw [e] at h2 ⊢
  refine ⟨List.mem_cons_self .., ⟨rfl, h2.2⟩, ?_⟩
  rw [← e]
  exact t.nd.sublist (List.drop_sublist _ _)
/-- a head: an end, or the least of a ring -/
def Hd (ts : Tab) (R : List (List Nat)) (h : Nat) : Prop := nx ts h = none ∨ ∃ r ∈ R, h = mn r
structure StOk (ts : Tab) (i : Nat) (D : List Nat) (R : List (List Nat)) : Prop where
  all : ∀ x, x < i → x ∈ D
  rings : ∀ r ∈ R, ∃ s, Ring ts s r
  root : ∀ x ∈ D, ∃ h, Hd ts R h ∧ Fw ts x h
  nd : D.Nodup
theorem Hd.up {R S : List (List Nat)} {h : Nat} (a : Hd ts R h) : Hd ts (R ++ S) h := by
  rcases a with a | ⟨r, hr, e⟩
  · exact .inl a
  · exact .inr ⟨r, List.mem_append_left _ hr, e⟩
theorem trail_has {D l : List Nat} {i : Nat} {e : Option Nat} (t : Trail ts D (some i) l e) : i ∈ D ++ l := by
  cases l with
  | nil =>
    rcases t.stop i t.way.symm with q | q
    · exact List.mem_append_left _ q
    · cases q
  | cons x l =>
    have : i = x := Option.some.inj t.way.1
    subst this
    exact List.mem_append_right _ (List.mem_cons_self ..)
theorem St.ok {i : Nat} {D : List Nat} {R : List (List Nat)} (a : St ts i D R) : StOk ts i D R := by
  induction a with
  | zero => exact ⟨(fun x h => by omega), (fun r h => by cases h), (fun x h => by cases h), List.nodup_nil⟩
  | @hit i s D l R a t m ih =>
    refine ⟨fun x hx => ?_, fun r hr => ?_, fun x hx => ?_, List.nodup_append.mpr ⟨ih.nd, t.nd, fun a ha b hb e => t.off b hb (e ▸ ha)⟩⟩
    · by_cases c : x < i
      · exact List.mem_append_left _ (ih.all x c)
      · have : x = i := by omega
        subst this
        exact trail_has t
    · rcases List.mem_append.mp hr with hr | hr
      · exact ih.rings r hr
      · rw [List.mem_singleton.mp hr]
        exact ⟨s, trail_ring t m⟩
    · rcases List.mem_append.mp hx with hx | hx
      · obtain ⟨h, h1, h2⟩ := ih.root x hx
        exact ⟨h, h1.up, h2⟩
      · have rg := trail_ring t m
        have mm := (mn_ok (ring_ne rg)).1
        exact ⟨mn _, .inr ⟨_, List.mem_append_right _ (List.mem_singleton.mpr rfl), rfl⟩, (way_end t.way hx).trans (way_begin rg.2.1 mm)⟩
  | @miss i D l R e a t m ih =>
    refine ⟨fun x hx => ?_, ih.rings, fun x hx => ?_, List.nodup_append.mpr ⟨ih.nd, t.nd, fun a ha b hb e => t.off b hb (e ▸ ha)⟩⟩
    · by_cases c : x < i
      · exact List.mem_append_left _ (ih.all x c)
      · have : x = i := by omega
        subst this
        exact trail_has t
    · rcases List.mem_append.mp hx with hx | hx
      · exact ih.root x hx
      · cases e with
        | none =>
          obtain ⟨e, h1, h2⟩ := way_none t.way hx
          exact ⟨e, .inl h2, h1⟩
        | some s =>
          rcases t.stop s rfl with q | q
          · obtain ⟨h, h1, h2⟩ := ih.root s q
            exact ⟨h, h1, (way_end t.way hx).trans h2⟩
          · exact absurd q (m s rfl)
/-! ### one head in each component -/
theorem fw_cmp {x y z : Nat} (a : Fw ts x y) (b : Fw ts x z) : Fw ts y z ∨ Fw ts z y := by
  induction a with
  | refl => exact .inl b
  | step e h ih =>
    cases b with
    | refl => exact .inr (.step e h)
    | step e2 b =>
      rw [e] at e2
      cases e2
      exact ih b
theorem hd_fw {D : List Nat} {R : List (List Nat)} {i h k : Nat} (o : StOk ts i D R) (a : Hd ts R h) (b : Hd ts R k) (f : Fw ts h k) : h = k := by
  rcases a with a | ⟨r, hr, rfl⟩
  · cases f with
    | refl => rfl
    | step e _ => rw [a] at e; cases e
  · obtain ⟨s, rg⟩ := o.rings r hr
    have m := (mn_ok (ring_ne rg)).1
    have hk := ring_fw rg m f
    rcases b with b | ⟨q, hq, rfl⟩
    · obtain ⟨y, hy⟩ := ring_has rg hk
      rw [b] at hy
      cases hy
    · obtain ⟨s2, rg2⟩ := o.rings q hq
      exact ring_mn rg rg2 hk (mn_ok (ring_ne rg2)).1
theorem hd_one {D : List Nat} {R : List (List Nat)} {i x h k : Nat} (o : StOk ts i D R) (a : Hd ts R h) (b : Hd ts R k) (f : Fw ts x h) (g : Fw ts x k) : h = k := by
  rcases fw_cmp f g with q | q
  · exact hd_fw o a b q
  · exact (hd_fw o b a q).symm
/-- reached along edges in either direction -/
inductive Rch (ts : Tab) (b : Nat) : Nat → Prop
  | refl : Rch ts b b
  | fwd {x y : Nat} : Rch ts b x → nx ts x = some y → Rch ts b y
  | bwd {x y : Nat} : Rch ts b x → nx ts y = some x → Rch ts b y
theorem Rch.trans {a b c : Nat} (h : Rch ts a b) (k : Rch ts b c) : Rch ts a c := by
  induction k with
  | refl => exact h
  | fwd _ e ih => exact .fwd ih e
  | bwd _ e ih => exact .bwd ih e
theorem Rch.symm {a b : Nat} (h : Rch ts a b) : Rch ts b a := by
  induction h with
  | refl => exact .refl
  | fwd _ e ih => exact Rch.trans (.bwd .refl e) ih
  | bwd _ e ih => exact Rch.trans (.fwd .refl e) ih
theorem Fw.rch {x y : Nat} (f : Fw ts x y) : Rch ts x y := by
  induction f with
  | refl => exact .refl
  | step e _ ih => exact Rch.trans (.fwd .refl e) ih
theorem nx_lt {x y : Nat} (h : nx ts x = some y) : x < ts.length := (List.getElem?_eq_some_iff.mp (getD_some h)).1
theorem rch_lt (ok : TabOk ts) {b x : Nat} (hb : b < ts.length) (h : Rch ts b x) : x < ts.length := by
  induction h with
  | refl => exact hb
  | fwd _ e _ => exact ok _ _ (getD_some e)
  | bwd _ e _ => exact nx_lt e
theorem root_rch (ok : TabOk ts) {D : List Nat} {R : List (List Nat)} {i b x h : Nat} (o : StOk ts i D R) (hi : ts.length ≤ i) (hb : b < ts.length) (a : Hd ts R h) (f : Fw ts b h) (r : Rch ts b x) : Fw ts x h := by
  induction r with
  | refl => exact f
  | @fwd x y r e ih =>
    have hy := ok _ _ (getD_some e)
    obtain ⟨k, k1, k2⟩ := o.root y (o.all y (by omega))
    rw [hd_one o a k1 ih (.step e k2)]
    exact k2
  | bwd r e ih => exact .step e ih
/-- each component has exactly one head -/
theorem one_head (ok : TabOk ts) {D : List Nat} {R : List (List Nat)} {i b : Nat} (o : StOk ts i D R) (hi : ts.length ≤ i) (hb : b < ts.length) : ∃ h, Hd ts R h ∧ Rch ts b h ∧ ∀ k, Hd ts R k → Rch ts b k → k = h := by
  obtain ⟨h, h1, h2⟩ := o.root b (o.all b (by omega))
  refine ⟨h, h1, h2.rch, fun k k1 k2 => ?_⟩
  exact hd_one o k1 h1 (.refl k) (root_rch ok o hi hb h1 h2 k2)
theorem count_one {P : List Nat} (hn : P.Nodup) (p : Nat → Bool) {h : Nat} (h1 : h ∈ P) (h2 : p h = true) (h3 : ∀ k ∈ P, p k = true → k = h) : (P.map fun k => if p k = true then (1 : Int) else 0).sum = 1 := by
  have zero : ∀ l : List Nat, (∀ k ∈ l, p k = false) → (l.map fun k => if p k = true then (1 : Int) else 0).sum = 0 := fun l => by
    induction l with
    | nil => intro _; rfl
    | cons a l ih =>
      intro q
      rw [List.map_cons, List.sum_cons, ih fun k hk => q k (List.mem_cons_of_mem _ hk), q a (List.mem_cons_self ..)]
      rfl
  induction P with
  | nil => cases h1
  | cons a l ih =>
    rw [List.map_cons, List.sum_cons]
    obtain ⟨na, nl⟩ := List.nodup_cons.mp hn
    by_cases e : a = h
    · subst e
      rw [if_pos h2, zero l fun k hk => by
        cases c : p k with
        | false => rfl
        | true =>
          have := h3 k (List.mem_cons_of_mem _ hk) c
          subst this
          exact absurd hk na]
      rfl
    · have c : p a = false := by
        cases c : p a with
        | false => rfl
        | true => exact absurd (h3 a (List.mem_cons_self ..) c) e
      rw [c, ih nl ((List.mem_cons.mp h1).resolve_left fun z => e z.symm) fun k hk => h3 k (List.mem_cons_of_mem _ hk)]
      rfl
/-- sorted lists without doubles of the same members -/
theorem asc_eq {l m : List Nat} (h1 : l.Pairwise (· ≤ ·)) (h2 : m.Pairwise (· ≤ ·)) (n1 : l.Nodup) (n2 : m.Nodup) (e : ∀ x, x ∈ l ↔ x ∈ m) : l = m :=
  List.Perm.eq_of_pairwise (le := (· ≤ ·)) (fun a b _ _ x y => Nat.le_antisymm x y) h1 h2 ((List.perm_ext_iff_of_nodup n1 n2).mpr e)
/-- the neighbours -/
theorem nb_mem {x y : Nat} : (y ∈ bk ts x ∨ nx ts x = some y) ↔ (nx ts y = some x ∨ nx ts x = some y) := by
  constructor
  · rintro (h | h)
    · left
      unfold nx
      rw [List.getD_eq_getElem?_getD, mem_bk.mp h]
      rfl
    · exact .inr h
  · rintro (h | h)
    · exact .inl (mem_bk.mpr (getD_some h))
    · exact .inr h
theorem closed_rch {D : List Nat} {b x : Nat} (hb : b ∈ D) (hc : ∀ x ∈ D, ∀ y, (y ∈ bk ts x ∨ nx ts x = some y) → y ∈ D) (h : Rch ts b x) : x ∈ D := by
  induction h with
  | refl => exact hb
  | fwd _ e ih => exact hc _ ih _ (.inr e)
  | bwd _ e ih => exact hc _ ih _ (nb_mem.mpr (.inl e))
theorem rch_nb {b x y : Nat} (h : Rch ts b x) (e : y ∈ bk ts x ∨ nx ts x = some y) : Rch ts b y := by
  rcases nb_mem.mp e with e | e
  · exact .bwd h e
  · exact .fwd h e
theorem nodup_lt {D : List Nat} {n : Nat} (h : D.Nodup) (hl : ∀ x ∈ D, x < n) : D.length ≤ n := by
  have := h.length_le_of_subset (l₂ := List.range n) fun x hx => List.mem_range.mpr (hl x hx)
  rw [List.length_range] at this
  exact this
end
end GM

/-! dicts of numbers, sorted lists of rows -/
namespace OwnG
open PySem L2 Evl Own GM
abbrev kN (x : Nat) : Key := Sum.inl (x : Int)
def ent (f : Nat → V) (D : List Nat) : List (Key × V) := D.map fun x => (kN x, f x)
/-- a dict with the keys D, in this order -/
def DI (H : Hp) (a : Addr) (D : List Nat) (f : Nat → V) : Prop := H a = some (.dK (ent f D))
theorem kN_inj {x y : Nat} (h : kN x = kN y) : x = y := Int.ofNat_inj.mp (Sum.inl.inj h)
theorem val_ent (f : Nat → V) (x : Nat) : ∀ D : List Nat, valV (ent f D) (kN x) = if x ∈ D then some (f x) else none
  | [] => by rw [if_neg (by simp)]; rfl
  | y :: D => by
    show valV ((kN y, f y) :: ent f D) (kN x) = _
    by_cases e : y = x
    · subst e
      rw [valV_pos rfl, if_pos (List.mem_cons_self ..)]
    · rw [valV_neg (fun z => e (kN_inj z)), val_ent f x D]
      by_cases m : x ∈ D
      · rw [if_pos m, if_pos (List.mem_cons_of_mem _ m)]
      · rw [if_neg m, if_neg fun z => (List.mem_cons.mp z).elim (fun q => e q.symm) m]
def fput (f : Nat → V) (x : Nat) (v : V) : Nat → V := fun y => if y = x then v else f y
theorem ent_put {f : Nat → V} {x : Nat} {v : V} {D : List Nat} (h : x ∉ D) : putK (ent f D) (kN x) v = ent (fput f x v) (D ++ [x]) := by
  rw [putK_new v (by rw [val_ent, if_neg h])]
  unfold ent
  rw [List.map_append]
  congr 1
  · refine List.map_congr_left fun y hy => ?_
    have : y ≠ x := fun e => h (e ▸ hy)
    unfold fput
    rw [if_neg this]
  · show [(kN x, v)] = [(kN x, fput f x v x)]
    unfold fput
    rw [if_pos rfl]
section
variable {K : PySem.W.Frag} {σ : L2.St} {H H' : Hp} {ta tb te tv td ty : TE} {v : V} {Dn : Ends} {tz : TS} {a : Addr} {D : List Nat} {f : Nat → V} {x : Nat}
theorem dget (h : DI H a D f) : DGet H a (iV x) (if x ∈ D then some (f x) else none) := by
  rw [← val_ent]
  exact DGet.k (k := kN x) h
theorem et_din (hy : Ev ty σ H (iV x)) (hd : Ev td σ H (.ref a)) (h : DI H a D f) : EvT (tB (tDIn ty td)) σ H (decide (x ∈ D)) := fun H1 e Q q =>
  hy H1 e _ fun H2 e2 => hd H2 (e.trans e2) _ fun H3 e3 => ⟨a, _, rfl, dget (x := x) (show DI H3 a D f from ((e.trans e2).trans e3) _ _ h), _, rfl, by
    by_cases m : x ∈ D
    · rw [if_pos m]
      rw [decide_eq_true m] at q
      exact q H3 (e2.trans e3)
    · rw [if_neg m]
      rw [decide_eq_false m] at q
      exact q H3 (e2.trans e3)⟩
theorem et_dnot (hy : Ev ty σ H (iV x)) (hd : Ev td σ H (.ref a)) (h : DI H a D f) : EvT (tB (tDNotIn ty td)) σ H (!decide (x ∈ D)) := fun H1 e Q q =>
  hy H1 e _ fun H2 e2 => hd H2 (e.trans e2) _ fun H3 e3 => ⟨a, _, rfl, dget (x := x) (show DI H3 a D f from ((e.trans e2).trans e3) _ _ h), _, rfl, by
    by_cases m : x ∈ D
    · rw [if_pos m]
      rw [decide_eq_true m] at q
      exact q H3 (e2.trans e3)
    · rw [if_neg m]
      rw [decide_eq_false m] at q
      exact q H3 (e2.trans e3)⟩
theorem ev_dget (hd : Ev td σ H (.ref a)) (hy : Ev ty σ H (iV x)) (h : DI H a D f) (m : x ∈ D) : Ev (tDGet td ty) σ H (f x) := fun H1 e Q q =>
  hd H1 e _ fun H2 e2 => hy H2 (e.trans e2) _ fun H3 e3 => ⟨a, f x, rfl, by
    have g := dget (x := x) (show DI H3 a D f from ((e.trans e2).trans e3) _ _ h)
    rw [if_pos m] at g
    exact g, q H3 (e2.trans e3)⟩
theorem s_dput (hv : Ev tv σ H v) (hd : Ev td σ H (.ref a)) (hy : Ev ty σ H (iV x)) (h : DI H a D f) (m : x ∉ D) (hz : D.length < 100000) (k : ∀ H1, Ex H H1 → Dn.nx σ (upd H1 a (.dK (ent (fput f x v) (D ++ [x]))))) : sDPut td ty tv Dn σ H :=
  hv H (Ex.refl H) _ fun H1 e1 => hd H1 e1 _ fun H2 e2 => hy H2 (e1.trans e2) _ fun H3 e3 => ⟨a, _, rfl, DPut.k (k := kN x) (((e1.trans e2).trans e3) _ _ h) (by unfold ent; rw [List.length_map]; exact sz_lt hz), by
    rw [ent_put m]
    exact k H3 ((e1.trans e2).trans e3)⟩
theorem q_dput (hv : Ev tv σ H v) (hd : Ev td σ H (.ref a)) (hy : Ev ty σ H (iV x)) (h : DI H a D f) (m : x ∉ D) (hz : D.length < 100000) (k : ∀ H1, Ex H H1 → tz Dn σ (upd H1 a (.dK (ent (fput f x v) (D ++ [x]))))) : tSeq (sDPut td ty tv) tz Dn σ H :=
  s_dput (Dn := { Dn with nx := tz Dn }) hv hd hy h m hz k
theorem q_dnew {i : Nat} (k : ∀ p H1, H p = none → Ex H H1 → H1 p = some (.dK []) → tz Dn (σ.set i (some (.ref p))) H1) : tSeq (tAsg tDNewK (gName i)) tz Dn σ H := fun p hp => k p _ hp (Ex.new hp) upd_same
theorem q_disp1 {i : Nat} {tx : TE} (hx : ∀ H1, Ex H H1 → Ev tx σ H1 (iV x)) (hv : ∀ H1, Ex H H1 → Ev tv σ H1 v) (k : ∀ p H1, H p = none → Ex H H1 → DI H1 p [x] (fun _ => v) → tz Dn (σ.set i (some (.ref p))) H1) : tSeq (tAsg (tDisp [(tx, tv)]) (gName i)) tz Dn σ H := fun p hp => by
  have e1 : Ex H (upd H p (.dK [])) := Ex.new hp
  refine hx _ e1 _ (Ex.refl _) _ fun H2 e2 => hv _ (e1.trans e2) _ (Ex.refl _) _ fun H3 e3 => ⟨(e2.trans e3) _ _ upd_same, [(kN x, v)], rfl, by show 1 ≤ 15; decide, ?_⟩
  exact k p _ hp (Ex.mut ((e1.trans e2).trans e3) hp) upd_same
/-- d becomes more, the rest stays: a at its own new address -/
theorem DI.up (e : Ex H H') (h : DI H a D f) : DI H' a D f := e _ _ h
theorem et_truL {p : Addr} {xs : List V} (h : Ev te σ H (.ref p)) (hx : SqL K H p xs) : EvT (fun σ H Q => te σ H fun x H' => ∃ k, TruV K x H' k ∧ Q k H') σ H (!xs.isEmpty) := fun H1 e Q q =>
  h H1 e _ fun H2 e2 => ⟨_, Or.inl ⟨xs, ex_l (e.trans e2) hx, rfl⟩, q H2 e2⟩
theorem q_pop {l : Addr} {i : Nat} {xs : List V} {v : V} (hl : H l = some (.lst (xs ++ [v]))) (ha : Ev ta σ H (.ref l)) (k : ∀ H1, Ex H H1 → tz Dn (σ.set i (some v)) (upd H1 l (.lst xs))) : tSeq (tAsg (tBM0 K "list" rPop ta) (gName i)) tz Dn σ H :=
  ha H (Ex.refl H) _ fun H1 e1 => ⟨Or.inl ⟨rfl, _, sq_of (e1 l _ hl)⟩, l, xs ++ [v], v, rfl, rfl, e1 l _ hl, by rw [List.length_append]; simp, by
    show tz Dn (σ.set i (some v)) (upd H1 l (.lst (xs ++ [v]).dropLast))
    rw [List.dropLast_concat]
    exact k H1 e1⟩
theorem el_listH {xs : List V} (h : EvH te σ H (TpV K xs)) : EvL (tCB (fun xs H Q => ∃ p ys, xs = [V.ref p] ∧ (SqL K H p ys ∨ SqT K H p ys) ∧ ∀ l, H l = none → Q (.ref l) (upd H l (.lst ys))) (tCons te tNil)) σ H xs := fun H1 e Q q =>
  h H1 e _ fun v H2 e2 ⟨p, ep, hp⟩ => ⟨p, xs, by rw [ep], .inr hp, fun l hl => q l _ (fresh_back e2 hl) (e2.trans (Ex.new hl)) upd_same⟩
theorem el_listL {xs : List V} (h : EvH te σ H (LsV K xs)) : EvL (tCB (fun xs H Q => ∃ p ys, xs = [V.ref p] ∧ (SqL K H p ys ∨ SqT K H p ys) ∧ ∀ l, H l = none → Q (.ref l) (upd H l (.lst ys))) (tCons te tNil)) σ H xs := fun H1 e Q q =>
  h H1 e _ fun v H2 e2 ⟨p, ep, hp⟩ => ⟨p, xs, by rw [ep], .inl hp, fun l hl => q l _ (fresh_back e2 hl) (e2.trans (Ex.new hl)) upd_same⟩
theorem ev_minL {l : List Nat} (h : EvH te σ H (LsV K (nvs l))) (hn : l ≠ []) : Ev (tCB (rMin K) (tCons te tNil)) σ H (iV (mn l)) := fun H1 e Q q =>
  h H1 e _ fun v H2 e2 ⟨p, ep, hp⟩ => ⟨p, l.map fun n : Nat => (n : Int), by rw [ep], by rw [← ints_map]; exact hp, by rw [List.length_map]; exact List.length_pos_iff.mpr hn, fun m hm hy => by
    obtain ⟨k, hk, rfl⟩ := List.mem_map.mp hm
    have : mn l = k := mn_of hk fun y y2 => Int.ofNat_le.mp (hy _ (List.mem_map.mpr ⟨y, y2, rfl⟩))
    rw [this] at q
    exact q H2 e2⟩
theorem asc_of {ys : List Int} {l : List Nat} (h1 : ys.Perm (l.map fun n : Nat => (n : Int))) (h2 : ys.Pairwise (· ≤ ·)) : ∃ m : List Nat, ys = m.map (fun n : Nat => (n : Int)) ∧ m.Perm l ∧ m.Pairwise (· ≤ ·) := by
  have hall : ∀ y ∈ ys, 0 ≤ y := fun y hy => by
    obtain ⟨k, _, e⟩ := List.mem_map.mp (h1.mem_iff.mp hy)
    omega
  have e1 : ys = (ys.map Int.toNat).map (fun n : Nat => (n : Int)) := by
    rw [List.map_map]
    refine ((List.map_congr_left fun y hy => ?_).trans (List.map_id ys)).symm
    have := hall y hy
    show ((y.toNat : Nat) : Int) = y
    omega
  refine ⟨ys.map Int.toNat, e1, ?_, ?_⟩
  · have := h1.map Int.toNat
    rw [List.map_map] at this
    refine this.trans (List.Perm.of_eq ((List.map_congr_left fun n _ => ?_).trans (List.map_id l)))
    rfl
  · exact List.pairwise_map.mpr (h2.imp fun {a b} hab => Int.toNat_le_toNat hab)
/-- sorted(a list of numbers), sorted(a dict with such keys) -/
theorem elS_sortedL {l : List Nat} (h : EvH te σ H (LsV K (nvs l))) : EvLS (tCB (rSortedI K) (tCons te tNil)) σ H (fun xs => ∃ m : List Nat, xs = nvs m ∧ m.Perm l ∧ m.Pairwise (· ≤ ·)) := fun H1 e Q q =>
  h H1 e _ fun v H2 e2 ⟨p, ep, hp⟩ => ⟨p, l.map fun n : Nat => (n : Int), by rw [ep], by rw [← ints_map]; exact hp, fun ys r h1 h2 hr => by
    obtain ⟨m, rfl, h3, h4⟩ := asc_of h1 h2
    rw [← ints_map]
    exact q _ r _ ⟨m, rfl, h3, h4⟩ (fresh_back e2 hr) (e2.trans (Ex.new hr)) upd_same⟩
theorem elS_sortedD (h : Ev te σ H (.ref a)) (hd : DI H a D f) : EvLS (tCB rSortedDI (tCons te tNil)) σ H (fun xs => ∃ m : List Nat, xs = nvs m ∧ m.Perm D ∧ m.Pairwise (· ≤ ·)) := fun H1 e Q q =>
  h H1 e _ fun H2 e2 => ⟨a, ent f D, D.map fun n : Nat => (n : Int), rfl, .inl ((e.trans e2) _ _ hd), by unfold ent; rw [List.map_map, List.map_map]; rfl, fun ys r h1 h2 hr => by
    obtain ⟨m, rfl, h3, h4⟩ := asc_of h1 h2
    rw [← ints_map]
    exact q _ r _ ⟨m, rfl, h3, h4⟩ (fresh_back e2 hr) (e2.trans (Ex.new hr)) upd_same⟩
theorem evH_tupLS {R : List V → Prop} (h : EvLS te σ H R) : EvH (tCB (rTupF K) (tCons te tNil)) σ H (fun v H1 => ∃ xs, R xs ∧ FzV xs v H1) := fun H1 e Q q =>
  h H1 e _ fun xs p H2 r hp e2 h2 => ⟨p, xs, rfl, sq_of h2, fun l o d hl => q _ _ (e2.trans (Ex.new hl)) ⟨xs, r, l, rfl, o, d, upd_same⟩⟩
end
/-! ### sorted(a list of tuples) -/
def leL (a b : List Nat) : Prop := HT.lexLt (b.map fun n : Nat => (n : Int)) (a.map fun n : Nat => (n : Int)) = false
theorem leL_anti : ∀ {a b : List Nat}, leL a b → leL b a → a = b
  | [], [], _, _ => rfl
  | [], y :: b, _, h => by cases h
  | x :: a, [], h, _ => by cases h
  | x :: a, y :: b, h, k => by
    unfold leL at h k
    rw [List.map_cons, List.map_cons, HT.lexLt_cons] at h k
    by_cases e : x = y
    · subst e
      rw [if_pos rfl] at h k
      rw [leL_anti (a := a) (b := b) h k]
    · rw [if_neg (by omega)] at h k
      have := of_decide_eq_false h
      have := of_decide_eq_false k
      omega
def Srt (L M : List (List Nat)) : Prop := L.Perm M ∧ L.Pairwise leL
theorem Srt.eq {L L' M : List (List Nat)} (a : Srt L M) (b : Srt L' M) : L = L' := List.Perm.eq_of_pairwise (le := leL) (fun x y _ _ h k => leL_anti h k) a.2 b.2 (a.1.trans b.1.symm)
/-- a list of rows: refs to tuples that are known -/
structure RL (H : Hp) (ps : List Addr) (M : List (List Nat)) : Prop where
  len : ps.length = M.length
  at_ : ∀ i a, ps[i]? = some a → FzT H a (nvs (M.getD i []))
theorem fzT_inj {H : Hp} {p : Addr} {a b : List Nat} (h : FzT H p (nvs a)) (k : FzT H p (nvs b)) : a = b := by
  obtain ⟨o, _, h⟩ := h
  obtain ⟨o2, _, k⟩ := k
  rw [h] at k
  have e : nvs a = nvs b := by
    injection k with k
    injection k with _ k
    injection k
  have inj : ∀ {l m : List Nat}, nvs l = nvs m → l = m := fun {l} => by
    induction l with
    | nil =>
      intro m e
      cases m with
      | nil => rfl
      | cons => cases e
    | cons x l ih =>
      intro m e
      cases m with
      | nil => cases e
      | cons y m =>
        injection e with e1 e2
        injection e1 with e1
        rw [Int.ofNat_inj.mp e1, ih e2]
  exact inj e
theorem evH_sortedTs {K : PySem.W.Frag} {σ : L2.St} {H : Hp} {te : TE} {p : Addr} {ps : List Addr} {M : List (List Nat)} (h : Ev te σ H (.ref p)) (hs : SqL K H p (ps.map V.ref)) (hr : RL H ps M) (hne : ∀ l ∈ M, l ≠ []) :
    EvH (tCB (rTupF K) (tCons (tCB (rSortedTs K) (tCons te tNil)) tNil)) σ H (fun v H1 => ∃ q L, v = .ref q ∧ TTf K H1 q L.length (fun k => L.getD k []) ∧ Srt L M) := fun H1 e Q q =>
  h H1 e _ fun H2 e2 => by
    have e12 := e.trans e2
    have hex : ∀ a : Addr, ∃ l : List Nat, (∃ m, FzT H a (nvs m)) → FzT H a (nvs l) := fun a => by
      by_cases c : ∃ m, FzT H a (nvs m)
      · exact ⟨c.choose, fun _ => c.choose_spec⟩
      · exact ⟨[], fun z => absurd z c⟩
    let kf : Addr → List Nat := fun a => (hex a).choose
    have hkf : ∀ a m, FzT H a (nvs m) → kf a = m := fun a m hm => fzT_inj ((hex a).choose_spec ⟨m, hm⟩) hm
    have hmap : ps.map kf = M := by
      refine List.ext_getElem (by rw [List.length_map, hr.len]) fun i h1 h2 => ?_
      rw [List.getElem_map, hkf _ _ (hr.at_ i _ (List.getElem?_eq_getElem (by simpa using h1))), getD_eq h2]
    have hmem : ∀ a ∈ ps, FzT H a (nvs (kf a)) ∧ kf a ∈ M := fun a ha => by
      obtain ⟨i, hi⟩ := List.getElem?_of_mem ha
      have f := hr.at_ i a hi
      have hl : i < M.length := by rw [← hr.len]; exact (List.getElem?_eq_some_iff.mp hi).1
      rw [hkf a _ f]
      exact ⟨f, by rw [getD_eq hl]; exact List.getElem_mem hl⟩
    refine ⟨p, ps, kf, rfl, ex_l e12 hs, fun a ha => ⟨(hmem a ha).1.ex e12, hne _ (hmem a ha).2⟩, fun ps' l hp1 hp2 hl => ?_⟩
    refine ⟨l, ps'.map V.ref, rfl, sq_of upd_same, fun r o d hr' => q _ _ (e2.trans ((Ex.new hl).trans (Ex.new hr'))) ⟨r, ps'.map kf, rfl, ⟨ps', .inl (.inr ⟨o, upd_same⟩), by rw [List.length_map], fun i a hi => ?_⟩, ?_, ?_⟩⟩
    · have hi2 := (List.getElem?_eq_some_iff.mp hi).1
      rw [getD_eq (by rw [List.length_map]; exact hi2), List.getElem_map, (List.getElem?_eq_some_iff.mp hi).2]
      exact (hmem a (hp1.mem_iff.mp (List.mem_of_getElem? hi))).1.ex ((e12.trans (Ex.new hl)).trans (Ex.new hr'))
    · rw [← hmap]
      exact hp1.map kf
    · exact List.pairwise_map.mpr hp2
/-- appending a row -/
theorem RL.snoc {H H' : Hp} {ps : List Addr} {M : List (List Nat)} {p : Addr} {l : List Nat} (h : RL H ps M) (k : Kt H H') (hp : FzT H' p (nvs l)) : RL H' (ps ++ [p]) (M ++ [l]) := by
  refine ⟨by rw [List.length_append, List.length_append, h.len]; rfl, fun i a hi => ?_⟩
  by_cases c : i < ps.length
  · rw [List.getElem?_append_left c] at hi
    rw [getD_snoc_lt (by rw [← h.len]; exact c)]
    exact (h.at_ i a hi).kt k
  · rw [List.getElem?_append_right (by omega)] at hi
    have e0 : i - ps.length = 0 := by have := (List.getElem?_eq_some_iff.mp hi).1; simp at this; omega
    rw [e0] at hi
    cases hi
    have : i = M.length := by have := h.len; omega
    subst this
    rw [getD_snoc]
    exact hp
theorem RL.kt {H H' : Hp} {ps : List Addr} {M : List (List Nat)} (h : RL H ps M) (k : Kt H H') : RL H' ps M := ⟨h.len, fun i a hi => (h.at_ i a hi).kt k⟩
end OwnG

/-! frames with several own cells; deep data; enumerate in comprehensions -/
namespace OwnG
open PySem L2 Evl Own GM
/-! ### all but some cells stay -/
def Kx (S : List Addr) (H H' : Hp) : Prop := ∀ a o, H a = some o → a ∉ S → H' a = some o
section
variable {S : List Addr} {H H1 H2 H' : Hp} {p a : Addr}
theorem Kx.of (e : Ex H H') : Kx S H H' := fun a o h _ => e a o h
theorem Kx.trans (x : Kx S H H1) (y : Kx S H1 H2) : Kx S H H2 := fun a o h n => y a o (x a o h n) n
theorem Kx.put {o : HO} (m : p ∈ S) : Kx S H (L2.upd H p o) := fun a u h n => by
  rw [upd_ne (fun e : a = p => n (by rw [e]; exact m))]
  exact h
theorem Kx.mut {o : HO} (x : Kx S H H1) (h : H p = none) : Kx S H (L2.upd H1 p o) := fun a u ha n => by
  rw [upd_ne fun e => by subst e; rw [h] at ha; cases ha]
  exact x a u ha n
theorem Kx.ex (x : Kx S H H') (h : ∀ s ∈ S, H s = none) : Ex H H' := fun a o ha => x a o ha fun m => by rw [h a m] at ha; cases ha
theorem Kx.none (x : Kx S H H') (n : p ∉ S) (h : H' p = none) : H p = none := by
  cases e : H p with
  | none => rfl
  | some o => rw [x p o e n] at h; cases h
/-- rows that are lists -/
structure LX (H : Hp) (ps : List Addr) (R : List (List Nat)) (S : List Addr) : Prop where
  len : ps.length = R.length
  at_ : ∀ i p, ps[i]? = some p → p ∉ S ∧ H p = some (.lst (nvs (R.getD i [])))
theorem LX.nil : LX H [] [] S := ⟨rfl, fun i p h => by cases h⟩
theorem LX.kx {ps : List Addr} {R : List (List Nat)} (h : LX H ps R S) (k : Kx S H H') : LX H' ps R S := ⟨h.len, fun i p hp => ⟨(h.at_ i p hp).1, k _ _ (h.at_ i p hp).2 (h.at_ i p hp).1⟩⟩
theorem LX.snoc {ps : List Addr} {R : List (List Nat)} {l : List Nat} (h : LX H ps R S) (n : p ∉ S) (hp : H p = some (.lst (nvs l))) : LX H (ps ++ [p]) (R ++ [l]) S := by
  refine ⟨by rw [List.length_append, List.length_append, h.len]; rfl, fun i a hi => ?_⟩
  by_cases c : i < ps.length
  · rw [List.getElem?_append_left c] at hi
    rw [getD_snoc_lt (by rw [← h.len]; exact c)]
    exact h.at_ i a hi
  · rw [List.getElem?_append_right (by omega)] at hi
    have e0 : i - ps.length = 0 := by have := (List.getElem?_eq_some_iff.mp hi).1; simp at this; omega
    rw [e0] at hi
    cases hi
    have : i = R.length := by have := h.len; omega
    subst this
    rw [getD_snoc]
    exact ⟨n, hp⟩
theorem LX.llf {K : PySem.W.Frag} {ps : List Addr} {R : List (List Nat)} (h : LX H ps R S) (ha : H a = some (.lst (ps.map V.ref))) : LLf K H a R.length (fun k => R.getD k []) := ⟨ps, sq_of ha, h.len, fun i p hp => sq_of (h.at_ i p hp).2⟩
theorem RL.kx {ps : List Addr} {M : List (List Nat)} (h : RL H ps M) (k : Kx S H H') (n : ∀ s ∈ S, ∀ o x, H s ≠ some (.frz o x)) : RL H' ps M := ⟨h.len, fun i a hi => by
  obtain ⟨o, d, e⟩ := h.at_ i a hi
  exact ⟨o, d, k _ _ e fun m => n a m _ _ e⟩⟩
theorem RL.nil : RL H [] [] := ⟨rfl, fun i p h => by cases h⟩
theorem RL.add {ps : List Addr} {M : List (List Nat)} {l : List Nat} (h : RL H ps M) (hp : FzT H p (nvs l)) : RL H (ps ++ [p]) (M ++ [l]) := h.snoc (Kt.of (Ex.refl H)) hp
theorem fz_kx {xs : List V} (h : FzT H p xs) (k : Kx S H H') (n : ∀ s ∈ S, ∀ o x, H s ≠ some (.frz o x)) : FzT H' p xs := by
  obtain ⟨o, d, e⟩ := h
  exact ⟨o, d, k _ _ e fun m => n p m _ _ e⟩
end
/-! ### slices -/
theorem cut_from {xs : List V} {a : Nat} (h : a ≤ xs.length) : cutV xs (some (a : Int)) none = xs.drop a := by
  unfold cutV
  rw [HT.sIx_nat, HT.sIx_none, Nat.min_eq_left h, List.take_of_length_le (by rw [List.length_drop]; exact Nat.le_refl _)]
theorem cut_to {xs : List V} {a : Nat} (h : a ≤ xs.length) : cutV xs none (some (a : Int)) = xs.take a := by
  unfold cutV
  rw [HT.sIx_nat, HT.sIx_none, Nat.min_eq_left h]
  rfl
section
variable {K : PySem.W.Frag} {σ : L2.St} {H H' : Hp} {ta tb te tl : TE} {t : TT} {v x y : V}
theorem el_slL {tl' th : TO} {xs : List V} {lo hi : Option Int} (h : EvH te σ H (LsV K xs)) (h1 : EvO tl' σ H lo) (h2 : EvO th σ H hi) : EvL (tSl (rSlL K) te tl' th) σ H (cutV xs lo hi) := fun H0 e Q q =>
  h H0 e _ fun v H1 e1 ⟨p, ep, hp⟩ => by
    subst ep
    exact el_sl (te := tC (.ref p)) (a := p) ev_c (fun Ha ea => h1 Ha ((e.trans e1).trans ea)) (fun Ha ea => h2 Ha ((e.trans e1).trans ea)) hp H1 (Ex.refl H1) Q fun p2 H2 hp2 e2 h2 => q p2 H2 (fresh_back e1 hp2) (e1.trans e2) h2
/-- the ring from its least on: tuple(R[at:] + R[:at]) -/
theorem evH_norm {R : List Nat} {i j : Nat} {p : Addr} (hR : R ≠ []) (hl : R.length ≤ 1600) (h1 : σ[i]? = some (some (.ref p))) (h2 : σ[j]? = some (some (iV (R.idxOf (mn R))))) (hp : SqL K H p (nvs R)) :
    EvH (tCB (rTupF K) (tCons (tOp rCat (tSl (rSlL K) (tVar i) (tPart (tVar j)) tNoPart) (tSl (rSlL K) (tVar i) tNoPart (tPart (tVar j)))) tNil)) σ H (FzV (nvs (norm R))) := by
  have g := List.idxOf_lt_length_of_mem (mn_ok hR).1
  have hn : (nvs R).length = R.length := List.length_map _
  have A := el_slL (K := K) (lo := some ((R.idxOf (mn R) : Nat) : Int)) (hi := none) (evH_Lv (ev_var h1) hp) (eo_some (ev_var h2)) eo_none
  have B := el_slL (K := K) (lo := none) (hi := some ((R.idxOf (mn R) : Nat) : Int)) (evH_Lv (ev_var h1) hp) eo_none (eo_some (ev_var h2))
  rw [cut_from (by omega)] at A
  rw [cut_to (by omega)] at B
  have C := evH_tupF (K := K) (evH_L (el_cat A B (by rw [List.length_drop, List.length_take]; omega)))
  have e : (nvs R).drop (R.idxOf (mn R)) ++ (nvs R).take (R.idxOf (mn R)) = nvs (norm R) := by
    show _ = List.map _ (_ ++ _)
    rw [List.map_append, List.map_drop, List.map_take]
  rw [e] at C
  exact C
theorem ev_idxmin {R : List Nat} {i : Nat} {p : Addr} (hR : R ≠ []) (h1 : σ[i]? = some (some (.ref p))) (hp : SqL K H p (nvs R)) : Ev (tBM K "list" (rIndex K) (tVar i) (tCons (tCB (rMin K) (tCons (tVar i) tNil)) tNil)) σ H (iV (R.idxOf (mn R))) :=
  ev_lix (evH_Lv (ev_var h1) hp) (ev_minL (evH_Lv (ev_var h1) hp) hR) (mn_ok hR).1
theorem ev_sumH {ns : List Int} (h : EvH te σ H (LsV K (ns.map V.int))) : Ev (tCB (rSum K) (tCons te tNil)) σ H (.int ns.sum) := fun H1 e Q q =>
  h H1 e _ fun v H2 e2 ⟨p, ep, hp⟩ => ⟨p, ns, by rw [ep], hp, q H2 e2⟩
theorem Cw.up {f : Nat → Bool} {g : Nat → V} {Dl : Addr} {i : Nat} {H1 H2 : Hp} (p : Cw H f g Dl i H1) (e : Ex H1 H2) : Cw H f g Dl i H2 := ⟨p.1, p.2.1.trans e, e _ _ p.2.2⟩
theorem el_lcE {xs : List V} {i1 i2 : Nat} {vs : List Nat} (f : Nat → Bool) (g : Nat → V) (h : EvH tl σ H (TpV K xs)) (hz : xs.length ≤ 40000) (hw : ∀ x y, wipe (((wipe σ vs).set i1 (some x)).set i2 (some y)) vs = wipe σ vs)
    (ht : ∀ (i : Nat) (x : V) H1, Ex H H1 → xs[i]? = some x → EvT t (((wipe σ vs).set i1 (some (iV i))).set i2 (some x)) H1 (f i)) (he : ∀ (i : Nat) (x : V) H1, Ex H H1 → xs[i]? = some x → f i = true → Ev te (((wipe σ vs).set i1 (some (iV i))).set i2 (some x)) H1 (g i)) :
    EvL (tLc (iEnumT K (tCons tl tNil)) (gTup K 2 (gCons (gName i1) (gCons (gName i2) gNil))) t te vs) σ H (given xs.length f g) := fun H0 e Q q => h H0 e _ fun v H1 e1 ⟨a, ea, hx⟩ => ⟨a, xs, by rw [ea], hx, fun Dl hD => by
  refine ⟨fun i m H => m = xs.length - i ∧ i ≤ xs.length ∧ Cw H1 f g Dl i H, ⟨xs.length, by simp, Nat.zero_le _, hD, Ex.new hD, upd_same⟩, ?_⟩
  rintro i m H ⟨rfl, hi, p⟩
  have q2 := ex_t p.2.1 hx
  by_cases hlt : i < xs.length
  · refine .inr ⟨⟨xs, xs[i], q2, by simp [hlt]⟩, Cw H1 f g Dl (i + 1), fun H' p' => ⟨xs.length - (i + 1), by omega, rfl, hlt, p'⟩, fun w H' y => ?_⟩
    obtain ⟨T, x, rfl, hT, rfl, hy⟩ := y
    refine ⟨T, [iV i, x], rfl, .inl (.inl upd_same), rfl, _, _, rfl, _, _, rfl, rfl, ?_⟩
    have hx2 := hy xs q2
    exact ⟨hw _ _, cw_turn (Cw.up p (Ex.new hT)) (by omega) (ht i x H1 (e.trans e1) hx2) (fun hf => he i x H1 (e.trans e1) hx2 hf)⟩
  · have ee : i = xs.length := by omega
    subst ee
    exact .inl ⟨⟨xs, q2, Nat.le_refl _⟩, q Dl H (fresh_back e1 p.1) (e1.trans p.2.1) p.2.2⟩⟩
/-! ### deep data -/
theorem can_all : ∀ {ds : List PyData}, (∀ d ∈ ds, d.canLay0 = true) → PyData.canLayAll0 ds = true
  | [], _ => rfl
  | d :: ds, h => by
    simp only [PyData.canLayAll0, h d (List.mem_cons_self ..), can_all fun x hx => h x (List.mem_cons_of_mem _ hx), Bool.and_self]
theorem dep_all {k : Nat} : ∀ {ds : List PyData}, (∀ d ∈ ds, d.depth ≤ k) → PyData.depthAll ds ≤ k
  | [], _ => by simp only [PyData.depthAll]; exact Nat.zero_le _
  | d :: ds, h => by
    simp only [PyData.depthAll]
    exact Nat.max_le.mpr ⟨h d (List.mem_cons_self ..), dep_all fun x hx => h x (List.mem_cons_of_mem _ hx)⟩
def okD1 (k : Nat) (d : PyData) : Prop := d.canLay0 = true ∧ d.depth ≤ k
theorem okD1.tup {k : Nat} {ds : List PyData} (h : ∀ d ∈ ds, okD1 k d) : okD1 (k + 1) (.tuple ds) := by
  refine ⟨?_, ?_⟩
  · simp only [PyData.canLay0]
    exact can_all fun d hd => (h d hd).1
  · simp only [PyData.depth]
    have := dep_all (ds := ds) (k := k) fun d hd => (h d hd).2
    omega
theorem okD1.shaped {k : Nat} {d : PyData} (h : okD1 k d) (hk : k ≤ 64) : SeqAt.shaped d = true := by
  unfold SeqAt.shaped
  rw [h.1, decide_eq_true (Nat.le_trans h.2 hk)]
  rfl
theorem okD1.int {i : Int} : okD1 0 (.int i) := ⟨rfl, Nat.le_of_eq (by simp only [PyData.depth])⟩
theorem okD1.non : okD1 0 .none := ⟨rfl, Nat.le_of_eq (by simp only [PyData.depth])⟩
theorem dpall_of : ∀ {vs : List V} {ds : List PyData}, vs.length = ds.length → (∀ (i : Nat) (v : V) (d : PyData), vs[i]? = some v → ds[i]? = some d → Dp K H v d) → DpAll K H vs ds
  | [], [], _, _ => .nil
  | v :: vs, d :: ds, hl, h => .cons (h 0 v d rfl rfl) (dpall_of (by simpa using hl) fun i a b x y => h (i + 1) a b x y)
def rowD (l : List Nat) : PyData := .tuple (l.map fun n : Nat => PyData.int (n : Int))
theorem rowD_ok (l : List Nat) : okD1 1 (rowD l) := okD1.tup fun d hd => by
  obtain ⟨n, _, rfl⟩ := List.mem_map.mp hd
  exact .int
def rowsD (n : Nat) (f : Nat → List Nat) : PyData := .tuple ((List.range n).map fun i => rowD (f i))
theorem rowsD_ok (n : Nat) (f : Nat → List Nat) : okD1 2 (rowsD n f) := okD1.tup fun d hd => by
  obtain ⟨i, _, rfl⟩ := List.mem_map.mp hd
  exact rowD_ok _
theorem dp_row {p : Addr} {l : List Nat} (h : SqT K H p (nvs l)) : Dp K H (.ref p) (rowD l) := .tup h (dp_all l)
theorem dp_rows {p : Addr} {n : Nat} {f : Nat → List Nat} (h : TTf K H p n f) : Dp K H (.ref p) (rowsD n f) := by
  obtain ⟨ps, h1, h2, h3⟩ := h.ex
  refine .tup h1 (dpall_of (by rw [List.length_map, List.length_map, List.length_range, h2]) fun i v d hv hd => ?_)
  rw [List.getElem?_map] at hv hd
  cases e : ps[i]? with
  | none => rw [e] at hv; cases hv
  | some a =>
    rw [e] at hv
    cases hv
    have hi : i < n := by rw [← h2]; exact (List.getElem?_eq_some_iff.mp e).1
    rw [List.getElem?_range hi] at hd
    cases hd
    exact dp_row (h3 i a e).sq
def nD : Option Nat → PyData
  | none => .none
  | some n => .int (n : Int)
def tabD (ts : Tab) : PyData := .tuple (ts.map nD)
theorem tabD_ok (ts : Tab) : okD1 1 (tabD ts) := okD1.tup fun d hd => by
  obtain ⟨n, _, rfl⟩ := List.mem_map.mp hd
  cases n
  · exact .non
  · exact .int
theorem dp_tabs : ∀ ts : Tab, DpAll K H (ts.map nV) (ts.map nD)
  | [] => .nil
  | none :: ts => .cons .non (dp_tabs ts)
  | some n :: ts => .cons (.int n) (dp_tabs ts)
theorem dp_tab {p : Addr} {ts : Tab} (h : SqT K H p (ts.map nV)) : Dp K H (.ref p) (tabD ts) := .tup h (dp_tabs ts)
theorem rv_neD {d : PyData} {k : Nat} (o : okD1 k d) (hk : k ≤ 64) (h1 : ∀ H1, Ex H H1 → Dp K H1 x d) (h2 : ∀ H1, Ex H H1 → Dp K H1 y d) : RV (rNeD K) x y H (.bl false) := fun H1 e Q q => ⟨d, d, h1 H1 e, h2 H1 e, o.shaped hk, o.shaped hk, by
  rw [SeqAt.eqv_refl d o.1]
  exact q H1 (Ex.refl H1)⟩
end
/-- list of numbers by a comprehension: given -/
theorem given_nvs {n : Nat} {f : Nat → Bool} : given n f (fun i => iV i) = nvs ((List.range n).filter f) := rfl
end OwnG

namespace GM
section
variable {ts : Tab}
theorem way_lt (ok : TabOk ts) : ∀ {l : List Nat} {c e : Option Nat}, Way ts c l e → (∀ s, c = some s → s < ts.length) → (∀ x ∈ l, x < ts.length) ∧ ∀ s, e = some s → s < ts.length
  | [], c, e, h, hc => ⟨(fun x m => by cases m), fun s q => hc s ((show c = e from h).trans q)⟩
  | y :: l, c, e, h, hc => by
    obtain ⟨a, b⟩ := way_lt ok h.2 fun s q => ok _ _ (getD_some q)
    refine ⟨fun x m => ?_, b⟩
    rcases List.mem_cons.mp m with m | m
    · subst m
      exact hc _ h.1
    · exact a x m
theorem st_lt (ok : TabOk ts) {i : Nat} {D : List Nat} {R : List (List Nat)} (a : St ts i D R) (hi : i ≤ ts.length) : ∀ x ∈ D, x < ts.length := by
  induction a with
  | zero => intro x h; cases h
  | @hit i s D l R a t m ih =>
    intro x hx
    rcases List.mem_append.mp hx with hx | hx
    · exact ih (by omega) x hx
    · exact (way_lt ok t.way fun s q => by cases q; omega).1 x hx
  | @miss i D l R e a t m ih =>
    intro x hx
    rcases List.mem_append.mp hx with hx | hx
    · exact ih (by omega) x hx
    · exact (way_lt ok t.way fun s q => by cases q; omega).1 x hx
theorem ring_lt (ok : TabOk ts) {s : Nat} {R : List Nat} (h : Ring ts s R) (hs : s < ts.length) : ∀ x ∈ R, x < ts.length := (way_lt ok h.2.1 fun t q => by cases q; exact hs).1
theorem ring_head {s : Nat} {R : List Nat} (h : Ring ts s R) : ∃ l, R = s :: l := by
  cases R with
  | nil => exact absurd h.1 (by simp)
  | cons x l => exact ⟨l, by rw [Option.some.inj h.2.1.1]⟩
theorem st_rings {i : Nat} {D : List Nat} {R : List (List Nat)} (a : St ts i D R) : ∀ l ∈ R.map norm, l ≠ [] := fun l hl => by
  obtain ⟨r, hr, rfl⟩ := List.mem_map.mp hl
  obtain ⟨s, rg⟩ := a.ok.rings r hr
  exact norm_ne (ring_ne rg)
theorem st_many {i : Nat} {D : List Nat} {R : List (List Nat)} (a : St ts i D R) : R.length ≤ i := by
  induction a with
  | zero => exact Nat.le_refl _
  | hit a t m ih => rw [List.length_append]; simp only [List.length_cons, List.length_nil]; omega
  | miss a t m ih => omega
/-- the parts -/
structure Parts (ts : Tab) (P : List (List Nat)) : Prop where
  flat : P.flatten.Nodup
  all : ∀ x, x < ts.length → x ∈ P.flatten
  part : ∀ l ∈ P, l.Pairwise (· ≤ ·) ∧ ∃ b, b < ts.length ∧ ∀ x, x ∈ l ↔ Rch ts b x
theorem Parts.nd {P : List (List Nat)} (h : Parts ts P) {l : List Nat} (hl : l ∈ P) : l.Nodup := h.flat.sublist (List.sublist_flatten_of_mem hl)
def ends (ts : Tab) : List Nat := (List.range ts.length).filter fun i => (ts.getD i none).isNone
theorem mem_ends {x : Nat} : x ∈ ends ts ↔ x < ts.length ∧ nx ts x = none := by
  unfold ends
  rw [List.mem_filter, List.mem_range, Option.isNone_iff_eq_none]
  exact Iff.rfl
end
end GM

/-! marks: a list of n cells, t at the marked places, f elsewhere -/
namespace OwnG
open PySem L2 Evl Own GM
def mk (t f : V) (n : Nat) (A : List Nat) : List V := (List.range n).map fun y => if y ∈ A then t else f
theorem mk_len {t f : V} {n : Nat} {A : List Nat} : (mk t f n A).length = n := by
  unfold mk
  rw [List.length_map, List.length_range]
theorem mk_get {t f : V} {n i : Nat} {A : List Nat} {h : i < (mk t f n A).length} : (mk t f n A)[i] = if i ∈ A then t else f := by
  simp only [mk, List.getElem_map, List.getElem_range]
theorem mk_set {t f : V} {n x : Nat} {A : List Nat} : (mk t f n A).set x t = mk t f n (A ++ [x]) := by
  refine List.ext_getElem (by rw [List.length_set, mk_len, mk_len]) fun i h1 h2 => ?_
  rw [List.getElem_set, mk_get, mk_get]
  by_cases e : x = i
  · subst e
    rw [if_pos rfl, if_pos (by simp)]
  · rw [if_neg e]
    by_cases m : i ∈ A
    · rw [if_pos m, if_pos (List.mem_append_left _ m)]
    · rw [if_neg m, if_neg fun z => (List.mem_append.mp z).elim m fun z => e (List.mem_singleton.mp z).symm]
theorem mk_at {t f : V} {n x : Nat} {A : List Nat} (h : x < n) : atI (mk t f n A) (x : Int) = some (if x ∈ A then t else f) := by
  unfold mk
  exact at_map (f := fun y => if y ∈ A then t else f) (List.getElem?_range h)
theorem mk_rep {t f : V} {n : Nat} : (List.replicate ((n : Int)).toNat [f]).flatten = mk t f n [] := by
  rw [Int.toNat_natCast]
  have e : (List.replicate n [f]).flatten = List.replicate n f := by
    induction n with
    | zero => rfl
    | succ m ih => rw [List.replicate_succ, List.flatten_cons, ih]; rfl
  rw [e]
  refine List.ext_getElem (by rw [List.length_replicate, mk_len]) fun i h1 h2 => ?_
  rw [List.getElem_replicate, mk_get, if_neg (by simp)]
theorem bl_if {p : Prop} [Decidable p] : (if p then V.bl true else V.bl false) = V.bl (decide p) := by
  by_cases h : p
  · rw [if_pos h, decide_eq_true h]
  · rw [if_neg h, decide_eq_false h]
section
variable {K : PySem.W.Frag} {σ : L2.St} {H H' : Hp} {ta tb te tl : TE} {t : TT} {v x y : V} {D : Ends} {tz tu : TS}
theorem evH_ofLS {R : List V → Prop} (h : EvLS te σ H R) : EvH te σ H (fun v H1 => ∃ p xs, v = .ref p ∧ R xs ∧ H p = none ∧ H1 p = some (.lst xs)) := fun H1 e Q q => h H1 e Q fun xs p H2 r hp e2 h2 => q _ H2 e2 ⟨p, xs, rfl, r, fresh_back e hp, h2⟩
theorem given_all {n : Nat} {v : Nat → V} : given n (fun _ => true) v = (List.range n).map v := by
  unfold given
  rw [List.filter_eq_self.mpr fun _ _ => rfl]
theorem map_getD {α : Type} (g : Nat → α) : ∀ l : List Nat, (List.range l.length).map (fun i => g (l.getD i 0)) = l.map g := fun l => by
  refine List.ext_getElem (by rw [List.length_map, List.length_map, List.length_range]) fun i h1 h2 => ?_
  rw [List.length_map, List.length_range] at h1
  rw [List.getElem_map, List.getElem_map, List.getElem_range, getD_eq h1]
theorem s_forHL {R : V → Hp → Prop} {g : TG} (h : EvH tl σ H R) (k : ∀ v H1, Ex H H1 → R v H1 → tFor (iList K (tC v)) g tu D σ H1) : tFor (iList K tl) g tu D σ H := h H (Ex.refl H) _ fun v H1 e r => k v H1 e r
theorem q_forHL {R : V → Hp → Prop} {g : TG} (h : EvH tl σ H R) (k : ∀ v H1, Ex H H1 → R v H1 → tSeq (tFor (iList K (tC v)) g tu) tz D σ H1) : tSeq (tFor (iList K tl) g tu) tz D σ H := h H (Ex.refl H) _ fun v H1 e r => k v H1 e r
theorem sq_kd {d a : Addr} {kvs : List (Key × V)} {xs : List V} (h : SqL K H a xs) (k : Kx [d] H H') (hd : H d = some (.dK kvs)) : SqL K H' a xs := by
  rcases h with (h | ⟨o, h⟩) | h
  · exact .inl (.inl (k _ _ h fun m => by rw [List.mem_singleton.mp m, hd] at h; cases h))
  · exact .inl (.inr ⟨o, k _ _ h fun m => by rw [List.mem_singleton.mp m, hd] at h; cases h⟩)
  · exact .inr h
theorem take_succ' {α : Type} [Inhabited α] {l : List α} {i : Nat} {x : α} (h : l[i]? = some x) : l.take (i + 1) = l.take i ++ [x] := by
  rw [List.take_add_one, h]
  rfl
end
end OwnG

/-! tables of sets with any mask 2 ^ e - 1: the probe meets each place -/
namespace GS
open PySem PySem.Spec PyProof.Rows L2
def A5 : Nat → Nat
  | 0 => 0
  | n + 1 => A5 n * 5 + 1
theorem a5_add (n : Nat) : ∀ d, A5 (n + d) = A5 n * 5 ^ d + A5 d
  | 0 => by simp [A5]
  | d + 1 => by
    show A5 (n + d) * 5 + 1 = A5 n * 5 ^ (d + 1) + (A5 d * 5 + 1)
    rw [a5_add n d, Nat.pow_succ, Nat.add_mul, Nat.mul_assoc]
    omega
theorem a5_pow : ∀ d, 5 ^ d = A5 d * 4 + 1
  | 0 => rfl
  | d + 1 => by
    show _ = (A5 d * 5 + 1) * 4 + 1
    rw [Nat.pow_succ, a5_pow d]
    omega
theorem a5_par : ∀ n, A5 n % 2 = n % 2
  | 0 => rfl
  | n + 1 => by
    have := a5_par n
    show (A5 n * 5 + 1) % 2 = _
    omega
theorem odd_cop {x : Nat} (h : x % 2 = 1) (e : Nat) : Nat.Coprime (2 ^ e) x := Nat.Coprime.pow_left e (by
  unfold Nat.Coprime
  rw [Nat.gcd_rec, h]
  rfl)
theorem a5_dvd : ∀ (e n : Nat), 2 ^ e ∣ A5 n ↔ 2 ^ e ∣ n
  | 0, n => by simp
  | e + 1, n => by
    have hp := a5_par n
    rcases Nat.mod_two_eq_zero_or_one n with h | h
    · obtain ⟨k, rfl⟩ : ∃ k, n = k + k := ⟨n / 2, by omega⟩
      have e1 : A5 (k + k) = A5 k * (A5 k * 2 + 1) * 2 := by
        rw [a5_add, a5_pow, Nat.mul_assoc, Nat.add_mul, Nat.mul_add, Nat.mul_add, Nat.mul_one]
        have : A5 k * (A5 k * 4) = A5 k * (A5 k * 2 * 2) := by rw [Nat.mul_assoc (A5 k) 2 2]
        omega
      rw [e1, show k + k = k * 2 by omega, Nat.pow_succ, Nat.mul_dvd_mul_iff_right (by decide), Nat.mul_dvd_mul_iff_right (by decide), ← a5_dvd e k]
      exact ⟨fun z => (odd_cop (x := A5 k * 2 + 1) (by omega) e).dvd_of_dvd_mul_right z, fun z => Nat.dvd_mul_right_of_dvd z _⟩
    · have two : ∀ x, 2 ^ (e + 1) ∣ x → x % 2 = 0 := fun x z => by
        have : 2 ∣ x := Nat.dvd_trans ⟨2 ^ e, by rw [Nat.pow_succ, Nat.mul_comm]⟩ z
        omega
      exact ⟨fun z => by have := two _ z; omega, fun z => by have := two _ z; omega⟩
theorem a5_inj {e a b : Nat} (hb : b < 2 ^ e) (hab : a < b) : A5 a % 2 ^ e ≠ A5 b % 2 ^ e := fun h => by
  obtain ⟨d, rfl⟩ : ∃ d, b = a + d := ⟨b - a, by omega⟩
  have e1 : A5 (a + d) = A5 a + A5 d * (A5 a * 4 + 1) := by
    rw [a5_add, a5_pow, Nat.mul_add, Nat.mul_add, Nat.mul_one, Nat.mul_one]
    have : A5 a * (A5 d * 4) = A5 d * (A5 a * 4) := by rw [Nat.mul_left_comm]
    omega
  have h2 : 2 ^ e ∣ A5 d * (A5 a * 4 + 1) := by
    have h3 := Nat.sub_mod_eq_zero_of_mod_eq (m := A5 (a + d)) (n := A5 a) (k := 2 ^ e) h.symm
    rw [e1, Nat.add_sub_cancel_left] at h3
    exact Nat.dvd_of_mod_eq_zero h3
  have h4 := (a5_dvd e d).mp ((odd_cop (x := A5 a * 4 + 1) (by omega) e).dvd_of_dvd_mul_right h2)
  have := Nat.le_of_dvd (by omega) h4
  omega
theorem a5_all {e j : Nat} (hj : j < 2 ^ e) : ∃ b, b < 2 ^ e ∧ A5 b % 2 ^ e = j := by
  by_cases c : j ∈ (List.range (2 ^ e)).map fun b => A5 b % 2 ^ e
  · obtain ⟨b, hb, h⟩ := List.mem_map.mp c
    exact ⟨b, List.mem_range.mp hb, h⟩
  · exfalso
    have hpos : 0 < 2 ^ e := Nat.pow_pos (by decide)
    have nd : (j :: (List.range (2 ^ e)).map fun b => A5 b % 2 ^ e).Nodup := by
      refine List.nodup_cons.mpr ⟨c, ?_⟩
      refine List.pairwise_map.mpr (List.Pairwise.imp_of_mem (fun {a b} ha hb hab => ?_) List.pairwise_lt_range)
      exact a5_inj (List.mem_range.mp hb) hab
    have := nd.length_le_of_subset (l₂ := List.range (2 ^ e)) fun x hx => by
      rcases List.mem_cons.mp hx with hx | hx
      · rw [hx]
        exact List.mem_range.mpr hj
      · obtain ⟨b, _, rfl⟩ := List.mem_map.mp hx
        exact List.mem_range.mpr (Nat.mod_lt _ hpos)
    rw [List.length_cons, List.length_map, List.length_range] at this
    omega
/-- the masks -/
def MaskG (m : Nat) : Prop := ∃ e, m + 1 = 2 ^ e ∧ 3 ≤ e ∧ e ≤ 13 ∧ e % 2 = 1
theorem MaskG.top {m : Nat} (h : MaskG m) : m ≤ 8191 := by
  obtain ⟨e, h1, _, h3, _⟩ := h
  have := Nat.pow_le_pow_right (n := 2) (by decide) h3
  have e2 : (2 : Nat) ^ 13 = 8192 := by decide
  omega
theorem MaskG.odd {m : Nat} (h : MaskG m) : m % 2 = 1 := by
  obtain ⟨e, h1, h2, _⟩ := h
  obtain ⟨k, rfl⟩ : ∃ k, e = k + 1 := ⟨e - 1, by omega⟩
  rw [Nat.pow_succ] at h1
  omega
theorem lcg_a5 {m : Nat} : ∀ k, lcgN m k = A5 k % (m + 1)
  | 0 => by show 0 = 0 % (m + 1); rw [Nat.zero_mod]
  | k + 1 => by
    show (lcgN m k * 5 + 1) % (m + 1) = (A5 k * 5 + 1) % (m + 1)
    rw [lcg_a5 k, Nat.add_mod, Nat.mul_mod, Nat.mod_mod, ← Nat.mul_mod, ← Nat.add_mod]
theorem lcg_turn {m : Nat} (g : MaskG m) (k : Nat) : lcgN m (m + 1 + k) = lcgN m k := by
  obtain ⟨e, h1, _⟩ := g
  rw [lcg_a5, lcg_a5, a5_add, Nat.add_mod, Nat.mul_mod]
  have : A5 (m + 1) % (m + 1) = 0 := Nat.mod_eq_zero_of_dvd (by rw [h1]; exact (a5_dvd e _).mpr (Nat.dvd_refl _))
  rw [this, Nat.zero_mul, Nat.zero_mod, Nat.zero_add, Nat.mod_mod]
theorem round_all {m : Nat} (g : MaskG m) {i j : Nat} (hi : i ≤ m) (hj : j ≤ m) : ∃ k, k ≤ m ∧ lcgI m i k = j := by
  have g2 := g
  obtain ⟨e, h1, _⟩ := g
  obtain ⟨a, ha, ea⟩ := a5_all (e := e) (j := i) (by omega)
  obtain ⟨b, hb, eb⟩ := a5_all (e := e) (j := j) (by omega)
  rw [← h1, ← lcg_a5] at ea eb
  by_cases c : a ≤ b
  · exact ⟨b - a, by omega, by rw [← ea, lcgN_add, show a + (b - a) = b by omega, eb]⟩
  · exact ⟨b + (m + 1) - a, by omega, by rw [← ea, lcgN_add, show a + (b + (m + 1) - a) = m + 1 + b by omega, lcg_turn g2, eb]⟩
theorem start_all {m : Nat} (g : MaskG m) (h : Int) {j : Nat} (hj : j ≤ m) : ∃ n, n ≤ m + 12 ∧ runI m (SetTable.bits h) n = j := by
  obtain ⟨k, hk, e⟩ := round_all g (runI_le m (SetTable.bits h) 12) hj
  refine ⟨12 + k, by omega, ?_⟩
  rw [runI_tail (bits_lt h), e]
theorem way_all {m : Nat} (g : MaskG m) (h : Int) {j : Nat} (hj : j ≤ m) : ∃ k, k < 10 * SetTable.turns m ∧ way m h k = j := by
  obtain ⟨n, hn, e⟩ := start_all g h hj
  obtain ⟨k, hk, e2⟩ := run_nth m (SetTable.bits h) n
  refine ⟨k, by unfold SetTable.turns; omega, ?_⟩
  show (nth m _ k).j = j
  rw [e2]
  exact e
theorem way_in {m : Nat} {h : Int} {k : Nat} : way m h k ≤ m := by
  have hi : SetTable.bits h % (m + 1) ≤ m := Nat.le_of_lt_succ (Nat.mod_lt _ (Nat.succ_pos _))
  have r := runEnd_bd hi
  have := nth_in (m := m) k (runAt m (SetTable.bits h % (m + 1)) (SetTable.bits h)) (by
    show SetTable.bits h % (m + 1) + (SetTable.runEnd m (SetTable.bits h % (m + 1)) - SetTable.bits h % (m + 1)) ≤ m
    omega)
  exact Nat.le_trans (Nat.le_add_right _ _) this
/-- a table in which each entry is found from its hash -/
structure TabG (t : SetTable) (hs : List Int) : Prop where
  ris : Ris t.place.toList
  dm : t.dummies = #[]
  sz : t.place.size = hs.length
  mg : MaskG t.mask
  bd : ∀ x ∈ t.place.toList, x ≤ t.mask
  met : ∀ (i : Nat) (h : Int) (j : Nat), hs[i]? = some h → t.place.toList[i]? = some j → ∃ k, way t.mask h k = j ∧ ∀ c, c < k → way t.mask h c ∈ t.place.toList
theorem TabG.free {t : SetTable} {hs : List Int} (T : TabG t hs) (hl : hs.length ≤ t.mask) (h : Int) : ∃ K, K < 10 * SetTable.turns t.mask ∧ way t.mask h K ∉ t.place.toList ∧ ∀ c, c < K → way t.mask h c ∈ t.place.toList := by
  obtain ⟨j, hj, hn⟩ := st_missing t.place.toList (t.mask + 1) (by rw [Array.length_toList, T.sz]; omega)
  obtain ⟨k, hk, e⟩ := way_all T.mg h (Nat.le_of_lt_succ hj)
  obtain ⟨K, h1, h2, h3⟩ := st_least (p := fun k => way t.mask h k ∉ t.place.toList) k (by rw [e]; exact hn)
  exact ⟨K, Nat.lt_of_le_of_lt h1 hk, h2, fun c hc => Classical.byContradiction fun z => h3 c hc z⟩
theorem TabG.ahead {t : SetTable} {hs : List Int} (T : TabG t hs) {h : Int} {K i j : Nat} (hK : way t.mask h K ∉ t.place.toList) (hi : hs[i]? = some h) (hj : t.place.toList[i]? = some j) : ∃ k, k < K ∧ way t.mask h k = j := by
  obtain ⟨k, e, hb⟩ := T.met i h j hi hj
  refine ⟨k, Classical.byContradiction fun c => ?_, e⟩
  by_cases c2 : k = K
  · rw [← c2, e] at hK
    exact hK (List.mem_of_getElem? hj)
  · exact hK (hb K (by omega))
end GS

/-! one put in; all laid anew -/
namespace GS
open PySem PySem.Spec PyProof.Rows L2
abbrev plc (t : SetTable) (j : Nat) : Nat := SetTable.below t.place j
def insP {α : Type} (l : List α) (p : Nat) (x : α) : List α := l.take p ++ x :: l.drop p
theorem TabG.add {t : SetTable} {hs : List Int} (T : TabG t hs) {h : Int} {K j : Nat} (ej : way t.mask h K = j) (hK : j ∉ t.place.toList) (hb : ∀ c, c < K → way t.mask h c ∈ t.place.toList) :
    plc t j ≤ hs.length ∧ TabG (t.put j).1 (insP hs (plc t j) h) ∧ (t.put j).1.fill = hs.length + 1 := by
  have jm : j ≤ t.mask := by rw [← ej]; exact way_in
  obtain ⟨c1, _, _⟩ := below_cut T.ris j
  have lz : t.place.toList.length = hs.length := by rw [Array.length_toList, T.sz]
  have c2 : plc t j ≤ t.place.toList.length := by rw [Array.length_toList]; exact c1
  have c3 : plc t j ≤ hs.length := by rw [← lz]; exact c2
  have new : t.place[plc t j]? ≠ some j := fun z => hK (List.mem_of_getElem? (i := plc t j) (by rw [Array.getElem?_toList]; exact z))
  have pl : (t.put j).1.place.toList = insP t.place.toList (plc t j) j := put_place t j
  have up : ∀ {x : Nat}, x ∈ t.place.toList → x ∈ (t.put j).1.place.toList := fun {x} m => by
    rw [pl]
    exact mem_ins.mpr (.inr m)
  have size : (t.put j).1.place.size = hs.length + 1 := by
    rw [← Array.length_toList, pl]
    exact (len_ins _ c2 j).trans (by rw [lz])
  refine ⟨c3, ?_, ?_⟩
  · constructor
    · exact ris_insert T.ris new
    · exact put_dm T.dm j
    · rw [size]
      exact (len_ins hs c3 h).symm
    · exact T.mg
    · intro x m
      rw [pl] at m
      rcases mem_ins.mp m with z | z
      · rw [z]
        exact jm
      · exact T.bd x z
    · intro i g k e1 e2
      unfold insP at e1
      rw [tins_get hs c3] at e1
      rw [pl] at e2
      unfold insP at e2
      rw [tins_get _ c2] at e2
      have old : ∀ i, hs[i]? = some g → t.place.toList[i]? = some k → ∃ n, way t.mask g n = k ∧ ∀ c, c < n → way t.mask g c ∈ (t.put j).1.place.toList := fun i a b => by
        obtain ⟨n, q1, q2⟩ := T.met i g k a b
        exact ⟨n, q1, fun c hc => up (q2 c hc)⟩
      show ∃ n, way t.mask g n = k ∧ ∀ c, c < n → way t.mask g c ∈ (t.put j).1.place.toList
      by_cases d1 : i < plc t j
      · rw [if_pos d1] at e1 e2
        exact old i e1 e2
      · rw [if_neg d1] at e1 e2
        by_cases d2 : i = plc t j
        · rw [if_pos d2] at e1 e2
          cases e1
          cases e2
          exact ⟨K, ej, fun c hc => up (hb c hc)⟩
        · rw [if_neg d2] at e1 e2
          exact old _ e1 e2
  · show (t.put j).1.place.size + (t.put j).1.dummies.size = _
    rw [size, put_dm T.dm j]
    rfl
/-! ### laid anew -/
abbrev at0 (m : Nat) (h : Int) : Nat := SetTable.bits h % (m + 1)
theorem find_way {m : Nat} (g : MaskG m) (o : Array (Option Nat)) (h : Int) {j : Nat} (hj : j ≤ m) (hf : oAt o j = none) :
    ∃ K, SetTable.layClean.free m o (SetTable.turns m) (at0 m h) (SetTable.bits h) = some (way m h K) ∧ oAt o (way m h K) = none ∧ ∀ c, c < K → oAt o (way m h c) ≠ none := by
  obtain ⟨n, hn, e⟩ := start_all g h hj
  have hw : way m h (off m (at0 m h) (SetTable.bits h) n) = j := by
    show (nth m (runAt m (at0 m h) (SetTable.bits h)) _).j = j
    rw [nth_off, itL_run]
    exact e
  obtain ⟨K, a1, a2, a3⟩ := st_least (p := fun k => oAt o (way m h k) = none) (off m (at0 m h) (SetTable.bits h) n) (by
    show oAt o (way m h _) = none
    rw [hw, hf])
  refine ⟨K, free_spec m o (SetTable.turns m) n _ _ K ?_ a1 ?_ ?_, a2, a3⟩
  · unfold SetTable.turns
    omega
  · intro c hc
    cases z : oAt o (way m h c) with
    | none => exact absurd z (a3 c hc)
    | some x => rfl
  · exact congrArg Option.isNone a2
theorem own_next {m : Nat} (g : MaskG m) {done : List Int} {o : Array (Option Nat)} (W : Own m done o) (hl : done.length ≤ m) (h : Int) :
    ∃ j, SetTable.layClean.free m o (SetTable.turns m) (at0 m h) (SetTable.bits h) = some j ∧ Own m (done ++ [h]) (o.setIfInBounds j (some done.length)) := by
  obtain ⟨ps, lps, cov⟩ := W.ps
  obtain ⟨f, hf, nf⟩ := st_missing ps (m + 1) (by omega)
  have ff : oAt o f = none := Classical.byContradiction fun z => nf (cov f (Nat.le_of_lt_succ hf) z)
  obtain ⟨K, e1, e2, e3⟩ := find_way g o h (Nat.le_of_lt_succ hf) ff
  have inb : way m h K < o.size := by
    have := way_in (m := m) (h := h) (k := K)
    rw [W.sz]
    omega
  have self := oAt_set_self (some done.length) inb
  have stay : ∀ {i : Nat}, oAt o i ≠ none → oAt (o.setIfInBounds (way m h K) (some done.length)) i = oAt o i := fun {i} z => oAt_set_ne _ fun q => z (by rw [q]; exact e2)
  have full : ∀ {i : Nat}, oAt o i ≠ none → oAt (o.setIfInBounds (way m h K) (some done.length)) i ≠ none := fun {i} z => by
    rw [stay z]
    exact z
  refine ⟨_, e1, ?_⟩
  constructor
  · rw [Array.size_setIfInBounds, W.sz]
  · intro j k hj e
    by_cases c : j = way m h K
    · subst c
      rw [self] at e
      cases e
      exact ⟨h, K, by simp, rfl, fun c hc => full (e3 c hc)⟩
    · rw [oAt_set_ne _ c] at e
      obtain ⟨h2, K2, b1, b2, b3⟩ := W.at_ j k hj e
      exact ⟨h2, K2, by rw [List.getElem?_append_left (List.getElem?_eq_some_iff.mp b1).1, b1], b2, fun c hc => full (b3 c hc)⟩
  · intro k hk
    rw [List.length_append, List.length_singleton] at hk
    by_cases c : k = done.length
    · exact ⟨_, way_in, by rw [self, c]⟩
    · obtain ⟨j, hj, e⟩ := W.all k (by omega)
      refine ⟨j, hj, ?_⟩
      rw [stay (by rw [e]; exact fun z => nomatch z), e]
  · refine ⟨way m h K :: ps, by simp [lps], fun j hj e => ?_⟩
    by_cases c : j = way m h K
    · rw [c]
      exact List.mem_cons_self ..
    · rw [oAt_set_ne _ c] at e
      exact List.mem_cons_of_mem _ (cov j hj e)
theorem lay_all {m : Nat} (g : MaskG m) : ∀ (todo done : List Int) (o : Array (Option Nat)), Own m done o → done.length + todo.length ≤ m →
    ∃ o2, todo.foldl (stepF m) (some (o, done.length)) = some (o2, done.length + todo.length) ∧ Own m (done ++ todo) o2
  | [], done, o, W, _ => ⟨o, rfl, by rw [List.append_nil]; exact W⟩
  | h :: todo, done, o, W, hl => by
    rw [List.length_cons] at hl
    obtain ⟨j, e, W2⟩ := own_next g W (by omega) h
    have e2 : (done ++ [h]).length = done.length + 1 := by simp
    obtain ⟨o2, f, W3⟩ := lay_all g todo (done ++ [h]) _ W2 (by omega)
    rw [e2] at f
    refine ⟨o2, ?_, by rw [show done ++ h :: todo = done ++ [h] ++ todo by simp]; exact W3⟩
    rw [List.foldl_cons, stepF_some e, f, List.length_cons]
    congr 2
    omega
theorem lay_ok {m : Nat} (g : MaskG m) {hs : Array Int} (hn : hs.size ≤ m) : ∃ o, SetTable.layClean m hs = some o ∧ Own m hs.toList o := by
  obtain ⟨o, f, W⟩ := lay_all g hs.toList [] _ (Own.init m) (by rw [Array.length_toList]; show 0 + hs.size ≤ m; omega)
  refine ⟨o, ?_, W⟩
  rw [layClean_eq, show (some (Array.replicate (m + 1) (none : Option Nat), 0)) = some (Array.replicate (m + 1) none, ([] : List Int).length) from rfl, f]
  rfl
theorem anew_ok (t : SetTable) {hs : Array Int} {n M : Nat} (hw : SetTable.sizeAbove n = M + 1) (g : MaskG M) (hn : hs.size ≤ M) :
    ∃ t2 ord, t.relaid hs n = some (t2, ord) ∧ ord.toList.Perm (List.range hs.size) ∧ TabG t2 (ord.toList.map fun i => hs.getD i 0) ∧ t2.mask = M ∧ t2.led = t.led ∧ t2.plain = t.plain := by
  obtain ⟨o, e, W⟩ := lay_ok g hn
  have hM : SetTable.sizeAbove n - 1 = M := by omega
  have ri := ris_live (fun j => o.getD j none) (List.range (M + 1)) List.pairwise_lt_range
  have r1 : Ris ((liveOf M o).map (·.1)) := ri.1
  have r2 : ∀ x ∈ (liveOf M o).map (·.1), x ≤ M := fun x hx => Nat.le_of_lt_succ (List.mem_range.mp (ri.2 x hx))
  have nd : ((liveOf M o).map (·.1)).Nodup := r1.imp fun z => Nat.ne_of_lt z
  have at_ : ∀ j k, (j, k) ∈ liveOf M o ↔ j ≤ M ∧ oAt o j = some k := fun j k => mem_live W.sz
  have cov : ∀ k, k < hs.size → k ∈ (liveOf M o).map (·.2) := fun k hk => by
    obtain ⟨j, b1, b2⟩ := W.all k (by rw [Array.length_toList]; exact hk)
    exact List.mem_map.mpr ⟨(j, k), (at_ j k).mpr ⟨b1, b2⟩, rfl⟩
  have len : (liveOf M o).length = hs.size := by
    obtain ⟨ps, p1, p2⟩ := W.ps
    have a := nd.length_le_of_subset (l₂ := ps) fun x hx => by
      obtain ⟨⟨y, k⟩, hq, rfl⟩ := List.mem_map.mp hx
      obtain ⟨b1, b2⟩ := (at_ y k).mp hq
      exact p2 y b1 (by rw [b2]; exact fun z => nomatch z)
    have b := (List.nodup_range (n := hs.size)).length_le_of_subset (l₂ := (liveOf M o).map (·.2)) fun k hk => cov k (List.mem_range.mp hk)
    rw [List.length_map, p1] at a
    rw [List.length_map, List.length_range] at b
    exact Nat.le_antisymm (Nat.le_trans a (Nat.le_of_eq Array.length_toList)) b
  refine ⟨tabOf t M o, ((liveOf M o).map (·.2)).toArray, by rw [relaid_eq, hM, e]; rfl, ?_, ?_, rfl, rfl, rfl⟩
  · exact perm_range hs.size _ (by show ((liveOf M o).map (·.2)).length = _; rw [List.length_map, len]) cov
  · constructor
    · exact r1
    · rfl
    · show ((liveOf M o).map (·.1)).length = (((liveOf M o).map (·.2)).map _).length
      rw [List.length_map, List.length_map, List.length_map]
    · exact g
    · exact r2
    · intro i h j e1 e2
      have e1 : (((liveOf M o).map (·.2)).map fun i => hs.getD i 0)[i]? = some h := e1
      have e2 : ((liveOf M o).map (·.1))[i]? = some j := e2
      rw [List.getElem?_map, List.getElem?_map] at e1
      rw [List.getElem?_map] at e2
      cases c : (liveOf M o)[i]? with
      | none => rw [c] at e2; cases e2
      | some q =>
        obtain ⟨y, k⟩ := q
        rw [c] at e1 e2
        cases e2
        have eh : hs.getD k 0 = h := Option.some.inj e1
        obtain ⟨b1, b2⟩ := (at_ y k).mp (List.mem_of_getElem? c)
        obtain ⟨h0, K, a1, a2, a3⟩ := W.at_ y k b1 b2
        have : h0 = h := by
          rw [← eh, Array.getD_eq_getD_getElem?, ← Array.getElem?_toList, a1]
          rfl
        subst this
        refine ⟨K, a2, fun x hx => ?_⟩
        show way M h0 x ∈ (liveOf M o).map (·.1)
        obtain ⟨k2, z⟩ := Option.ne_none_iff_exists'.mp (a3 x hx)
        exact List.mem_map.mpr ⟨(way M h0 x, k2), (at_ _ _).mpr ⟨way_in, z⟩, rfl⟩
/-- the sizes that come -/
theorem above_go (n : Nat) : ∀ (f e : Nat), 3 ≤ e → e + f = 67 → n < 2 ^ 14 → (∀ c, 3 ≤ c → c < e → 2 ^ c ≤ n) → ∃ x, 3 ≤ x ∧ n < 2 ^ x ∧ (x = 3 ∨ 2 ^ (x - 1) ≤ n) ∧ SetTable.sizeAbove.go n f (2 ^ e) = 2 ^ x
  | 0, e, h3, hf, hn, hb => by
    have := hb 14 (by decide) (by omega)
    omega
  | f + 1, e, h3, hf, hn, hb => by
    by_cases c : 2 ^ e ≤ n
    · obtain ⟨x, q1, q2, q3, q4⟩ := above_go n f (e + 1) (by omega) (by omega) hn fun c2 a b => by
        by_cases z : c2 = e
        · rw [z]
          exact c
        · exact hb c2 a (by omega)
      refine ⟨x, q1, q2, q3, ?_⟩
      show (if 2 ^ e ≤ n then SetTable.sizeAbove.go n f (2 ^ e * 2) else 2 ^ e) = _
      rw [if_pos c, ← Nat.pow_succ]
      exact q4
    · refine ⟨e, h3, by omega, ?_, ?_⟩
      · by_cases z : e = 3
        · exact .inl z
        · exact .inr (hb (e - 1) (by omega) (by omega))
      · show (if 2 ^ e ≤ n then SetTable.sizeAbove.go n f (2 ^ e * 2) else 2 ^ e) = _
        rw [if_neg c]
theorem grow_ok {m n : Nat} (g : MaskG m) (h1 : m * 3 ≤ n * 5) (h2 : n * 5 < m * 3 + 5) (h3 : n ≤ 4000) : ∃ M, SetTable.sizeAbove (SetTable.grown n) = M + 1 ∧ MaskG M ∧ n * 5 < M * 3 := by
  obtain ⟨e, g1, g2, g3, g4⟩ := g
  have e0 : SetTable.grown n = n * 4 := by
    unfold SetTable.grown
    rw [if_neg (by omega)]
  have e14 : (2 : Nat) ^ 14 = 16384 := by decide
  have e13 : (2 : Nat) ^ 13 = 8192 := by decide
  have e11 : e ≤ 11 := by
    refine Classical.byContradiction fun w => ?_
    have : e = 13 := by omega
    subst this
    omega
  have pe := Nat.pow_le_pow_right (n := 2) (by decide) e11
  have p11 : (2 : Nat) ^ 11 = 2048 := by decide
  have p8 := Nat.pow_le_pow_right (n := 2) (by decide) g2
  have p3 : (2 : Nat) ^ 3 = 8 := by decide
  obtain ⟨x, q1, q2, q3, q4⟩ := above_go (n * 4) 64 3 (Nat.le_refl _) rfl (by omega) (fun c a b => by omega)
  have ex : x = e + 2 := by
    have pp : (2 : Nat) ^ (e + 2) = 2 ^ e * 4 := by rw [Nat.pow_add]
    have p1 : (2 : Nat) ^ (e + 1) = 2 ^ e * 2 := by rw [Nat.pow_add]
    refine Classical.byContradiction fun w => ?_
    by_cases c : x ≤ e + 1
    · have := Nat.pow_le_pow_right (n := 2) (by decide) c
      omega
    · rcases q3 with z | z
      · omega
      · have := Nat.pow_le_pow_right (n := 2) (by decide) (show e + 2 ≤ x - 1 by omega)
        omega
  subst ex
  have pp : (2 : Nat) ^ (e + 2) = 2 ^ e * 4 := by rw [Nat.pow_add]
  refine ⟨2 ^ (e + 2) - 1, ?_, ⟨e + 2, by omega, by omega, by omega, by omega⟩, by omega⟩
  rw [e0]
  show SetTable.sizeAbove.go (n * 4) 64 (2 ^ 3) = _
  rw [q4]
  omega
theorem grown_line {m n : Nat} {M : Nat} (h : SetTable.sizeAbove (SetTable.grown n) = M + 1) (g : MaskG M) : SetTable.sizeAbove (SetTable.grown n) ≤ 8192 := by
  have := g.top
  omega
end GS

/-! sets of tuples of numbers, up to 4000 of them: looked through -/
namespace GS
open PySem PySem.Spec PyProof.Rows L2
section
variable {P : Program} {w : World} {A : Around} {E : Value → Shared → Prop} {s : Shared}
abbrev Tps := List (Addr × List Int)
abbrev hsh (P : Program) (w : World) (L : Tps) : List Int := L.map fun p => thash P w p.2
structure SetG (P : Program) (w : World) (h : Heap) (a : Addr) (L : Tps) (es : Array (Int × Value)) (ep : Nat) (t : SetTable) : Prop where
  obj : ∃ o, h.get? a = some o ∧ o.ExactSet ∧ o.data = .set es ep t
  row : es.toList = rowsOf P w L
  tab : TabG t (hsh P w L)
  one : (L.map (·.2)).Nodup
  tps : ∀ p ∈ L, IsT P w h p.2 p.1
  pln : t.plain = true
  ord : w.params.followText "set-order" = true ∨ t.led = true
  spc : L.length * 5 < t.mask * 3
  cap : L.length ≤ 4000
variable {a x : Addr} {k : List Int} {L : Tps} {es : Array (Int × Value)} {ep : Nat} {t : SetTable}
theorem SetG.size (R : SetG P w s.heap a L es ep t) : es.size = L.length := by
  have z := congrArg List.length R.row
  rw [Array.length_toList] at z
  exact z.trans (List.length_map _)
theorem SetG.places (R : SetG P w s.heap a L es ep t) : t.place.size = L.length := R.tab.sz.trans (List.length_map _)
theorem SetG.fit (R : SetG P w s.heap a L es ep t) : t.fits es.size = true := by
  have h1 := R.places
  have h2 := R.size
  have h3 := R.spc
  unfold SetTable.fits SetTable.fill
  rw [R.tab.dm]
  show (t.place.size == es.size && decide (t.place.size + 0 ≤ t.mask)) = true
  rw [h1, h2, decide_eq_true (by omega)]
  simp
theorem SetG.get (R : SetG P w s.heap a L es ep t) {i : Nat} {p : Addr × List Int} (h : L[i]? = some p) : es[i]? = some (thash P w p.2, Value.ref p.1) := by
  rw [← Array.getElem?_toList, R.row]
  show (List.map _ L)[i]? = _
  rw [List.getElem?_map, h]
  rfl
theorem SetG.held (R : SetG P w s.heap a L es ep t) : ¬ t.gaveWay = true := by
  unfold SetTable.gaveWay
  rw [R.tab.mg.odd]
  decide
/-- the c-th probe for the hash -/
abbrev prb (P : Program) (w : World) (t : SetTable) (k : List Int) (c : Nat) : SetTable.Probe := nth t.mask (runAt t.mask (at0 t.mask (thash P w k)) (SetTable.bits (thash P w k))) c
abbrev spot (P : Program) (w : World) (t : SetTable) (k : List Int) (c : Nat) : Nat := way t.mask (thash P w k) c
theorem prb_on (c q : Nat) : nth t.mask (prb P w t k c) q = prb P w t k (c + q) := (nth_add t.mask c _ q).symm
theorem prb_plain (c : Nat) : (prb P w t k c).dummy = none := by
  have key : ∀ (n : Nat) (p : SetTable.Probe), p.dummy = none → (nth t.mask p n).dummy = none := fun n => by
    induction n with
    | zero => exact fun p z => z
    | succ n ih => exact fun p z => ih _ (by unfold adv; split <;> exact z)
  exact key c _ rfl
/-- the search from the c-th probe on; what has the key and was not passed stands ahead -/
theorem seek (R : SetG P w s.heap a L es ep t) (hx : IsT P w s.heap k x) (hu : A.units < cLine) {ad : Bool} {K : Nat} (bd : K < 10 * SetTable.turns t.mask) (emp : spot P w t k K ∉ t.place.toList)
    (occ : ∀ c, c < K → spot P w t k c ∈ t.place.toList) {Q : SetFound → Shared → Prop}
    (yes : k ∈ L.map (·.2) → ∀ r : Option Nat, (ad = true ∨ r.isSome = true) → Q (.there r) s) (no : k ∉ L.map (·.2) → Q (.free (spot P w t k K) false) s) :
    ∀ (f c : Nat) (from_ : Option SetTable.Probe), from_.getD (t.probeStart (thash P w k)) = prb P w t k c → c ≤ K → K - c < f →
      (∀ (i : Nat) p, L[i]? = some p → p.2 = k → ∃ n, c ≤ n ∧ n < K ∧ t.place.toList[i]? = some (spot P w t k n)) →
      wpAny (model P w) A (setSearchFrom a (.ref x) (thash P w k) ad f from_) Q E s
  | 0, _, _, _, _, z, _ => absurd z (Nat.not_lt_zero _)
  | f + 1, c, from_, hst, hc, hf, due => by
    obtain ⟨o, ho, hex, hd⟩ := R.obj
    have js : ∀ q, (nth t.mask (prb P w t k c) q).j = spot P w t k (c + q) := fun q => congrArg SetTable.Probe.j (prb_on c q)
    have back : c + (K - c) = K := by omega
    have hash : ∀ (i : Nat) p, L[i]? = some p → (fun i => (es[i]?.map (·.1)).getD 0) i = thash P w p.2 := fun i p z => by
      show (es[i]?.map (·.1)).getD 0 = _
      rw [R.get z]
      rfl
    have road := go_spec t R.tab.ris R.tab.dm (fun i => (es[i]?.map (·.1)).getD 0) (thash P w k) (10 * SetTable.turns t.mask) (K - c) (prb P w t k c) (prb_plain c) (by omega) (fun q hq => by rw [js]; exact occ _ (by omega)) (by rw [js, back]; exact emp)
    rw [setSearchFrom_succ]
    refine wpAny_bind (wpAny_setState_of ho hd R.fit ?_)
    dsimp only
    refine wp_if_neg R.held ?_
    try refine wpAny_bind (wpAny_pure ?_)
    rw [hst]
    rcases road with ⟨q, i, hq, hi, hh, past, e⟩ | ⟨past, e⟩
    · have e : t.probe (fun i => (es[i]?.map (·.1)).getD 0) (thash P w k) (prb P w t k c) = some (.candidate (spot P w t k (c + q)) i (prb P w t k (c + (q + 1)))) := by
        rw [← js, ← prb_on]
        exact e
      rw [e]
      dsimp only
      rw [js] at hi
      have il : i < L.length := by
        have := (List.getElem?_eq_some_iff.mp hi).1
        rw [Array.length_toList, R.places] at this
        exact this
      obtain ⟨p, hp⟩ : ∃ p, L[i]? = some p := ⟨_, List.getElem?_eq_getElem il⟩
      have pm : p ∈ L := List.mem_of_getElem? hp
      have go : wpAny (model P w) A (searchRest a (.ref x) (thash P w k) ad f es t (spot P w t k (c + q)) i (prb P w t k (c + (q + 1)))) Q E s := by
        unfold searchRest
        rw [R.get hp]
        dsimp only
        refine wpAny_bind (wpAny_holding (wpAny_eqBool_tuple hu (R.tps p pm) hx ?_))
        refine wpAny_bind (wpAny_setState_of ho hd R.fit ?_)
        dsimp only
        have sl : t.slot (spot P w t k (c + q)) = .live i := slot_live R.tab.ris hi
        by_cases kk : p.2 = k
        · have mem : k ∈ L.map (·.2) := List.mem_map.mpr ⟨p, pm, kk⟩
          cases ad with
          | true =>
            refine wp_if_pos (by simp [kk]) ?_
            exact wpAny_pure (yes mem none (.inl rfl))
          | false =>
            refine wp_if_neg (by simp) ?_
            try refine wpAny_bind (wpAny_pure ?_)
            rw [sameMem]
            dsimp only
            simp only [if_true, sl, R.get hp]
            refine wpAny_bind (wpAny_isSame_ref_self (wpAny_bind (wpAny_pure ?_)))
            simp only [if_true]
            refine wp_if_pos (by simp [kk]) ?_
            exact wpAny_pure (yes mem (some i) (.inr rfl))
        · refine wp_if_neg (by simp [kk]) ?_
          try refine wpAny_bind (wpAny_pure ?_)
          rw [sameMem]
          dsimp only
          simp only [if_true, sl, R.get hp]
          refine wpAny_bind (wpAny_isSame_ref_self (wpAny_bind (wpAny_pure ?_)))
          simp only [if_true]
          refine wp_if_neg (by simp [kk]) ?_
          refine seek R hx hu bd emp occ yes no f (c + (q + 1)) _ rfl (by omega) (by omega) fun i0 p0 h0 k0 => ?_
          obtain ⟨n, n1, n2, n3⟩ := due i0 p0 h0 k0
          refine ⟨n, Classical.byContradiction fun z => ?_, n2, n3⟩
          by_cases y : n = c + q
          · rw [y] at n3
            have s0 := slot_live R.tab.ris n3
            rw [sl] at s0
            injection s0 with s0
            rw [← s0, hp] at h0
            cases h0
            exact kk k0
          · refine past (n - c) i0 (by omega) ?_ ((hash i0 p0 h0).trans (congrArg (thash P w) k0))
            rw [js, show c + (n - c) = n by omega]
            exact n3
      by_cases l : t.led = true
      · refine wp_if_neg (by simp [l]) ?_
        try refine wpAny_bind (wpAny_pure ?_)
        exact go
      · refine wp_if_pos (by simp [l]) ?_
        refine wpAny_bind (seen_tup hx (fun y hy => ?_) ?_)
        · obtain ⟨u, hu2, eu⟩ := List.mem_map.mp hy
          have hu3 : u ∈ es.toList := by
            have : u ∈ es ∧ u.1 = thash P w k := by simpa using hu2
            simpa using this.1
          rw [R.row] at hu3
          obtain ⟨p2, m2, e2⟩ := List.mem_map.mp hu3
          exact ⟨p2.2, p2.1, by rw [← eu, ← e2], R.tps p2 m2⟩
        · refine wp_if_neg (by decide) ?_
          try refine wpAny_bind (wpAny_pure ?_)
          exact go
    · have e : t.probe (fun i => (es[i]?.map (·.1)).getD 0) (thash P w k) (prb P w t k c) = some (.empty (spot P w t k K) none) := by
        have z := js (K - c)
        rw [back] at z
        rw [← z]
        exact e
      rw [e]
      dsimp only
      refine wpAny_pure (no fun m => ?_)
      obtain ⟨p0, m0, k0⟩ := List.mem_map.mp m
      obtain ⟨i0, h0⟩ := List.getElem?_of_mem m0
      obtain ⟨n, n1, n2, n3⟩ := due i0 p0 h0 k0
      refine past (n - c) i0 (by omega) ?_ ((hash i0 p0 h0).trans (congrArg (thash P w) k0))
      rw [js, show c + (n - c) = n by omega]
      exact n3
/-- the whole search -/
theorem search_g (R : SetG P w s.heap a L es ep t) (hx : IsT P w s.heap k x) (hu : A.units < cLine) {ad : Bool} {Q : SetFound → Shared → Prop}
    (yes : k ∈ L.map (·.2) → ∀ r : Option Nat, (ad = true ∨ r.isSome = true) → Q (.there r) s)
    (no : ∀ K, k ∉ L.map (·.2) → spot P w t k K ∉ t.place.toList → (∀ c, c < K → spot P w t k c ∈ t.place.toList) → Q (.free (spot P w t k K) false) s) :
    wpAny (model P w) A (setSearch a (.ref x) (thash P w k) ad) Q E s := by
  have sp := R.spc
  obtain ⟨K, b1, b2, b3⟩ := R.tab.free (by rw [List.length_map]; omega) (thash P w k)
  have tp := R.tab.mg.top
  unfold setSearch
  refine seek R hx hu b1 b2 b3 yes (fun z => no K z b2 b3) 100000 0 none rfl (Nat.zero_le _) (by unfold SetTable.turns at b1; omega) fun i p hp hk => ?_
  have e1 : (hsh P w L)[i]? = some (thash P w k) := by
    rw [List.getElem?_map, hp, ← hk]
    rfl
  have il : i < t.place.toList.length := by
    rw [Array.length_toList, R.places]
    exact (List.getElem?_eq_some_iff.mp hp).1
  have e2 := List.getElem?_eq_getElem il
  obtain ⟨n, n1, n2⟩ := R.tab.ahead b2 e1 e2
  exact ⟨n, Nat.zero_le _, n1, e2.trans (congrArg some n2.symm)⟩
/-- is it in? -/
theorem find_g (R : SetG P w s.heap a L es ep t) (hx : IsT P w s.heap k x) (hu : A.units < cLine) {Q : Option Nat → Shared → Prop} (q : ∀ r : Option Nat, r.isSome = decide (k ∈ L.map (·.2)) → Q r s) :
    wpAny (model P w) A (setFind a (.ref x) (thash P w k)) Q E s := by
  obtain ⟨o, ho, hex, hd⟩ := R.obj
  unfold setFind setFindIn
  refine wpAny_bind (wpAny_setState_of ho hd R.fit ?_)
  dsimp only
  refine wp_if_neg (by simp [byScan, Value.scannable]) ?_
  try refine wpAny_bind (wpAny_pure ?_)
  refine wpAny_bind (search_g R hx hu (fun m r z => ?_) fun K m _ _ => ?_)
  · dsimp only
    refine wpAny_pure (q r ?_)
    rw [decide_eq_true m]
    rcases z with z | z
    · cases z
    · exact z
  · dsimp only
    refine wpAny_pure (q none ?_)
    rw [decide_eq_false m]
    rfl
end
end GS

/-! sets of tuples of numbers: one more -/
namespace GS
open PySem PySem.Spec PyProof.Rows L2
section
variable {P : Program} {w : World} {A : Around} {E : Value → Shared → Prop} {s : Shared}
variable {a x : Addr} {k : List Int} {L : Tps} {es : Array (Int × Value)} {ep : Nat} {t : SetTable}
/-- what is needed for laying anew: all but the room -/
structure SetN (P : Program) (w : World) (h : Heap) (a : Addr) (L : Tps) (es : Array (Int × Value)) (ep : Nat) (t : SetTable) : Prop where
  obj : ∃ o, h.get? a = some o ∧ o.ExactSet ∧ o.data = .set es ep t
  row : es.toList = rowsOf P w L
  tab : TabG t (hsh P w L)
  one : (L.map (·.2)).Nodup
  tps : ∀ p ∈ L, IsT P w h p.2 p.1
  pln : t.plain = true
  ord : w.params.followText "set-order" = true ∨ t.led = true
  cap : L.length ≤ 4000
theorem SetN.room (R : SetN P w s.heap a L es ep t) (h : L.length * 5 < t.mask * 3) : SetG P w s.heap a L es ep t := ⟨R.obj, R.row, R.tab, R.one, R.tps, R.pln, R.ord, h, R.cap⟩
theorem SetN.size (R : SetN P w s.heap a L es ep t) : es.size = L.length := by
  have z := congrArg List.length R.row
  rw [Array.length_toList] at z
  exact z.trans (List.length_map _)
theorem relay_g (R : SetN P w s.heap a L es ep t) (h1 : t.mask * 3 ≤ L.length * 5) (h2 : L.length * 5 < t.mask * 3 + 5) (le : L.length ≤ t.mask) {Q : Unit → Shared → Prop}
    (q : ∀ h2 L2 es2 ep2 t2, Heap.SameBut a s.heap h2 → SetG P w h2 a L2 es2 ep2 t2 → L2.Perm L → Q () { s with heap := h2 }) : wpAny (model P w) A (setRelay a (SetTable.grown L.length)) Q E s := by
  obtain ⟨o, ho, hex, hd⟩ := R.obj
  obtain ⟨M, m1, m2, m3⟩ := grow_ok R.tab.mg h1 h2 R.cap
  have sz := R.size
  have psz : t.place.size = es.size := by rw [sz]; exact R.tab.sz.trans (List.length_map _)
  have fit : t.fits es.size = true := by
    unfold SetTable.fits SetTable.fill
    rw [R.tab.dm]
    show (t.place.size == es.size && decide (t.place.size + 0 ≤ t.mask)) = true
    rw [psz, decide_eq_true (by omega)]
    simp
  obtain ⟨t2, ord, e, perm, T, tm, tl, tp⟩ := anew_ok t (hs := es.map (·.1)) m1 m2 (by rw [Array.size_map]; omega)
  rw [Array.size_map, sz] at perm
  obtain ⟨L2, r1, r2, r3⟩ := order_rows L es ord R.row perm
  have hs2 : (ord.filterMap (es[·]?)).size = es.size := by
    have z := congrArg List.length r1
    rw [Array.length_toList] at z
    rw [z, sz]
    show (List.map _ L2).length = _
    rw [List.length_map, r2.length_eq]
  rw [setRelay_eq]
  refine wpAny_bind (wpAny_setState_of ho hd fit ?_)
  dsimp only
  refine wp_if_neg (by have z := m2.top; rw [sizeLine_eq]; omega) ?_
  try refine wpAny_bind (wpAny_pure ?_)
  rw [e]
  dsimp only
  refine wpAny_bind ?_
  refine wp_if_neg (by rw [hs2]; simp) ?_
  try refine wpAny_bind (wpAny_pure ?_)
  refine wpAny_pure ?_
  dsimp only
  refine wpAny_storeSet_of ho hd ?_ (by have := R.cap; rw [hs2, sz, sizeLine_eq]; omega)
  have same : Heap.SameBut a s.heap (s.heap.update a (Obj.putSet (ord.filterMap (es[·]?)) t2)) := Heap.SameBut.update ..
  refine q _ L2 (ord.filterMap (es[·]?)) (ep + 1) t2 same ?_ r2
  constructor
  · exact ⟨_, store_at ho hd, ⟨hex.1, hex.2.1, hex.2.2⟩, rfl⟩
  · exact r1
  · show TabG t2 (List.map _ L2)
    rw [r3]
    exact T
  · exact (r2.map (·.2)).nodup_iff.mpr R.one
  · exact fun p m => isT_same (R.tps p (r2.mem_iff.mp m)) ho hd same
  · rw [tp]
    exact R.pln
  · rw [tl]
    exact R.ord
  · rw [r2.length_eq, tm]
    exact m3
  · rw [r2.length_eq]
    exact R.cap
theorem add_g (R : SetG P w s.heap a L es ep t) (hx : IsT P w s.heap k x) (hu : A.units < cLine) (cap : L.length + 1 ≤ 4000) {Q : Bool → Shared → Prop}
    (q : ∀ b h2 L2 es2 ep2 t2, Heap.SameBut a s.heap h2 → SetG P w h2 a L2 es2 ep2 t2 → (k ∈ L.map (·.2) → L2 = L) → (k ∉ L.map (·.2) → L2.Perm ((x, k) :: L)) → Q b { s with heap := h2 }) :
    wpAny (model P w) A (setAddHashed a (.ref x) (thash P w k)) Q E s := by
  obtain ⟨o, ho, hex, hd⟩ := R.obj
  have sz := R.size
  have sp := R.spc
  unfold setAddHashed
  refine wpAny_holding ?_
  rw [show (100000 : Nat) = 99999 + 1 from rfl, setAddHashedIn_succ]
  refine wpAny_bind (wpAny_setState_of ho hd R.fit ?_)
  dsimp only
  refine wp_if_neg (by simp [byScan, Value.scannable]) ?_
  try refine wpAny_bind (wpAny_pure ?_)
  refine wpAny_bind (search_g R hx hu (fun m r _ => ?_) fun K m emp occ => ?_)
  · dsimp only
    exact wpAny_pure (q false s.heap L es ep t (Heap.SameBut.refl a s.heap) R (fun _ => rfl) fun z => absurd m z)
  · dsimp only
    refine wpAny_bind (wpAny_setState_of ho hd R.fit ?_)
    dsimp only
    obtain ⟨p0, p1, p2⟩ := R.tab.add (j := spot P w t k K) rfl emp occ
    have em : (t.put (spot P w t k K)).1.mask = t.mask := rfl
    have el : (t.put (spot P w t k K)).1.led = t.led := rfl
    have epn : (t.put (spot P w t k K)).1.plain = t.plain := rfl
    have e2 : (t.put (spot P w t k K)).2 = plc t (spot P w t k K) := rfl
    generalize t.put (spot P w t k K) = pt at p1 p2 em el epn e2 ⊢
    obtain ⟨t1, i⟩ := pt
    dsimp only at p1 p2 em el epn e2 ⊢
    have pl1 : t1.plain = true := by rw [epn]; exact R.pln
    first
      | (refine wpAny_bind ?_; refine wp_if_pos pl1 ?_; refine hashBy_tup hx ?_)
      | refine wp_if_pos pl1 (wpAny_bind (hashBy_tup hx ?_))
    simp only [if_true]
    rw [← e2] at p0 p1
    clear e2
    rw [List.length_map] at p0 p2
    have perm := put_perm L i (x, k)
    have rows1 : (SetTable.insertAt es i (thash P w k, Value.ref x)).toList = rowsOf P w (insP L i (x, k)) := by
      unfold insP
      rw [SetTable.toList_insertAt, rows_put, R.row]
    have tab1 : TabG t1 (hsh P w (insP L i (x, k))) := by
      have z : hsh P w (insP L i (x, k)) = insP (hsh P w L) i (thash P w k) := by
        show List.map _ (_ ++ _ :: _) = List.take _ (List.map _ _) ++ _ :: List.drop _ (List.map _ _)
        rw [List.map_append, List.map_cons, List.map_take, List.map_drop]
      rw [z]
      exact p1
    have perm : (insP L i (x, k)).Perm ((x, k) :: L) := perm
    generalize insP L i (x, k) = L1 at perm rows1 tab1
    have len1 : L1.length = L.length + 1 := perm.length_eq
    have size1 : (SetTable.insertAt es i (thash P w k, Value.ref x)).size = L.length + 1 := by
      have z := congrArg List.length rows1
      rw [Array.length_toList] at z
      rw [z]
      show (List.map _ L1).length = _
      rw [List.length_map, len1]
    generalize SetTable.insertAt es i (thash P w k, Value.ref x) = es1 at rows1 size1 ⊢
    refine wpAny_bind (wpAny_storeSet_of ho hd ?_ (by rw [size1, sizeLine_eq]; omega))
    have same : Heap.SameBut a s.heap (s.heap.update a (Obj.putSet es1 t1)) := Heap.SameBut.update ..
    have ho1 := store_at (es' := es1) (t' := t1) ho hd
    generalize s.heap.update a (Obj.putSet es1 t1) = h1 at same ho1 ⊢
    have N : SetN P w h1 a L1 es1 (ep + 1) t1 := by
      constructor
      · exact ⟨_, ho1, ⟨hex.1, hex.2.1, hex.2.2⟩, rfl⟩
      · exact rows1
      · exact tab1
      · refine (perm.map (·.2)).nodup_iff.mpr ?_
        rw [List.map_cons]
        exact List.nodup_cons.mpr ⟨m, R.one⟩
      · intro p hp
        rcases List.mem_cons.mp (perm.mem_iff.mp hp) with e | hp
        · rw [e]
          exact isT_same hx ho hd same
        · exact isT_same (R.tps p hp) ho hd same
      · exact pl1
      · rw [el]
        exact R.ord
      · omega
    by_cases full : t1.tooFull = true
    · first
        | (refine wpAny_bind ?_; refine wp_if_pos (by simp [full]) ?_)
        | (refine wp_if_pos (by simp [full]) ?_; refine wpAny_bind ?_)
      have f1 : t1.mask * 3 ≤ L1.length * 5 := by
        unfold SetTable.tooFull at full
        rw [decide_eq_true_eq, p2] at full
        omega
      rw [sz, ← len1]
      have top : L1.length * 5 < t1.mask * 3 + 5 := by rw [em]; omega
      have m8 : 7 ≤ t1.mask := by
        obtain ⟨e, g1, g2, _⟩ := tab1.mg
        have := Nat.pow_le_pow_right (n := 2) (by decide) g2
        have p3 : (2 : Nat) ^ 3 = 8 := by decide
        omega
      refine relay_g (s := { s with heap := h1 }) N f1 top (by omega) fun h2 L2 es2 ep2 t2 same2 R2 perm2 => ?_
      exact wpAny_pure (q true h2 L2 es2 ep2 t2 (same.trans same2) R2 (fun z => absurd z m) fun _ => perm2.trans perm)
    · have f1 : L1.length * 5 < t1.mask * 3 := by
        unfold SetTable.tooFull at full
        rw [decide_eq_true_eq, p2] at full
        omega
      first
        | refine wp_if_neg (by simp [full]) ?_
        | (refine wpAny_bind ?_; refine wp_if_neg (by simp [full]) ?_; refine wpAny_pure ?_)
      exact wpAny_pure (q true h1 L1 es1 (ep + 1) t1 same (SetN.room (s := { s with heap := h1 }) N f1) (fun z => absurd z m) fun _ => perm)
theorem fresh_g {h : Heap} (ho : h.get? a = some { cls := .type "set", dict := none, data := .set #[] 0 (.fresh 0 0 (!w.params.followText "set-order")) }) : SetG P w h a [] #[] 0 (.fresh 0 0 (!w.params.followText "set-order")) := by
  constructor
  · exact ⟨_, ho, ⟨rfl, rfl, rfl⟩, rfl⟩
  · rfl
  · exact ⟨List.Pairwise.nil, rfl, rfl, ⟨3, rfl, by decide, by decide, rfl⟩, (fun x hx => by cases hx), fun i h j hi => by simp at hi⟩
  · exact List.nodup_nil
  · exact fun p hp => by cases hp
  · rfl
  · show _ ∨ (!w.params.followText "set-order") = true
    cases w.params.followText "set-order"
    · exact .inr rfl
    · exact .inl rfl
  · show 0 * 5 < 7 * 3
    decide
  · exact Nat.zero_le _
end
end GS

/-! sets of tuples of numbers: set(), in, not in, add; over the layer -/
namespace GS
open PySem PySem.Spec PyProof.Rows L2
section
variable {P : Program} {w : World} {A : Around} {E : Value → Shared → Prop} {s : Shared}
variable {a x : Addr} {k : List Int} {L : Tps} {es : Array (Int × Value)} {ep : Nat} {t : SetTable}
theorem SetG.isSet (R : SetG P w s.heap a L es ep t) : s.TypeIs (.ref a) "set" := by
  obtain ⟨o, ho, hc, _⟩ := R.obj
  exact ⟨o, ho, hc.1⟩
theorem SetG.bare (R : SetG P w s.heap a L es ep t) : ∀ b, Value.ref a = .ref b → ∃ ob, s.heap.get? b = some ob ∧ ob.dict = none := fun b e => by
  injection e with e
  subst e
  obtain ⟨o, ho, hc, _⟩ := R.obj
  exact ⟨o, ho, hc.2.1⟩
/-- the set asked whether it contains -/
theorem has_g (R : SetG P w s.heap a L es ep t) (hx : IsT P w s.heap k x) (hu : A.units + 8 < cLine) {Q : Bool → Shared → Prop} (q : ∀ n, Q (decide (k ∈ L.map (·.2))) { s with toks := n }) :
    wpAny (model P w) A (contains (.ref a) (.ref x)) Q E s := by
  have ty := R.isSet
  unfold contains
  try with_reducible refine wpAny_holding ?_
  refine wpAny_bind (wpAny_specialOf ty F.slot_set_contains.lookup ?_)
  show wpAny _ _ (if (some (Value.builtin "set.__contains__") == some .none) = true then _ else _) _ _ _
  rw [if_neg fun z => by rw [beq_builtin_none] at z; cases z]
  refine wpAny_bind (wpAny_callSpecialUnlessNone?_slot (name := Str.ofString "__contains__") ty F.slot_set_contains (wpAny_call_entry F.slot_set_contains ty entry_set_contains ?_ (F.args_set_contains_2 _ _)))
  unfold Builtin.«frozenset.__contains__»
  unfold Builtin.Frozenset.oneOther
  simp only [bind_assoc, List.isEmpty_nil]
  unfold Builtin.Frozenset.withSetAsKey
  unfold Builtin.Frozenset.addrOf
  unfold setContains
  refine wpAny_bind (wpAny_pure ?_)
  try dsimp only
  refine wpAny_bind (wpAny_pure ?_)
  try dsimp only
  refine wpAny_bind (wpAny_tryCatch ?_)
  refine wpAny_holding ?_
  refine wpAny_bind (wpAny_pyHash_tuple (by show A.units + 1 < cLine; omega) hx ?_)
  refine wpAny_bind (find_g (s := { s with toks := s.toks + (k.length + 1) }) R hx (by show A.units + 1 < cLine; omega) fun r hr => ?_)
  refine wpAny_pure ?_
  show wpAny _ _ (ret (Value.bool r.isSome)) _ _ _
  rw [hr]
  exact wpAny_pure ⟨_, rfl, wpAny_truthy_bool (q _)⟩
theorem in_g (R : SetG P w s.heap a L es ep t) (hx : IsT P w s.heap k x) (hu : A.units + 8 < cLine) {Q : Value → Shared → Prop} (q : ∀ n, Q (.bool (decide (k ∈ L.map (·.2)))) { s with toks := n }) :
    wpAny (model P w) A (compareOp .In (.ref x) (.ref a)) Q E s := by
  show wpAny _ _ (contains (.ref a) (.ref x) >>= fun b => pure (.bool b)) Q E s
  exact wpAny_bind (has_g R hx hu fun n => wpAny_pure (q n))
theorem off_g (R : SetG P w s.heap a L es ep t) (hx : IsT P w s.heap k x) (hu : A.units + 8 < cLine) {Q : Value → Shared → Prop} (q : ∀ n, Q (.bool (!decide (k ∈ L.map (·.2)))) { s with toks := n }) :
    wpAny (model P w) A (compareOp .NotIn (.ref x) (.ref a)) Q E s := by
  show wpAny _ _ (contains (.ref a) (.ref x) >>= fun b => pure (.bool !b)) Q E s
  exact wpAny_bind (has_g R hx hu fun n => wpAny_pure (q n))
/-- the set's method add -/
theorem put_g (R : SetG P w s.heap a L es ep t) (hx : IsT P w s.heap k x) (hu : A.units + 8 < cLine) (cap : L.length + 1 ≤ 4000) {Q : Value → Shared → Prop}
    (q : ∀ n h2 L2 es2 ep2 t2, Heap.SameBut a s.heap h2 → SetG P w h2 a L2 es2 ep2 t2 → (k ∈ L.map (·.2) → L2 = L) → (k ∉ L.map (·.2) → L2.Perm ((x, k) :: L)) → Q .none { s with heap := h2, toks := n }) :
    wpAny (model P w) A (call (.builtin "set.add") [.ref a, .ref x]) Q E s := by
  refine wpAny_call_entry F.slot_set_add R.isSet F.entry_set_add ?_ (F.args_set_add_2 _ _)
  unfold Builtin.«set.add»
  unfold Builtin.Frozenset.oneOther
  simp only [bind_assoc, List.isEmpty_nil]
  unfold Builtin.Frozenset.addrOf
  unfold setAdd
  refine wpAny_bind (wpAny_pure ?_)
  try dsimp only
  refine wpAny_bind (wpAny_pure ?_)
  try dsimp only
  refine wpAny_bind ?_
  refine wpAny_holding ?_
  refine wpAny_bind (wpAny_pyHash_tuple (by show A.units + 1 < cLine; omega) hx ?_)
  refine add_g (s := { s with toks := s.toks + (k.length + 1) }) R hx (by show A.units + 1 < cLine; omega) cap fun b h2 L2 es2 ep2 t2 e1 e2 e3 e4 => ?_
  show wpAny _ _ (ret Value.none) _ _ _
  exact wpAny_pure ⟨_, rfl, q _ h2 L2 es2 ep2 t2 e1 e2 e3 e4⟩
end
end GS

namespace GS
open PySem PySem.Spec PyProof.Rows L2
/-- the set at a, its tuples aside -/
def SetX (P : Program) (w : World) (h : Heap) (a : Addr) (L : Tps) : Prop := ∃ (es : Array (Int × Value)) (ep : Nat) (t : SetTable), (∃ o, h.get? a = some o ∧ o.ExactSet ∧ o.data = .set es ep t) ∧ es.toList = rowsOf P w L ∧ TabG t (hsh P w L) ∧ (L.map (·.2)).Nodup ∧
  t.plain = true ∧ (w.params.followText "set-order" = true ∨ t.led = true) ∧ L.length * 5 < t.mask * 3 ∧ L.length ≤ 4000
def SetTX (P : Program) (w : World) (a : Addr) (L : Tps) : HO := .ext fun h => SetX P w h a L
section
variable {P : Program} {w : World} {H : Hp} {h : Heap} {a : Addr} {L : Tps} {es : Array (Int × Value)} {ep : Nat} {t : SetTable}
theorem SetG.x (R : SetG P w h a L es ep t) : SetX P w h a L := ⟨es, ep, t, R.obj, R.row, R.tab, R.one, R.pln, R.ord, R.spc, R.cap⟩
theorem SetX.g (R : SetX P w h a L) (ht : ∀ p ∈ L, IsT P w h p.2 p.1) : ∃ es ep t, SetG P w h a L es ep t := by
  obtain ⟨es, ep, t, r1, r2, r3, r4, r5, r6, r7, r8⟩ := R
  exact ⟨es, ep, t, r1, r2, r3, r4, ht, r5, r6, r7, r8⟩
theorem setTX_new (R : SetX P w h a L) : ObjOk P w H h a (SetTX P w a L) := by
  have ⟨_, _, _, ⟨o, ho, _⟩, _⟩ := R
  refine ⟨R, ⟨o, ho⟩, fun h1 h2 p k => ?_⟩
  obtain ⟨es', ep', t', ⟨o', ho', r'⟩, r2⟩ := p
  exact ⟨es', ep', t', ⟨o', k o' ho', r'⟩, r2⟩
end
section
variable {X : Cx}
theorem setTX_get {pins : List (Addr × Obj)} {σ : L2.St} {H : Hp} {s : Shared} {a : Addr} {L : Tps} (I : Inv X pins σ H s) (ha : H a = some (SetTX X.prog X.w a L)) (ht : ∀ p ∈ L, SqT X.K H p.1 (p.2.map V.int)) : ∃ es ep t, SetG X.prog X.w s.heap a L es ep t :=
  SetX.g (I.hok a _ ha).1 fun p hp => I.isT (ht p hp)
def rSetT0 (P : Program) (w : World) : List V → Hp → VK → Prop := fun xs H Q => xs = [] ∧ ∀ p, H p = none → Q (.ref p) (upd H p (SetTX P w p []))
theorem cr_setT0 : CallR X (.type "set") (rSetT0 X.prog X.w) := by
  intro pins s σ H xs us Q I r h
  obtain ⟨rfl, q⟩ := h
  cases r
  refine setR_new fun _ => ?_
  exact ⟨.ref _, upd H s.heap.objs.size (SetTX X.prog X.w s.heap.objs.size []), I.laid (t' := s.toks) (fun b u e => Heap.get?_push_of_some _ e) (Nat.le_refl _) (setTX_new (fresh_g (Heap.get?_push_size _ rfl)).x), rfl, q _ (I.hok.fresh (Nat.le_refl _))⟩
/-- x in a set of tuples -/
def rTIn (neg : Bool) (K : PySem.W.Frag) (P : Program) (w : World) : V → V → Hp → VK → Prop := fun x y H Q => ∃ (b a : Addr) (k : List Int) (L : Tps), x = .ref b ∧ y = .ref a ∧ SqT K H b (k.map V.int) ∧ H a = some (SetTX P w a L) ∧ (∀ p ∈ L, SqT K H p.1 (p.2.map V.int)) ∧ Q (.bl (neg != decide (k ∈ L.map (·.2)))) H
theorem or_tin (hu : X.A.units + 64 < cLine) : OpR X (compareOp .In) (rTIn false X.K X.prog X.w) := by
  intro pins s σ H x y v u Q I rx ry h
  obtain ⟨b, a, k, L, rfl, rfl, hb, ha, ht, q⟩ := h
  cases rx
  cases ry
  obtain ⟨es, ep, t, R⟩ := setTX_get I ha ht
  refine in_g R (I.isT hb) (by omega) fun n => ⟨.bl (decide (k ∈ L.map (fun p : Addr × List Int => p.2))), H, I.tok _, rfl, ?_⟩
  rw [Bool.false_bne] at q
  exact q
theorem or_tnotin (hu : X.A.units + 64 < cLine) : OpR X (compareOp .NotIn) (rTIn true X.K X.prog X.w) := by
  intro pins s σ H x y v u Q I rx ry h
  obtain ⟨b, a, k, L, rfl, rfl, hb, ha, ht, q⟩ := h
  cases rx
  cases ry
  obtain ⟨es, ep, t, R⟩ := setTX_get I ha ht
  refine off_g R (I.isT hb) (by omega) fun n => ⟨.bl (!decide (k ∈ L.map (fun p : Addr × List Int => p.2))), H, I.tok _, rfl, ?_⟩
  rw [Bool.true_bne] at q
  exact q
/-- the set's add -/
def rTAdd (K : PySem.W.Frag) (P : Program) (w : World) : V → List V → Hp → VK → Prop := fun x xs H Q => ∃ (a b : Addr) (k : List Int) (L : Tps), x = .ref a ∧ xs = [.ref b] ∧ SqT K H b (k.map V.int) ∧ H a = some (SetTX P w a L) ∧ (∀ p ∈ L, SqT K H p.1 (p.2.map V.int)) ∧ L.length + 1 ≤ 4000 ∧
  ∀ L2, (k ∈ L.map (·.2) → L2 = L) → (k ∉ L.map (·.2) → L2.Perm ((b, k) :: L)) → Q .non (upd H a (SetTX P w a L2))
theorem mt_tadd (hu : X.A.units + 64 < cLine) : MtR X "set.add" (rTAdd X.K X.prog X.w) := by
  intro pins s σ H x xs v us Q I rx rxs h
  obtain ⟨a, b, k, L, rfl, rfl, hb, ha, ht, cap, q⟩ := h
  cases rx
  cases rxs with
  | cons ry rt =>
    cases rt
    cases ry
    obtain ⟨es, ep, t, R⟩ := setTX_get I ha ht
    refine put_g R (I.isT hb) (by omega) cap fun n h2 L2 es2 ep2 t2 sb new e1 e2 => ?_
    have he : ∃ u, h2.get? a = some u := by
      obtain ⟨o, ho, _⟩ := new.obj
      exact ⟨o, ho⟩
    exact ⟨.non, upd H a (SetTX X.prog X.w a L2), I.write (e := a) (t' := n) (by rw [ha]; trivial) (.inl rfl) (fun c u hc hu => (sb.2 c hc).trans hu) he (setTX_new new.x), rfl, q L2 e1 e2⟩
def tTAdd (K : PySem.W.Frag) (P : Program) (w : World) (to : TE) (t : TA) : TE := fun σ H Q => to σ H fun x H1 => (∃ a L, x = V.ref a ∧ H1 a = some (SetTX P w a L)) ∧ t σ H1 fun xs H2 => rTAdd K P w x xs H2 Q
variable {o e : Expr} {to : TE} {t : TA} {apos cpos : Pos}
theorem pe_tadd (hu : X.A.units + 64 < cLine) (ho : PE X o to) (ha : PA X [e] t)
    (hbase : attributeBase o "add" X.env (eval o X.env) = eval o X.env := by rfl)
    (hfew : ((backTo cpos (starEach [e] X.env)).all (fun x => !x.1) && (backToKw cpos (keywordEach [] X.env)).all (fun x => x.1.isSome)
      && decide (([e] : List Expr).length + ([] : List Keyword).length + (if ([] : List Keyword).isEmpty then 0 else 1) < 30)) = true := by rfl)
    (hline : (apos.endLine == cpos.line) = true := by rfl) (hs : starEach [e] X.env = [(false, eval e X.env)] := by rfl) :
    PE X (.Call (.Attribute o "add" apos) [e] [] cpos) (tTAdd X.K X.prog X.w to t) := by
  refine ⟨fun pins s σ H Q I h => ?_⟩
  refine wpAny_Call_method_late hbase hfew hline rfl (thn (ho.run pins s σ H _ I h) fun v s1 ⟨x, H1, I1, r1, ty, q1⟩ => ?_)
  obtain ⟨a, L, rfl, hka⟩ := ty
  cases r1
  obtain ⟨_, _, _, ⟨ob, hob, hex, _⟩, _⟩ : SetX X.prog X.w s1.heap a L := (I1.hok a _ hka).1
  refine ⟨"set", "set.add", F.plainAttrs_set, F.slot_set_add, F.type_set_add, ⟨ob, hob, hex.1⟩, fun b eb => ?_, ?_⟩
  · injection eb with eb
    subst eb
    exact ⟨ob, hob, hex.2.1⟩
  · have hA := ha.run cpos pins s1 σ H1 _ I1 q1
    rw [hs] at hA ⊢
    refine Calls.callWith_builtin (by rfl) (Calls.evalArgs_plain ?_)
    exact thn hA fun us s2 ⟨vs, H2, I2, r2, q2⟩ => mt_tadd hu pins s2 σ H2 (.ref a) vs (.ref a) us Q I2 rfl r2 q2
end
end GS

/-! t.index(x) in a tuple of tuples of numbers -/
namespace OwnG
open PySem PySem.Spec PyProof.Rows L2 Own GS
section
variable {X : Cx}
theorem isT_any {pins : List (Addr × Obj)} {σ : L2.St} {H : Hp} {s : Shared} {b : Addr} {k : List Int} (I : Inv X pins σ H s) (h : SqT X.K H b (k.map V.int)) (P : Program) (w : World) : IsT P w s.heap k b := by
  obtain ⟨its, r, ⟨o, ho, hc, n, hd⟩, _⟩ := I.tuple h
  exact ⟨o, its.toArray, n, ho, hc, hd, by simpa using items_of_vals r⟩
def rTIxT (K : PySem.W.Frag) : V → List V → Hp → VK → Prop := fun x xs H Q => ∃ (p b : Addr) (ks : Tps) (k : List Int) (j : Nat), x = .ref p ∧ xs = [.ref b] ∧ SqT K H p (ks.map fun q => V.ref q.1) ∧ (∀ q ∈ ks, SqT K H q.1 (q.2.map V.int)) ∧ SqT K H b (k.map V.int) ∧
  (ks[j]?).map (fun q => q.2) = some k ∧ (∀ m, m < j → (ks[m]?).map (fun q => q.2) ≠ some k) ∧ Q (.int (j : Nat)) H
theorem mt_tup_idxT (hu : X.A.units + 64 < cLine) : MtR X "tuple.index" (rTIxT X.K) := by
  intro pins s σ H x xs v us Q I rx rs h
  obtain ⟨p, b, ks, k, j, rfl, rfl, hq, hks, hb, hy, hno, q⟩ := h
  cases rx
  obtain ⟨u, rfl, hub⟩ := vals1 rs
  cases hub
  obtain ⟨its, r, pl, hz⟩ := I.tuple hq
  obtain ⟨⟨cls, dd, dt, sl⟩, ho, hc, n, hd⟩ := pl
  simp only at hc hd
  subst hc hd
  have ei : its = ks.map fun q => Value.ref q.1 := refs_of_vals r
  have hl : its.toArray.size = ks.length := by rw [List.size_toArray, ei, List.length_map]
  have at3 : ∀ (m : Nat) (hm : m < its.toArray.size), its.toArray[m] = Value.ref (ks[m]'(by omega)).1 := fun m hm => by
    subst ei
    simp
  have inj : ∀ q ∈ ks, ∀ q2 ∈ ks, q.1 = q2.1 → q.2 = q2.2 := fun q m q2 m2 e => by
    have a := isT_any I (hks q m) X.prog X.w
    have a2 := isT_any I (hks q2 m2) X.prog X.w
    rw [← e] at a2
    exact IsTupleKey.inj a a2
  let e : Value → Bool := fun v => match v with
    | .ref c => decide (∃ q ∈ ks, q.1 = c ∧ q.2 = k)
    | _ => false
  have he : ∀ q ∈ ks, e (.ref q.1) = decide (q.2 = k) := fun q m => by
    show decide (∃ q2 ∈ ks, q2.1 = q.1 ∧ q2.2 = k) = _
    by_cases c : q.2 = k
    · rw [decide_eq_true c, decide_eq_true ⟨q, m, rfl, c⟩]
    · rw [decide_eq_false c, decide_eq_false]
      rintro ⟨q2, m2, e1, e2⟩
      exact c ((inj q m q2 m2 e1.symm).trans e2)
  have hj : j < its.toArray.size := by
    rw [hl]
    cases z : ks[j]? with
    | none => rw [z] at hy; cases hy
    | some q => exact (List.getElem?_eq_some_iff.mp z).1
  refine call_meets PySem.F.slot_tuple_index ⟨_, ho, rfl⟩ PySem.F.entry_tuple_index (PySem.F.args_tuple_index_2 _ _) (TI.tuple_indexAt p its.toArray n dd sl (.ref b) e j hj ?_ ?_)
    ⟨ho, fun y hy2 => ?_, ⟨.int (j : Nat), H, I.tok _, ⟨_, rfl⟩, q⟩⟩
  · have jl : j < ks.length := by omega
    rw [at3 j hj, he _ (List.getElem_mem jl)]
    rw [List.getElem?_eq_getElem jl] at hy
    exact decide_eq_true (Option.some.inj hy)
  · intro m hm hmj
    have ml : m < ks.length := by omega
    rw [at3 m hm, he _ (List.getElem_mem ml)]
    refine decide_eq_false fun z => hno m hmj ?_
    rw [List.getElem?_eq_getElem ml]
    exact congrArg some z
  · have : y ∈ its := by simpa using hy2
    rw [ei] at this
    obtain ⟨q2, m2, rfl⟩ := List.mem_map.mp this
    rw [he q2 m2]
    intro prog w E Q2 hq2
    exact wpAny_eqBool_tuple (knd := intKind prog w) (by show X.A.units + 1 < cLine; omega) (isT_any I (hks q2 m2) prog w) (isT_any I hb prog w) hq2
def tTixT (K : PySem.W.Frag) (to : TE) (t : TA) : TE := fun σ H Q => to σ H fun x H1 => (∃ p xs, x = .ref p ∧ FzT H1 p xs) ∧ t σ H1 fun xs H2 => rTIxT K x xs H2 Q
theorem pe_tixT {o e : Expr} {to : TE} {t : TA} {apos cpos : Pos} (hu : X.A.units + 64 < cLine) (ho : PE X o to) (ha : PA X [e] t) (hbase : attributeBase o "index" X.env (eval o X.env) = eval o X.env := by rfl)
    (hfew : ((backTo cpos (starEach [e] X.env)).all (fun x => !x.1) && (backToKw cpos (keywordEach [] X.env)).all (fun x => x.1.isSome) && decide ([e].length + ([] : List Keyword).length + (if ([] : List Keyword).isEmpty then 0 else 1) < 30)) = true := by rfl)
    (hline : (apos.endLine == cpos.line) = true := by rfl) (hs : starEach [e] X.env = [(false, eval e X.env)] := by rfl) :
    PE X (.Call (.Attribute o "index" apos) [e] [] cpos) (tTixT X.K to t) := by
  refine ⟨fun pins s σ H Q I h => ?_⟩
  refine wpAny_Call_method_late hbase hfew hline rfl (thn (ho.run pins s σ H _ I h) fun v s1 ⟨x, H1, I1, r1, ⟨p, xs, ex, hp⟩, q1⟩ => ?_)
  subst ex
  cases r1
  obtain ⟨ob, hd, hp⟩ := hp
  obtain ⟨hob, _, its, _, hT⟩ := I1.hok p _ hp
  refine ⟨"tuple", "tuple.index", PySem.F.plainAttrs_tuple, PySem.F.slot_tuple_index, PySem.F.type_tuple_index, (by obtain ⟨o, e, c, _⟩ := hT; exact ⟨o, e, c⟩), fun a e => by cases e; exact ⟨ob, hob, hd⟩, ?_⟩
  have hA := ha.run cpos pins s1 σ H1 _ I1 q1
  rw [hs] at hA ⊢
  refine Calls.callWith_builtin (by rfl) (Calls.evalArgs_plain ?_)
  exact thn hA fun us s2 ⟨vs, H2, I2, r2, q2⟩ => mt_tup_idxT hu pins s2 σ H2 (.ref p) vs (.ref p) us Q I2 rfl r2 q2
end
end OwnG

/-! d == e of dicts with tuple keys: the same keys in the same order, equal values -/
namespace OwnG
open PySem PySem.Calls PySem.Spec PyProof.Rows L2 Own GS
section
variable {prog : Program} {w : World} {K : Type} [DecidableEq K] {knd : HeapKind prog w K} {A : Around} {E : Value → Shared → Prop} {s : Shared}
theorem pairs_t {nm : String} {a b : Addr} {xs ys : List (K × Addr × Value)} {Q : Bool → Shared → Prop} (na : (a == sysModules) = false) (nb : (b == sysModules) = false)
    (da : s.heap.DictOfH knd a xs) (db : s.heap.DictOfH knd b ys) (keys : xs.map (·.1) = ys.map (·.1)) (vals : ∀ (i : Nat) x y, xs[i]? = some x → ys[i]? = some y → SeqAt.EqAt A s x.2.2 y.2.2 true) (room : knd.room A) (h : Q true s) :
    wpAny (model prog w) A (Builtin.Dict.samePairs nm a b) Q E s := by
  obtain ⟨oa, es, ep, hoa, _, hda, ea, isa, nda⟩ := da
  obtain ⟨ob, fs, fp, hob, _, hdb, eb, isb, ndb⟩ := db
  have za : es.size = xs.length := size_of_entries ea
  have zb : fs.size = ys.length := size_of_entries eb
  have zz : xs.length = ys.length := by
    have z := congrArg List.length keys
    rw [List.length_map, List.length_map] at z
    exact z
  have same : es.size = fs.size := by omega
  unfold Builtin.Dict.samePairs
  unfold Builtin.Dict.showsAll
  rw [if_neg (fun z => by rw [na] at z; cases z), if_neg (fun z => by rw [nb] at z; cases z)]
  refine wpAny_bind (wpAny_pure (wpAny_bind (wpAny_pure ?_)))
  refine wpAny_bind (wpAny_dictEntries hoa hda ?_)
  dsimp only
  refine wpAny_bind (wpAny_dictEntries hob hdb ?_)
  rw [if_neg (by rw [same]; simp)]
  refine wpAny_bind (wpAny_dictEpoch hoa hda ?_)
  refine wpAny_bind ?_
  rw [Std.Legacy.Range.forIn_eq_forIn_range']
  simp only [Std.Legacy.Range.size, Nat.sub_zero, Nat.add_sub_cancel, Nat.div_one]
  refine wpAny_forIn_list _ (fun todo q s' => s' = s ∧ q = (none, ()) ∧ ∃ i, todo = List.range' i (es.size - i) ∧ i ≤ es.size) _ ?_ ?_ _ _ ⟨rfl, rfl, 0, by simp, Nat.zero_le _⟩
  · rintro i0 todo q s' ⟨rfl, rfl, i, hr, hi⟩
    have lt : i < es.size := by
      refine Classical.byContradiction fun z => ?_
      rw [Nat.sub_eq_zero_of_le (Nat.le_of_not_lt z)] at hr
      cases hr
    rw [show es.size - i = es.size - (i + 1) + 1 by omega, List.range'_succ] at hr
    obtain ⟨e1, e2⟩ := List.cons.inj hr
    subst e1 e2
    have lx : i0 < xs.length := by omega
    have ly : i0 < ys.length := by omega
    obtain ⟨x, hx⟩ : ∃ x, xs[i0]? = some x := ⟨_, List.getElem?_eq_getElem lx⟩
    obtain ⟨y, hy⟩ : ∃ y, ys[i0]? = some y := ⟨_, List.getElem?_eq_getElem ly⟩
    have kk : x.1 = y.1 := by
      have z := congrArg (fun l => l[i0]?) keys
      simp only [List.getElem?_map, hx, hy] at z
      exact Option.some.inj z
    have hex : es[i0]? = some (entryOfKey knd x) := by rw [entry_at ea, hx]; rfl
    have hey : fs[i0]? = some (entryOfKey knd y) := by rw [entry_at eb, hy]; rfl
    refine wpAny_bind (wpAny_dictEntries hoa hda ?_)
    rw [hex]
    show wpAny _ _ (holding [(entryOfKey knd x).key, (entryOfKey knd x).val] _ >>= _) _ _ _
    refine wpAny_bind (wpAny_holding (wpAny_bind ?_))
    refine wpAny_dictFind_heap (k := x.1) room (isa x (List.mem_of_getElem? hx)) hob hdb eb isb ndb (fun z => ?_) fun j p hj => ?_
    · exact absurd (by rw [hy, kk]) (z i0 y.2)
    · have ej : j = i0 := by
        have n1 : (ys.map (·.1))[j]? = some x.1 := by rw [List.getElem?_map, hj]; rfl
        have n2 : (ys.map (·.1))[i0]? = some x.1 := by rw [List.getElem?_map, hy, kk]; rfl
        obtain ⟨j1, j2⟩ := List.getElem?_eq_some_iff.mp n1
        obtain ⟨i1, i2⟩ := List.getElem?_eq_some_iff.mp n2
        exact (List.getElem_inj ndb).mp (j2.trans i2.symm)
      subst ej
      refine wpAny_bind (wpAny_dictEntries hob hdb ?_)
      rw [hey]
      refine wpAny_holding (vals _ x y hx hy prog w _ _ ?_)
      show wpAny _ _ (if (!true) = true then _ else _) _ _ _
      rw [if_neg (by decide)]
      refine wpAny_bind (wpAny_dictEpoch hoa hda ?_)
      rw [if_neg (by simp)]
      exact wpAny_pure ⟨rfl, rfl, _, rfl, lt⟩
  · rintro q s' ⟨rfl, rfl, i, hr, hi⟩
    exact wpAny_pure h
theorem dicts_t {a b : Addr} {xs ys : List (K × Addr × Value)} {Q : Value → Shared → Prop} (na : (a == sysModules) = false) (nb : (b == sysModules) = false) (da : s.heap.DictOfH knd a xs) (db : s.heap.DictOfH knd b ys) (hu : A.units < cLine)
    (keys : xs.map (·.1) = ys.map (·.1)) (vals : ∀ (i : Nat) x y, xs[i]? = some x → ys[i]? = some y → SeqAt.EqAt A.in1 s x.2.2 y.2.2 true) (room : knd.room A.in1) (h : Q (.bool true) s) : wpAny (model prog w) A (compareOp .Eq (.ref a) (.ref b)) Q E s := by
  have ta := da.typeIs
  have tb := db.typeIs
  refine wpAny_richCompare_same_room (op := .Eq) ta tb PySem.F.slot_dict_eq (wpAny_call_entry PySem.F.slot_dict_eq ta PySem.F.entry_dict_eq ?_ (PySem.F.args_dict_eq_2 _ _)) hu
  show wpAny _ _ (Builtin.Dict.dictSlotArgs "__eq__" ⟨[Value.ref a, Value.ref b], []⟩ >>= _) _ _ _
  refine wpAny_bind ?_
  unfold Builtin.Dict.dictSlotArgs
  refine wpAny_bind (wpAny_notOrdered_dict ta ?_)
  show wpAny _ _ (pure (Value.ref a, Value.ref b)) _ _ _
  refine wpAny_pure ?_
  refine wpAny_bind (wpAny_isInstance (T := "dict") tb PySem.F.sub_dict_dict ?_)
  simp only [Bool.false_eq_true, Bool.not_true, if_false]
  refine wpAny_bind (wpAny_pure (wpAny_bind (wpAny_pure ?_)))
  refine wpAny_bind (pairs_t na nb da db keys vals room ?_)
  exact wpAny_pure ⟨_, rfl, (fun z => nomatch z), by simpa using h⟩
end
def rEqDT : V → V → Hp → VK → Prop := fun x y H Q => ∃ (a b : Addr) (kvs : List (List Key × V)), x = .ref a ∧ y = .ref b ∧ H a = some (.dT kvs) ∧ H b = some (.dT kvs) ∧ (∀ p ∈ kvs, ∃ z : Int, p.2 = .int z) ∧ Q (.bl true) H
theorem kt_keys {H : Hp} : ∀ {kvs : List (List Key × V)} {xs : List (List Key × Addr × Value)}, KT H kvs xs → xs.map (·.1) = kvs.map (·.1)
  | [], _, .nil => rfl
  | p :: ps, _, .cons h t => by
    rw [List.map_cons, List.map_cons, kt_keys t, h.1]
theorem kt_at {H : Hp} : ∀ {kvs : List (List Key × V)} {xs : List (List Key × Addr × Value)}, KT H kvs xs → ∀ (i : Nat) x, xs[i]? = some x → ∃ p, kvs[i]? = some p ∧ RelV p.2 x.2.2
  | [], _, .nil, i, x, h => by cases h
  | p :: ps, _, .cons h t, 0, x, e => ⟨p, rfl, by cases e; exact h.2.2⟩
  | p :: ps, _, .cons h t, i + 1, x, e => kt_at t i x e
theorem op_eqDT {X : Cx} (hu : X.A.units + 64 < cLine) : OpR X (compareOp .Eq) rEqDT := by
  intro pins s σ H x y v u Q I rx ry h
  obtain ⟨a, b, kvs, rfl, rfl, ha, hb, hz, q⟩ := h
  cases rx
  cases ry
  obtain ⟨_, na, xs, ka, da⟩ := dt_of I.hok ha
  obtain ⟨_, nb, ys, kb, db⟩ := dt_of I.hok hb
  refine dicts_t na nb da db (by omega) ((kt_keys ka).trans (kt_keys kb).symm) (fun i x y hx hy => ?_) (by show X.A.units + 1 < cLine; omega) ⟨.bl true, H, I, rfl, q⟩
  obtain ⟨p, hp, r1⟩ := kt_at ka i x hx
  obtain ⟨p2, hp2, r2⟩ := kt_at kb i y hy
  rw [hp] at hp2
  cases hp2
  obtain ⟨z, ez⟩ := hz p (List.mem_of_getElem? hp)
  rw [ez] at r1 r2
  obtain ⟨t1, e1⟩ := r1
  obtain ⟨t2, e2⟩ := r2
  rw [e1, e2]
  have f := PySem.W.keq_flat (A := X.A.in1) (s := s) (PySem.W.kdl_flat_int (intKind_is X.prog X.w z t1)) (PySem.W.kdl_flat_int (intKind_is X.prog X.w z t2))
  rw [show PyData.eqv (.int z) (.int z) = true by simp [PyData.eqv]] at f
  exact f
end OwnG

namespace GM
/-! ### pointers and the tours of a permutation -/
abbrev Pp := Nat × Nat
def ptsOf (ts : Tab) (s : Nat) : List Pp := (List.range ((bk ts s).length + 1)).map fun t => (s, t)
def ptsTo (ts : Tab) (n : Nat) : List Pp := (List.range n).flatMap (ptsOf ts)
theorem mem_pts {ts : Tab} {n : Nat} {p : Pp} : p ∈ ptsTo ts n ↔ p.1 < n ∧ p.2 ≤ (bk ts p.1).length := by
  unfold ptsTo ptsOf
  rw [List.mem_flatMap]
  constructor
  · rintro ⟨s, hs, h⟩
    obtain ⟨t, ht, rfl⟩ := List.mem_map.mp h
    exact ⟨List.mem_range.mp hs, Nat.le_of_lt_succ (List.mem_range.mp ht)⟩
  · rintro ⟨h1, h2⟩
    exact ⟨p.1, List.mem_range.mpr h1, List.mem_map.mpr ⟨p.2, List.mem_range.mpr (Nat.lt_succ_of_le h2), rfl⟩⟩
theorem pts_succ (ts : Tab) (n : Nat) : ptsTo ts (n + 1) = ptsTo ts n ++ ptsOf ts n := by
  unfold ptsTo
  rw [List.range_succ, List.flatMap_append, List.flatMap_cons, List.flatMap_nil, List.append_nil]
theorem pts_len (ts : Tab) : ∀ n, (ptsTo ts n).length = fing ts n
  | 0 => by
    show 0 = tot ts 0 ts.length + 0
    rfl
  | n + 1 => by
    rw [pts_succ, List.length_append, pts_len ts n, fing_succ]
    unfold ptsOf
    rw [List.length_map, List.length_range]
theorem pts_nodup (ts : Tab) : ∀ n, (ptsTo ts n).Nodup
  | 0 => List.nodup_nil
  | n + 1 => by
    rw [pts_succ]
    refine List.nodup_append.mpr ⟨pts_nodup ts n, ?_, fun a ha b hb e => ?_⟩
    · unfold ptsOf
      exact List.pairwise_map.mpr (List.nodup_range.imp fun {a b} h z => h (Prod.mk.inj z).2)
    · subst e
      have h1 := (mem_pts.mp ha).1
      obtain ⟨t, _, rfl⟩ := List.mem_map.mp hb
      exact Nat.lt_irrefl _ h1
/-- a walk by f: each leads to the following one -/
def Run (f : Pp → Pp) : Pp → List Pp → Pp → Prop
  | c, [], e => c = e
  | c, x :: l, e => c = x ∧ Run f (f x) l e
theorem run_snoc {f : Pp → Pp} : ∀ {l : List Pp} {c x : Pp}, Run f c l x → Run f c (l ++ [x]) (f x)
  | [], c, x, h => ⟨h, rfl⟩
  | y :: l, c, x, h => ⟨h.1, run_snoc h.2⟩
theorem run_split {f : Pp → Pp} : ∀ {l m : List Pp} {c e : Pp}, Run f c (l ++ m) e → ∃ d, Run f c l d ∧ Run f d m e
  | [], m, c, e, h => ⟨c, rfl, h⟩
  | x :: l, m, c, e, h => by
    obtain ⟨d, h1, h2⟩ := run_split (l := l) h.2
    exact ⟨d, ⟨h.1, h1⟩, h2⟩
def itr (f : Pp → Pp) (c : Pp) : Nat → Pp
  | 0 => c
  | i + 1 => f (itr f c i)
theorem itr_succ (f : Pp → Pp) (c : Pp) : ∀ i, itr f (f c) i = itr f c (i + 1)
  | 0 => rfl
  | i + 1 => by
    show f (itr f (f c) i) = _
    rw [itr_succ f c i]
    rfl
theorem run_get {f : Pp → Pp} : ∀ {l : List Pp} {c e : Pp}, Run f c l e → e = itr f c l.length ∧ ∀ i, i < l.length → l[i]? = some (itr f c i)
  | [], c, e, h => ⟨(show c = e from h).symm, fun i hi => absurd hi (Nat.not_lt_zero _)⟩
  | y :: l, c, e, h => by
    obtain ⟨h1, h2⟩ := h
    subst h1
    obtain ⟨g1, g2⟩ := run_get h2
    refine ⟨by rw [g1, itr_succ]; rfl, fun i hi => ?_⟩
    cases i with
    | zero => rfl
    | succ i =>
      rw [List.getElem?_cons_succ, g2 i (by simpa using hi), itr_succ]
theorem run_mem {f : Pp → Pp} {l : List Pp} {c e x : Pp} (h : Run f c l e) (hx : x ∈ l) : ∃ i, i < l.length ∧ x = itr f c i := by
  obtain ⟨i, hi⟩ := List.getElem?_of_mem hx
  have lt := (List.getElem?_eq_some_iff.mp hi).1
  rw [(run_get h).2 i lt] at hi
  exact ⟨i, lt, (Option.some.inj hi).symm⟩
/-- a tour: it comes back to its first, and passes each once -/
structure Tour (f : Pp → Pp) (c : Pp) (l : List Pp) : Prop where
  run : Run f c l c
  nd : l.Nodup
  has : c ∈ l
/-- a step that stays within the pointers and leads no two to the same keeps a run without doubles, until it comes back -/
theorem run_new {f : Pp → Pp} {S : Pp → Prop} (inj : ∀ x y, S x → S y → f x = f y → x = y) {l : List Pp} {c e : Pp} (h : Run f c l e) (hs : ∀ x ∈ l, S x) (nd : l.Nodup) (hne : e ≠ c) : e ∉ l := by
  intro he
  obtain ⟨g1, g2⟩ := run_get h
  obtain ⟨i, hi, ei⟩ := run_mem h he
  have at_ : ∀ j, j < l.length → S (itr f c j) := fun j hj => hs _ (List.mem_of_getElem? (g2 j hj))
  cases i with
  | zero => exact hne ei
  | succ i =>
    obtain ⟨k, hk⟩ : ∃ k, l.length = k + 1 := ⟨l.length - 1, by omega⟩
    rw [hk] at g1
    have e1 : itr f c k = itr f c i := inj _ _ (at_ k (by omega)) (at_ i (by omega)) (g1.symm.trans ei)
    have e2 : l[k]? = l[i]? := by rw [g2 k (by omega), g2 i (by omega), e1]
    have := (List.getElem?_inj (by omega) nd).mp e2
    omega
theorem tour_len {ts : Tab} {l : List Pp} (nd : l.Nodup) (hl : ∀ x ∈ l, x ∈ ptsTo ts ts.length) : l.length ≤ 2 * ts.length := by
  have h1 := nd.length_le_of_subset hl
  rw [pts_len] at h1
  have h2 := fing_le ts ts.length
  omega
/-- two tours that share a pointer have the same pointers -/
theorem tour_closed {f : Pp → Pp} {c : Pp} {l : List Pp} (t : Tour f c l) : ∀ x ∈ l, f x ∈ l := fun x hx => by
  obtain ⟨g1, g2⟩ := run_get t.run
  obtain ⟨i, hi, ei⟩ := run_mem t.run hx
  by_cases z : i + 1 < l.length
  · exact List.mem_of_getElem? (show l[i + 1]? = some (f x) by rw [g2 (i + 1) z, ei]; rfl)
  · have : i + 1 = l.length := by omega
    have e : f x = c := by rw [g1, ← this, ei]; rfl
    rw [e]
    exact t.has
theorem tour_back {f : Pp → Pp} {c x : Pp} {l : List Pp} (t : Tour f c l) (hx : x ∈ l) : ∃ k, itr f x k = c := by
  obtain ⟨g1, g2⟩ := run_get t.run
  obtain ⟨i, hi, ei⟩ := run_mem t.run hx
  have add : ∀ j k, itr f (itr f c j) k = itr f c (j + k) := fun j k => by
    induction k with
    | zero => rfl
    | succ k ih =>
      show f (itr f (itr f c j) k) = f (itr f c (j + k))
      rw [ih]
  exact ⟨l.length - i, by rw [ei, add, show i + (l.length - i) = l.length by omega]; exact g1.symm⟩
end GM

/-! pointers, tours over the layer -/
namespace OwnG
open PySem L2 Evl Own GM
def PV (H : Hp) (p : Addr) (x : Pp) : Prop := H p = some (.tup [iV x.1, iV x.2])
structure Pts (H : Hp) (ps : List Addr) (l : List Pp) : Prop where
  len : ps.length = l.length
  at_ : ∀ i p, ps[i]? = some p → PV H p (l.getD i (0, 0))
theorem PV.sq {K : PySem.W.Frag} {H : Hp} {p : Addr} {x : Pp} (h : PV H p x) : SqT K H p (nvs [x.1, x.2]) := st_of h
theorem PV.kx {S : List Addr} {H H' : Hp} {p : Addr} {x : Pp} (h : PV H p x) (k : Kx S H H') (n : p ∉ S) : PV H' p x := k _ _ h n
theorem Pts.up {H H' : Hp} {ps : List Addr} {l : List Pp} (e : Ex H H') (h : Pts H ps l) : Pts H' ps l := ⟨h.len, fun i p hp => e _ _ (h.at_ i p hp)⟩
theorem Pts.lst {H : Hp} {ps : List Addr} {l : List Pp} {c : Addr} {xs ys : List V} (h : Pts H ps l) (hc : H c = some (.lst xs)) : Pts (upd H c (.lst ys)) ps l := ⟨h.len, fun i p hp => by
  have g := h.at_ i p hp
  show upd H c _ p = _
  rw [upd_ne fun e => by rw [e] at g; rw [show H c = _ from g] at hc; cases hc]
  exact g⟩
theorem Pts.snoc {H : Hp} {ps : List Addr} {l : List Pp} {p : Addr} {x : Pp} (h : Pts H ps l) (hp : PV H p x) : Pts H (ps ++ [p]) (l ++ [x]) := by
  refine ⟨by rw [List.length_append, List.length_append, h.len]; rfl, fun i a hi => ?_⟩
  by_cases c : i < ps.length
  · rw [List.getElem?_append_left c] at hi
    rw [getD_snoc_lt (by rw [← h.len]; exact c)]
    exact h.at_ i a hi
  · rw [List.getElem?_append_right (by omega)] at hi
    have e0 : i - ps.length = 0 := by have := (List.getElem?_eq_some_iff.mp hi).1; simp at this; omega
    rw [e0] at hi
    cases hi
    have : i = l.length := by have := h.len; omega
    subst this
    rw [getD_snoc]
    exact hp
section
variable {K : PySem.W.Frag} {σ : L2.St} {H H' : Hp} {ta tb te tl : TE} {v x y : V} {D : Ends} {tz tu : TS}
theorem evH_lst1 {R : V → Hp → Prop} (h : EvH te σ H R) (st : ∀ v H H', Ex H H' → R v H → R v H') : EvH (tLst (tCons te tNil)) σ H (fun v H1 => ∃ l x, v = .ref l ∧ H l = none ∧ H1 l = some (.lst [x]) ∧ R x H1) := fun H1 e Q q =>
  h H1 e _ fun v H2 e2 r => ⟨sz_of (show 1 ≤ 100000 by decide), fun l hl => q _ _ (e2.trans (Ex.new hl)) ⟨l, v, rfl, fresh_back (e.trans e2) hl, upd_same, st _ _ _ (Ex.new hl) r⟩⟩
theorem eqv_rows : ∀ a b : List Nat, PyData.eqvAll (a.map fun n : Nat => PyData.int (n : Int)) (b.map fun n : Nat => PyData.int (n : Int)) = decide (a = b)
  | [], [] => by simp [PyData.eqvAll]
  | [], y :: b => by simp [PyData.eqvAll]
  | x :: a, [] => by simp [PyData.eqvAll]
  | x :: a, y :: b => by
    simp only [List.map_cons, PyData.eqvAll, PyData.eqv, eqv_rows a b]
    by_cases e1 : x = y
    · subst e1
      simp
    · have : ((x : Int) == (y : Int)) = false := beq_eq_false_iff_ne.mpr fun z => e1 (Int.ofNat_inj.mp z)
      rw [this, Bool.false_and, decide_eq_false fun z => e1 (List.cons.inj z).1]
theorem rv_neR {p q : Addr} {a b : List Nat} (h : SqT K H p (nvs a)) (h' : SqT K H q (nvs b)) : RV (rNeD K) (.ref p) (.ref q) H (.bl (!decide (a = b))) := fun H1 e Q k =>
  ⟨_, _, dp_row (ex_t e h), dp_row (ex_t e h'), (rowD_ok a).shaped (by decide), (rowD_ok b).shaped (by decide), by
    have : PyData.eqv (rowD a) (rowD b) = decide (a = b) := by
      unfold rowD
      simp only [PyData.eqv, eqv_rows]
    rw [this]
    exact k H1 (Ex.refl H1)⟩
end
end OwnG

namespace GM
/-! ### all tours, by the pointers in their order -/
theorem itr_add (f : Pp → Pp) (c : Pp) (j : Nat) : ∀ k, itr f (itr f c j) k = itr f c (j + k)
  | 0 => rfl
  | k + 1 => by
    show f (itr f (itr f c j) k) = f (itr f c (j + k))
    rw [itr_add f c j k]
theorem tour_pos {f : Pp → Pp} {c : Pp} {l : List Pp} (t : Tour f c l) : 0 < l.length := List.length_pos_of_mem t.has
theorem tour_first {f : Pp → Pp} {c : Pp} {l m : List Pp} (a : Tour f c l) (b : Tour f c m) : ¬ l.length < m.length := fun h => by
  obtain ⟨a1, _⟩ := run_get a.run
  obtain ⟨_, b2⟩ := run_get b.run
  have e : m[l.length]? = m[0]? := by
    rw [b2 _ h, b2 0 (tour_pos b), ← a1]
    rfl
  have := (List.getElem?_inj h b.nd).mp e
  have := tour_pos a
  omega
theorem tour_uniq {f : Pp → Pp} {c : Pp} {l m : List Pp} (a : Tour f c l) (b : Tour f c m) : l = m := by
  have h1 := tour_first a b
  have h2 := tour_first b a
  have hl : l.length = m.length := by omega
  refine List.ext_getElem? fun i => ?_
  by_cases c : i < l.length
  · rw [(run_get a.run).2 i c, (run_get b.run).2 i (by omega)]
  · rw [List.getElem?_eq_none (by omega), List.getElem?_eq_none (by omega)]
inductive Tsr (f : Pp → Pp) : List Pp → List (List Pp) → Prop
  | nil : Tsr f [] []
  | old {D : List Pp} {T : List (List Pp)} {x : Pp} : Tsr f D T → x ∈ T.flatten → Tsr f (D ++ [x]) T
  | new {D : List Pp} {T : List (List Pp)} {x : Pp} {l : List Pp} : Tsr f D T → x ∉ T.flatten → Tour f x l → Tsr f (D ++ [x]) (T ++ [l])
theorem Tsr.inv {f : Pp → Pp} {E : List Pp} {T : List (List Pp)} (h : Tsr f E T) : (E = [] ∧ T = []) ∨ ∃ D x, E = D ++ [x] ∧ ((Tsr f D T ∧ x ∈ T.flatten) ∨ ∃ T0 l, T = T0 ++ [l] ∧ Tsr f D T0 ∧ x ∉ T0.flatten ∧ Tour f x l) := by
  cases h with
  | nil => exact .inl ⟨rfl, rfl⟩
  | old a m => exact .inr ⟨_, _, rfl, .inl ⟨a, m⟩⟩
  | new a m t => exact .inr ⟨_, _, rfl, .inr ⟨_, _, rfl, a, m, t⟩⟩
theorem Tsr.det {f : Pp → Pp} {D : List Pp} {T U : List (List Pp)} (a : Tsr f D T) (b : Tsr f D U) : T = U := by
  induction a generalizing U with
  | nil =>
    rcases b.inv with ⟨_, e⟩ | ⟨D, x, e, _⟩
    · exact e.symm
    · exact absurd (congrArg List.length e) (by simp)
  | @old D T x a m ih =>
    rcases b.inv with ⟨e, _⟩ | ⟨D2, x2, e, h⟩
    · exact absurd (congrArg List.length e) (by simp)
    · obtain ⟨e1, e2⟩ := List.append_inj' e rfl
      cases e2
      subst e1
      rcases h with ⟨b, _⟩ | ⟨T0, l, rfl, b, n, t⟩
      · exact ih b
      · rw [ih b] at m
        exact absurd m n
  | @new D T x l a m t ih =>
    rcases b.inv with ⟨e, _⟩ | ⟨D2, x2, e, h⟩
    · exact absurd (congrArg List.length e) (by simp)
    · obtain ⟨e1, e2⟩ := List.append_inj' e rfl
      cases e2
      subst e1
      rcases h with ⟨b, n⟩ | ⟨T0, l2, rfl, b, n, t2⟩
      · rw [← ih b] at n
        exact absurd n m
      · rw [ih b, tour_uniq t t2]
structure TsrOk (f : Pp → Pp) (D : List Pp) (T : List (List Pp)) : Prop where
  each : ∀ l ∈ T, ∃ c D1 D2, D = D1 ++ c :: D2 ∧ Tour f c l ∧ ∀ y ∈ l, y ∉ D1
  all : ∀ x ∈ D, x ∈ T.flatten
  flat : T.flatten.Nodup
theorem itr_in {f : Pp → Pp} {S : Pp → Prop} (cl : ∀ x, S x → S (f x)) {x : Pp} (h : S x) : ∀ k, S (itr f x k)
  | 0 => h
  | k + 1 => cl _ (itr_in cl h k)
theorem TsrOk.closed {f : Pp → Pp} {D : List Pp} {T : List (List Pp)} (o : TsrOk f D T) : ∀ x, x ∈ T.flatten → f x ∈ T.flatten := fun x hx => by
  obtain ⟨l, hl, hx⟩ := List.mem_flatten.mp hx
  obtain ⟨c, _, _, _, t, _⟩ := o.each l hl
  exact List.mem_flatten.mpr ⟨l, hl, tour_closed t x hx⟩
theorem TsrOk.apart {f : Pp → Pp} {D : List Pp} {T : List (List Pp)} (o : TsrOk f D T) {x : Pp} {l : List Pp} (n : x ∉ T.flatten) (t : Tour f x l) : ∀ y ∈ l, y ∉ T.flatten := fun y hy m => by
  obtain ⟨k, e⟩ := tour_back t hy
  exact n (e ▸ itr_in (S := fun z => z ∈ T.flatten) o.closed m k)
theorem Tsr.ok {f : Pp → Pp} {D : List Pp} {T : List (List Pp)} (a : Tsr f D T) : TsrOk f D T := by
  induction a with
  | nil => exact ⟨(fun l h => by cases h), (fun x h => by cases h), List.nodup_nil⟩
  | @old D T x a m ih =>
    refine ⟨fun l hl => ?_, fun y hy => ?_, ih.flat⟩
    · obtain ⟨c, D1, D2, e, t, n⟩ := ih.each l hl
      exact ⟨c, D1, D2 ++ [x], by rw [e]; simp, t, n⟩
    · rcases List.mem_append.mp hy with hy | hy
      · exact ih.all y hy
      · rw [List.mem_singleton.mp hy]
        exact m
  | @new D T x l a m t ih =>
    have ap := ih.apart m t
    have fl : (T ++ [l]).flatten = T.flatten ++ l := by rw [List.flatten_append, List.flatten_cons, List.flatten_nil, List.append_nil]
    refine ⟨fun l2 hl => ?_, fun y hy => ?_, ?_⟩
    · rcases List.mem_append.mp hl with hl | hl
      · obtain ⟨c, D1, D2, e, t, n⟩ := ih.each l2 hl
        exact ⟨c, D1, D2 ++ [x], by rw [e]; simp, t, n⟩
      · rw [List.mem_singleton.mp hl]
        exact ⟨x, D, [], rfl, t, fun y hy z => ap y hy (ih.all y z)⟩
    · rw [fl]
      rcases List.mem_append.mp hy with hy | hy
      · exact List.mem_append_left _ (ih.all y hy)
      · rw [List.mem_singleton.mp hy]
        exact List.mem_append_right _ t.has
    · rw [fl]
      exact List.nodup_append.mpr ⟨ih.flat, t.nd, fun u hu v hv e => ap v hv (e ▸ hu)⟩
theorem Tsr.many {f : Pp → Pp} {D : List Pp} {T : List (List Pp)} (a : Tsr f D T) : T.length ≤ D.length := by
  induction a with
  | nil => exact Nat.le_refl _
  | old a m ih => rw [List.length_append]; omega
  | new a m t ih =>
    rw [List.length_append, List.length_append]
    simp only [List.length_cons, List.length_nil]
    omega
/-- one in another's place: the first pointer of a tour is the least of it -/
def ltP (a b : Pp) : Prop := a.1 < b.1 ∨ (a.1 = b.1 ∧ a.2 < b.2)
theorem pts_asc (ts : Tab) : ∀ n, (ptsTo ts n).Pairwise ltP
  | 0 => List.Pairwise.nil
  | n + 1 => by
    rw [pts_succ]
    refine List.pairwise_append.mpr ⟨pts_asc ts n, ?_, fun a ha b hb => ?_⟩
    · unfold ptsOf
      exact List.pairwise_map.mpr (List.pairwise_lt_range.imp fun {a b} h => .inr ⟨rfl, h⟩)
    · have h1 := (mem_pts.mp ha).1
      obtain ⟨t, _, rfl⟩ := List.mem_map.mp hb
      exact .inl h1
theorem Tsr.least {f : Pp → Pp} {D : List Pp} {T : List (List Pp)} (a : Tsr f D T) (asc : D.Pairwise ltP) {l : List Pp} (hl : l ∈ T) (hin : ∀ y ∈ l, y ∈ D) : ∃ c, Tour f c l ∧ ∀ y ∈ l, y = c ∨ ltP c y := by
  obtain ⟨c, D1, D2, e, t, n⟩ := a.ok.each l hl
  refine ⟨c, t, fun y hy => ?_⟩
  have hd := hin y hy
  rw [e] at hd asc
  rcases List.mem_append.mp hd with hd | hd
  · exact absurd hd (n y hy)
  · rcases List.mem_cons.mp hd with hd | hd
    · exact .inl hd
    · exact .inr ((List.pairwise_cons.mp (List.pairwise_append.mp asc).2.1).1 y hd)
end GM

/-! the set of pointers, the list of tours -/
namespace OwnG
open PySem L2 Evl Own GM GS
def keyP (x : Pp) : List Int := [(x.1 : Int), (x.2 : Int)]
theorem keyP_inj {x y : Pp} (h : keyP x = keyP y) : x = y := by
  injection h with h1 h2
  injection h2 with h2
  exact Prod.ext (Int.ofNat_inj.mp h1) (Int.ofNat_inj.mp h2)
theorem PV.key {K : PySem.W.Frag} {H : Hp} {p : Addr} {x : Pp} (h : PV H p x) : SqT K H p ((keyP x).map V.int) := st_of h
/-- the set's members: the keys of M, at pointers' cells -/
structure Mb (H : Hp) (L : Tps) (M : List Pp) : Prop where
  keys : (L.map fun q => q.2).Perm (M.map keyP)
  cells : ∀ q ∈ L, ∃ x, PV H q.1 x ∧ q.2 = keyP x
theorem Mb.sq {K : PySem.W.Frag} {H : Hp} {L : Tps} {M : List Pp} (m : Mb H L M) : ∀ q ∈ L, SqT K H q.1 (q.2.map V.int) := fun q hq => by
  obtain ⟨x, hx, e⟩ := m.cells q hq
  rw [e]
  exact hx.key
theorem Mb.mem {H : Hp} {L : Tps} {M : List Pp} (m : Mb H L M) {x : Pp} : keyP x ∈ L.map (fun q => q.2) ↔ x ∈ M := by
  rw [m.keys.mem_iff, List.mem_map]
  exact ⟨fun ⟨y, hy, e⟩ => keyP_inj e ▸ hy, fun h => ⟨x, h, rfl⟩⟩
theorem Mb.len {H : Hp} {L : Tps} {M : List Pp} (m : Mb H L M) : L.length = M.length := by
  have := m.keys.length_eq
  rw [List.length_map, List.length_map] at this
  exact this
theorem Mb.up {H H' : Hp} {L : Tps} {M : List Pp} (e : Ex H H') (m : Mb H L M) : Mb H' L M := ⟨m.keys, fun q hq => by
  obtain ⟨x, hx, z⟩ := m.cells q hq
  exact ⟨x, e _ _ hx, z⟩⟩
theorem Mb.kx {S : List Addr} {H H' : Hp} {L : Tps} {M : List Pp} (k : Kx S H H') (n : ∀ s ∈ S, ∀ xs, H s ≠ some (.tup xs)) (m : Mb H L M) : Mb H' L M := ⟨m.keys, fun q hq => by
  obtain ⟨x, hx, z⟩ := m.cells q hq
  exact ⟨x, k _ _ hx fun u => n _ u _ hx, z⟩⟩
theorem Mb.more {H : Hp} {L L2 : Tps} {M : List Pp} {b : Addr} {x : Pp} (m : Mb H L M) (hb : PV H b x) (p : L2.Perm ((b, keyP x) :: L)) : Mb H L2 (M ++ [x]) := by
  refine ⟨?_, fun q hq => ?_⟩
  · have h1 := p.map fun q => q.2
    rw [List.map_cons] at h1
    rw [List.map_append]
    exact h1.trans ((m.keys.cons _).trans (List.perm_append_singleton _ _).symm)
  · rcases List.mem_cons.mp (p.mem_iff.mp hq) with e | h
    · rw [e]
      exact ⟨x, hb, rfl⟩
    · exact m.cells q h
/-- the list of tours -/
structure Tl (H : Hp) (as : List Addr) (T : List (List Pp)) : Prop where
  len : as.length = T.length
  at_ : ∀ i a, as[i]? = some a → ∃ ps : List Addr, FzT H a (ps.map V.ref) ∧ Pts H ps (T.getD i [])
theorem Tl.nil {H : Hp} : Tl H [] [] := ⟨rfl, fun i a h => by cases h⟩
theorem Tl.up {H H' : Hp} {as : List Addr} {T : List (List Pp)} (e : Ex H H') (t : Tl H as T) : Tl H' as T := ⟨t.len, fun i a h => by
  obtain ⟨ps, h1, h2⟩ := t.at_ i a h
  exact ⟨ps, h1.ex e, h2.up e⟩⟩
theorem Pts.kx {S : List Addr} {H H' : Hp} {ps : List Addr} {l : List Pp} (k : Kx S H H') (n : ∀ s ∈ S, ∀ xs, H s ≠ some (.tup xs)) (h : Pts H ps l) : Pts H' ps l := ⟨h.len, fun i p hp => k _ _ (h.at_ i p hp) fun u => n _ u _ (h.at_ i p hp)⟩
theorem Tl.kx {S : List Addr} {H H' : Hp} {as : List Addr} {T : List (List Pp)} (k : Kx S H H') (n : ∀ s ∈ S, ∀ xs, H s ≠ some (.tup xs)) (n2 : ∀ s ∈ S, ∀ o x, H s ≠ some (.frz o x)) (t : Tl H as T) : Tl H' as T := ⟨t.len, fun i a h => by
  obtain ⟨ps, h1, h2⟩ := t.at_ i a h
  exact ⟨ps, fz_kx h1 k n2, h2.kx k n⟩⟩
theorem Tl.snoc {H : Hp} {as : List Addr} {T : List (List Pp)} {a : Addr} {ps : List Addr} {l : List Pp} (t : Tl H as T) (h1 : FzT H a (ps.map V.ref)) (h2 : Pts H ps l) : Tl H (as ++ [a]) (T ++ [l]) := by
  refine ⟨by rw [List.length_append, List.length_append, t.len]; rfl, fun i b hi => ?_⟩
  by_cases c : i < as.length
  · rw [List.getElem?_append_left c] at hi
    rw [getD_snoc_lt (by rw [← t.len]; exact c)]
    exact t.at_ i b hi
  · rw [List.getElem?_append_right (by omega)] at hi
    have e0 : i - as.length = 0 := by have := (List.getElem?_eq_some_iff.mp hi).1; simp at this; omega
    rw [e0] at hi
    cases hi
    have : i = T.length := by have := t.len; omega
    subst this
    rw [getD_snoc]
    exact ⟨ps, h1, h2⟩
section
variable {K : PySem.W.Frag} {P : Program} {w : World} {σ : L2.St} {H H' : Hp} {tx ty to te : TE} {D : Ends} {tz : TS} {a b : Addr} {k : List Int} {L : Tps}
theorem q_setT {i : Nat} (h : ∀ p, H p = none → tz D (σ.set i (some (.ref p))) (upd H p (SetTX P w p []))) : tSeq (tAsg (tCB (rSetT0 P w) tNil) (gName i)) tz D σ H := ⟨rfl, fun p hp => h p hp⟩
theorem ev_tin {neg : Bool} (hx : EvH tx σ H (fun v H1 => ∃ b, v = .ref b ∧ SqT K H1 b (k.map V.int))) (hy : Ev ty σ H (.ref a)) (hS : H a = some (SetTX P w a L)) (hL : ∀ q ∈ L, SqT K H q.1 (q.2.map V.int)) :
    Ev (tOp (rTIn neg K P w) tx ty) σ H (.bl (neg != decide (k ∈ L.map (fun q => q.2)))) := fun H1 e Q q =>
  hx H1 e _ fun v H2 e2 ⟨b, ev, hb⟩ => hy H2 (e.trans e2) _ fun H3 e3 => ⟨b, a, k, L, ev, rfl, ex_t e3 hb, ((e.trans e2).trans e3) _ _ hS, fun q hq => ex_t ((e.trans e2).trans e3) (hL q hq), q H3 (e2.trans e3)⟩
theorem s_tadd (ho : Ev to σ H (.ref a)) (he : Ev te σ H (.ref b)) (hS : H a = some (SetTX P w a L)) (hb : SqT K H b (k.map V.int)) (hL : ∀ q ∈ L, SqT K H q.1 (q.2.map V.int)) (cap : L.length + 1 ≤ 4000)
    (h : ∀ H1 L2, Ex H H1 → (k ∈ L.map (fun q => q.2) → L2 = L) → (k ∉ L.map (fun q => q.2) → L2.Perm ((b, k) :: L)) → D.nx σ (upd H1 a (SetTX P w a L2))) : tDrop (tTAdd K P w to (tCons te tNil)) D σ H :=
  ho H (Ex.refl H) _ fun H1 e1 => ⟨⟨a, L, rfl, e1 _ _ hS⟩, he H1 e1 _ fun H2 e2 => ⟨a, b, k, L, rfl, rfl, ex_t (e1.trans e2) hb, (e1.trans e2) _ _ hS, fun q hq => ex_t (e1.trans e2) (hL q hq), cap, fun L2 h1 h2 => h H2 L2 (e1.trans e2) h1 h2⟩⟩
end
end OwnG

/-! dicts keyed by pointers -/
namespace OwnG
open PySem L2 Evl Own GM GS
abbrev kP (x : Pp) : List Key := [kN x.1, kN x.2]
theorem kP_inj {x y : Pp} (h : kP x = kP y) : x = y := by
  injection h with h1 h2
  injection h2 with h2
  exact Prod.ext (kN_inj h1) (kN_inj h2)
def entP (f : Pp → V) (D : List Pp) : List (List Key × V) := D.map fun x => (kP x, f x)
def DP (H : Hp) (a : Addr) (D : List Pp) (f : Pp → V) : Prop := H a = some (.dT (entP f D))
theorem val_entP (f : Pp → V) (x : Pp) : ∀ D : List Pp, valV (entP f D) (kP x) = if x ∈ D then some (f x) else none
  | [] => by rw [if_neg (by simp)]; rfl
  | y :: D => by
    show valV ((kP y, f y) :: entP f D) (kP x) = _
    by_cases e : y = x
    · subst e
      rw [valV_pos rfl, if_pos (List.mem_cons_self ..)]
    · rw [valV_neg (fun z => e (kP_inj z)), val_entP f x D]
      by_cases m : x ∈ D
      · rw [if_pos m, if_pos (List.mem_cons_of_mem _ m)]
      · rw [if_neg m, if_neg fun z => (List.mem_cons.mp z).elim (fun q => e q.symm) m]
def pput (f : Pp → V) (x : Pp) (v : V) : Pp → V := fun y => if y = x then v else f y
theorem entP_put {f : Pp → V} {x : Pp} {v : V} {D : List Pp} (h : x ∉ D) : putK (entP f D) (kP x) v = entP (pput f x v) (D ++ [x]) := by
  rw [putK_new v (by rw [val_entP, if_neg h])]
  unfold entP
  rw [List.map_append]
  congr 1
  · refine List.map_congr_left fun y hy => ?_
    have : y ≠ x := fun e => h (e ▸ hy)
    unfold pput
    rw [if_neg this]
  · show [(kP x, v)] = [(kP x, pput f x v x)]
    unfold pput
    rw [if_pos rfl]
section
variable {K : PySem.W.Frag} {σ : L2.St} {H H' : Hp} {ta tb te tv td ty : TE} {v : V} {Dn : Ends} {tz : TS} {a b : Addr} {D : List Pp} {f : Pp → V} {x : Pp}
theorem DP.up (e : Ex H H') (h : DP H a D f) : DP H' a D f := e _ _ h
theorem pdget (h : DP H a D f) (hb : PV H b x) : DGet H a (.ref b) (if x ∈ D then some (f x) else none) := by
  rw [← val_entP]
  exact DGet.t (k := kP x) h hb
theorem et_pin (hy : EvH ty σ H (fun v H1 => ∃ b, v = .ref b ∧ PV H1 b x)) (hd : Ev td σ H (.ref a)) (h : DP H a D f) : EvT (tB (tDIn ty td)) σ H (decide (x ∈ D)) := fun H1 e Q q =>
  hy H1 e _ fun v H2 e2 ⟨b, ev, hb⟩ => hd H2 (e.trans e2) _ fun H3 e3 => by
    subst ev
    refine ⟨a, _, rfl, pdget (x := x) (h.up ((e.trans e2).trans e3)) (e3 _ _ hb), _, rfl, ?_⟩
    by_cases m : x ∈ D
    · rw [if_pos m]
      rw [decide_eq_true m] at q
      exact q H3 (e2.trans e3)
    · rw [if_neg m]
      rw [decide_eq_false m] at q
      exact q H3 (e2.trans e3)
theorem ev_pget (hd : Ev td σ H (.ref a)) (hy : EvH ty σ H (fun v H1 => ∃ b, v = .ref b ∧ PV H1 b x)) (h : DP H a D f) (m : x ∈ D) : Ev (tDGet td ty) σ H (f x) := fun H1 e Q q =>
  hd H1 e _ fun H2 e2 => hy H2 (e.trans e2) _ fun v H3 e3 ⟨b, ev, hb⟩ => ⟨a, f x, rfl, by
    have g := pdget (x := x) (h.up ((e.trans e2).trans e3)) hb
    rw [if_pos m] at g
    rw [ev]
    exact g, q H3 (e2.trans e3)⟩
theorem s_pput {R : V → Hp → Prop} (hv : EvH tv σ H R) (st : ∀ v H H', Ex H H' → R v H → R v H') (hd : Ev td σ H (.ref a)) (hy : EvH ty σ H (fun v H1 => ∃ b, v = .ref b ∧ PV H1 b x)) (h : DP H a D f) (m : x ∉ D) (hz : D.length < 100000)
    (k : ∀ v H1, Ex H H1 → R v H1 → Dn.nx σ (upd H1 a (.dT (entP (pput f x v) (D ++ [x]))))) : sDPut td ty tv Dn σ H :=
  hv H (Ex.refl H) _ fun v H1 e1 r => hd H1 e1 _ fun H2 e2 => hy H2 (e1.trans e2) _ fun w H3 e3 ⟨b, ev, hb⟩ => by
    subst ev
    refine ⟨a, _, rfl, DPut.t (k := kP x) (((e1.trans e2).trans e3) _ _ h) hb (by unfold entP; rw [List.length_map]; exact sz_lt hz), ?_⟩
    rw [entP_put m]
    exact k v H3 ((e1.trans e2).trans e3) (st v H1 H3 (e2.trans e3) r)
theorem q_dnewT {i : Nat} (k : ∀ p H1, H p = none → Ex H H1 → H1 p = some (.dT []) → tz Dn (σ.set i (some (.ref p))) H1) : tSeq (tAsg tDNewT (gName i)) tz Dn σ H := fun p hp => k p _ hp (Ex.new hp) upd_same
end
end OwnG

/-! sorted(..) and min(..) of tuples of numbers that stand in cells -/
namespace OwnG
open PySem PySem.Spec PyProof.Rows L2 Own SrtO Srt
theorem lex_selfF : ∀ l : List Int, HT.lexLt l l = false
  | [] => rfl
  | x :: l => by
    rw [HT.lexLt_cons, if_pos rfl]
    exact lex_selfF l
def rSortedTq (K : PySem.W.Frag) : List V → Hp → VK → Prop := fun vs H Q => ∃ (a : Addr) (ps : List Addr) (k : Addr → List Int), vs = [V.ref a] ∧ SqL K H a (ps.map V.ref) ∧ (∀ p ∈ ps, SqT K H p ((k p).map V.int) ∧ k p ≠ []) ∧
  ∀ (ps' : List Addr) (l : Addr), ps'.Perm ps → ps'.Pairwise (fun p q => HT.lexLt (k q) (k p) = false) → H l = none → Q (.ref l) (upd H l (.lst (ps'.map V.ref)))
def rMin0T (K : PySem.W.Frag) : List V → Hp → VK → Prop := fun vs H Q => ∃ (a p0 : Addr) (ps : List Addr) (k : Addr → List Int), vs = [V.ref a] ∧ SqL K H a ((p0 :: ps).map V.ref) ∧ (∀ p ∈ p0 :: ps, SqT K H p ((k p).map V.int)) ∧
  (∀ p ∈ ps, HT.lexLt (k p) (k p0) = false) ∧ Q (.ref p0) H
def rListOf (K : PySem.W.Frag) : List V → Hp → VK → Prop := fun xs H Q => ∃ p ys, xs = [.ref p] ∧ (SqL K H p ys ∨ SqT K H p ys) ∧ ∀ l, H l = none → Q (.ref l) (upd H l (.lst ys))
section
variable {X : Cx}
theorem call_listOf : CallR X (.type "list") (rListOf X.K) := call_list_of
theorem cr_sortedTq : CallR X (.builtin "sorted") (rSortedTq X.K) := by
  intro pins s σ H vs us Q I r h
  obtain ⟨a, ps, k, rfl, hs, hk, q⟩ := h
  obtain ⟨its, rv, hl, hz⟩ := I.list hs
  rw [Vals.ref1 r]
  have ei := vals_refs' rv
  have hz2 : its.length ≤ sizeLine := by rw [← rv.length]; exact hz
  have hT : ∀ v ∈ its, IsTs s.heap v (k (vAd v)) := fun v hv => by
    rw [ei] at hv
    obtain ⟨p, hp, rfl⟩ := List.mem_map.mp hv
    obtain ⟨h1, h2⟩ := hk p hp
    obtain ⟨ts, rt, ⟨o, ho, hc, n, hd⟩, _⟩ := I.tuple h1
    exact ⟨p, o, ts.toArray, n, rfl, ho, hc, hd, rt.ints, h2⟩
  refine sorted_ord (NtL.swo_lexL fun v => k (vAd v)) hl.isList hz2 (fun h2 h₁ a' ha kk => ?_) fun out h1 h2 => ?_
  · refine ts_sortable (s := { s with heap := h₁ }) (by omega) (fun v hm => (hT v hm).keeps fun b o e _ => (kk b o e).2) fun o e => ?_
    have e' : some o = some (seqObj "list" its.toArray 0) := e.symm.trans ha
    cases e'
    intro c
    exact absurd (Value.type.inj c) (by decide)
  · have pm : out.Perm its := h2.perm
    obtain ⟨ps', e2⟩ : ∃ ps' : List Addr, out = ps'.map Value.ref := by
      have hall : ∀ v ∈ out, ∃ p, v = Value.ref p := fun v hv => by
        have := pm.mem_iff.mp hv
        rw [ei] at this
        obtain ⟨p, _, e⟩ := List.mem_map.mp this
        exact ⟨p, e.symm⟩
      clear h1 h2 pm
      induction out with
      | nil => exact ⟨[], rfl⟩
      | cons v vs ih =>
        obtain ⟨p, rfl⟩ := hall v List.mem_cons_self
        obtain ⟨ps', e⟩ := ih fun y hy => hall y (List.mem_cons_of_mem _ hy)
        exact ⟨p :: ps', by rw [e]; rfl⟩
    have pm2 : ps'.Perm ps := by
      rw [e2, ei] at pm
      have := pm.map vAd
      rw [List.map_map, List.map_map] at this
      have i1 : ∀ l : List Addr, l.map (vAd ∘ Value.ref) = l := fun l => (List.map_congr_left fun _ _ => rfl).trans (List.map_id l)
      rw [i1, i1] at this
      exact this
    obtain ⟨ep, he'⟩ := sortedAll_at s.heap its out.toArray
    rw [e2] at h1
    have hlen : (ps'.map V.ref).length ≤ sizeLine := by
      rw [List.length_map, pm2.length_eq]
      rw [List.length_map] at hz
      exact hz
    exact ⟨.ref _, upd H (s.heap.objs.size + 1) (.lst (ps'.map V.ref)), I.laid (t' := s.toks) (fun _ _ => sortedAll_old) (Nat.le_succ _) ⟨hlen, out, ep, by rw [e2]; exact vals_of_refs ps', he'⟩, rfl, q _ _ pm2 (srt_map h1) (I.hok.fresh (Nat.le_succ _))⟩
theorem argBest_zero {bt : Nat → Nat → Bool} : ∀ {n : Nat}, (∀ i, i ≤ n → bt i 0 = false) → argBest bt n = 0
  | 0, _ => rfl
  | n + 1, h => by
    have ih := argBest_zero (bt := bt) (n := n) fun i hi => h i (by omega)
    show (if bt (n + 1) (argBest bt n) then n + 1 else argBest bt n) = 0
    rw [ih, h (n + 1) (Nat.le_refl _)]
    rfl
theorem cr_min0T (hc : X.calm = true) (hu : X.A.units + 64 < cLine) : CallR X (.builtin "min") (rMin0T X.K) := by
  intro pins s σ H vs us Q I r h
  obtain ⟨a, p0, ps, k, rfl, hs, hk, hlow, q⟩ := h
  obtain ⟨its, rv, hl, hz⟩ := I.list hs
  rw [Vals.ref1 r]
  have ei := vals_refs' rv
  have hlt : its.toArray.size = ps.length + 1 := by rw [List.size_toArray, ei, List.length_map]; rfl
  have at_ : ∀ (i : Nat) v, its.toArray[i]? = some v → ∃ p, (p0 :: ps)[i]? = some p ∧ v = .ref p := fun i v hv => by
    rw [← Array.getElem?_toList, ei, List.getElem?_map] at hv
    cases e : (p0 :: ps)[i]? with
    | none => rw [e] at hv; cases hv
    | some p => rw [e] at hv; exact ⟨p, rfl, (Option.some.inj hv).symm⟩
  refine call_min_walkH (PySem.W.iter_listW (A := X.A.in1) (I.ok.hd hc) hl.isList fun s₂ e W st hfp hw hkk => ?_)
  refine ⟨_, _, _, _, _, _, _, s.heap, (fun i j => HT.lexLt (k ((p0 :: ps).getD i 0)) (k ((p0 :: ps).getD j 0))), rfl, W, st, hfp, by omega, hw, hkk, fun i j vi vj s' Q' E' hkeep hi hj hq => ?_, fun v s' hP m => ?_⟩
  · obtain ⟨p, h1, rfl⟩ := at_ i vi hi
    obtain ⟨p', h1', rfl⟩ := at_ j vj hj
    obtain ⟨t1, r1, ⟨⟨cls, dd, data, sl⟩, ho, hc, n, hd⟩, _⟩ := I.tuple (hk p (List.mem_of_getElem? h1))
    obtain ⟨t2, r2, ⟨⟨cls2, dd2, data2, sl2⟩, ho2, hc2, n2, hd2⟩, _⟩ := I.tuple (hk p' (List.mem_of_getElem? h1'))
    simp only at hc hd hc2 hd2
    subst hc hd hc2 hd2
    have g1 : (p0 :: ps).getD i 0 = p := by rw [List.getD_eq_getElem?_getD, h1]; rfl
    have g2 : (p0 :: ps).getD j 0 = p' := by rw [List.getD_eq_getElem?_getD, h1']; rfl
    have hq : Q' (.bool (HT.lexLt (k ((p0 :: ps).getD i 0)) (k ((p0 :: ps).getD j 0)))) s' := hq
    rw [g1, g2] at hq
    have i1 : IntsAre t1.toArray.toList (k p) := r1.ints
    have i2 : IntsAre t2.toArray.toList (k p') := r2.ints
    exact richCompare_meets_room (op := .Lt) ⟨_, hkeep _ _ ho, rfl⟩ ⟨_, hkeep _ _ ho2, rfl⟩ PySem.F.slot_tuple_lt PySem.F.entry_tuple_lt (PySem.F.args_tuple_lt_2 _ _) (HT.tuple_lt_ints p p' t1.toArray t2.toArray n n2 dd dd2 sl sl2 (k p) (k p') i1 i2)
      ⟨hkeep _ _ ho, hkeep _ _ ho2, show Value.bool (HT.lexLt (k p) (k p')) ≠ Value.notImplemented ∧ Q' (.bool (HT.lexLt (k p) (k p'))) s' from ⟨(fun x => nomatch x), hq⟩⟩ (by have e : X.A.in1.units = X.A.units + 1 := rfl; omega)
  · obtain ⟨h', tk, rfl, hk'⟩ := PySem.W.moved_old e rfl m
    have ez : argBest (fun i j => HT.lexLt (k ((p0 :: ps).getD i 0)) (k ((p0 :: ps).getD j 0))) (its.toArray.size - 1) = 0 := argBest_zero fun i hi => by
      cases i with
      | zero => exact lex_selfF _
      | succ i =>
        have hi2 : i < ps.length := by omega
        show HT.lexLt (k (ps.getD i 0)) (k p0) = false
        rw [List.getD_eq_getElem?_getD, List.getElem?_eq_getElem hi2]
        exact hlow _ (List.getElem_mem hi2)
    rw [ez] at hP
    obtain ⟨p, h1, rfl⟩ := at_ 0 v hP
    cases h1
    exact ⟨.ref p0, H, I.kept hk', rfl, q⟩
end
end OwnG

/-! lists of pointers: sorted, compared -/
namespace OwnG
open PySem L2 Evl Own GM
theorem okD1.lst {k : Nat} {ds : List PyData} (h : ∀ d ∈ ds, okD1 k d) : okD1 (k + 1) (.list ds) := by
  have := okD1.tup h
  refine ⟨?_, ?_⟩
  · have a := this.1
    simp only [PyData.canLay0] at a ⊢
    exact a
  · have a := this.2
    simp only [PyData.depth] at a ⊢
    exact a
def ptsD (l : List Pp) : PyData := .list (l.map fun x => rowD [x.1, x.2])
theorem ptsD_ok (l : List Pp) : okD1 2 (ptsD l) := okD1.lst fun d hd => by
  obtain ⟨x, _, rfl⟩ := List.mem_map.mp hd
  exact rowD_ok _
theorem dp_pts {K : PySem.W.Frag} {H : Hp} {p : Addr} {ps : List Addr} {l : List Pp} (hp : SqL K H p (ps.map V.ref)) (h : Pts H ps l) : Dp K H (.ref p) (ptsD l) := by
  refine .lst hp (dpall_of (by rw [List.length_map, List.length_map, h.len]) fun i v d hv hd => ?_)
  rw [List.getElem?_map] at hv hd
  cases e : ps[i]? with
  | none => rw [e] at hv; cases hv
  | some a =>
    rw [e] at hv
    cases hv
    have hi : i < l.length := by rw [← h.len]; exact (List.getElem?_eq_some_iff.mp e).1
    rw [List.getElem?_eq_getElem hi] at hd
    cases hd
    have := h.at_ i a e
    rw [getD_eq hi] at this
    exact dp_row this.sq
/-- the numbers in a cell -/
def kOf (H : Hp) (a : Addr) : List Int := match H a with
  | some (.tup xs) => xs.filterMap fun v => match v with
    | .int z => some z
    | _ => none
  | _ => []
theorem kOf_pv {H : Hp} {a : Addr} {x : Pp} (h : PV H a x) : kOf H a = keyP x := by
  unfold kOf
  rw [h]
  rfl
theorem lex_tri : ∀ a b : List Int, HT.lexLt a b = false → HT.lexLt b a = false → a = b
  | [], [], _, _ => rfl
  | [], _ :: _, h, _ => by cases h
  | _ :: _, [], _, h => by cases h
  | x :: a, y :: b, h, k => by
    rw [HT.lexLt_cons] at h k
    by_cases e : x = y
    · subst e
      rw [if_pos rfl] at h k
      rw [lex_tri a b h k]
    · rw [if_neg e] at h
      rw [if_neg fun z => e z.symm] at k
      have h := of_decide_eq_false h
      have k := of_decide_eq_false k
      omega
/-- rows of pointers in the same order -/
theorem pts_sorted {H : Hp} {ps qs : List Addr} {l : List Pp} (h : Pts H ps l) (asc : ps.Pairwise fun p q => HT.lexLt (kOf H q) (kOf H p) = false) (pm : qs.Perm ps) (srt : qs.Pairwise fun p q => HT.lexLt (kOf H q) (kOf H p) = false) : Pts H qs l := by
  have e : qs.map (kOf H) = ps.map (kOf H) := by
    refine List.Perm.eq_of_pairwise (le := fun a b => HT.lexLt b a = false) (fun a b _ _ x y => (lex_tri b a x y).symm) (List.pairwise_map.mpr srt) (List.pairwise_map.mpr asc) (pm.map _)
  refine ⟨pm.length_eq.trans h.len, fun i q hq => ?_⟩
  have m := pm.mem_iff.mp (List.mem_of_getElem? hq)
  obtain ⟨j, hj⟩ := List.getElem?_of_mem m
  have vq := h.at_ j q hj
  have il := (List.getElem?_eq_some_iff.mp hq).1
  obtain ⟨p, hp⟩ : ∃ p, ps[i]? = some p := ⟨_, List.getElem?_eq_getElem (by rw [← pm.length_eq]; exact il)⟩
  have vp := h.at_ i p hp
  have e1 : (qs.map (kOf H))[i]? = (ps.map (kOf H))[i]? := by rw [e]
  rw [List.getElem?_map, List.getElem?_map, hq, hp] at e1
  have e2 : kOf H q = kOf H p := Option.some.inj e1
  rw [kOf_pv vq, kOf_pv vp] at e2
  rw [← keyP_inj e2]
  exact vq
section
variable {K : PySem.W.Frag} {σ : L2.St} {H : Hp} {ta tb te : TE}
theorem evH_ofLH {n : Nat} {R : Nat → V → Hp → Prop} (h : EvLH te σ H n R) : EvH te σ H (fun v H1 => ∃ p xs, v = .ref p ∧ H1 p = some (.lst xs) ∧ xs.length = n ∧ ∀ i x, xs[i]? = some x → R i x H1) := fun H1 e Q q => h H1 e Q fun xs p H2 _ e2 h2 l2 r2 => q _ H2 e2 ⟨p, xs, rfl, h2, l2, r2⟩
/-- a list of pointers out of its items -/
theorem pts_ofR {xs : List V} {l : List Pp} (hl : xs.length = l.length) (h : ∀ i x, xs[i]? = some x → ∃ p, x = .ref p ∧ PV H p (l.getD i (0, 0))) : ∃ ps : List Addr, xs = ps.map V.ref ∧ Pts H ps l := by
  have key : ∀ (xs : List V), (∀ x ∈ xs, ∃ p, x = V.ref p) → ∃ ps : List Addr, xs = ps.map V.ref := fun xs => by
    induction xs with
    | nil => exact fun _ => ⟨[], rfl⟩
    | cons x xs ih =>
      intro q
      obtain ⟨p, rfl⟩ := q x (List.mem_cons_self ..)
      obtain ⟨ps, rfl⟩ := ih fun y hy => q y (List.mem_cons_of_mem _ hy)
      exact ⟨p :: ps, rfl⟩
  obtain ⟨ps, rfl⟩ := key xs fun x hx => by
    obtain ⟨i, hi⟩ := List.getElem?_of_mem hx
    obtain ⟨p, e, _⟩ := h i x hi
    exact ⟨p, e⟩
  refine ⟨ps, rfl, by rw [← hl, List.length_map], fun i p hp => ?_⟩
  obtain ⟨q, e, v⟩ := h i (.ref p) (by rw [List.getElem?_map, hp]; rfl)
  cases e
  exact v
/-- xs != sorted(xs), xs in order -/
theorem et_neSorted {a : Addr} {ps : List Addr} {l : List Pp} (ha : Ev ta σ H (.ref a)) (hb : Ev tb σ H (.ref a)) (hx : SqL K H a (ps.map V.ref)) (h : Pts H ps l) (asc : ps.Pairwise fun p q => HT.lexLt (kOf H q) (kOf H p) = false) : EvT (tTest (tOp (rNeD K) ta (tCB (rSortedTq K) (tCons tb tNil)))) σ H false := et_test fun H1 e Q q =>
  ha H1 e _ fun H2 e2 => hb H2 (e.trans e2) _ fun H3 e3 => by
    have e13 := (e.trans e2).trans e3
    have h3 := h.up e13
    have kk : ∀ p ∈ ps, kOf H3 p = kOf H p := fun p hp => by
      obtain ⟨i, hi⟩ := List.getElem?_of_mem hp
      rw [kOf_pv (h.at_ i p hi), kOf_pv (h3.at_ i p hi)]
    have asc3 : ps.Pairwise fun p q => HT.lexLt (kOf H3 q) (kOf H3 p) = false := asc.imp_of_mem fun {p q} hp hq z => by rw [kk p hp, kk q hq]; exact z
    refine ⟨a, ps, kOf H3, rfl, ex_l e13 hx, fun p hp => ?_, fun qs b pm srt hb => ?_⟩
    · obtain ⟨i, hi⟩ := List.getElem?_of_mem hp
      have v := h3.at_ i p hi
      rw [kOf_pv v]
      exact ⟨v.key, by unfold keyP; exact List.cons_ne_nil _ _⟩
    · have e4 : Ex H3 (upd H3 b (.lst (qs.map V.ref))) := Ex.new hb
      exact ⟨ptsD l, ptsD l, dp_pts (ex_l (e13.trans e4) hx) (h3.up e4), dp_pts (sq_of upd_same) ((pts_sorted h3 asc3 pm srt).up e4), (ptsD_ok l).shaped (by decide), (ptsD_ok l).shaped (by decide), by
        rw [SeqAt.eqv_refl _ (ptsD_ok l).1]
        exact q _ ((e2.trans e3).trans e4)⟩
theorem et_nePts {a : Addr} {ps : List Addr} {l : List Pp} (ha : Ev ta σ H (.ref a)) (hb : EvH tb σ H (fun v H1 => ∃ b qs, v = .ref b ∧ SqL K H1 b (qs.map V.ref) ∧ Pts H1 qs l)) (hx : SqL K H a (ps.map V.ref)) (h : Pts H ps l) : EvT (tTest (tOp (rNeD K) ta tb)) σ H false := et_test fun H1 e Q q =>
  ha H1 e _ fun H2 e2 => hb H2 (e.trans e2) _ fun v H3 e3 ⟨b, qs, ev, h1, h2⟩ => by
    subst ev
    have e13 := (e.trans e2).trans e3
    exact ⟨ptsD l, ptsD l, dp_pts (ex_l e13 hx) (h.up e13), dp_pts h1 h2, (ptsD_ok l).shaped (by decide), (ptsD_ok l).shaped (by decide), by
      rw [SeqAt.eqv_refl _ (ptsD_ok l).1]
      exact q _ (e2.trans e3)⟩
/-- min(list(t)), the first the least -/
theorem evH_minT {a p0 : Addr} {ps : List Addr} {x : Pp} {l : List Pp} (ht : EvH te σ H (TpV K ((p0 :: ps).map V.ref))) (h : Pts H (p0 :: ps) (x :: l)) (low : ∀ y ∈ l, HT.lexLt (keyP y) (keyP x) = false) : EvH (tCB (rMin0T K) (tCons (tCB (rListOf K) (tCons te tNil)) tNil)) σ H (fun v H1 => v = .ref p0) := fun H1 e Q q =>
  ht H1 e _ fun v H2 e2 ⟨t, ev, hT⟩ => ⟨t, (p0 :: ps).map V.ref, by rw [ev], .inr hT, fun b hb => by
    have e4 : Ex H2 (upd H2 b (.lst ((p0 :: ps).map V.ref))) := Ex.new hb
    have h3 := h.up ((e.trans e2).trans e4)
    refine ⟨b, p0, ps, kOf (upd H2 b (.lst ((p0 :: ps).map V.ref))), rfl, sq_of upd_same, fun p hp => ?_, fun p hp => ?_, q _ _ (e2.trans e4) rfl⟩
    · obtain ⟨i, hi⟩ := List.getElem?_of_mem hp
      have v := h3.at_ i p hi
      rw [kOf_pv v]
      exact v.key
    · obtain ⟨i, hi⟩ := List.getElem?_of_mem hp
      have v := h3.at_ (i + 1) p hi
      have v0 := h3.at_ 0 p0 rfl
      rw [kOf_pv v, kOf_pv v0]
      have il : i < l.length := by
        have := (List.getElem?_eq_some_iff.mp hi).1
        have := h.len
        simp at this
        omega
      show HT.lexLt (keyP (l.getD i (0, 0))) (keyP x) = false
      exact low _ (by rw [getD_eq il]; exact List.getElem_mem il)⟩
end
end OwnG

/-! None in a list of lists -/
namespace OwnG
open PySem PySem.Spec PyProof.Rows L2 Own
def rNoneIn (K : PySem.W.Frag) : R2 := fun x y H Q => ∃ p xs, x = .non ∧ y = .ref p ∧ SqL K H p xs ∧ (∀ v ∈ xs, ∃ (a : Addr) (ys : List V), v = .ref a ∧ SqL K H a ys) ∧ Q (.bl false) H
section
variable {X : Cx}
theorem vals_mem {xs : List V} {us : List Value} (r : Vals xs us) {u : Value} (h : u ∈ us) : ∃ v ∈ xs, RelV v u := by
  induction r with
  | nil => cases h
  | cons a r ih =>
    rcases List.mem_cons.mp h with e | h
    · subst e
      exact ⟨_, List.mem_cons_self .., a⟩
    · obtain ⟨v, h1, h2⟩ := ih h
      exact ⟨v, List.mem_cons_of_mem _ h1, h2⟩
theorem op_noneIn (hu : X.A.units + 64 < cLine) : OpR X (compareOp .In) (rNoneIn X.K) := by
  intro pins s σ H x y v u Q I rx ry h
  obtain ⟨p, xs, rfl, rfl, hq, hx, q⟩ := h
  cases ry
  cases rx
  obtain ⟨its, r, pl, hz⟩ := I.list hq
  refine SeqAt.in_listAt (fun _ => false) pl.isList (fun w hw => ?_) ⟨.bl _, H, I, rfl, ?_⟩
  · obtain ⟨b, hb, rb⟩ := vals_mem r (by simpa using hw)
    obtain ⟨a, ys, rfl, ha⟩ := hx b hb
    cases rb
    obtain ⟨its2, _, pl2, _⟩ := I.list ha
    exact SeqAt.EqAt.list_none pl2.isList (by have e : X.A.in1.units = X.A.units + 1 := rfl; omega)
  · have : its.toArray.any (fun _ => false) = false := by simp
    rw [this]
    exact q
end
end OwnG

/-! super().__init__(e) in the __init__ of an own error over ValueError -/
namespace OwnE
open PySem PySem.W PySem.Calls PyProof.Rows PySem.Spec L2 NdefX
section
variable {prog : Program} {w : World} {A : Around} {E : Value → Shared → Prop} {h : Heap} {g : Array GenState} {d : Drawn} {t : Nat} {os : OsState}
variable {nm q : Str} {C N : Addr} {bs bm : List Value} {hdct : Bool} {sn : List Str} {sub : List Value} {ab : Bool} {col : Option Bool} {dd : Option Addr} {k0 k1 k2 k3 k5 : Option Value}
theorem call_mw {u e t0 : Addr} {rest : List Value} {Q : Value → Shared → Prop}
    (hC : h.get? C = some (excClassObj nm q C N bs bm hdct sn sub ab col dd k0 k1 k2 k3 k5 "ValueError.__new__")) (he : h.get? e = some (HandSPX.excO C t0)) (hu : h.get? u = some (kxs_mw "ValueError.__init__" e)) (hrest : rest.length ≤ sizeLine)
    (hq : ∀ h' t1, (∀ b o, b ≠ e → h.get? b = some o → h'.get? b = some o) → h'.get? e = some (HandSPX.excO C t1) → Q .none ⟨h', g, d, t, os⟩) :
    wpAny (model prog w) A (call (.ref u) rest) Q E ⟨h, g, d, t, os⟩ := by
  refine wpAny_call (codeAny_of_tree ?_)
  show wpAny _ A.in1 (callAny (.ref u) ⟨rest, []⟩) _ _ _
  simp only [callAny]
  refine wpAny_bind (wpAny_load hu ?_)
  simp only [kxs_mw, show (Value.type "method-wrapper" == Value.type "method" || Value.type "method-wrapper" == Value.type "builtin_function_or_method" || Value.type "method-wrapper" == Value.type "method-wrapper") = true by decide, if_true]
  refine W.KFB.if_so (by decide) ?_
  refine wpAny_bind (ESX.check_bound F.excBase_ValueError hC he rfl ?_)
  refine wpAny_bind (wpAny_pure (wpAny_pure ?_))
  refine ⟨Code.quiet_builtin _ (by decide +kernel), codeAny_builtin F.excBase_ValueError.initEntry ?_⟩
  rw [Around.under_plainId F.excBase_ValueError.init.plain _]
  wp_walk
  refine hq _ h.objs.size (fun b o hb ho => ?_) ?_
  · rw [Heap.get?_update_other _ _ (Ne.symm hb)]
    exact Heap.get?_push_of_some _ ho
  · rw [Heap.get?_update_self _ (Heap.get?_push_of_some _ he) rfl]
    rfl
end
/-- what the written part says of an own error, of the cell and the code of its __init__ -/
structure SupC (P : Program) (K : Frag) (C cc cda : Addr) : Prop where
  oex : OexC K C
  cell : ∃ cl cld csl, K.lookup cc = some ⟨cl, cld, .cell (some (.ref C)), csl⟩
  opq : nsIn K cStatics "thirdparty.any" = some none
  init : ks_superIn K C C "__init__" = some (some (.builtin "ValueError.__init__"))
  sub : mroIn K C (.ref C) = some true
  isV : mroIn K C (.type "ValueError") = some true
  code : ∃ ccl cdd vs ccs file tf, K.lookup cda = some ⟨ccl, cdd, .fields vs, ccs⟩ ∧ vs[2]? = some (.str file tf) ∧ ((P.main.file : Str) == file) = true
section
variable {CX : CXT} {P : Program} {w : World} {K : Frag} {mg : Str → Option Value} {base : Heap} {k : Nat} {f cc cda C : Addr} {name qual : Str} {params : Arguments} {rest : List Stmt} {scope : Scope} {dV kV doc pm ct oc : Value} {an od : Option Addr} {osl : Array (Option Value)} {N ps : List Str} {sp : Sp} {e : Expr} {p0 p1 p2 p3 p4 : Pos} {ar : Arg}
abbrev stS (e : Expr) (p0 p1 p2 p3 p4 : Pos) : Stmt := .Expr (.Call (.Attribute (.Call (.Name "super" p0) [] [] p1) "__init__" p2) [e] [] p3) p4
theorem fnE_of (lk : K.lookup f = some ⟨oc, od, .func (fnX name qual params (stS e p0 p1 p2 p3 p4 :: rest) scope [("__class__", cc)] dV kV doc pm an (.ref cda) ct), osl⟩) (hcd : codeIn K (.ref cda) qual = true)
    (S : NScope N ps ["__class__"] scope) (FC : SupC P K C cc cda) (hp : (params.posonlyargs ++ params.args).head? = some ar) (har : N[0]? = some ar.arg) (hp0 : ps[0]? = some ar.arg) (hsup : scope.names.lookup ("super" : Str) = some .globalImplicit)
    (htop : (P.main.scope.names.lookup ("super" : Str)).isSome = false) (hmg : mg "super" = none) (hboot : bootBuiltins "super" = some (.type "super"))
    (hev : ∃ pl : Env → Sem Bool, ∀ env, eval (.Call (.Attribute (.Call (.Name "super" p0) [] [] p1) "__init__" p2) [e] [] p3) env = (do
      let ov ← attributeBase (.Call (.Name "super" p0) [] [] p1) "__init__" env (eval (.Call (.Name "super" p0) [] [] p1) env)
      standAt p2.atName
      let (f, first) ← holding [ov] (getMethod ov "__init__" (pl env))
      callWith p3 f first (backTo p3 (starEach [e] env)) []))
    (hst : ∀ env, starEach [e] env = [(false, eval e env)])
    (len : ∀ vs H Q E, sp vs H Q E → vs.length = ps.length)
    (hbody : ∀ (A : Around) (outer : List Env) (s : Shared) (H : Hp) (vs : List V) (Q : VK) (E : XK), Room k (A.deeper (envF ⟨name, qual, params, stS e p0 p1 p2 p3 p4 :: rest, scope, [("__class__", cc)], cda⟩ f s.heap.objs.size)) → sp vs H Q E →
      ∃ (ta : TA) (tr : TS) (a : Addr), PA (ncx CX P w K mg base N ⟨name, qual, params, stS e p0 p1 p2 p3 p4 :: rest, scope, [("__class__", cc)], cda⟩ f A outer s H E) [e] ta ∧ PSs (ncx CX P w K mg base N ⟨name, qual, params, stS e p0 p1 p2 p3 p4 :: rest, scope, [("__class__", cc)], cda⟩ f A outer s H E) rest tr ∧
        vs[0]? = some (.ref a) ∧ H a = some (exo a C none) ∧ ta (startF N vs [none]) H fun us H1 => us.length ≤ 1000 ∧ H1 a = some (exo a C none) ∧ tr { nx := fun _ H' => Q .non H', rt := Q } (startF N vs [none]) H1) :
    FnOk P w K mg base CX (k + 1) f (fnX name qual params (stS e p0 p1 p2 p3 p4 :: rest) scope [("__class__", cc)] dV kV doc pm an (.ref cda) ct) ps sp := by
  refine ⟨len, fun A outer s H args us vs Q E hr e0 hb r hsp => ?_⟩
  have hl := len _ _ _ _ hsp
  have KX : K.In s.heap := e0.mod.kin.keeps fun b o e => (e0.bs b o e).1
  have lim : s.heap.NoLimit := e0.mod.nolimit.keeps fun b o e => (e0.bs b o e).1
  obtain ⟨cl, cld, csl, hcc⟩ := FC.cell
  have Cl : CellsAt [("__class__", cc)] ["__class__"] [none] s.heap H := by
    have one : ∀ {y : Str} {c : Addr}, ([("__class__", cc)] : List (Str × Addr)).lookup y = some c → y = "__class__" ∧ c = cc := fun {y c} z => by
      rw [List.lookup_cons] at z
      by_cases q : y = ("__class__" : Str)
      · subst q
        rw [beq_self_eq_true] at z
        exact ⟨rfl, (Option.some.inj z).symm⟩
      · rw [beq_false_of_ne q] at z
        cases z
    refine ⟨rfl, fun y c z => ?_, fun x y c z1 z2 => (one z1).1.trans (one z2).1.symm, fun i y z => ?_⟩
    · rw [(one z).2]
      exact ⟨(e0.bs _ _ (e0.mod.kin _ _ hcc)).2, some (.ref C), _, KX _ _ hcc, rfl⟩
    · cases i with
      | zero =>
        cases z
        exact ⟨cc, rfl, fun v z => by cases z⟩
      | succ i => cases z
  refine codeAny_call_function hr.depth (KX _ _ lk) rfl S.co S.gen rfl (codeRec_of KX hcd) (hb _ _ _ _ ?_)
  refine wpAny_newFunctionEnv S.nocell (fun ⟨n, _⟩ hy => S.par n (List.of_mem_zip hy).1) (fun h₁ hns hsb => ⟨lim.fresh _ hsb, ?_⟩) S.kind
  have kp : ∀ b o, s.heap.get? b = some o → h₁.get? b = some o := fun b o e => hsb.extBut b o (Nat.ne_of_lt (Heap.lt_size e)) (Heap.get?_push_of_some _ e)
  show codeAny _ _ (.func (stS e p0 p1 p2 p3 p4 :: rest) (envF ⟨name, qual, params, stS e p0 p1 p2 p3 p4 :: rest, scope, [("__class__", cc)], cda⟩ f s.heap.objs.size)) _ _
  refine ks_codeAny_funcAt ?_
  obtain ⟨ta, tr, a, ha, hr2, hv0, hea, ht⟩ := hbody A outer s H vs Q E (hr.deeper _) hsp
  have I : Inv (ncx CX P w K mg base N ⟨name, qual, params, stS e p0 p1 p2 p3 p4 :: rest, scope, [("__class__", cc)], cda⟩ f A outer s H E) [] (startF N vs [none]) H { s with heap := h₁, toks := s.toks + (ps.zip us).length } := inv_startN S hr.hd e0 hl r Cl hns kp
  have hsl : (startF N vs [none])[0]? = some (some (.ref a)) := by
    have : 0 < vs.length := (List.getElem?_eq_some_iff.mp hv0).1
    unfold startF
    rw [List.getElem?_append_left (by simpa using this), List.getElem?_map, hv0]
    rfl
  clear hns hsb kp
  generalize h₁ = hp1 at I
  generalize s.toks + (ps.zip us).length = tk at I
  have fin : ∀ {σ' : L2.St} {H' : Hp} {v : V} {u : Value} {s' : Shared}, Inv (ncx CX P w K mg base N ⟨name, qual, params, stS e p0 p1 p2 p3 p4 :: rest, scope, [("__class__", cc)], cda⟩ f A outer s H E) [] σ' H' s' → L2.RelV v u → Q v H' → CE outer P w H s Q u s' :=
    fun {σ' H' v u s'} J rv q => ⟨v, H', J.os, J.bare, J.base, J.hok, rv, q⟩
  have fcls : scope.names.lookup ("__class__" : Str) = some .free := S.frk _ (by simp)
  obtain ⟨ccl, cdd, cvs, ccs, file, tf, hco, hv2, hfile⟩ := FC.code
  obtain ⟨nm, q, N', bs, bm, sn, sub, ab, col, dd, k0, k1, k2, k3, k5, hC, hbm⟩ := FC.oex.cls
  obtain ⟨mb, hb1, hb2⟩ := I.mod.blt
  obtain ⟨pl, hev⟩ := hev
  refine ks_wpAt_execs_cons (ks_wpAt_Expr_any (hi := I.quiet) (hs := rfl) (ks_wpAt_MethodCall (he := hev _) (ks_wpAt_super_base (f := f) (cc := cda) (file := file) (tf := tf) (vs := cvs) hsup fcls (by decide) rfl (I.kIn _ _ lk) rfl hp rfl (I.kIn _ _ hco) rfl hv2 hfile htop ?_)))
  refine ks_loadName_global S.kind hsup (Calls.loadGlobal_builtin (I.mod.glob.keeps I.bk) hmg (hb1.keeps I.bk) ((hb2 _ (by decide)).trans hboot) ⟨rfl, ?_⟩)
  refine wpAny_loadName_free (c := cc) (v := .ref C) S.kind fcls rfl ⟨_, I.kIn _ _ hcc, rfl⟩ ?_
  obtain ⟨m, hm1, hm2⟩ := I.loc
  obtain ⟨u0, hu0, hlook⟩ := hm2 0 ar.arg (.ref a) har hsl (.inl (S.par _ (List.mem_of_getElem? hp0)))
  obtain rfl : u0 = Value.ref a := hu0
  have hml : m ar.arg = some (.ref a) := by
    rcases hlook with z | ⟨z, _⟩
    · exact z.2
    · exfalso
      have zz : scope.names.lookup ar.arg = some .cell ∨ scope.names.lookup ar.arg = some .free := z
      rw [S.par _ (List.mem_of_getElem? hp0)] at zz
      rcases zz with zz | zz <;> cases zz
  refine wpAny_loadName_local (m := m) S.kind (S.par _ (List.mem_of_getElem? hp0)) hm1 hml ?_
  refine ks_wpAny_isType_cls (I.kIn _ _ hC) rfl ⟨rfl, ?_⟩
  obtain ⟨t1, ho⟩ := exo_at I.hok hea
  have hsubL : Looks (model P w) hp1 (isSubtype (.ref C) (.ref C)) true := looks_mroIn I.kIn FC.sub
  refine ks_wpAny_call_super (I.kIn _ _ hC) rfl ho rfl (fun c z => by cases z) hsubL fun h2 hso k2 => ?_
  have I2 := I.kept (t' := tk) (h' := h2) k2
  have ho2 := k2 _ _ ho
  have IA : InstAt h2 a (HandSPX.excO C t1) C none := ⟨ho2, rfl, rfl, trivial⟩
  obtain ⟨cd, hcd⟩ : ∃ cd, clsIn K C = some cd := by
    unfold clsIn
    rw [hC]
    exact ⟨_, rfl⟩
  have him : alongIn K "__init__" ((cd.mro.dropWhile (· != .ref C)).drop 1) = some (some (.builtin "ValueError.__init__")) := by
    have z := FC.init
    unfold ks_superIn at z
    rw [hcd] at z
    exact z
  refine kxs_getMethod kxs_ValueError hso (looks_opaque I2.kIn FC.opq) (l₀ := cd.mro) (fun A Q E s k q => wpAny_bind ((looks_clsIn I2.kIn hcd) A _ E s k (wpAny_pure q))) rfl I2.kIn him (IA.type.andThen (looks_mroIn I2.kIn FC.isV)) (ks_ne I2.kIn IA hcd) (by decide) ?_
  have k3 : ∀ b o, h2.get? b = some o → (h2.push (kxs_mw "ValueError.__init__" a)).get? b = some o := fun b o z => Heap.get?_push_of_some _ z
  have I3 := I2.kept (t' := tk + 1) k3
  have I4 : Inv (ncx CX P w K mg base N ⟨name, qual, params, stS e p0 p1 p2 p3 p4 :: rest, scope, [("__class__", cc)], cda⟩ f A outer s H E) [(h2.objs.size, kxs_mw "ValueError.__init__" a)] (startF N vs [none]) H { s with heap := h2.push (kxs_mw "ValueError.__init__" a), toks := tk + 1 } := by
    refine I3.pins_of fun p hp => ?_
    obtain rfl : p = (h2.objs.size, kxs_mw "ValueError.__init__" a) := by simpa using hp
    refine ⟨Heap.get?_push_size _ rfl, I2.hok.fresh (Nat.le_refl _), fun z => ?_, fun z => ?_, fun v z => by cases z⟩
    · exact absurd I2.lt (by rw [show h2.objs.size = _ from z]; exact Nat.lt_irrefl _)
    · exact I2.nofs (Nat.le_refl _) z
  have key : wpAny (model P w) (A.deeper (envF ⟨name, qual, params, stS e p0 p1 p2 p3 p4 :: rest, scope, [("__class__", cc)], cda⟩ f s.heap.objs.size)) (callWith p3 (.ref h2.objs.size) [] (backTo p3 (starEach [e] (envF ⟨name, qual, params, stS e p0 p1 p2 p3 p4 :: rest, scope, [("__class__", cc)], cda⟩ f s.heap.objs.size))) [])
      (fun _ s1 => ∃ H1, Inv (ncx CX P w K mg base N ⟨name, qual, params, stS e p0 p1 p2 p3 p4 :: rest, scope, [("__class__", cc)], cda⟩ f A outer s H E) [(h2.objs.size, kxs_mw "ValueError.__init__" a)] (startF N vs [none]) H1 s1 ∧ tr { nx := fun _ H' => Q .non H', rt := Q } (startF N vs [none]) H1)
      (ncx CX P w K mg base N ⟨name, qual, params, stS e p0 p1 p2 p3 p4 :: rest, scope, [("__class__", cc)], cda⟩ f A outer s H E).xe { s with heap := h2.push (kxs_mw "ValueError.__init__" a), toks := tk + 1 } := by
    have ra := ha.run p3 _ _ _ _ _ I4 ht
    have hst' := hst (envF ⟨name, qual, params, stS e p0 p1 p2 p3 p4 :: rest, scope, [("__class__", cc)], cda⟩ f s.heap.objs.size)
    change wpAny _ _ (spliced (backTo p3 (starEach [e] (envF ⟨name, qual, params, stS e p0 p1 p2 p3 p4 :: rest, scope, [("__class__", cc)], cda⟩ f s.heap.objs.size)))) _ _ _ at ra
    rw [hst'] at ra ⊢
    refine kxs_callWith (i := "ValueError.__init__") (x := a) rfl (evalArgs_plain (wpAny_mono ra (fun us1 s1 hz => ?_) fun e s' hs => hs))
    obtain ⟨vs1, H1, I5, r5, hl5, hea5, q5⟩ := hz
    obtain ⟨hp5, g5, d5, t5, os5⟩ := s1
    have pn := (I5.pin _ (List.mem_append_right _ (List.mem_singleton_self _))).1
    refine ⟨pn, ?_⟩
    obtain ⟨t6, ho6⟩ := exo_at I5.hok hea5
    have hlen : us1.length ≤ sizeLine := by
      rw [← Paired.length r5, sizeLine_eq]
      omega
    refine call_mw (I5.kIn _ _ hC) ho6 pn hlen fun h' t7 k7 hx7 => ?_
    have J := I5.write (t' := t5) (x := a) (e := a) (o := exo a C none) (by rw [hea5]; exact True.intro) (.inl rfl) k7 ⟨_, hx7⟩ (exo_ok hx7)
    have eu : upd H1 a (exo a C none) = H1 := by
      funext b
      by_cases hb : b = a
      · rw [hb, upd_same, hea5]
      · rw [upd_ne hb]
    rw [eu] at J
    exact ⟨H1, J, q5⟩
  refine wpAny_mono key (fun v s1 hz => ?_) fun e s' hs => hs
  obtain ⟨H1, I5, q5⟩ := hz
  refine wpAt_of_wpAny (wpAny_mono (hr2.run [] s1 _ H1 _ (I5.pins_of fun p hp => I5.pin p (by simpa using hp)) q5) (fun fl s' hs => ?_) fun e s' hs => hs)
  cases fl with
  | ret u =>
    obtain ⟨v, σ', H', J, rv, q⟩ := hs
    exact fin J rv q
  | next =>
    obtain ⟨σ', H', J, q⟩ := hs
    exact fin (v := V.non) (u := Value.none) J rfl q
  | brk =>
    obtain ⟨_, _, _, q⟩ := hs
    exact False.elim q
  | cont =>
    obtain ⟨_, _, _, q⟩ := hs
    exact False.elim q
end
end OwnE

/-! own rules for exceptions: isinstance of a caught error that has a dict; several except clauses with names; a class made in a try's body -/
namespace PySem.W
open PySem PySem.Spec PySem.Calls PyProof.Rows
section
variable {prog : Program} {w : World} {A : Around} {E : Value → Shared → Prop} {s : Shared} {K : Frag} {x D : Addr} {ox : Obj} {od : Option Obj}
theorem findObj_dataD {C : Addr} {od : Option Obj} {name : Str} {a g : Value} (hc : (clsIn K C).isSome = true) (ha : findIn K (.ref C) name = some (some a)) (hg : specialIn K a "__get__" = some (some g)) (ht : takesIn K a = some true) : findObj K C od name = some (.bind g a) := by
  obtain ⟨cd, hc⟩ := Option.isSome_iff_exists.mp hc
  unfold findObj
  rw [hc, Option.bind_some, ha, Option.bind_some]
  simp [hg, ht]
theorem kin_classD {Q : Option Value → Shared → Prop} (C : L2.ExcC K D)
    (X : K.In s.heap) (I : InstAt s.heap x ox D od) (h : Q (some (.ref D)) { s with toks := s.toks + 1 }) : wpAny (model prog w) A (getAttr? (.ref x) "__class__") Q E s := by
  obtain ⟨hga, hgt, hsub, hdct, ha, hn, htk, hm⟩ := C
  have hf : findObj K D od "__class__" = some (.bind (.builtin "getset_descriptor.__get__") (.builtin "object.__class__")) := findObj_dataD (by obtain ⟨cd, hc, _⟩ := any_some hdct; rw [hc]; rfl) ha hn htk
  obtain ⟨hp, g, d, t, os⟩ := s
  have L0 := I.type (M := model prog w)
  have L1 := looks_findIn (M := model prog w) X hga
  have L2 := looks_findIn (M := model prog w) X hgt
  have L3 := looks_find (M := model prog w) X I hf
  have sub : Looks (model prog w) hp (isInstance (.ref x) (.type "BaseException")) true := L0.andThen (looks_subIn X hsub)
  have hx0 : (false && onTheHeap (Value.builtin "BaseException.__getattribute__")) = false := rfl
  have hx2 : (Value.builtin "BaseException.__getattribute__" == Value.builtin "object.__getattribute__") = false := by decide +kernel
  have hx1 : (onTheHeap (Value.ref D) && Value.builtin "BaseException.__getattribute__" == Value.builtin "object.__getattribute__") = false := by rw [hx2]; rfl
  unfold getAttr? getAttrBy? getAttrBy
  refine wpAny_bind (wpAny_mkText (wpAny_bind (wpAny_attempt (wpAny_holding (wpAny_bind (L0.at (wpAny_bind (L1.at ?_))))))))
  show wpAny _ _ (if (onTheHeap (Value.ref D) && Value.builtin "BaseException.__getattribute__" == Value.builtin "object.__getattribute__") = true then _ else _) _ _ _
  rw [hx1, if_neg Bool.false_ne_true]
  unfold getAttrByItsOwn hookBefore
  refine wpAny_bind ?_
  rw [if_pos (show onTheHeap (Value.ref D) = true from rfl)]
  refine L2.at ?_
  refine wpAny_bind (wpAny_attempt (wpAny_holding ?_))
  unfold callGetattribute
  rw [hx0, if_neg Bool.false_ne_true]
  unfold boundAndCalled
  rw [PySem.F.excAttr_ValueError.ga.bind (.ref x)]
  refine wpAny_bind (wpAny_pure ?_)
  show wpAny _ _ (call (.builtin "BaseException.__getattribute__") [.ref x, .str "__class__" t]) _ _ _
  refine wpAny_call (codeAny_call_builtin PySem.F.excAttr_ValueError.ga.plain PySem.F.entry_bexc_ga ?_)
  refine @check_slot (model prog w) _ _ ⟨hp, g, d, t + 1, os⟩ "BaseException.__getattribute__" "BaseException" "__getattribute__" (.ref x) [.str "__class__" t] [] _ (by decide +kernel) (by decide +kernel) sub (PySem.F.args_bexc_ga (.ref x) (.str "__class__" t)) ?_
  unfold Builtin.«object.__getattribute__»
  refine wpAny_bind (wpAny_of_eq (a := ((Value.ref x : Value), [Value.str "__class__" t])) (by first | rfl | (simp only [slotArgs]; rfl)) ?_)
  refine wpAny_bind (wpAny_pure (wpAny_bind (L0.at (wpAny_bind (L3.at ?_)))))
  show wpAny _ _ (holding [Value.builtin "object.__class__"] (call (.builtin "getset_descriptor.__get__") [.builtin "object.__class__", .ref x, .ref D]) >>= ret) _ _ _
  refine wpAny_bind (wpAny_holding (wpAny_call (class_get (s := ⟨hp, g, d, t + 1, os⟩) (ox := ox) (od := od) X I hm ?_)))
  refine wpAny_pure ?_
  show wpAny _ _ (handedOut (.ref D)) _ _ _
  rw [handedOut_of (v := .ref D) rfl]
  first
    | exact wpAny_pure (wpAny_pure h)
    | exact wpAny_pure h
    | exact wpAny_pure (wpAny_bind (wpAny_pure (wpAny_pure h)))
theorem kitx_excD (C : L2.ExcC K D) : KitX K (.ref x) (.ref D) (fun h => ∃ ox od, InstAt h x ox D od) where
  ty := fun _ _ _ ⟨_, _, I⟩ => I.type
  it := fun _ _ X _ => by
    obtain ⟨cdD, hcD, _⟩ := any_some C.hd
    unfold clsIn at hcD
    split at hcD
    · rename_i c' d' cd' sl' ho
      intro A' Q' E' s' k q
      unfold isType loadHead
      exact wpAny_bind (wpAny_loadPart (k _ _ (X _ _ ho)) (wpAny_pure q))
    · cases hcD
  ne := fun h tp dd its n sl X htp => by
    obtain ⟨cdD, hcD, _⟩ := any_some C.hd
    refine Bool.eq_false_iff.mpr fun q => ?_
    have e : D = tp := Value.ref.inj (beq_iff_eq.mp q)
    subst e
    unfold clsIn at hcD
    split at hcD
    · rename_i c' d' cd' sl' ho
      have z := (X _ _ ho).symm.trans htp
      cases z
    · cases hcD
  ca := fun X I k => by
    obtain ⟨_, _, I⟩ := I
    exact kin_classD C X I k
end
end PySem.W
namespace OwnF
open PySem PySem.Spec PyProof.Rows L2
/-- the exception's class and, where it has one, its dict -/
def DictAt (H : Hp) (d : Option Addr) : Prop := d = none ∨ ∃ (dd : Addr) (fs : List (Str × V)), d = some dd ∧ H dd = some (.xd fs)
theorem inst_at {X : Cx} {pins : List (Addr × Obj)} {σ : L2.St} {H : Hp} {s : Shared} {a D : Addr} {oe : Obj} {d : Option Addr} (I : Inv X pins σ H s) (ha : s.heap.get? a = some oe) (hz : Zc (.ref D) d oe) (hf : ∃ vs, oe.data = .fields vs) (hd : DictAt H d) :
    ∃ ox od, PySem.W.InstAt s.heap a ox D od := by
  obtain ⟨vs, hv⟩ := hf
  have nc : PySem.W.notCls oe = true := by
    unfold PySem.W.notCls
    rw [hv] <;> rfl
  rcases hd with rfl | ⟨dd, fs, rfl, ed⟩
  · exact ⟨oe, none, ha, hz.1, nc, by rw [hz.2]; trivial⟩
  · obtain ⟨mA, hns, _⟩ := (show ObjOk X.prog X.w H s.heap dd (.xd fs) from I.hok dd _ ed)
    obtain ⟨od, ho, _⟩ := lookIn_ns hns
    exact ⟨oe, some od, ha, hz.1, nc, by rw [hz.2]; exact ho⟩
/-- isinstance(e, c) -/
def rIsE (K : PySem.W.Frag) (a : Addr) (cls : Value) (d : Option Addr) : List V → Hp → VK → Prop := fun xs H Q => ∃ (D : Addr) (c : V) (cv : Value) (b : Bool), xs = [.ref a, c] ∧ cls = .ref D ∧ ExcC K D ∧ DictAt H d ∧ (∀ u, RelV c u → u = cv) ∧ PySem.W.kitOne K (.ref D) cv = some b ∧ Q (.bl b) H
/-- isinstance(e, (c, ..)) -/
def rIsET (K : PySem.W.Frag) (a : Addr) (cls : Value) (d : Option Addr) : List V → Hp → VK → Prop := fun xs H Q => ∃ (D tp : Addr) (cs : List V) (ws : List Value) (b : Bool), xs = [.ref a, .ref tp] ∧ cls = .ref D ∧ ExcC K D ∧ DictAt H d ∧ H tp = some (.tup cs) ∧ (∀ us, Vals cs us → us = ws) ∧ PySem.W.kitAny K (.ref D) ws = some b ∧ Q (.bl b) H
section
variable {X : Cx} {a : Addr} {oe : Obj} {cls : Value} {d : Option Addr} {pn : List (Addr × Obj)}
theorem call_isE (hz : Zc cls d oe) (hf : ∃ vs, oe.data = .fields vs) : CallR (X.suite a ((a, oe) :: pn)) (.builtin "isinstance") (rIsE X.K a cls d) := by
  intro pins s σ H xs us Q I r h
  obtain ⟨D, c, cv, b, rfl, rfl, C, hd, hcv, e, q⟩ := h
  obtain ⟨u1, u2, rfl, r1, r2⟩ := vals2 r
  cases r1
  have ec := hcv _ r2
  subst ec
  obtain ⟨hget, _⟩ := I.pin (a, oe) (List.mem_append.mpr (.inl List.mem_cons_self))
  exact PySem.W.kia_one (PySem.W.kitx_excD C) I.kIn (inst_at I hget hz hf hd) e (fun z => nomatch z) fun tk => ⟨.bl b, H, I.kept (t' := tk) fun _ _ z => z, rfl, q⟩
theorem call_isET (hz : Zc cls d oe) (hf : ∃ vs, oe.data = .fields vs) : CallR (X.suite a ((a, oe) :: pn)) (.builtin "isinstance") (rIsET X.K a cls d) := by
  intro pins s σ H xs us Q I r h
  obtain ⟨D, tp, cs, ws, b, rfl, rfl, C, hd, hT, hcv, e, q⟩ := h
  obtain ⟨u1, u2, rfl, r1, r2⟩ := vals2 r
  cases r1
  cases (show u2 = Value.ref tp from r2)
  obtain ⟨hget, _⟩ := I.pin (a, oe) (List.mem_append.mpr (.inl List.mem_cons_self))
  obtain ⟨_, its, rv, o, h1, h2, n, h3⟩ := (show ObjOk X.prog X.w H s.heap tp (.tup cs) from I.hok tp _ hT)
  have e3 := hcv _ rv
  subst e3
  obtain ⟨oc, od, dt, sl⟩ := o
  simp only at h2 h3
  subst h2 h3
  exact PySem.W.kia_tup (PySem.W.kitx_excD C) I.kIn (inst_at I hget hz hf hd) h1 e (fun z => nomatch z) fun tk => ⟨.bl b, H, I.kept (t' := tk) fun _ _ z => z, rfl, q⟩
/-- e.f, the class told by the reading -/
def tXf (K : PySem.W.Frag) (a : Addr) (cls : Value) (d : Option Addr) (f : Str) (te : TE) : TE := fun σ H Q => te σ H fun x H1 => ∃ (C dd : Addr) (fs : List (Str × V)) (v : V), x = .ref a ∧ cls = .ref C ∧ XfC K C ∧ PySem.W.findIn K (.ref C) f = some none ∧ d = some dd ∧ H1 dd = some (.xd fs) ∧ fs.lookup f = some v ∧ Q v H1
theorem pe_xf {e : Expr} {te : TE} {pos : Pos} {n : Str}
    (hz : Zc cls d oe) (hf : ∃ vs, oe.data = .fields vs) (he : PE (X.suite a ((a, oe) :: pn)) e te) (hb : attributeBase e n X.env (eval e X.env) = eval e X.env := by rfl) :
    PE (X.suite a ((a, oe) :: pn)) (.Attribute e n pos) (tXf X.K a cls d n te) := by
  refine ⟨fun pins s σ H Q I h => ?_⟩
  refine attr_of hb (thn (he.run pins s σ H _ I h) fun u s1 hh => ?_)
  obtain ⟨x, H1, I1, rx, C, dd, fs, v, ex, ec, T, hno, ed, ea, l, q⟩ := hh
  subst ex
  obtain rfl : u = Value.ref a := rx
  subst ec
  subst ed
  obtain ⟨ha, _⟩ := I1.pin (a, oe) (List.mem_append_left _ List.mem_cons_self)
  obtain ⟨vs, hd⟩ := hf
  have hx : ObjOk X.prog X.w H1 s1.heap dd (.xd fs) := I1.hok dd _ ea
  obtain ⟨mA, hns, hr⟩ := hx
  obtain ⟨od, ho, hl⟩ := lookIn_ns hns
  obtain ⟨u, hu, ru⟩ := RelO.some_of (v := v) (o := mA n) (by rw [← l]; exact hr n)
  have J : PySem.W.InstAt s1.heap a oe C (some od) := ⟨ha, hz.1, by unfold PySem.W.notCls; rw [hd] <;> rfl, by rw [hz.2]; exact ho⟩
  exact HandSPX.exc_get I1.kIn J T.ga T.gg T.exC (PySem.W.findObj_own T.hdC hno rfl (by rw [hl, hu])) (handed_of ru) ⟨v, H1, I1.tok _, ru, q⟩
end
/-! ### several except clauses, with or without a name -/
/-- the ends of a suite whose clause has the name at slot i -/
def endAs (D : Ends) : Option Nat → Ends
  | none => D
  | some i => { nx := fun σ' H' => D.nx (σ'.set i none) H', rt := D.rt, bk := fun σ' H' => D.bk (σ'.set i none) H', ct := fun σ' H' => D.ct (σ'.set i none) H' }
def setAs (σ : L2.St) (a : Addr) : Option Nat → L2.St
  | none => σ
  | some i => σ.set i (some (.ref a))
abbrev Hd := Value × Option Nat × (Addr → Value → Option Addr → TS)
def wAll (K : PySem.W.Frag) (Wout : WX) (D : Ends) : List Hd → WX
  | [] => Wout
  | (c, i, ts) :: r => fun cls d σ H => ∃ b, PySem.W.exmOne K cls c = some b ∧ (b = true → ∀ a, H a = none → ts a cls d (endAs D i) (setAs σ a i) H) ∧ (b = false → wAll K Wout D r cls d σ H)
inductive HdOk (X : Cx) : List ExceptHandler → List Hd → Prop
  | nil : HdOk X [] []
  | cons {x : Str} {c : Value} {ts : Addr → Value → Option Addr → TS} {b₀ : Stmt} {suite : List Stmt} {np pos' : Pos} {hds : List ExceptHandler} {l : List Hd} (hc : Names X x c)
      (hsu : ∀ (a : Addr) (oe : Obj) (cls : Value) (d : Option Addr) (pn : List (Addr × Obj)), Zc cls d oe → (∃ vs, oe.data = .fields vs) → PSs (X.suite a ((a, oe) :: pn)) (b₀ :: suite) (ts a cls d)) (r : HdOk X hds l) :
      HdOk X (.ExceptHandler (some (.Name x np)) none (b₀ :: suite) pos' :: hds) ((c, none, ts) :: l)
  | consAs {x n : Str} {i : Nat} {c : Value} {ts : Addr → Value → Option Addr → TS} {b₀ : Stmt} {suite : List Stmt} {np pos' : Pos} {hds : List ExceptHandler} {l : List Hd} (hN : X.N.Nodup) (hi : X.N[i]? = some n) (hln : X.env.kindOf n = some .local) (hc : Names X x c)
      (hsu : ∀ (a : Addr) (oe : Obj) (cls : Value) (d : Option Addr) (pn : List (Addr × Obj)), Zc cls d oe → (∃ vs, oe.data = .fields vs) → PSs (X.suite a ((a, oe) :: pn)) (b₀ :: suite) (ts a cls d)) (r : HdOk X hds l) :
      HdOk X (.ExceptHandler (some (.Name x np)) (some n) (b₀ :: suite) pos' :: hds) ((c, some i, ts) :: l)
def tTry (K : PySem.W.Frag) (Wout : WX) (l : List Hd) (tb : WX → TS) : TS := fun D σ H => tb (wAll K Wout D l) D σ H
section
variable {X : Cx} {body : List Stmt} {h₀ : ExceptHandler} {hds : List ExceptHandler} {l : List Hd} {pos : Pos} {tb : WX → TS} {Wout : WX}
theorem ps_try (hs : X.stack = X.env :: X.outer) (hf : X.env.frame = some X.env.locals) (tk : Takes X Wout)
    (hb : ∀ (W : WX) (pn : List (Addr × Obj)) (xe : Value → Shared → Prop), Takes (X.tr pn xe) W → PassesOwn (model X.prog X.w) X.A X.env xe → PSs (X.tr pn xe) body (tb W))
    (hh : HdOk X (h₀ :: hds) l) : PS X (.Try body (h₀ :: hds) [] [] pos) (tTry X.K Wout l tb) := by
  refine ⟨fun pins s σ H D I h => ?_⟩
  have ok := I.ok
  have hfr : X.A.frames = some (X.env :: X.outer) := by rw [ok.frames, hs]
  refine wpAny_Try_except ?_
  refine wpAny_mono ((hb (wAll X.K Wout D l) (X.pn ++ pins) (fun e s₁ => wpAny (model X.prog X.w) X.A (noteFrame e X.env) (fun _ s₂ => wpAny (model X.prog X.w) X.A (setFlight e none) (fun _ s₃ =>
    wpAny (model X.prog X.w) X.A (handleBy e X.env (h₀ :: hds)) (SP X pins D) X.xe s₃) X.xe s₂) X.xe s₁) (fun u s' xx => ?_) PassesOwn.looking).run [] s σ H D (I.toTry _) h) (fun f s1 hsp => ?_) (fun e s1 he => he)
  · -- the catch
    obtain ⟨a, B, sI, pins', σ', H', cls, d, rfl, J', nb, up, sky, na, os, ag, w⟩ := xx
    have J : Inv X pins σ' H' sI := J'.ofTry ok
    have sky' : Sky B (X.env :: X.outer) a (Zc cls d) X.env.locals s'.heap := by rw [← hs]; exact sky
    show wpAny (model X.prog X.w) X.A (noteFrame (.ref a) X.env) _ _ _
    refine Sky.land Zc.steady hfr hf sky' fun h3 fl3 up3 => ?_
    have J3 : Inv X pins σ' H' { s' with heap := h3 } := J.landed nb fl3.1 (up.trans up3) os ag
    obtain ⟨oe3, vs3, he3, hz3, hd3⟩ := fl3.there
    have notFr : ∀ {h : Heap} {o : Obj} {vs : Array Value}, h.FunFrames B (X.env :: X.outer) → h.get? a = some o → o.data = .fields vs → a ∉ frs (X.env :: X.outer) := fun {h o vs} ff e dd hm => by
      obtain ⟨_, o', e', hnf⟩ := ff.mem hm
      rw [e] at e'; cases e'
      exact hnf _ dd
    have nfr := notFr fl3.2.2.1 he3 hd3
    have nL : a ≠ X.env.locals := fun z => nfr (List.mem_filterMap.mpr ⟨X.env, List.mem_cons_self, by rw [hf, z]⟩)
    have nF : a ∉ X.fs := fun hm => by
      obtain ⟨e, he, q⟩ := List.mem_filterMap.mp hm
      exact nfr (List.mem_filterMap.mpr ⟨e, List.mem_cons_of_mem _ he, q⟩)
    have S3 := J3.suite he3 hd3 na nL nF
    have LT : PySem.W.Looks (model X.prog X.w) h3 (typeOf (.ref a)) cls := fun A Q E s k q => wpAny_typeOf_ref (k _ _ he3) (by rw [hz3.1]; exact q)
    have test : ∀ {x : Str} {c : Value} {np : Pos} {Q : Value → Shared → Prop} {E : Value → Shared → Prop}, Names X x c → Q c { s' with heap := h3 } → wpAny (model X.prog X.w) (X.A.mark (some (.ref a))) (eval (.Name x np) X.env) Q E { s' with heap := h3 } := fun {x c np Q E} hc q => by
      obtain ⟨hg, hdbg, hm | ⟨hm, hv, hnn⟩⟩ := hc
      · exact ld_glob (X := X.suite a ((a, oe3) :: (X.pn ++ pins))) S3 hg hm q hdbg
      · exact ld_blt (X := X.suite a ((a, oe3) :: (X.pn ++ pins))) S3 hg hm hv q hnn hdbg
    have go : ∀ {hds' : List ExceptHandler} {l' : List Hd}, HdOk X hds' l' → wAll X.K Wout D l' cls d σ' H' →
        wpAny (model X.prog X.w) X.A (handleBy (.ref a) X.env hds') (SP X pins D) X.xe { s' with heap := h3 } := by
      intro hds' l' hk
      induction hk with
      | nil =>
        intro w
        refine wpAny_handleBy_nil ?_
        obtain ⟨k1, k2, k3, oe, vs, T, oT, ts', he, hz, hd, h1, hr⟩ := id fl3
        unfold PySem.passOn
        refine wpAny_bind (wpAny_field he hd h1 ?_)
        rw [if_neg (show ¬ ((Value.ref T == Value.none) = true) from by simp)]
        have fin : wpAny (model X.prog X.w) X.A (setFlight (.ref a) X.env.frame) (fun _ s4 => wpAny (model X.prog X.w) X.A (throw (.ref a) : Sem Flow) (SP X pins D) X.xe s4) X.xe { s' with heap := h3 } := by
          rw [hf]
          refine HandSPX.setFlight_upZ fl3 fun h4 hh4 up4 => wpAny_throw (tk _ _ ?_)
          exact ⟨a, B, sI, pins, σ', H', cls, d, rfl, J, nb, (up.trans up3).trans up4, .inr (.inr (by rw [hs]; exact hh4)), na, os, ag, w⟩
        first
          | exact wpAny_bind (wpAny_pure (wpAny_bind fin))
          | exact wpAny_bind fin
      | @cons x c ts b₀ suite np pos' hds2 l2 hc hsu r ih =>
        intro w
        obtain ⟨b, hb1, hyes, hno⟩ := w
        refine wpAny_handleBy_cons (codeAny_handlers_test ?_) (by intro q; cases q)
        have LM := PySem.W.exm_one (M := model X.prog X.w) (J3.kIn) LT hb1
        refine test hc (LM.here ?_)
        cases b with
        | true =>
          refine codeAny_handlers_suite ?_
          refine HandSPX.lands_againZ fl3 fun h4 fl4 up4 => ?_
          have J4 : Inv X pins σ' H' { s' with heap := h4 } := J.landed nb fl4.1 ((up.trans up3).trans up4) os ag
          obtain ⟨oe4, vs4, he4, hz4, hd4⟩ := fl4.there
          have S4 := J4.suite he4 hd4 na nL nF
          refine wpAny_mono ((hsu a oe4 cls d (X.pn ++ pins) hz4 ⟨_, hd4⟩).run [] _ _ H' _ S4 (hyes rfl a na)) (fun f s6 hsp => ?_) (fun _ _ z => False.elim z)
          cases f with
          | next =>
            obtain ⟨σ6, H6, S6, q6⟩ := hsp
            exact ⟨_, _, S6.unsuite ok, q6⟩
          | brk =>
            obtain ⟨σ6, H6, S6, q6⟩ := hsp
            exact ⟨_, _, S6.unsuite ok, q6⟩
          | cont =>
            obtain ⟨σ6, H6, S6, q6⟩ := hsp
            exact ⟨_, _, S6.unsuite ok, q6⟩
          | ret u =>
            obtain ⟨v6, σ6, H6, S6, r6, q6⟩ := hsp
            exact ⟨_, _, _, S6.unsuite ok, r6, q6⟩
        | false =>
          show wpAny _ X.A (handleBy (.ref a) X.env hds2) _ _ _
          exact ih (hno rfl)
      | @consAs x n i c ts b₀ suite np pos' hds2 l2 hN hi hln hc hsu r ih =>
        intro w
        obtain ⟨b, hb1, hyes, hno⟩ := w
        have hloc : Loc X.env.scope n := .inl hln
        refine wpAny_handleBy_cons (codeAny_handlers_test ?_) (by intro q; cases q)
        have LM := PySem.W.exm_one (M := model X.prog X.w) (J3.kIn) LT hb1
        refine test hc (LM.here ?_)
        cases b with
        | true =>
          refine codeAny_handlers_suite_as ?_
          refine HandSPX.lands_againZ fl3 fun h4 fl4 up4 => ?_
          have J4 : Inv X pins σ' H' { s' with heap := h4 } := J.landed nb fl4.1 ((up.trans up3).trans up4) os ag
          obtain ⟨oe4, vs4, he4, hz4, hd4⟩ := fl4.there
          have S4 := J4.suite he4 hd4 na nL nF
          refine store_ok (X := X.suite a ((a, oe4) :: (X.pn ++ pins))) (v := .ref a) S4 hN hi hloc rfl (fun s5 S5 => ?_) (.inr hln)
          refine wpAny_mono ((hsu a oe4 cls d (X.pn ++ pins) hz4 ⟨_, hd4⟩).run [] s5 _ H' _ S5 (hyes rfl a na)) (fun f s6 hsp => ?_) (fun _ _ z => False.elim z)
          have end_ : ∀ {σ6 : L2.St} {H6 : Hp} {Q : Shared → Prop}, Inv (X.suite a ((a, oe4) :: (X.pn ++ pins))) [] σ6 H6 s6 → (∀ s7, Inv X pins (σ6.set i none) H6 s7 → Q s7) →
              wpAny (model X.prog X.w) X.A (do bindName X.env n .none; unbindBehindTheSuite X.env n pos') (fun _ s7 => Q s7) X.xe s6 := fun {σ6 H6 Q} S6 hq => gone_ok (S6.unsuite ok) hN hi hln hq
          cases f with
          | next =>
            obtain ⟨σ6, H6, S6, q6⟩ := hsp
            exact end_ S6 fun s7 J7 => ⟨_, _, J7, q6⟩
          | brk =>
            obtain ⟨σ6, H6, S6, q6⟩ := hsp
            exact end_ S6 fun s7 J7 => ⟨_, _, J7, q6⟩
          | cont =>
            obtain ⟨σ6, H6, S6, q6⟩ := hsp
            exact end_ S6 fun s7 J7 => ⟨_, _, J7, q6⟩
          | ret u =>
            obtain ⟨v6, σ6, H6, S6, r6, q6⟩ := hsp
            exact end_ S6 fun s7 J7 => ⟨_, _, _, J7, r6, q6⟩
        | false =>
          show wpAny _ X.A (handleBy (.ref a) X.env hds2) _ _ _
          exact ih (hno rfl)
    exact go hh w
  · cases f with
    | next =>
      obtain ⟨σ', H', J', q⟩ := hsp
      exact wpAny_execs_nil ⟨σ', H', J'.ofTry ok, q⟩
    | brk =>
      obtain ⟨σ', H', J', q⟩ := hsp
      exact ⟨σ', H', J'.ofTry ok, q⟩
    | cont =>
      obtain ⟨σ', H', J', q⟩ := hsp
      exact ⟨σ', H', J'.ofTry ok, q⟩
    | ret u =>
      obtain ⟨v, σ', H', J', r, q⟩ := hsp
      exact ⟨v, σ', H', J'.ofTry ok, r, q⟩
end
/-! ### C(e, ..) where what is raised is wished for at the caller's slots -/
def tMakeS (C : Addr) (sp : Sp) (dvs : List V) (E : L2.St → XK) (t : TA) : TE := fun σ H Q => t σ H fun vs H1 => ∀ x dx, H1 x = none → H1 dx = none → dx ≠ x →
  sp (.ref x :: (vs ++ dvs)) (upd (upd H1 dx (.own x)) x (.ins C dx [])) (fun v H2 => v = .non ∧ Q (.ref x) H2) (E σ)
section
variable {X : Cx} {CX : CXT} {k : Nat} {f C : Addr} {fd : FuncData} {ps : List Str} {sp : Sp} {dvs : List V} {ds : List Value} {E : L2.St → XK} {x : Str} {p pos : Pos} {e : Expr} {es : List Expr} {t : TA}
theorem run_makeS {pins : List (Addr × Obj)} {σ : L2.St} {H : Hp} {s : Shared} {Q : VK} {us : List Value} {vs : List V} (M : Mk X.K C f) (F : FnOk X.prog X.w X.K X.mg X.base CX k f fd ps sp) (hr : Room (k + 1) X.A) (hb : Binds X.K fd ps ds) (hd : Vals dvs ds)
    (hx : PassesAt CX X σ (E σ)) (I : Inv X pins σ H s) (r : Vals vs us)
    (h : ∀ x dx, H x = none → H dx = none → dx ≠ x → sp (.ref x :: (vs ++ dvs)) (upd (upd H dx (.own x)) x (.ins C dx [])) (fun v H2 => v = .non ∧ Q (.ref x) H2) (E σ)) :
    wpAny (model X.prog X.w) X.A (call (.ref C) us) (EP X pins σ Q) X.xe s := by
  have hq := h (s.heap.objs.size + 1) s.heap.objs.size (I.hok.fresh (Nat.le_succ _)) (I.hok.fresh (Nat.le_refl _)) (Nat.ne_of_lt (Nat.lt_succ_self _))
  have I2 := Inv.made (C := C) I
  have r2 : Vals (V.ref (s.heap.objs.size + 1) :: (vs ++ dvs)) (Value.ref (s.heap.objs.size + 1) :: (us ++ ds)) := .cons rfl (r.append hd)
  have hl : (Value.ref (s.heap.objs.size + 1) :: us ++ ds).length = ps.length := by
    have e := r2.length
    rw [F.len _ _ _ _ hq] at e
    exact e.symm
  refine wpAny_call (make_map (f := f) I.kIn M.makes M.init (beq_iff_eq.mp M.fn) (codeAny_mono (F.run _ X.stack _ _ ⟨Value.ref (s.heap.objs.size + 1) :: us, []⟩ (Value.ref (s.heap.objs.size + 1) :: (us ++ ds)) _ _ (E σ) (hr.make C us [])
    (I2.env0.make C us []) (hb _ (Value.ref (s.heap.objs.size + 1) :: us) I2.kIn hl) r2 hq) fun r s' hq' => ?_))
  cases r with
  | error e => exact hx pins _ _ e s' I2 hq'
  | ok fl =>
    cases fl with
    | ret u =>
      obtain ⟨v, H', I3, rv, ev, q3⟩ := I2.after hq'
      subst ev
      exact ⟨rv, ⟨V.ref (s.heap.objs.size + 1), H', I3, rfl, q3⟩⟩
    | next => exact False.elim hq'
    | brk => exact False.elim hq'
    | cont => exact False.elim hq'
theorem pe_makeS (M : Mk X.K C f) (F : FnOk X.prog X.w X.K X.mg X.base CX k f fd ps sp) (hr : Room (k + 1) X.A) (hg : Gl X x) (hm : X.mg x = some (.ref C)) (hb : Binds X.K fd ps ds) (hd : Vals dvs ds) (hx : ∀ σ, PassesAt CX X σ (E σ))
    (ha : PA X (e :: es) t) (hdb : (x == ("__debug__" : Str)) = false := by decide) (he : starEach (e :: es) X.env = (false, eval e X.env) :: starEach es X.env := by rfl) (hpl : (backTo pos (starEach es X.env)).any (·.1) = false := by rfl) :
    PE X (.Call (.Name x p) (e :: es) [] pos) (tMakeS C sp dvs E t) := by
  refine ⟨fun pins s σ H Q I h => ?_⟩
  refine wpAny_Call_Name_kw (ld_glob I hg hm ?_ hdb)
  refine PySem.W.callWith_K (h₀ := X.base) I.ok.mod.kin M.kp (thn (ha.run pos pins s σ H _ I h) fun us s1 ⟨vs, H1, I1, r, q⟩ => ⟨I1.kIn, ?_⟩) he hpl
  exact run_makeS M F hr hb hd (hx σ) I1 r q
end
end OwnF

/-! an own error called with keywords; an own error held as a value -/
namespace OwnEK
open PySem PySem.W PySem.Calls PyProof.Rows PySem.HandSPX
section
variable {M : Model} {A : Around} {E : Value → Shared → Prop} {h : Heap} {g : Array GenState} {d : Drawn} {t : Nat} {os : OsState}
variable {nm q : Str} {C N : Addr} {bs bm bmB : List Value} {hdct : Bool} {sn : List Str} {sub : List Value} {ab : Bool} {col : Option Bool} {dd : Option Addr} {k0 k1 k2 k3 k5 : Option Value} {B newId initId : String}
theorem check_new_own (F : ExcBaseFacts B newId initId bmB) (hT : ∀ X : String, bm.contains (.type X) = bmB.contains (.type X)) {rest : List Value} {kw : List (Str × Value)} {Q : Unit → Shared → Prop}
    (hC : h.get? C = some (excClassObj nm q C N bs bm hdct sn sub ab col dd k0 k1 k2 k3 k5 newId)) (hq : Q () ⟨h, g, d, t, os⟩) : wpAny M A (checkBuiltinCall newId ⟨.ref C :: rest, kw⟩) Q E ⟨h, g, d, t, os⟩ := by
  have hcont : (Value.ref C :: bm).contains (.type B) = true := by rw [List.contains_cons, hT, F.hasB, Bool.or_true]
  have hstar := F.noStar
  simp only [checkBuiltinCall, F.newKind, F.newSplit, F.newRow]
  repeat (first | refine wpAny_loadPart_at hC ?_ | (refine wpAny_isSubtype_exc hC ?_; rw [hcont]) | refine wpAny_staticBase_exc hC ?_ | refine wpAny_madeBy_exc hC ?_ | simp only [bne_self_eq_false, Bool.false_eq_true, if_false] | wp_step)
  exact hq
end
section
variable {prog : Program} {w : World} {A : Around} {E : Value → Shared → Prop} {R : Result → Shared → Prop} {h : Heap} {g : Array GenState} {d : Drawn} {t : Nat} {os : OsState}
variable {nm q : Str} {C N : Addr} {bs bm bmB : List Value} {hdct : Bool} {sn : List Str} {sub : List Value} {ab : Bool} {col : Option Bool} {dd : Option Addr} {k0 k1 k2 k3 k5 : Option Value} {B newId initId : String}
theorem new_own (F : ExcBaseFacts B newId initId bmB) (hT : ∀ X : String, bm.contains (.type X) = bmB.contains (.type X)) {rest : List Value} {kw : List (Str × Value)}
    (hC : h.get? C = some (excClassObj nm q C N bs bm hdct sn sub ab col dd k0 k1 k2 k3 k5 newId))
    (hq : R (.ok (.ret (.ref (h.objs.size + 1)))) ⟨(h.push { cls := .type "tuple", data := .seq rest.toArray }).push
      { cls := .ref C, data := .fields #[.ref h.objs.size, .none, .none, .none, .bool false, .none] }, g, d, t, os⟩) (hrest : rest.length ≤ sizeLine) :
    codeAny (model prog w) A (.builtin newId ⟨.ref C :: rest, kw⟩) R ⟨h, g, d, t, os⟩ := by
  have hends := F.ends
  have hcB : (Value.ref C :: bm).contains (.type B) = true := by rw [List.contains_cons, hT, F.hasB, Bool.or_true]
  have hcA : (Value.ref C :: bm).contains (.type "AttributeError") = false := by rw [List.contains_cons, hT, F.noAttr]; rfl
  have hcN : (Value.ref C :: bm).contains (.type "NameError") = false := by rw [List.contains_cons, hT, F.noName]; rfl
  refine codeAny_builtinAt F.entry ?_
  unfold Builtin.«BaseException.__new__»
  refine PySem.wpAt_bind ?_
  show PySem.wpAt _ _ _ (stack >>= _) _ _ _
  refine PySem.wpAt_bind (PySem.wpAt_stack fun p below => PySem.wpAt_of_wpAny ?_)
  wp_walk
  refine PySem.wpAt_of_wpAny ?_
  rw [F.owner]
  repeat (first | with_reducible refine wpAny_madeHere_exc F.canon hC ?_ | with_reducible refine wpAny_loadPart_at hC ?_ | (with_reducible refine wpAny_isSubtype_exc hC ?_; first | rw [hcB] | rw [hcA] | rw [hcN]) | wp_step)
  show R _ _
  rw [Heap.size_push]
  exact hq
theorem type_call_own (F : ExcBaseFacts B newId initId bmB) (hT : ∀ X : String, bm.contains (.type X) = bmB.contains (.type X)) {rest : List Value} {kw : List (Str × Value)} {fI : Addr} {Q : Fin → Shared → Prop}
    (hC : h.get? C = some (excClassObj nm q C N bs bm hdct sn sub ab col dd k0 k1 k2 k3 k5 newId))
    (hi : W.Looks (model prog w) h (typeLookup (.ref C) "__init__") (some (.ref fI))) (hb : ∀ self, W.Looks (model prog w) h (bindSpecial (.ref fI) self) (.ref fI, [self])) (hrest : rest.length ≤ sizeLine)
    (hq : codeAny (model prog w) A (.call (.ref fI) ⟨.ref (h.objs.size + 1) :: rest, kw⟩)
      (fun r s' => match r with | .ok (.ret v) => v = .none ∧ Q (.done (.ret (.ref (h.objs.size + 1)))) s' | .ok _ => False | .error e => E e s')
      ⟨(h.push (W.kdv_tup rest)).push (excO C h.objs.size), g, d, t, os⟩) :
    wpAny (model prog w) A (Builtin.«type.__call__» ⟨.ref C :: rest, kw⟩) Q E ⟨h, g, d, t, os⟩ := by
  repeat (first | with_reducible refine wpAny_loadPart_at hC ?_ | with_reducible refine wpAny_madeBy_exc hC ?_ | wp_step)
  refine codeAny_call_builtin_code (Code.quiet_builtin _ F.quiet) (check_new_own F hT hC ?_)
  refine new_own F hT hC ?_ hrest
  show wpAny _ _ _ _ _ _
  have k : ∀ b o, h.get? b = some o → ((h.push (W.kdv_tup rest)).push (excO C h.objs.size)).get? b = some o := fun b o e => Heap.get?_push_of_some _ (Heap.get?_push_of_some _ e)
  have hC₁ := k _ _ hC
  have hget : ((h.push (W.kdv_tup rest)).push (excO C h.objs.size)).get? (h.objs.size + 1) = some (excO C h.objs.size) := by heap_get
  have hcC : (Value.ref C :: bm).contains (.ref C) = true := by simp
  have i1 := hi.keeps k
  have b1 := (hb (.ref (h.objs.size + 1))).keeps k
  unfold isInstance
  repeat (first | with_reducible refine wpAny_loadPart_at hget ?_ | (with_reducible refine wpAny_isSubtype_exc hC₁ ?_; rw [hcC]) | wp_step)
  show wpAny _ _ (typeLookup (.ref C) _) _ _ _
  refine i1.at ?_
  refine wpAny_holding (wpAny_bind (b1.at ?_))
  refine wpAny_bind (wpAny_call (codeAny_mono hq fun r s' z => ?_))
  rcases r with e | (v | _ | _ | _) <;> first | exact z | exact z.elim | skip
  obtain ⟨rfl, z⟩ := z
  first
    | exact wpAny_pure (wpAny_pure z)
    | (wp_walk; exact z)
theorem call_own (F : ExcBaseFacts B newId initId bmB) (hT : ∀ X : String, bm.contains (.type X) = bmB.contains (.type X)) {rest : List Value} {kw : List (Str × Value)} {fI : Addr}
    (hC : h.get? C = some (excClassObj nm q C N bs bm hdct sn sub ab col dd k0 k1 k2 k3 k5 newId))
    (hi : W.Looks (model prog w) h (typeLookup (.ref C) "__init__") (some (.ref fI))) (hb : ∀ self, W.Looks (model prog w) h (bindSpecial (.ref fI) self) (.ref fI, [self])) (hrest : rest.length ≤ sizeLine)
    (hq : codeAny (model prog w) (A.under (.builtin "type.__call__" ⟨.ref C :: rest, kw⟩)) (.call (.ref fI) ⟨.ref (h.objs.size + 1) :: rest, kw⟩) (W.InitBack (h.objs.size + 1) R)
      ⟨(h.push (W.kdv_tup rest)).push (excO C h.objs.size), g, d, t, os⟩) :
    codeAny (model prog w) A (.call (.ref C) ⟨rest, kw⟩) R ⟨h, g, d, t, os⟩ := by
  have f1 := tc_lookup
  have f2 := tc_bind (.ref C)
  have hTy : (⟨h, g, d, t, os⟩ : Shared).TypeIs (.ref C) "type" := ⟨_, hC, rfl⟩
  refine codeAny_of_tree ?_
  show wpAny _ _ (callAny (.ref C) _) _ _ _
  repeat (any_goals (first | assumption | with_reducible refine wpAny_loadPart_at hC ?_ | wp_step))
  refine ⟨rfl, ?_⟩
  refine codeAny_call_builtin_at (Code.quiet_builtin _ (by decide +kernel)) entry_typeCall (wpAny_check_type_call_sub hC (type_call_own F hT hC hi hb hrest ?_))
  refine codeAny_mono hq fun r s' z => ?_
  rcases r with e | (v | _ | _ | _) <;> exact z
end
end OwnEK
namespace OwnF
open PySem PySem.Spec PyProof.Rows L2
/-- C(e, ..) as a value: C's own __init__ keeping sp -/
def tMkV (C : Addr) (sp : Sp) (dvs : List V) (ta : TA) : TE := fun σ H Q => ta σ H fun vs H1 => vs.length ≤ 1000 ∧ ∀ a, H1 a = none → sp (.ref a :: (vs ++ dvs)) (upd H1 a (exo a C none)) (fun v H2 => v = .non ∧ Q (.ref a) H2) (fun _ _ _ => False)
/-- .. with keywords -/
def tMkVK (C : Addr) (n m : Nat) (sp : Sp) (gV : List V → List V → List V) (t tk : TA) : TE := fun σ H Q => t σ H fun vs H1 => tk σ H1 fun zs H2 => vs.length = n ∧ zs.length = m ∧ n ≤ 1000 ∧ ∀ a, H2 a = none →
  sp (gV (.ref a :: vs) zs) (upd H2 a (exo a C none)) (fun v H3 => v = .non ∧ Q (.ref a) H3) (fun _ _ _ => False)
section
variable {X : Cx} {CX : CXT} {k n : Nat} {fI C : Addr} {fd : FuncData} {ps ks : List Str} {sp : Sp} {x : Str} {p pos : Pos} {e : Expr} {es : List Expr} {kws : List Keyword} {t tk ta : TA} {g : List Value → List Value → List Value} {gV : List V → List V → List V} {ds : List Value} {dvs : List V}
theorem run_exV {pins : List (Addr × Obj)} {σ : L2.St} {H : Hp} {s : Shared} {Q : VK} {us : List Value} {kw : List (Str × Value)} {vs : List V} {bs : List Value} (T : OexC X.K C) (iC : PySem.W.findIn X.K (.ref C) "__init__" = some (some (.ref fI))) (tI : PySem.W.typeIn X.K (.ref fI) = some (.type "function"))
    (F1 : FnOk X.prog X.w X.K X.mg X.base CX k fI fd ps sp) (hr : Room (k + 1) X.A) (hx : Passes CX X (fun _ _ _ => False)) (I : Inv X pins σ H s) (hus : us.length ≤ sizeLine)
    (hb : ∀ (a : Addr) (s : Shared), X.K.In s.heap → BindsTo s fd ⟨.ref a :: us, kw⟩ (ps.zip (.ref a :: bs))) (r : Vals vs bs)
    (h : ∀ a, H a = none → sp (.ref a :: vs) (upd H a (exo a C none)) (fun v H2 => v = .non ∧ Q (.ref a) H2) (fun _ _ _ => False)) :
    wpAny (model X.prog X.w) X.A (call (.ref C) us kw) (EP X pins σ Q) X.xe s := by
  obtain ⟨nm, q, N, bs1, bm, sn, sub, ab, col, dd, k0, k1, k2, k3, k5, hC, hbm⟩ := T.cls
  obtain ⟨hp, gg, dr, tk, os⟩ := s
  have hsz : hp.objs.size ≤ hp.objs.size + 1 := Nat.le_succ _
  have hn : H (hp.objs.size + 1) = none := I.hok.fresh hsz
  have hq := h (hp.objs.size + 1) hn
  have kk : ∀ b o, hp.get? b = some o → ((hp.push (PySem.W.kdv_tup us)).push (PySem.HandSPX.excO C hp.objs.size)).get? b = some o := fun b o e => Heap.get?_push_of_some _ (Heap.get?_push_of_some _ e)
  have hget : ((hp.push (PySem.W.kdv_tup us)).push (PySem.HandSPX.excO C hp.objs.size)).get? (hp.objs.size + 1) = some (PySem.HandSPX.excO C hp.objs.size) := by heap_get
  have I2 : Inv X pins σ (upd H (hp.objs.size + 1) (exo (hp.objs.size + 1) C none)) ⟨(hp.push (PySem.W.kdv_tup us)).push (PySem.HandSPX.excO C hp.objs.size), gg, dr, tk, os⟩ :=
    I.laid (t' := tk) (a := hp.objs.size + 1) (o := exo (hp.objs.size + 1) C none) (h' := (hp.push (PySem.W.kdv_tup us)).push (PySem.HandSPX.excO C hp.objs.size)) kk hsz (exo_ok hget)
  have r2 : Vals (V.ref (hp.objs.size + 1) :: vs) (Value.ref (hp.objs.size + 1) :: bs) := .cons rfl r
  refine wpAny_call (OwnEK.call_own F.excBase_ValueError (fun Y => PySem.HandSPX.refsVE_contains Y bm hbm) (I.kIn _ _ hC) (PySem.W.looks_findIn I.kIn iC) (fun self => PySem.W.bind_fn I.kIn self tI) hus
    (codeAny_mono (F1.run _ X.stack _ _ ⟨Value.ref (hp.objs.size + 1) :: us, kw⟩ (Value.ref (hp.objs.size + 1) :: bs) _ _ (fun _ _ _ => False) (hr.make C us kw) (I2.env0.make C us kw) (hb _ _ I2.kIn) r2 hq) fun r s' hq' => ?_))
  cases r with
  | error er => exact hx pins σ _ _ er s' I2 hq'
  | ok fl =>
    cases fl with
    | ret u =>
      obtain ⟨v, H', I3, rv, ev, q3⟩ := I2.after hq'
      subst ev
      exact ⟨rv, ⟨V.ref (hp.objs.size + 1), H', I3, rfl, q3⟩⟩
    | next => exact False.elim hq'
    | brk => exact False.elim hq'
    | cont => exact False.elim hq'
theorem pe_exV (T : OexC X.K C) (iC : PySem.W.findIn X.K (.ref C) "__init__" = some (some (.ref fI))) (tI : PySem.W.typeIn X.K (.ref fI) = some (.type "function"))
    (F1 : FnOk X.prog X.w X.K X.mg X.base CX k fI fd ps sp) (hr : Room (k + 1) X.A) (hb : Binds X.K fd ps ds) (hd : Vals dvs ds) (hx : Passes CX X (fun _ _ _ => False)) (hg : Gl X x) (hm : X.mg x = some (.ref C)) (ha : PA X (e :: es) ta)
    (hdb : (x == ("__debug__" : Str)) = false := by decide) (he : starEach (e :: es) X.env = (false, eval e X.env) :: starEach es X.env := by rfl) (hpl : (backTo pos (starEach es X.env)).any (·.1) = false := by rfl) :
    PE X (.Call (.Name x p) (e :: es) [] pos) (tMkV C sp dvs ta) := by
  refine ⟨fun pins s σ H Q I h => ?_⟩
  refine wpAny_Call_Name_kw (ld_glob I hg hm ?_ hdb)
  refine PySem.W.callWith_K (h₀ := X.base) I.ok.mod.kin T.kC (thn (ha.run pos pins s σ H _ I h) fun us s1 ⟨vs, H1, I1, r1, hz, q1⟩ => ⟨I1.kIn, ?_⟩) he hpl
  have hus : us.length ≤ sizeLine := by
    rw [← Paired.length r1, sizeLine_eq]
    omega
  refine run_exV (vs := vs ++ dvs) (bs := us ++ ds) T iC tI F1 hr hx I1 hus (fun a s X => hb s (.ref a :: us) X ?_) (r1.append hd) q1
  have hn : H1 (s1.heap.objs.size + 1) = none := I1.hok.fresh (Nat.le_succ _)
  have e1 := F1.len _ _ _ _ (q1 _ hn)
  have e2 := (r1.append hd).length
  simp only [List.length_cons, List.cons_append] at e1 ⊢
  omega
theorem pe_exVK0 (T : OexC X.K C) (iC : PySem.W.findIn X.K (.ref C) "__init__" = some (some (.ref fI))) (tI : PySem.W.typeIn X.K (.ref fI) = some (.type "function"))
    (F1 : FnOk X.prog X.w X.K X.mg X.base CX k fI fd ps sp) (hr : Room (k + 1) X.A) (hb : KBn X.K fd ps 1 ks g gV) (gc : ∀ a us ws, ∃ bs, g (.ref a :: us) ws = .ref a :: bs) (gv : ∀ a vs zs, ∃ bs, gV (.ref a :: vs) zs = .ref a :: bs) (hgg : ∀ a b us ws, (g (.ref a :: us) ws).tail = (g (.ref b :: us) ws).tail) (hgv : ∀ a b vs zs, (gV (.ref a :: vs) zs).tail = (gV (.ref b :: vs) zs).tail)
    (hx : Passes CX X (fun _ _ _ => False)) (hg : Gl X x) (hm : X.mg x = some (.ref C)) (hkw : PK X kws tk)
    (hall : (backToKw pos (keywordEach kws X.env)).all (·.1.isSome) = true := by rfl) (hks : (backToKw pos (keywordEach kws X.env)).filterMap (·.1) = ks := by rfl) (hdb : (x == ("__debug__" : Str)) = false := by decide)
    (hpl : ((backTo pos (starEach [] X.env)).any (·.1) || (backToKw pos (keywordEach kws X.env)).any (·.1.isNone)) = false := by rfl) :
    PE X (.Call (.Name x p) [] kws pos) (tMkVK C 0 ks.length sp gV tNil tk) := by
  refine ⟨fun pins s σ H Q I h => ?_⟩
  refine wpAny_Call_Name_kw (ld_glob I hg hm ?_ hdb)
  refine PySem.W.callWith_KW0 (h₀ := X.base) I.ok.mod.kin T.kC hall ?_ hpl
  refine thn (hkw.run pos pins s σ H _ I h) fun ws s2 ⟨zs, H2, I2, rz, l1, l2, l3, q2⟩ => ⟨I2.kIn, ?_⟩
  rw [hks]
  obtain ⟨bs, hbs⟩ := gc 0 [] ws
  obtain ⟨vs, hvs⟩ := gv 0 [] zs
  have hgw : ∀ a, g [.ref a] ws = .ref a :: bs := fun a => by
    obtain ⟨b2, h2⟩ := gc a [] ws
    have z := hgg a 0 [] ws
    rw [h2, hbs] at z
    rw [h2]
    exact congrArg _ z
  have hgz : ∀ a, gV [.ref a] zs = .ref a :: vs := fun a => by
    obtain ⟨b2, h2⟩ := gv a [] zs
    have z := hgv a 0 [] zs
    rw [h2, hvs] at z
    rw [h2]
    exact congrArg _ z
  have rel := hb.rel (vs := [.ref 0]) (us := [.ref 0]) (.cons rfl .nil) rz
  rw [hbs, hvs] at rel
  refine run_exV (us := []) (kw := ks.zip ws) (vs := vs) (bs := bs) T iC tI F1 hr hx I2 (by simp) (fun a s X => ?_) (by cases rel with | cons _ z => exact z) (fun a ha => ?_)
  · have z := hb.to s [.ref a] ws X rfl (rz.length.symm.trans l2)
    rw [hgw a] at z
    exact z
  · have z := q2 a ha
    rw [hgz a] at z
    exact z
theorem pe_exVK (T : OexC X.K C) (iC : PySem.W.findIn X.K (.ref C) "__init__" = some (some (.ref fI))) (tI : PySem.W.typeIn X.K (.ref fI) = some (.type "function"))
    (F1 : FnOk X.prog X.w X.K X.mg X.base CX k fI fd ps sp) (hr : Room (k + 1) X.A) (hb : KBn X.K fd ps (n + 1) ks g gV) (gc : ∀ a us ws, ∃ bs, g (.ref a :: us) ws = .ref a :: bs) (gv : ∀ a vs zs, ∃ bs, gV (.ref a :: vs) zs = .ref a :: bs) (hgg : ∀ a b us ws, (g (.ref a :: us) ws).tail = (g (.ref b :: us) ws).tail) (hgv : ∀ a b vs zs, (gV (.ref a :: vs) zs).tail = (gV (.ref b :: vs) zs).tail)
    (hx : Passes CX X (fun _ _ _ => False)) (hg : Gl X x) (hm : X.mg x = some (.ref C)) (ha : PA X (e :: es) t) (hkw : PK X kws tk)
    (hall : (backToKw pos (keywordEach kws X.env)).all (·.1.isSome) = true := by rfl) (hks : (backToKw pos (keywordEach kws X.env)).filterMap (·.1) = ks := by rfl) (hdb : (x == ("__debug__" : Str)) = false := by decide)
    (he : starEach (e :: es) X.env = (false, eval e X.env) :: starEach es X.env := by rfl) (hpl : ((backTo pos (starEach (e :: es) X.env)).any (·.1) || (backToKw pos (keywordEach kws X.env)).any (·.1.isNone)) = false := by rfl) :
    PE X (.Call (.Name x p) (e :: es) kws pos) (tMkVK C n ks.length sp gV t tk) := by
  refine ⟨fun pins s σ H Q I h => ?_⟩
  refine wpAny_Call_Name_kw (ld_glob I hg hm ?_ hdb)
  refine PySem.W.callWith_KW (h₀ := X.base) I.ok.mod.kin T.kC hall (thn (ha.run pos pins s σ H _ I h) fun us s1 ⟨vs1, H1, I1, r, q⟩ => ?_) hpl he
  refine thn (hkw.run pos pins s1 σ H1 _ I1 q) fun ws s2 ⟨zs, H2, I2, rz, l1, l2, l3, q2⟩ => ⟨I2.kIn, ?_⟩
  rw [hks]
  obtain ⟨bs, hbs⟩ := gc 0 us ws
  obtain ⟨vs, hvs⟩ := gv 0 vs1 zs
  have hgw : ∀ a, g (.ref a :: us) ws = .ref a :: bs := fun a => by
    obtain ⟨b2, h2⟩ := gc a us ws
    have z := hgg a 0 us ws
    rw [h2, hbs] at z
    rw [h2]
    exact congrArg _ z
  have hgz : ∀ a, gV (.ref a :: vs1) zs = .ref a :: vs := fun a => by
    obtain ⟨b2, h2⟩ := gv a vs1 zs
    have z := hgv a 0 vs1 zs
    rw [h2, hvs] at z
    rw [h2]
    exact congrArg _ z
  have rel := hb.rel (vs := .ref 0 :: vs1) (us := .ref 0 :: us) (.cons rfl r) rz
  rw [hbs, hvs] at rel
  have hus : us.length = n := r.length.symm.trans l1
  refine run_exV (us := us) (kw := ks.zip ws) (vs := vs) (bs := bs) T iC tI F1 hr hx I2 (by rw [sizeLine_eq]; omega) (fun a s X => ?_) (by cases rel with | cons _ z => exact z) (fun a ha => ?_)
  · have z := hb.to s (.ref a :: us) ws X (by rw [List.length_cons, hus]) (rz.length.symm.trans l2)
    rw [hgw a] at z
    exact z
  · have z := q2 a ha
    rw [hgz a] at z
    exact z
/-- e.f of an error held as a value -/
def tXv (K : PySem.W.Frag) (f : Str) (te : TE) : TE := fun σ H Q => te σ H fun x H1 => ∃ (a C dd : Addr) (fs : List (Str × V)) (v : V), x = .ref a ∧ XfC K C ∧ PySem.W.findIn K (.ref C) f = some none ∧ H1 a = some (exo a C (some dd)) ∧ H1 dd = some (exd dd fs) ∧ fs.lookup f = some v ∧ Q v H1
theorem pe_xv {e : Expr} {te : TE} {pos : Pos} {f : Str} (he : PE X e te) (hb : attributeBase e f X.env (eval e X.env) = eval e X.env := by rfl) : PE X (.Attribute e f pos) (tXv X.K f te) := by
  refine ⟨fun pins s σ H Q I h => ?_⟩
  refine attr_of hb (thn (he.run pins s σ H _ I h) fun u s1 hh => ?_)
  obtain ⟨x, H1, I1, rx, a, C, dd, fs, v, ex, T, hno, ea, ed, l, q⟩ := hh
  subst ex
  obtain rfl : u = Value.ref a := rx
  obtain ⟨t1, ho⟩ := exo_at I1.hok ea
  obtain ⟨mA, hns, hr⟩ := exd_at I1.hok ed
  obtain ⟨od, hod, hl⟩ := lookIn_ns hns
  obtain ⟨u, hu, ru⟩ := RelO.some_of (v := v) (o := mA f) (by rw [← l]; exact hr f)
  have J : PySem.W.InstAt s1.heap a { cls := .ref C, dict := some dd, data := .fields #[.ref t1, .none, .none, .none, .bool false, .none] } C (some od) := ⟨ho, rfl, rfl, hod⟩
  exact HandSPX.exc_get I1.kIn J T.ga T.gg T.exC (PySem.W.findObj_own T.hdC hno rfl (by rw [hl, hu])) (handed_of ru) ⟨v, H1, I1.tok _, ru, q⟩
/-- isinstance(e, c), e an error held as a value -/
def rIsV (K : PySem.W.Frag) : List V → Hp → VK → Prop := fun xs H Q => ∃ (a D dd : Addr) (fs : List (Str × V)) (c : V) (cv : Value) (b : Bool), xs = [.ref a, c] ∧ ExcC K D ∧ H a = some (exo a D (some dd)) ∧ H dd = some (exd dd fs) ∧ (∀ u, RelV c u → u = cv) ∧ PySem.W.kitOne K (.ref D) cv = some b ∧ Q (.bl b) H
theorem call_isV : CallR X (.builtin "isinstance") (rIsV X.K) := by
  intro pins s σ H xs us Q I r h
  obtain ⟨a, D, dd, fs, c, cv, b, rfl, C, ea, ed, hcv, e, q⟩ := h
  obtain ⟨u1, u2, rfl, r1, r2⟩ := vals2 r
  cases r1
  have ec := hcv _ r2
  subst ec
  obtain ⟨t1, ho⟩ := exo_at I.hok ea
  obtain ⟨mA, hns, hr⟩ := exd_at I.hok ed
  obtain ⟨od, hod, _⟩ := lookIn_ns hns
  have J : PySem.W.InstAt s.heap a { cls := .ref D, dict := some dd, data := .fields #[.ref t1, .none, .none, .none, .bool false, .none] } D (some od) := ⟨ho, rfl, rfl, hod⟩
  exact PySem.W.kia_one (PySem.W.kitx_excD C) I.kIn ⟨_, _, J⟩ e (fun z => nomatch z) fun tk => ⟨.bl b, H, I.kept (t' := tk) fun _ _ z => z, rfl, q⟩
end
/-! ### C(e, .., k = v, ..) of an own class, where what is raised is wished for at the caller's slots -/
def tMakeNS (C : Addr) (n m : Nat) (sp : Sp) (gV : List V → List V → List V) (E : L2.St → XK) (t tk : TA) : TE := fun σ H Q => t σ H fun vs H1 => tk σ H1 fun zs H2 => vs.length = n ∧ zs.length = m ∧
  ∀ x dx, H2 x = none → H2 dx = none → dx ≠ x → sp (gV (.ref x :: vs) zs) (upd (upd H2 dx (.own x)) x (.ins C dx [])) (fun v H3 => v = .non ∧ Q (.ref x) H3) (E σ)
section
variable {X : Cx} {CX : CXT} {k n : Nat} {f C : Addr} {fd : FuncData} {ps ks : List Str} {sp : Sp} {E : L2.St → XK} {E' : XK} {x : Str} {p pos : Pos} {e : Expr} {es : List Expr} {kws : List Keyword} {t tk : TA} {g : List Value → List Value → List Value} {gV : List V → List V → List V}
theorem run_makeNS {pins : List (Addr × Obj)} {σ : L2.St} {H : Hp} {s : Shared} {Q : VK} {us ws : List Value} {vs zs : List V} (M : Mk X.K C f) (F : FnOk X.prog X.w X.K X.mg X.base CX k f fd ps sp) (hr : Room (k + 1) X.A) (hb : KBn X.K fd ps (n + 1) ks g gV)
    (hx : PassesAt CX X σ (E σ)) (I : Inv X pins σ H s) (r : Vals vs us) (rz : Vals zs ws) (l1 : vs.length = n) (l2 : zs.length = ks.length)
    (h : ∀ x dx, H x = none → H dx = none → dx ≠ x → sp (gV (.ref x :: vs) zs) (upd (upd H dx (.own x)) x (.ins C dx [])) (fun v H2 => v = .non ∧ Q (.ref x) H2) (E σ)) :
    wpAny (model X.prog X.w) X.A (call (.ref C) us (ks.zip ws)) (EP X pins σ Q) X.xe s := by
  have hq := h (s.heap.objs.size + 1) s.heap.objs.size (I.hok.fresh (Nat.le_succ _)) (I.hok.fresh (Nat.le_refl _)) (Nat.ne_of_lt (Nat.lt_succ_self _))
  have I2 := Inv.made (C := C) I
  have r1 : Vals (V.ref (s.heap.objs.size + 1) :: vs) (Value.ref (s.heap.objs.size + 1) :: us) := .cons rfl r
  have r2 := hb.rel r1 rz
  have e1 : (Value.ref (s.heap.objs.size + 1) :: us).length = n + 1 := r1.length.symm.trans (congrArg Nat.succ l1)
  have e2 : ws.length = ks.length := rz.length.symm.trans l2
  refine wpAny_call (make_map (f := f) I.kIn M.makes M.init (beq_iff_eq.mp M.fn) (codeAny_mono (F.run _ X.stack _ _ ⟨Value.ref (s.heap.objs.size + 1) :: us, ks.zip ws⟩ (g (Value.ref (s.heap.objs.size + 1) :: us) ws) _ _ (E σ) (hr.make C us (ks.zip ws))
    (I2.env0.make C us (ks.zip ws)) (hb.to _ (Value.ref (s.heap.objs.size + 1) :: us) ws I2.kIn e1 e2) r2 hq) fun r s' hq' => ?_))
  cases r with
  | error e => exact hx pins _ _ e s' I2 hq'
  | ok fl =>
    cases fl with
    | ret u =>
      obtain ⟨v, H', I3, rv, ev, q3⟩ := I2.after hq'
      subst ev
      exact ⟨rv, ⟨V.ref (s.heap.objs.size + 1), H', I3, rfl, q3⟩⟩
    | next => exact False.elim hq'
    | brk => exact False.elim hq'
    | cont => exact False.elim hq'
theorem pe_makeNS (M : Mk X.K C f) (F : FnOk X.prog X.w X.K X.mg X.base CX k f fd ps sp) (hr : Room (k + 1) X.A) (hg : Gl X x) (hm : X.mg x = some (.ref C)) (hb : KBn X.K fd ps (n + 1) ks g gV) (hx : ∀ σ, PassesAt CX X σ (E σ))
    (ha : PA X (e :: es) t) (hkw : PK X kws tk) (hall : (backToKw pos (keywordEach kws X.env)).all (·.1.isSome) = true := by rfl) (hks : (backToKw pos (keywordEach kws X.env)).filterMap (·.1) = ks := by rfl)
    (hdb : (x == ("__debug__" : Str)) = false := by decide) (he : starEach (e :: es) X.env = (false, eval e X.env) :: starEach es X.env := by rfl)
    (hpl : ((backTo pos (starEach (e :: es) X.env)).any (·.1) || (backToKw pos (keywordEach kws X.env)).any (·.1.isNone)) = false := by rfl) :
    PE X (.Call (.Name x p) (e :: es) kws pos) (tMakeNS C n ks.length sp gV E t tk) := by
  refine ⟨fun pins s σ H Q I h => ?_⟩
  refine wpAny_Call_Name_kw (ld_glob I hg hm ?_ hdb)
  refine PySem.W.callWith_KW (h₀ := X.base) I.ok.mod.kin M.kp hall (thn (ha.run pos pins s σ H _ I h) fun us s1 ⟨vs, H1, I1, r, q⟩ => ?_) hpl he
  refine thn (hkw.run pos pins s1 σ H1 _ I1 q) fun ws s2 ⟨zs, H2, I2, rz, l1, l2, q2⟩ => ⟨I2.kIn, ?_⟩
  rw [hks]
  exact run_makeNS M F hr hb (hx σ) I2 r rz l1 l2 q2
theorem pe_makeNS0 (M : Mk X.K C f) (F : FnOk X.prog X.w X.K X.mg X.base CX k f fd ps sp) (hr : Room (k + 1) X.A) (hg : Gl X x) (hm : X.mg x = some (.ref C)) (hb : KBn X.K fd ps 1 ks g gV) (hx : ∀ σ, PassesAt CX X σ (E σ)) (hkw : PK X kws tk)
    (hall : (backToKw pos (keywordEach kws X.env)).all (·.1.isSome) = true := by rfl) (hks : (backToKw pos (keywordEach kws X.env)).filterMap (·.1) = ks := by rfl) (hdb : (x == ("__debug__" : Str)) = false := by decide)
    (hpl : ((backTo pos (starEach [] X.env)).any (·.1) || (backToKw pos (keywordEach kws X.env)).any (·.1.isNone)) = false := by rfl) :
    PE X (.Call (.Name x p) [] kws pos) (tMakeNS C 0 ks.length sp gV E tNil tk) := by
  refine ⟨fun pins s σ H Q I h => ?_⟩
  refine wpAny_Call_Name_kw (ld_glob I hg hm ?_ hdb)
  refine PySem.W.callWith_KW0 (h₀ := X.base) I.ok.mod.kin M.kp hall ?_ hpl
  refine thn (hkw.run pos pins s σ H _ I h) fun ws s2 ⟨zs, H2, I2, rz, l1, l2, q2⟩ => ⟨I2.kIn, ?_⟩
  rw [hks]
  exact run_makeNS (us := []) (vs := []) M F hr hb (hx σ) I2 .nil rz rfl l2 q2
theorem pe_makeN0 (M : Mk X.K C f) (F : FnOk X.prog X.w X.K X.mg X.base CX k f fd ps sp) (hr : Room (k + 1) X.A) (hg : Gl X x) (hm : X.mg x = some (.ref C)) (hb : KBn X.K fd ps 1 ks g gV) (hx : Passes CX X E') (hkw : PK X kws tk)
    (hall : (backToKw pos (keywordEach kws X.env)).all (·.1.isSome) = true := by rfl) (hks : (backToKw pos (keywordEach kws X.env)).filterMap (·.1) = ks := by rfl) (hdb : (x == ("__debug__" : Str)) = false := by decide)
    (hpl : ((backTo pos (starEach [] X.env)).any (·.1) || (backToKw pos (keywordEach kws X.env)).any (·.1.isNone)) = false := by rfl) :
    PE X (.Call (.Name x p) [] kws pos) (tMakeN C 0 ks.length sp gV E' tNil tk) := by
  refine ⟨fun pins s σ H Q I h => ?_⟩
  refine wpAny_Call_Name_kw (ld_glob I hg hm ?_ hdb)
  refine PySem.W.callWith_KW0 (h₀ := X.base) I.ok.mod.kin M.kp hall ?_ hpl
  refine thn (hkw.run pos pins s σ H _ I h) fun ws s2 ⟨zs, H2, I2, rz, l1, l2, q2⟩ => ⟨I2.kIn, ?_⟩
  rw [hks]
  exact run_makeN (us := []) (vs := []) M F hr hb hx I2 .nil rz rfl l2 q2
end
/-! ### readings -/
/-- what an error's __init__ keeps: its fields, as they are stored -/
def spErr (C : Addr) (fs : List Str) (ok : List V → Prop) : Sp := fun vs H Q _ => ∃ (a : Addr) (xs : List V), vs = .ref a :: xs ∧ xs.length = fs.length ∧ ok xs ∧ H a = some (exo a C none) ∧
  ∀ (d : Addr) H', d ≠ a → H d = none → (∀ b o, b ≠ a → H b = some o → H' b = some o) → H' a = some (exo a C (some d)) → H' d = some (exd d (fs.zip xs).reverse) → Q .non H'
end OwnF

/-! the head by facts for own errors with an __init__ -/
namespace OwnHd
open PySem PySem.Spec PyProof.Rows L2 OwnE
/-- what the text's classes of errors say -/
structure ErrC (K : PySem.W.Frag) (C : Addr) : Prop where
  oex : OexC K C
  exc : ExcC K C
  xf : XfC K C
/-- C's __init__, at fI -/
structure ErrI (P : Program) (K : PySem.W.Frag) (C fI : Addr) (qual : Str) (params : Arguments) (body : List Stmt) (scope : Scope) (fd : FuncData) : Prop where
  iC : PySem.W.findIn K (.ref C) "__init__" = some (some (.ref fI))
  tI : PySem.W.typeIn K (.ref fI) = some (.type "function")
  ex : ∃ (cc cda : Addr) (oc kV doc pm ct : Value) (an od : Option Addr) (osl : Array (Option Value)), fd = PySem.W.fnX "__init__" qual params body scope [("__class__", cc)] .none kV doc pm an (.ref cda) ct ∧
    K.lookup fI = some ⟨oc, od, .func (PySem.W.fnX "__init__" qual params body scope [("__class__", cc)] .none kV doc pm an (.ref cda) ct), osl⟩ ∧ PySem.W.codeIn K (.ref cda) qual = true ∧ SupC P K C cc cda
def oexB (K : PySem.W.Frag) (C : Addr) : Bool := (match K.lookup C with
  | some ⟨.type "type", _, .cls cd, sl⟩ => (match cd.mro, sl.toList with
    | .ref C' :: bm, [_, _, _, _, some (.builtin n), _] => C' == C && (n == "ValueError.__new__" && (!cd.hasDel && (cd.hasDict && PySem.HandSPX.refsVE bm)))
    | _, _ => false)
  | _ => false) && (decide (PySem.W.findIn K (.ref C) "__setattr__" = some (some (.builtin "object.__setattr__"))) && (decide (PySem.W.subIn K (.ref C) (.type "BaseException") = some true) && (decide (PySem.W.typeIn K (.ref C) = some (.type "type")) && PySem.W.keepIn K (.ref C))))
theorem oexB_ok {K : PySem.W.Frag} {C : Addr} (h : oexB K C = true) : OexC K C := by
  obtain ⟨h1, h⟩ := He.ba h
  obtain ⟨h2, h⟩ := He.ba h
  obtain ⟨h3, h⟩ := He.ba h
  obtain ⟨h4, h5⟩ := He.ba h
  refine ⟨?_, of_decide_eq_true h2, of_decide_eq_true h3, of_decide_eq_true h4, h5⟩
  split at h1
  · rename_i dd cd sl ho
    split at h1
    · rename_i C' bm k0 k1 k2 k3 n k5 hm hs
      obtain ⟨q1, q⟩ := He.ba h1
      obtain ⟨q2, q⟩ := He.ba q
      obtain ⟨q3, q⟩ := He.ba q
      obtain ⟨q4, q5⟩ := He.ba q
      rw [beq_iff_eq] at q1 q2
      subst q1 q2
      rw [Bool.not_eq_true'] at q3
      obtain ⟨nm, bs, mro, ns, qn, hd, sn, sub, ab, col, del⟩ := cd
      dsimp only at hm q3 q4
      subst hm q3 q4
      have hsl : sl = #[k0, k1, k2, k3, some (.builtin "ValueError.__new__"), k5] := by
        obtain ⟨l⟩ := sl
        simp only at hs
        rw [hs]
      subst hsl
      exact ⟨nm, qn, ns, bs, bm, sn, sub, ab, col, dd, k0, k1, k2, k3, k5, ho, q5⟩
    · cases h1
  · cases h1
def excB (K : PySem.W.Frag) (D : Addr) : Bool := decide (PySem.W.findIn K (.ref D) "__getattribute__" = some (some (.builtin "BaseException.__getattribute__"))) && (decide (PySem.W.findIn K (.ref D) "__getattr__" = some none) && (decide (PySem.W.subIn K (.ref D) (.type "BaseException") = some true) &&
  (PySem.W.hasDictIn K D && (decide (PySem.W.findIn K (.ref D) "__class__" = some (some (.builtin "object.__class__"))) && (decide (PySem.W.specialIn K (.builtin "object.__class__") "__get__" = some (some (.builtin "getset_descriptor.__get__"))) && (decide (PySem.W.takesIn K (.builtin "object.__class__") = some true) &&
  decide (PySem.W.mroIn K D (.type "object") = some true)))))))
theorem excB_ok {K : PySem.W.Frag} {D : Addr} (h : excB K D = true) : ExcC K D := by
  obtain ⟨h1, h⟩ := He.ba h
  obtain ⟨h2, h⟩ := He.ba h
  obtain ⟨h3, h⟩ := He.ba h
  obtain ⟨h4, h⟩ := He.ba h
  obtain ⟨h5, h⟩ := He.ba h
  obtain ⟨h6, h⟩ := He.ba h
  obtain ⟨h7, h8⟩ := He.ba h
  exact ⟨of_decide_eq_true h1, of_decide_eq_true h2, of_decide_eq_true h3, h4, of_decide_eq_true h5, of_decide_eq_true h6, of_decide_eq_true h7, of_decide_eq_true h8⟩
def errB (K : PySem.W.Frag) (x : Str) : Bool := oexB K (He.ga K x) && (excB K (He.ga K x) && xfB K (He.ga K x))
theorem errB_ok {K : PySem.W.Frag} {x : Str} (h : errB K x = true) : ErrC K (He.ga K x) := by
  obtain ⟨h1, h⟩ := He.ba h
  obtain ⟨h2, h3⟩ := He.ba h
  exact ⟨oexB_ok h1, excB_ok h2, xfB_ok h3⟩
/-- the class of a tuple of names, and what isinstance and except say of them: r is the base class among them -/
def kndB (K : PySem.W.Frag) (xs : List Str) (r : Str) : Bool := xs.all fun x => decide (PySem.W.kitOne K (.ref (He.ga K x)) (.type "ValueError") = some true) && xs.all fun y => decide (PySem.W.kitOne K (.ref (He.ga K x)) (.ref (He.ga K y)) = some (decide (x = y) || decide (y = r))) && decide (PySem.W.exmOne K (.ref (He.ga K x)) (.ref (He.ga K y)) = some (decide (x = y) || decide (y = r)))
structure Knd (K : PySem.W.Frag) (xs : List Str) (r : Str) (fa : Nat → Addr) : Prop where
  isv : ∀ (i : Nat) (x : Str), xs[i]? = some x → PySem.W.kitOne K (.ref (fa (300 + i))) (.type "ValueError") = some true
  is_ : ∀ (i j : Nat) (x y : Str), xs[i]? = some x → xs[j]? = some y → PySem.W.kitOne K (.ref (fa (300 + i))) (.ref (fa (300 + j))) = some (decide (x = y) || decide (y = r))
  exm : ∀ (i j : Nat) (x y : Str), xs[i]? = some x → xs[j]? = some y → PySem.W.exmOne K (.ref (fa (300 + i))) (.ref (fa (300 + j))) = some (decide (x = y) || decide (y = r))
theorem kndB_ok {K : PySem.W.Frag} {xs : List Str} {r : Str} {fa : Nat → Addr} (hfa : ∀ (i : Nat) (x : Str), xs[i]? = some x → fa (300 + i) = He.ga K x) (h : kndB K xs r = true) : Knd K xs r fa := by
  have key : ∀ x, x ∈ xs → PySem.W.kitOne K (.ref (He.ga K x)) (.type "ValueError") = some true ∧ ∀ y, y ∈ xs → PySem.W.kitOne K (.ref (He.ga K x)) (.ref (He.ga K y)) = some (decide (x = y) || decide (y = r)) ∧ PySem.W.exmOne K (.ref (He.ga K x)) (.ref (He.ga K y)) = some (decide (x = y) || decide (y = r)) := fun x hx => by
    obtain ⟨h1, h2⟩ := He.ba (List.all_eq_true.mp h x hx)
    refine ⟨of_decide_eq_true h1, fun y hy => ?_⟩
    obtain ⟨h3, h4⟩ := He.ba (List.all_eq_true.mp h2 y hy)
    exact ⟨of_decide_eq_true h3, of_decide_eq_true h4⟩
  refine ⟨fun i x hx => ?_, fun i j x y hx hy => ?_, fun i j x y hx hy => ?_⟩
  · rw [hfa i x hx]
    exact (key x (List.mem_of_getElem? hx)).1
  · rw [hfa i x hx, hfa j y hy]
    exact ((key x (List.mem_of_getElem? hx)).2 y (List.mem_of_getElem? hy)).1
  · rw [hfa i x hx, hfa j y hy]
    exact ((key x (List.mem_of_getElem? hx)).2 y (List.mem_of_getElem? hy)).2
/-! ### the __init__ -/
abbrev ErW : Type := Option (Str × Str × Arguments × FuncBody × Scope × Addr × List Str × Addr)
structure ErD where
  cls : Str
  qual : Str
  params : Arguments
  body : List Stmt
  scope : Scope
def ia (K : PySem.W.Frag) (x : Str) : Addr := He.ma K (He.ga K x) "__init__"
def erW (K : PySem.W.Frag) (x : Str) : ErW := match K.lookup (ia K x) with
  | some ⟨_, _, .func fd, _⟩ => some (fd.name, fd.qualname, fd.params, fd.body, fd.scope, fd.globals, fd.closure.map (·.1), fd.builtins)
  | _ => none
def ErD.val (d : ErD) : ErW := some ("__init__", d.qual, d.params, .stmts d.body, d.scope, mainGlobals, ["__class__"], builtinsNs)
def cellB (K : PySem.W.Frag) (C : Addr) (cl : List (Str × Addr)) : Bool := match cl with
  | [(_, cc)] => (match K.lookup cc with
    | some ⟨_, _, .cell (some (.ref c)), _⟩ => decide (c = C)
    | _ => false)
  | _ => false
def codeB (K : PySem.W.Frag) (file : Str) (cd : Value) : Bool := match cd with
  | .ref cda => (match K.lookup cda with
    | some ⟨_, _, .fields vs, _⟩ => (match (vs[2]? : Option Value) with
      | some (Value.str f _) => file == f
      | _ => false)
    | _ => false)
  | _ => false
def ErD.ok (file : Str) (K : PySem.W.Frag) (d : ErD) : Bool := decide (PySem.W.findIn K (.ref (He.ga K d.cls)) "__init__" = some (some (.ref (ia K d.cls)))) && (decide (PySem.W.typeIn K (.ref (ia K d.cls)) = some (.type "function")) && ((match K.lookup (ia K d.cls) with
  | some ⟨_, _, .func fd, _⟩ => PySem.W.codeIn K fd.code d.qual && (cellB K (He.ga K d.cls) fd.closure && (codeB K file fd.code && decide (fd.defaults = Value.none)))
  | _ => false) && (oexB K (He.ga K d.cls) && (decide (PySem.W.nsIn K cStatics "thirdparty.any" = some none) && (decide (PySem.W.ks_superIn K (He.ga K d.cls) (He.ga K d.cls) "__init__" = some (some (.builtin "ValueError.__init__"))) &&
  (decide (PySem.W.mroIn K (He.ga K d.cls) (.ref (He.ga K d.cls)) = some true) && decide (PySem.W.mroIn K (He.ga K d.cls) (.type "ValueError") = some true)))))))
theorem ErD.errI {P : Program} {K : PySem.W.Frag} {d : ErD} {file : Str} (hf : P.main.file = file) (e : erW K d.cls = d.val) (h : d.ok file K = true) : ∃ fd, ErrI P K (He.ga K d.cls) (ia K d.cls) d.qual d.params d.body d.scope fd := by
  subst hf
  obtain ⟨h1, h⟩ := He.ba h
  obtain ⟨h2, h⟩ := He.ba h
  obtain ⟨h3, h⟩ := He.ba h
  obtain ⟨h4, h⟩ := He.ba h
  obtain ⟨h5, h⟩ := He.ba h
  obtain ⟨h6, h⟩ := He.ba h
  obtain ⟨h7, h8⟩ := He.ba h
  unfold erW at e
  cases q : K.lookup (ia K d.cls) with
  | none =>
    rw [q] at h3
    cases h3
  | some o =>
    obtain ⟨oc, od, dt, osl⟩ := o
    rw [q] at h3 e
    cases dt with
    | func fd =>
      obtain ⟨n1, n2, n3, n4, n5, n6, n7, n8, n9, n10, n11, n12, n13, n14, n15⟩ := fd
      have e2 : (some (n1, n2, n3, n4, n5, n6, n7.map (·.1), n15) : ErW) = (some ("__init__", d.qual, d.params, .stmts d.body, d.scope, mainGlobals, ["__class__"], builtinsNs) : ErW) := e
      simp only [Option.some.injEq, Prod.mk.injEq] at e2
      obtain ⟨g1, g2, g3, g4, g5, g6, g7, g8⟩ := e2
      subst g1 g2 g3 g4 g5 g6 g8
      have c3 : (PySem.W.codeIn K n13 d.qual && (cellB K (He.ga K d.cls) n7 && (codeB K P.main.file n13 && decide (n8 = Value.none)))) = true := h3
      obtain ⟨k1, k2⟩ := He.ba c3
      obtain ⟨k3, k24⟩ := He.ba k2
      obtain ⟨k4, k5⟩ := He.ba k24
      have k5 := of_decide_eq_true k5
      subst k5
      obtain ⟨cda, rfl⟩ := He.codeIn_ref k1
      have hcl : ∃ cc : Addr, n7 = ([("__class__", cc)] : List (Str × Addr)) ∧ ∃ cl cld csl, K.lookup cc = some ⟨cl, cld, .cell (some (.ref (He.ga K d.cls))), csl⟩ := by
        unfold cellB at k3
        split at k3
        · rename_i y cc
          have hy : y = "__class__" := by simpa using g7
          subst hy
          split at k3
          · rename_i cl cld c csl hcc
            have := of_decide_eq_true k3
            subst this
            exact ⟨cc, rfl, cl, cld, csl, hcc⟩
          · cases k3
        · cases k3
      obtain ⟨cc, rfl, cl, cld, csl, hcc⟩ := hcl
      have hco : ∃ (ccl : Value) (cdd : Option Addr) (vs : Array Value) (ccs : Array (Option Value)) (file : Str) (tf : Tok), K.lookup cda = some ⟨ccl, cdd, .fields vs, ccs⟩ ∧ vs[2]? = some (.str file tf) ∧ ((P.main.file : Str) == file) = true := by
        unfold codeB at k4
        dsimp only at k4
        split at k4
        · rename_i ccl cdd vs ccs hcd
          split at k4
          · rename_i f tf hv
            exact ⟨ccl, cdd, vs, ccs, f, tf, hcd, hv, k4⟩
          · cases k4
        · cases k4
      exact ⟨_, of_decide_eq_true h1, of_decide_eq_true h2, cc, cda, oc, n9, n10, n11, n14, n12, od, osl, rfl, q, k1, oexB_ok h4, ⟨cl, cld, csl, hcc⟩, of_decide_eq_true h5, of_decide_eq_true h6, of_decide_eq_true h7, of_decide_eq_true h8, hco⟩
    | _ => cases h3
theorem ErrI.binds {P : Program} {K : PySem.W.Frag} {C fI : Addr} {qual : Str} {params : Arguments} {body : List Stmt} {scope : Scope} {fd : FuncData} {ps : List Str} (I : ErrI P K C fI qual params body scope fd)
    (h : ∀ (cc : Addr) (kV doc pm : Value) (an : Option Addr) (cdv ct : Value) (us : List Value), us.length = ps.length → bindArgs (PySem.W.fnX "__init__" qual params body scope [("__class__", cc)] .none kV doc pm an cdv ct) ⟨us, []⟩ = pure (ps.zip us)) : Binds K fd ps [] := by
  obtain ⟨cc, cda, oc, kV, doc, pm, ct, an, od, osl, rfl, _⟩ := I.ex
  exact .all (h cc kV doc pm an _ ct)
theorem ErrI.kbn {P : Program} {K : PySem.W.Frag} {C fI : Addr} {qual : Str} {params : Arguments} {body : List Stmt} {scope : Scope} {fd : FuncData} {ps ks : List Str} {n : Nat} {g : List Value → List Value → List Value} {gV : List V → List V → List V} (I : ErrI P K C fI qual params body scope fd)
    (h : ∀ (cc : Addr) (kV doc pm : Value) (an : Option Addr) (cdv ct : Value) (us ws : List Value), us.length = n → ws.length = ks.length → bindArgs (PySem.W.fnX "__init__" qual params body scope [("__class__", cc)] .none kV doc pm an cdv ct) ⟨us, ks.zip ws⟩ = pure (ps.zip (g us ws)))
    (rel : ∀ {vs : List V} {us : List Value} {zs : List V} {ws : List Value}, Vals vs us → Vals zs ws → Vals (gV vs zs) (g us ws)) : KBn K fd ps n ks g gV := by
  obtain ⟨cc, cda, oc, kV, doc, pm, ct, an, od, osl, rfl, _⟩ := I.ex
  exact ⟨fun s us ws _ l1 l2 => .of_eq (h cc kV doc pm an _ ct us ws l1 l2), rel⟩
/-! ### the hook -/
/-- what a division by a very large number asks of the interpreter's own tables -/
structure SkK (K : PySem.W.Frag) : Prop where
  st : PySem.W.nsOkIn K cStatics = true ∧ PySem.W.nsIn K cStatics "sys.audit-hooks" = some none ∧ PySem.W.nsIn K cStatics "sys.dict" = some none
  md : PySem.W.nsOkIn K sysModules = true ∧ PySem.W.nsIn K sysModules "_pylong" = some none
  mn : ∃ (bm : Addr) (o : Obj), PySem.W.nsIn K mainGlobals "__builtins__" = some (some (.ref bm)) ∧ K.lookup bm = some o ∧ o.cls = .type "module" ∧ o.dict = some builtinsNs
def mnB (K : PySem.W.Frag) : Bool := match PySem.W.nsIn K mainGlobals "__builtins__" with
  | some (some (.ref bm)) => (match K.lookup bm with
    | some o => decide (o.cls = .type "module") && decide (o.dict = some builtinsNs)
    | none => false)
  | _ => false
def skB (K : PySem.W.Frag) : Bool := PySem.W.nsOkIn K cStatics && (decide (PySem.W.nsIn K cStatics "sys.audit-hooks" = some none) && (decide (PySem.W.nsIn K cStatics "sys.dict" = some none) && (PySem.W.nsOkIn K sysModules && (decide (PySem.W.nsIn K sysModules "_pylong" = some none) && mnB K))))
theorem skB_ok {K : PySem.W.Frag} (h : skB K = true) : SkK K := by
  obtain ⟨h1, h⟩ := He.ba h
  obtain ⟨h2, h⟩ := He.ba h
  obtain ⟨h3, h⟩ := He.ba h
  obtain ⟨h4, h⟩ := He.ba h
  obtain ⟨h5, h6⟩ := He.ba h
  refine ⟨⟨h1, of_decide_eq_true h2, of_decide_eq_true h3⟩, ⟨h4, of_decide_eq_true h5⟩, ?_⟩
  unfold mnB at h6
  split at h6
  · rename_i bm e
    split at h6
    · rename_i o ho
      obtain ⟨a, b⟩ := He.ba h6
      exact ⟨bm, o, e, ho, of_decide_eq_true a, of_decide_eq_true b⟩
    · cases h6
  · cases h6
theorem SkK.noSeer {K : PySem.W.Frag} {mg : Str → Option Value} {base h : Heap} (S : SkK K) (M : Mod K mg base) (k : ∀ b o, base.get? b = some o → h.get? b = some o) : h.NoSeer := by
  refine Heap.NoSeer.keeps (h := base) ?_ k
  obtain ⟨bm, o, e1, e2, e3, e4⟩ := S.mn
  exact ⟨⟨_, .of_isNs (PySem.W.isNs_of_in M.kin S.st.1), PySem.W.nsMap_none_of_in M.kin S.st.1 S.st.2.1, PySem.W.nsMap_none_of_in M.kin S.st.1 S.st.2.2⟩,
    ⟨_, .of_isNs (PySem.W.isNs_of_in M.kin S.md.1), PySem.W.nsMap_none_of_in M.kin S.md.1 S.md.2⟩, M.blt, mg, bm, o, M.glob, PySem.W.mg_of M.kin M.glob e1, M.kin _ _ e2, e3, e4⟩
/-- // by a positive divisor of any size -/
theorem op_fdivA {X : Cx} (hr : Room 32 X.A) (hs : X.stack = X.env :: X.outer) (S : SkK X.K) (ht : X.prog.given.tree = none) (hg : X.env.scope.isGenerator = false) (hc : X.env.scope.isCoroutine = false) : OpR X (binaryOp .FloorDiv) (rI (fun _ j => 0 < j) fun i j => .int (i / j)) := by
  intro pins s σ H x y v u Q I rx ry h
  obtain ⟨i, j, rfl, rfl, hj, q⟩ := h
  obtain ⟨t, rfl⟩ := rx
  obtain ⟨t', rfl⟩ := ry
  have h1 : (0 : Int) < j := hj
  have sa : SeerAt (model X.prog X.w) X.A s.heap := SeerAt.of (env := X.env) (l := X.outer) (S.noSeer I.mod I.bk) ht (by rw [I.ok.frames, hs]) hg hc I.ok.blt I.ok.glob
  refine floordiv_int (by omega) ?_ (.inr (PylongRoom.of I.nolimit (by have := hr.dp; show X.A.depth + 100 < recursionLimit; omega) sa))
  rw [Int.fdiv_eq_ediv_of_nonneg i (by omega)]
  exact ⟨.int (i / j), H, I.tok _, ⟨_, rfl⟩, q⟩
structure SaysY (fa : List He.Fa) (fn : List He.DefD) (ts : List He.Tab) (es : List ErD) (ex : PySem.W.Frag → Bool) (w : World) (K : PySem.W.Frag) : Prop where
  t : He.SaysT fa fn ts w K
  more : ex K = true
  e : es.map (fun d => erW K d.cls) = es.map ErD.val
abbrev AlY : Type := He.AlT × Bool × List ErW
def asY (g : Addr → Option Obj) (n : Nat) : List Addr := cStatics :: sysModules :: He.asD g n
def obsY (n : Nat) (fa : List He.Fa) (fn : List He.DefD) (ts : List He.Tab) (es : List ErD) (ex : PySem.W.Frag → Bool) (g : Addr → Option Obj) : AlY := (He.obsT fa fn ts (He.frT g (asY g n)), ex (He.frT g (asY g n)), es.map fun d => erW (He.frT g (asY g n)) d.cls)
def hookY (n : Nat) (fa : List He.Fa) (fn : List He.DefD) (ts : List He.Tab) (es : List ErD) (ex : PySem.W.Frag → Bool) : PySem.W.Hook where
  α := AlY
  obs := fun s => obsY n fa fn ts es ex s.heap.get?
  val := fun w => (He.valT fn ts w, true, es.map ErD.val)
  says := fun w h => ∃ K : PySem.W.Frag, K.In h ∧ SaysY fa fn ts es ex w K
  of := fun _ _ e => ⟨_, He.frT_in, congrArg (fun z : AlY => z.1) e, congrArg (fun z : AlY => z.2.1) e, congrArg (fun z : AlY => z.2.2) e⟩
  keeps := fun _ _ _ ⟨K, hK, c⟩ k => ⟨K, PySem.W.Frag.In.keeps hK k, c⟩
theorem obsY_eq {n : Nat} {fa : List He.Fa} {fn : List He.DefD} {ts : List He.Tab} {es : List ErD} {ex : PySem.W.Frag → Bool} {g : Addr → Option Obj} {s : Shared} (h : ∀ a, g a = s.heap.get? a) : obsY n fa fn ts es ex g = (hookY n fa fn ts es ex).obs s := by
  have e : g = s.heap.get? := funext h
  rw [e] <;> rfl
theorem SaysY.err {P : Program} {fa : List He.Fa} {fn : List He.DefD} {ts : List He.Tab} {es : List ErD} {ex : PySem.W.Frag → Bool} {w : World} {K : PySem.W.Frag} {file : Str} (c : SaysY fa fn ts es ex w K) (i : Nat) {d : ErD} (hd : es[i]? = some d) (hf : P.main.file = file) (ok : d.ok file K = true) :
    ∃ fd, ErrI P K (He.ga K d.cls) (ia K d.cls) d.qual d.params d.body d.scope fd := by
  have e2 : (es.map fun d => erW K d.cls)[i]? = (es.map ErD.val)[i]? := by rw [c.e]
  rw [List.getElem?_map, List.getElem?_map, hd] at e2
  exact ErD.errI hf (Option.some.inj e2) ok
end OwnHd

/-! comprehensions whose items are new objects -/
namespace OwnG
open PySem L2 Evl Own
theorem st_is {t : TS} {D : Ends} {σ σ' : L2.St} {H : Hp} (e : σ = σ') (h : t D σ' H) : t D σ H := by rw [e]; exact h
/-- a new object of a kind -/
def EvNew (te : TE) (σ : L2.St) (H : Hp) (P : HO → Prop) : Prop := ∀ H1, Ex H H1 → ∀ Q : VK, (∀ q H2 o, H1 q = none → Ex H1 H2 → H2 q = some o → P o → Q (.ref q) H2) → te σ H1 Q
/-- a new list of new objects -/
def EvLN (te : TE) (σ : L2.St) (H : Hp) (n : Nat) (P : Nat → HO → Prop) : Prop := ∀ H1, Ex H H1 → ∀ Q : VK, (∀ (qs : List Addr) p H2, H1 p = none → Ex H1 H2 → H2 p = some (.lst (qs.map V.ref)) → qs.length = n → (∀ i q, qs[i]? = some q → H1 q = none ∧ q ≠ p ∧ ∃ o, H2 q = some o ∧ P i o) → Q (.ref p) H2) → te σ H1 Q
def Co (H : Hp) (P : Nat → HO → Prop) (Dl : Addr) (i : Nat) (H' : Hp) : Prop := H Dl = none ∧ Ex H H' ∧ ∃ qs : List Addr, H' Dl = some (.lst (qs.map V.ref)) ∧ qs.length = i ∧ ∀ j q, qs[j]? = some q → H q = none ∧ q ≠ Dl ∧ ∃ o, H' q = some o ∧ P j o
section
variable {K : PySem.W.Frag} {σ : L2.St} {H H' : Hp} {ta tb te tl : TE} {P : Nat → HO → Prop}
theorem evNew_L {xs : List V} {P : HO → Prop} (h : EvL te σ H xs) (p : P (.lst xs)) : EvNew te σ H P := fun H1 e Q q => h H1 e Q fun a H2 ha e2 h2 => q a H2 _ ha e2 h2 p
theorem evNew_U {xs : List V} {P : HO → Prop} (h : EvU te σ H xs) (p : P (.tup xs)) : EvNew te σ H P := fun H1 e Q q => h H1 e Q fun a H2 ha e2 h2 => q a H2 _ ha e2 h2 p
theorem evNew_callH {sp : Sp} {dvs : List V} {E : XK} {t : TA} {Pq : List V → Hp → Prop} {R : HO → Prop} (h : EvAH t σ H Pq) (hs : ∀ vs H1, Ex H H1 → Pq vs H1 → ∀ Q : VK, (∀ q H2 o, Ex H1 H2 → H1 q = none → H2 q = some o → R o → Q (.ref q) H2) → ∀ E : XK, sp (vs ++ dvs) H1 Q E) : EvNew (tCall sp dvs E t) σ H R := fun H1 e Q q =>
  h H1 e _ fun vs H2 p e2 => hs vs H2 (e.trans e2) p Q (fun a H3 o e3 n3 h3 r => q a H3 o (fresh_back e2 n3) (e2.trans e3) h3 r) E
theorem ev_neg {i : Int} (h : Ev te σ H (.int i)) : Ev (tUn (rU fun i => V.int (-i)) te) σ H (.int (-i)) := ev_un h fun H1 _ Q q => ⟨i, rfl, q H1 (Ex.refl H1)⟩
theorem co_turn {Dl : Addr} {i : Nat} {σ2 : L2.St} (p : Co H P Dl i H') (hi : i < 50000) (he : EvNew te σ2 H' (P i)) :
    te σ2 H' fun y H4 => ∃ acc, H4 Dl = some (.lst acc) ∧ acc.length < sizeLine ∧ Co H P Dl (i + 1) (upd H4 Dl (.lst (acc ++ [y]))) := by
  obtain ⟨p1, p2, qs, p3, p4, p5⟩ := p
  refine he H' (Ex.refl H') _ fun q H4 o hq e4 ho po => ⟨qs.map V.ref, e4 _ _ p3, sz_lt (by rw [List.length_map]; omega), p1, Ex.mut (p2.trans e4) p1, qs ++ [q], by rw [upd_same, List.map_append]; rfl, by rw [List.length_append, p4]; rfl, fun j x hj => ?_⟩
  have qD : q ≠ Dl := fun z => by rw [z, p3] at hq; cases hq
  by_cases c : j < qs.length
  · rw [List.getElem?_append_left c] at hj
    obtain ⟨a1, a2, o2, a3, a4⟩ := p5 j x hj
    exact ⟨a1, a2, o2, by rw [upd_ne a2]; exact e4 _ _ a3, a4⟩
  · rw [List.getElem?_append_right (by omega)] at hj
    have e0 : j - qs.length = 0 := by have := (List.getElem?_eq_some_iff.mp hj).1; simp at this; omega
    rw [e0] at hj
    cases hj
    have : j = i := by omega
    subst this
    exact ⟨fresh_back p2 hq, qD, o, by rw [upd_ne qD]; exact ho, po⟩
theorem eln_R {ta : TA} {j : Nat} {vs : List Nat} {m : Nat} (h : EvA ta σ H [iV m]) (hz : m ≤ 40000) (hw : ∀ x, wipe ((wipe σ vs).set j (some x)) vs = wipe σ vs)
    (he : ∀ (i : Nat) H1, Ex H H1 → i < m → EvNew te ((wipe σ vs).set j (some (iV i))) H1 (P i)) : EvLN (tLc (iRng1 ta) (gName j) tYes te vs) σ H m P := fun H0 e Q q => h H0 e _ fun H1 e1 => ⟨(m : Int), rfl, by omega, by omega, fun Dl hD =>
  lc_range (lo := 0) (n := m) (Co H1 P Dl) ⟨hD, Ex.new hD, [], upd_same, rfl, fun j x hj => by cases hj⟩ (fun i H' hi p => by
    have e0 : (0 : Int) + (i : Int) = (i : Int) := Int.zero_add _
    refine ⟨(by rw [e0]; exact hw _ : wipe ((wipe σ vs).set j (some (.int ((0 : Int) + (i : Int))))) vs = wipe σ vs), iteT (B := Co H1 P Dl (i + 1) H') ?_⟩
    rw [e0]
    exact co_turn p (by omega) (he i H' ((e.trans e1).trans p.2.1) hi)) (fun H' ⟨p1, p2, qs, p3, p4, p5⟩ => q qs Dl H' (fresh_back e1 p1) (e1.trans p2) p3 p4 fun i x hx => ⟨fresh_back e1 (p5 i x hx).1, (p5 i x hx).2⟩)⟩
theorem eln_L {xs : List V} {j : Nat} {vs : List Nat} {a : Addr} (h : Ev tl σ H (.ref a)) (hx : SqL K H a xs) (hz : xs.length ≤ 40000) (hw : ∀ x, wipe ((wipe σ vs).set j (some x)) vs = wipe σ vs)
    (he : ∀ (i : Nat) (x : V) H1, Ex H H1 → xs[i]? = some x → EvNew te ((wipe σ vs).set j (some x)) H1 (P i)) : EvLN (tLc (iList K tl) (gName j) tYes te vs) σ H xs.length P := fun H0 e Q q => h H0 e _ fun H1 e1 => ⟨a, rfl, ⟨xs, ex_l (e.trans e1) hx⟩, fun Dl hD =>
  lc_list (xs := xs) (Co H1 P Dl) ⟨hD, Ex.new hD, [], upd_same, rfl, fun j x hj => by cases hj⟩ (fun i H' _ p => ex_l ((e.trans e1).trans p.2.1) hx) (fun i x H' hi p => ⟨hw x, iteT (B := Co H1 P Dl (i + 1) H') (co_turn p (by have := (List.getElem?_eq_some_iff.mp hi).1; omega) (he i x H' ((e.trans e1).trans p.2.1) hi))⟩)
    (fun H' ⟨p1, p2, qs, p3, p4, p5⟩ => q qs Dl H' (fresh_back e1 p1) (e1.trans p2) p3 p4 fun i x hx => ⟨fresh_back e1 (p5 i x hx).1, (p5 i x hx).2⟩)⟩
theorem eln_T {xs : List V} {j : Nat} {vs : List Nat} (h : EvH tl σ H (TpV K xs)) (hz : xs.length ≤ 40000) (hw : ∀ x, wipe ((wipe σ vs).set j (some x)) vs = wipe σ vs)
    (he : ∀ (i : Nat) (x : V) H1, Ex H H1 → xs[i]? = some x → EvNew te ((wipe σ vs).set j (some x)) H1 (P i)) : EvLN (tLc (iTup K tl) (gName j) tYes te vs) σ H xs.length P := fun H0 e Q q => h H0 e _ fun v H1 e1 ⟨a, ea, hx⟩ => ⟨a, ea, ⟨xs, hx⟩, fun Dl hD =>
  lc_tup (xs := xs) (Co H1 P Dl) ⟨hD, Ex.new hD, [], upd_same, rfl, fun j x hj => by cases hj⟩ (fun i H' _ p => ex_t p.2.1 hx) (fun i x H' hi p => ⟨hw x, iteT (B := Co H1 P Dl (i + 1) H') (co_turn p (by have := (List.getElem?_eq_some_iff.mp hi).1; omega) (he i x H' ((e.trans e1).trans p.2.1) hi))⟩)
    (fun H' ⟨p1, p2, qs, p3, p4, p5⟩ => q qs Dl H' (fresh_back e1 p1) (e1.trans p2) p3 p4 fun i x hx => ⟨fresh_back e1 (p5 i x hx).1, (p5 i x hx).2⟩)⟩
theorem evH_ofLN {n : Nat} (h : EvLN te σ H n P) : EvH te σ H (fun v H1 => ∃ (p : Addr) (qs : List Addr), v = .ref p ∧ H1 p = some (.lst (qs.map V.ref)) ∧ qs.length = n ∧ ∀ i q, qs[i]? = some q → ∃ o, H1 q = some o ∧ P i o) := fun H1 e Q q => h H1 e Q fun qs p H2 _ e2 h2 l2 r2 => q _ H2 e2 ⟨p, qs, rfl, h2, l2, fun i x hx => (r2 i x hx).2.2⟩
/-- None in a list of lists -/
theorem et_noneIn {a : Addr} {qs : List Addr} (ha : Ev ta σ H (.ref a)) (h : SqL K H a (qs.map V.ref)) (hq : ∀ q ∈ qs, ∃ ys, SqL K H q ys) : EvT (tTest (tOp (rNoneIn K) (tC .non) ta)) σ H false := et_test fun H1 e Q q =>
  ha H1 e _ fun H2 e2 => ⟨a, qs.map V.ref, rfl, rfl, ex_l (e.trans e2) h, fun v hv => by
    obtain ⟨p, hp, rfl⟩ := List.mem_map.mp hv
    obtain ⟨ys, hy⟩ := hq p hp
    exact ⟨p, ys, rfl, ex_l (e.trans e2) hy⟩, q H2 e2⟩
end
end OwnG

/-! readings about own errors -/
namespace OwnG
open PySem PySem.Spec PyProof.Rows L2 Evl Own
theorem log2_small {i : Int} (h0 : -1000000000000000000 < i) (h1 : i < 1000000000000000000) : i.natAbs.log2 < 1920 := by
  have h : i.natAbs < 2 ^ 60 := by
    have : (2 : Nat) ^ 60 = 1152921504606846976 := by decide
    omega
  by_cases z : i.natAbs = 0
  · rw [z]
    decide
  · have := (Nat.log2_lt z).mpr h
    omega
/-- the text of a number in a message -/
def spTold : Sp := fun vs H Q _ => ∃ i : Int, vs = [.int i] ∧ ∀ y H2, y.length ≤ 2000 → Ex H H2 → Q (.str y) H2
section
variable {K : PySem.W.Frag} {σ : L2.St} {H : Hp} {te : TE}
theorem evS_told {i : Int} (h : Ev te σ H (.int i)) : EvS (tCall spTold [] E0 (tCons te tNil)) σ H (IsS 2000) := fun H1 e1 Q q =>
  h H1 e1 _ fun H2 e2 => ⟨i, rfl, fun y H3 hy e3 => q _ H3 ⟨y, rfl, hy⟩ (e2.trans e3)⟩
theorem evS_fmt {n : Nat} (h : EvS te σ H (IsS n)) (hn : n ≤ 100000) : EvS (tFmt te) σ H (IsS n) := fun H1 e1 Q q =>
  h H1 e1 _ fun v H2 ⟨y, ev, hy⟩ e2 => .inl ⟨y, ev, Nat.le_trans hy (Nat.le_trans hn (by rw [sizeLine_eq]; decide)), q _ H2 ⟨y, rfl, hy⟩ e2⟩
theorem evS_fmtI {i : Int} (h : Ev te σ H (.int i)) (hz : i.natAbs.log2 < 1920) : EvS (tFmt te) σ H (IsS 2000) := fun H1 e1 Q q =>
  h H1 e1 _ fun H2 e2 => .inr ⟨i, rfl, hz, q _ H2 ⟨_, rfl, by
    have e := int_text_length_le (k := 1920) (by decide) hz
    show (Str.ofString (toString i)).length ≤ 2000
    rw [PySem.ofString_length]
    omega⟩ e2⟩
theorem evS_str {a : Str} {n : Nat} (h : a.length ≤ n) : EvS (tC (.str a)) σ H (IsS n) := fun H1 e1 Q q => q _ H1 ⟨a, rfl, h⟩ (Ex.refl H1)
/-- the parts of an f-string, each at most n long -/
theorem js_ok : ∀ {ts : List TE} {acc : Str} {n : Nat} {H : Hp} {Q : Str → Hp → Prop}, (∀ t ∈ ts, ∀ H1, Ex H H1 → EvS t σ H1 (IsS n)) → acc.length + ts.length * n ≤ 100000 → (∀ out H1, Ex H H1 → Q out H1) → tJs ts acc σ H Q
  | [], acc, n, H, Q, h, hl, q => q acc H (Ex.refl H)
  | t :: ts, acc, n, H, Q, h, hl, q => by
    have hl2 : acc.length + (ts.length * n + n) ≤ 100000 := by
      rw [List.length_cons, Nat.add_mul, Nat.one_mul] at hl
      exact hl
    refine h t List.mem_cons_self H (Ex.refl H) H (Ex.refl H) _ fun v H1 ⟨y, ev, hy⟩ e1 => ⟨y, ev, ?_, ?_⟩
    · rw [Str.length_append]
      rw [sizeLine_eq]
      omega
    · refine js_ok (n := n) (fun t ht H2 e2 => h t (List.mem_cons_of_mem _ ht) H2 (e1.trans e2)) (by rw [Str.length_append]; omega) fun out H2 e2 => q out H2 (e1.trans e2)
/-- the message of an error: one argument -/
theorem ea_msg {ts : List TE} {n : Nat} {Q : List V → Hp → Prop} (h : ∀ t ∈ ts, ∀ H1, Ex H H1 → EvS t σ H1 (IsS n)) (hl : ts.length * n ≤ 100000) (q : ∀ us H1, us.length ≤ 1000 → Ex H H1 → Q us H1) :
    tCons (fun σ H Q => tJs ts Str.empty σ H fun out H1 => Q (.str out) H1) tNil σ H Q :=
  js_ok (n := n) h (by show 0 + _ ≤ _; omega) fun out H1 e1 => q [.str out] H1 (by show 1 ≤ 1000; decide) e1
theorem q_ost1 {C a : Addr} {f : Str} {i j : Nat} {v : V} {D : Ends} (T : OexC K C) (hno : PySem.W.findIn K (.ref C) f = some none) (h0 : σ[i]? = some (some (.ref a))) (h1 : σ[j]? = some (some v)) (ha : H a = some (exo a C none))
    (q : ∀ (d : Addr) H', d ≠ a → H d = none → (∀ b o, b ≠ a → H b = some o → H' b = some o) → H' a = some (exo a C (some d)) → H' d = some (exd d [(f, v)]) → D.nx σ H') : tOst K f (tVar i) (tVar j) D σ H :=
  ⟨v, h1, .ref a, h0, a, C, rfl, T, hno, .inl ⟨ha, fun dx n ne => q dx _ ne n (fun b o hb e => by rw [upd_ne hb, upd_ne (fun z => by rw [z, n] at e; cases e)]; exact e) upd_same (by rw [upd_ne ne, upd_same])⟩⟩
theorem q_ost2 {C a d : Addr} {f : Str} {i j : Nat} {v : V} {fs : List (Str × V)} {D : Ends} (T : OexC K C) (hno : PySem.W.findIn K (.ref C) f = some none) (h0 : σ[i]? = some (some (.ref a))) (h1 : σ[j]? = some (some v)) (ha : H a = some (exo a C (some d))) (hd : H d = some (exd d fs)) (hl : fs.length ≤ 900)
    (q : ∀ H', (∀ b o, b ≠ d → H b = some o → H' b = some o) → H' d = some (exd d ((f, v) :: fs)) → D.nx σ H') : tOst K f (tVar i) (tVar j) D σ H :=
  ⟨v, h1, .ref a, h0, a, C, rfl, T, hno, .inr ⟨d, fs, ha, hd, hl, q _ (fun b o hb e => by rw [upd_ne hb]; exact e) upd_same⟩⟩
/-- C(e, ..) raised -/
theorem q_mkO {C : Addr} {fs : List Str} {ok : List V → Prop} {ta : TA} {xs : List V} {Q : XK} (ha : EvA ta σ H xs) (hl : xs.length = fs.length) (hz : fs.length ≤ 1000) (hok : ok xs)
    (q : ∀ (d : Addr) H', Ex H H' → H' d = some (.xd (fs.zip xs).reverse) → Q (.ref C) (some d) H') : tMkO C (OwnF.spErr C fs ok) [] ta σ H Q :=
  ha H (Ex.refl H) _ fun H1 e1 => ⟨by omega, fun a na => ⟨a, xs, by rw [List.append_nil], hl, hok, upd_same, fun d H2 ne nd k h1 h2 => ⟨rfl, d, _, h1, h2, by rw [upd_ne ne] at nd; exact nd, q d _ (fun b o hb => by
    have hb1 := e1 b o hb
    have hba : b ≠ a := fun z => by rw [z, na] at hb1; cases hb1
    have hbd : b ≠ d := fun z => by
      rw [upd_ne ne] at nd
      rw [z, nd] at hb1
      cases hb1
    rw [upd_ne hbd, del_ne hba]
    exact k b o hba (by rw [upd_ne hba]; exact hb1)) upd_same⟩⟩⟩
end
end OwnG

namespace GM
def leadf (ts : Tab) (rs : List (List Nat)) : Pp → Pp := fun p => lead ts rs p.1 p.2
def PtP (ts : Tab) (p : Pp) : Prop := Pt ts p.1 p.2
theorem ptp_mem {ts : Tab} {p : Pp} (h : PtP ts p) : p ∈ ptsTo ts ts.length := mem_pts.mpr ⟨h.s, h.t⟩
theorem lead_inj {ts : Tab} {rs : List (List Nat)} (ok : TabOk ts) (ro : RowsOk ts rs) : ∀ x y, PtP ts x → PtP ts y → leadf ts rs x = leadf ts rs y → x = y := fun x y hx hy e => by
  have a := back_lead ok ro hx
  have b := back_lead ok ro hy
  have e : lead ts rs x.1 x.2 = lead ts rs y.1 y.2 := e
  rw [e, b] at a
  exact a.symm
/-! ### turning on and on -/
theorem rot_add {row : List Nat} (hn : row.Nodup) {t a b : Nat} (h : t ∈ row) : rot row (rot row t a) b = rot row t (a + b) := by
  have g := List.length_pos_of_mem h
  have g2 := Nat.mod_lt (row.idxOf t + a) g
  have e1 : row.idxOf (rot row t a) = (row.idxOf t + a) % row.length := idx_getD hn g2
  show row.getD ((row.idxOf (rot row t a) + b) % row.length) 0 = row.getD ((row.idxOf t + (a + b)) % row.length) 0
  rw [e1, Nat.mod_add_mod, Nat.add_assoc]
theorem rot_zero {row : List Nat} {t : Nat} (h : t ∈ row) : rot row t 0 = t := by
  unfold rot
  rw [Nat.add_zero, Nat.mod_eq_of_lt (List.idxOf_lt_length_of_mem h)]
  exact getD_idx h
/-- how far u is behind t -/
def gap (row : List Nat) (t u : Nat) : Nat := (row.idxOf u + (row.length - row.idxOf t)) % row.length
theorem gap_lt {row : List Nat} {t u : Nat} (h : t ∈ row) : gap row t u < row.length := Nat.mod_lt _ (List.length_pos_of_mem h)
theorem rot_gap {row : List Nat} {t u : Nat} (h : t ∈ row) (hu : u ∈ row) : rot row t (gap row t u) = u := by
  have g := List.idxOf_lt_length_of_mem h
  have g2 := List.idxOf_lt_length_of_mem hu
  unfold rot gap
  rw [Nat.add_mod_mod, show row.idxOf t + (row.idxOf u + (row.length - row.idxOf t)) = row.idxOf u + row.length by omega, Nat.add_mod_right, Nat.mod_eq_of_lt g2]
  exact getD_idx hu
theorem rot_inj {row : List Nat} (hn : row.Nodup) {t i j : Nat} (h : t ∈ row) (hi : i < row.length) (hj : j < row.length) (e : rot row t i = rot row t j) : i = j := by
  have g := List.length_pos_of_mem h
  have gt := List.idxOf_lt_length_of_mem h
  have e1 : row.idxOf (rot row t i) = (row.idxOf t + i) % row.length := idx_getD hn (Nat.mod_lt _ g)
  have e2 : row.idxOf (rot row t j) = (row.idxOf t + j) % row.length := idx_getD hn (Nat.mod_lt _ g)
  rw [e, e2] at e1
  have m : ∀ k, k < row.length → (row.idxOf t + k) % row.length = if row.idxOf t + k < row.length then row.idxOf t + k else row.idxOf t + k - row.length := fun k hk => by
    split
    · rename_i c
      exact Nat.mod_eq_of_lt c
    · rename_i c
      rw [Nat.mod_eq_sub_mod (by omega), Nat.mod_eq_of_lt (by omega)]
  rw [m i hi, m j hj] at e1
  split at e1 <;> split at e1 <;> omega
theorem gap_pos {row : List Nat} {t u : Nat} (h : t ∈ row) (hu : u ∈ row) (ne : u ≠ t) : 0 < gap row t u := by
  rcases Nat.eq_zero_or_pos (gap row t u) with e | e
  · have := rot_gap h hu
    rw [e, rot_zero h] at this
    exact absurd this.symm ne
  · exact e
theorem gap_rot {row : List Nat} (hn : row.Nodup) {t i : Nat} (h : t ∈ row) (hi : i < row.length) : gap row t (rot row t i) = i :=
  rot_inj hn h (gap_lt h) hi (rot_gap h (rot_mem h))
theorem gap_sym {row : List Nat} (hn : row.Nodup) {t u : Nat} (h : t ∈ row) (hu : u ∈ row) (ne : u ≠ t) : gap row t u + gap row u t = row.length := by
  have g := List.idxOf_lt_length_of_mem h
  have g2 := List.idxOf_lt_length_of_mem hu
  have d : row.idxOf t ≠ row.idxOf u := fun e => ne (by rw [← getD_idx h, ← getD_idx hu, e])
  have m : ∀ k, k < 2 * row.length → k % row.length = if k < row.length then k else k - row.length := fun k hk => by
    split
    · rename_i c
      exact Nat.mod_eq_of_lt c
    · rename_i c
      rw [Nat.mod_eq_sub_mod (by omega), Nat.mod_eq_of_lt (by omega)]
  unfold gap
  rw [m _ (by omega), m _ (by omega)]
  split <;> split <;> omega
/-- the fingers behind t, all of them -/
theorem rots_perm {row : List Nat} (hn : row.Nodup) {t : Nat} (h : t ∈ row) : (t :: (List.range (row.length - 1)).map fun j => rot row t (j + 1)).Perm row := by
  have g := List.length_pos_of_mem h
  have nd : (t :: (List.range (row.length - 1)).map fun j => rot row t (j + 1)).Nodup := by
    refine List.nodup_cons.mpr ⟨fun m => ?_, ?_⟩
    · obtain ⟨j, hj, e⟩ := List.mem_map.mp m
      have hj := List.mem_range.mp hj
      have e : rot row t (j + 1) = rot row t 0 := by rw [e, rot_zero h]
      have := rot_inj hn h (by omega) g e
      omega
    · refine List.pairwise_map.mpr (List.Pairwise.imp_of_mem (R := fun a b => a ≠ b) (fun {a b} ha hb ne e => ne ?_) List.nodup_range)
      have ha := List.mem_range.mp ha
      have hb := List.mem_range.mp hb
      have := rot_inj hn h (by omega) (by omega) e
      omega
  refine (List.perm_ext_iff_of_nodup nd hn).mpr fun x => ⟨fun m => ?_, fun m => ?_⟩
  · rcases List.mem_cons.mp m with e | m
    · rw [e]; exact h
    · obtain ⟨j, _, e⟩ := List.mem_map.mp m
      rw [← e]
      exact rot_mem h
  · by_cases e : x = t
    · rw [e]; exact List.mem_cons_self ..
    · have p := gap_pos h m e
      have l := gap_lt (u := x) h
      exact List.mem_cons_of_mem _ (List.mem_map.mpr ⟨gap row t x - 1, List.mem_range.mpr (by omega), by rw [show gap row t x - 1 + 1 = gap row t x by omega]; exact rot_gap h m⟩)
/-! ### runs -/
theorem run_app {f : Pp → Pp} : ∀ {l m : List Pp} {c d e : Pp}, Run f c l d → Run f d m e → Run f c (l ++ m) e
  | [], m, c, d, e, h, k => by rw [show c = d from h]; exact k
  | x :: l, m, c, d, e, h, k => ⟨h.1, run_app h.2 k⟩
theorem run_nodup' {f : Pp → Pp} {S : Pp → Prop} (inj : ∀ x y, S x → S y → f x = f y → x = y) {c : Pp} : ∀ {m l : List Pp} {e : Pp}, Run f c ((c :: l) ++ m) e → (∀ x ∈ (c :: l) ++ m, S x) → c ∉ l ++ m → (c :: l).Nodup → ((c :: l) ++ m).Nodup
  | [], l, e, _, _, _, n => by rw [List.append_nil]; exact n
  | d :: m, l, e, h, hs, hc, n => by
    obtain ⟨d2, h1, h2⟩ := run_split (l := c :: l) (m := d :: m) h
    have ed : d2 = d := h2.1
    subst ed
    have ne : d2 ≠ c := fun e => hc (by rw [e]; simp)
    have n2 := run_new inj h1 (fun y hy => hs y (List.mem_append_left _ hy)) n ne
    have n3 : (c :: (l ++ [d2])).Nodup := by
      show ((c :: l) ++ [d2]).Nodup
      exact List.nodup_append.mpr ⟨n, by simp, fun a ha b hb e => n2 (by rw [List.mem_singleton.mp hb] at e; exact e ▸ ha)⟩
    have e1 : (c :: l) ++ d2 :: m = (c :: (l ++ [d2])) ++ m := by simp
    rw [e1] at h hs ⊢
    exact run_nodup' inj h hs (by rw [List.append_assoc]; exact hc) n3
theorem run_nodup {f : Pp → Pp} {S : Pp → Prop} (inj : ∀ x y, S x → S y → f x = f y → x = y) {c : Pp} {l : List Pp} {e : Pp} (h : Run f c (c :: l) e) (hs : ∀ x ∈ c :: l, S x) (hc : c ∉ l) : (c :: l).Nodup :=
  run_nodup' (l := []) inj h hs hc (by simp)
/-- a run that comes back and meets d once is a tour -/
theorem tour_of {f : Pp → Pp} {S : Pp → Prop} (inj : ∀ x y, S x → S y → f x = f y → x = y) {a b : List Pp} {c d : Pp} (h : Run f c (a ++ d :: b) c) (hs : ∀ x ∈ a ++ d :: b, S x) (ha : d ∉ a) (hb : d ∉ b) : Tour f c (a ++ d :: b) := by
  obtain ⟨d2, h1, h2⟩ := run_split h
  have ed : d2 = d := h2.1
  subst ed
  have p : (d2 :: (b ++ a)).Perm (a ++ d2 :: b) := (List.perm_append_comm (l₁ := d2 :: b) (l₂ := a))
  have n := run_nodup inj (run_app (l := d2 :: b) h2 h1) (fun x hx => hs x (p.mem_iff.mp hx)) fun m => (List.mem_append.mp m).elim hb ha
  refine ⟨h, p.nodup_iff.mp n, ?_⟩
  cases a with
  | nil => rw [show c = d2 from h.1]; simp
  | cons x a => rw [show c = x from h.1]; simp
/-- tours that share a pointer -/
theorem tour_share {f : Pp → Pp} {c d x : Pp} {l u : List Pp} (a : Tour f c l) (b : Tour f d u) (hx : x ∈ l) (hy : x ∈ u) : ∀ y ∈ l, y ∈ u := fun y hy2 => by
  obtain ⟨k, e⟩ := tour_back a hx
  have hc : c ∈ u := e ▸ itr_in (S := fun z => z ∈ u) (tour_closed b) hy k
  obtain ⟨i, _, ei⟩ := run_mem a.run hy2
  exact ei ▸ itr_in (S := fun z => z ∈ u) (tour_closed b) hc i
theorem filter_one {α : Type} {p : α → Bool} : ∀ {M : List α} {m : α}, M.Nodup → m ∈ M → p m = true → (∀ x ∈ M, p x = true → x = m) → (M.filter p).length = 1
  | [], m, _, h, _, _ => by cases h
  | a :: M, m, nd, h, hp, hu => by
    obtain ⟨n1, n2⟩ := List.nodup_cons.mp nd
    by_cases e : a = m
    · subst e
      rw [List.filter_cons_of_pos hp]
      have : M.filter p = [] := List.filter_eq_nil_iff.mpr fun x hx c => n1 ((hu x (List.mem_cons_of_mem _ hx) c) ▸ hx)
      rw [this]
      rfl
    · rw [List.filter_cons_of_neg fun c => e (hu a (List.mem_cons_self ..) c)]
      exact filter_one n2 ((List.mem_cons.mp h).resolve_left fun z => e z.symm) hp fun x hx => hu x (List.mem_cons_of_mem _ hx)
theorem filter_two {α : Type} (p : α → Bool) : ∀ M : List α, M.length = (M.filter p).length + (M.filter fun x => !p x).length
  | [] => rfl
  | a :: M => by
    have ih := filter_two p M
    cases h : p a with
    | true => rw [List.filter_cons_of_pos h, List.filter_cons_of_neg (by simp [h]), List.length_cons, List.length_cons]; omega
    | false => rw [List.filter_cons_of_neg (by simp [h]), List.filter_cons_of_pos (by simp [h]), List.length_cons, List.length_cons]; omega
/-- one mark in each -/
theorem marks_len : ∀ {T : List (List Pp)} {M : List Pp}, T.flatten.Nodup → M.Nodup → (∀ m ∈ M, m ∈ T.flatten) → (∀ l ∈ T, ∃ m ∈ M, m ∈ l) → (∀ l ∈ T, ∀ m ∈ M, ∀ m' ∈ M, m ∈ l → m' ∈ l → m = m') → T.length = M.length
  | [], M, _, _, hm, _, _ => by
    cases M with
    | nil => rfl
    | cons m M => exact absurd (hm m (List.mem_cons_self ..)) (by simp)
  | l :: T, M, nt, nm, hm, h1, h2 => by
    rw [List.flatten_cons] at nt
    obtain ⟨_, nt2, nt3⟩ := List.nodup_append.mp nt
    obtain ⟨m, mM, ml⟩ := h1 l (List.mem_cons_self ..)
    have a1 : (M.filter fun x => decide (x ∈ l)).length = 1 := filter_one nm mM (decide_eq_true ml) fun x hx c => h2 l (List.mem_cons_self ..) x hx m mM (of_decide_eq_true c) ml
    have ih := marks_len (T := T) (M := M.filter fun x => !decide (x ∈ l)) nt2 (nm.sublist List.filter_sublist) (fun x hx => by
      obtain ⟨x1, x2⟩ := List.mem_filter.mp hx
      rcases List.mem_append.mp (by have := hm x x1; rw [List.flatten_cons] at this; exact this) with z | z
      · rw [decide_eq_true z] at x2; cases x2
      · exact z) (fun u hu => by
      obtain ⟨x, x1, x2⟩ := h1 u (List.mem_cons_of_mem _ hu)
      refine ⟨x, List.mem_filter.mpr ⟨x1, ?_⟩, x2⟩
      rw [decide_eq_false fun z => nt3 x z x (List.mem_flatten.mpr ⟨u, hu, x2⟩) rfl]
      rfl) (fun u hu x hx y hy => h2 u (List.mem_cons_of_mem _ hu) x (List.mem_filter.mp hx).1 y (List.mem_filter.mp hy).1)
    have := filter_two (fun x => decide (x ∈ l)) M
    rw [List.length_cons]
    omega
end GM

namespace GM
/-! ### walks round trees -/
def chd (ts : Tab) (v t : Nat) : Nat := (bk ts v).getD (t - 1) 0
abbrev rw_ (rs : List (List Nat)) (v : Nat) : List Nat := rs.getD v []
def eu (ts : Tab) (rs : List (List Nat)) : Nat → Nat → List Pp
  | 0, _ => []
  | n + 1, v => ((List.range (bk ts v).length).flatMap fun j => (v, rot (rw_ rs v) 0 (j + 1)) :: eu ts rs n (chd ts v (rot (rw_ rs v) 0 (j + 1)))) ++ [(v, 0)]
def pc (ts : Tab) (rs : List (List Nat)) (n v t : Nat) : List Pp := (v, t) :: eu ts rs n (chd ts v t)
def sg (ts : Tab) (rs : List (List Nat)) (n v t k : Nat) : List Pp := (List.range k).flatMap fun j => pc ts rs n v (rot (rw_ rs v) t (j + 1))
def Ht (ts : Tab) : Nat → Nat → Prop
  | 0, _ => False
  | n + 1, v => ∀ c ∈ bk ts v, Ht ts n c
section
variable {ts : Tab} {rs : List (List Nat)}
theorem eu_succ (n v : Nat) : eu ts rs (n + 1) v = sg ts rs n v 0 (bk ts v).length ++ [(v, 0)] := rfl
theorem sg_succ (n v t k : Nat) : sg ts rs n v t (k + 1) = sg ts rs n v t k ++ pc ts rs n v (rot (rw_ rs v) t (k + 1)) := by
  unfold sg
  rw [List.range_succ, List.flatMap_append, List.flatMap_cons, List.flatMap_nil, List.append_nil]
theorem chd_mem {v t : Nat} (p : Pt ts v t) (h : t ≠ 0) : chd ts v t ∈ bk ts v := bk_at p (Nat.pos_of_ne_zero h)
theorem chd_idx {v t : Nat} (p : Pt ts v t) (h : t ≠ 0) : (bk ts v).idxOf (chd ts v t) + 1 = t := by
  have := p.t
  unfold chd
  rw [idx_getD (bk_nodup ts v) (by omega)]
  omega
theorem nx_bk {v c : Nat} : c ∈ bk ts v ↔ nx ts c = some v := by
  rw [mem_bk]
  refine ⟨fun h => ?_, getD_some⟩
  unfold nx
  rw [List.getD_eq_getElem?_getD, h]
  rfl
theorem lead_chd {v t : Nat} (h : t ≠ 0) : leadf ts rs (v, t) = (chd ts v t, rot (rw_ rs (chd ts v t)) 0 1) := by
  unfold leadf lead
  show ((over ts v t).1, _) = _
  rw [over_pos (Nat.pos_of_ne_zero h)]
  rfl
theorem lead_up {v c : Nat} (h : nx ts c = some v) : leadf ts rs (c, 0) = (v, rot (rw_ rs v) ((bk ts v).idxOf c + 1) 1) := by
  unfold leadf lead
  show ((over ts c 0).1, _) = _
  rw [over_some h]
theorem lead_end {v : Nat} (h : nx ts v = none) : leadf ts rs (v, 0) = (v, rot (rw_ rs v) 0 1) := by
  unfold leadf lead
  show ((over ts v 0).1, _) = _
  rw [over_none h]
theorem has0 (ro : RowsOk ts rs) {v : Nat} (h : v < ts.length) : 0 ∈ rw_ rs v := ro.has ⟨h, Nat.zero_le _⟩
mutual
theorem eu_run (ok : TabOk ts) (ro : RowsOk ts rs) : ∀ {n v : Nat}, Ht ts n v → v < ts.length → Run (leadf ts rs) (v, rot (rw_ rs v) 0 1) (eu ts rs n v) (leadf ts rs (v, 0))
  | 0, v, h, _ => h.elim
  | n + 1, v, h, hv => by
    have rl := ro.rl hv
    rw [eu_succ]
    have p0 : Pt ts v 0 := ⟨hv, Nat.zero_le _⟩
    have ne : ∀ j, j < (bk ts v).length → rot (rw_ rs v) 0 (j + 1) ≠ 0 := fun j hj e => by
      have e : rot (rw_ rs v) 0 (j + 1) = rot (rw_ rs v) 0 0 := by rw [e, rot_zero (has0 ro hv)]
      have := rot_inj (ro.nodup hv) (ro.has p0) (show j + 1 < (rw_ rs v).length from by rw [show (rw_ rs v).length = _ from rl]; omega) (show 0 < (rw_ rs v).length from by rw [show (rw_ rs v).length = _ from rl]; omega) e
      omega
    have a := sg_run ok ro (n := n) (k := (bk ts v).length) p0 (fun j hj => ⟨ne j hj, h _ (chd_mem (ro.rot p0 _) (ne j hj))⟩)
    have z : rot (rw_ rs v) 0 ((bk ts v).length + 1) = 0 := by
      unfold rot
      rw [show (rw_ rs v).length = (bk ts v).length + 1 from rl, Nat.add_mod_right, Nat.mod_eq_of_lt (by have := List.idxOf_lt_length_of_mem (has0 ro hv); rw [show (rw_ rs v).length = _ from rl] at this; exact this)]
      exact getD_idx (has0 ro hv)
    rw [z] at a
    exact run_app a ⟨rfl, rfl⟩
termination_by n => (n, 0)
theorem sg_run (ok : TabOk ts) (ro : RowsOk ts rs) {n : Nat} : ∀ {v t k : Nat}, Pt ts v t → (∀ j, j < k → rot (rw_ rs v) t (j + 1) ≠ 0 ∧ Ht ts n (chd ts v (rot (rw_ rs v) t (j + 1)))) → Run (leadf ts rs) (v, rot (rw_ rs v) t 1) (sg ts rs n v t k) (v, rot (rw_ rs v) t (k + 1))
  | v, t, 0, p, h => rfl
  | v, t, k + 1, p, h => by
    rw [sg_succ]
    have a := sg_run ok ro (n := n) (k := k) p fun j hj => h j (by omega)
    refine run_app a ?_
    obtain ⟨ne, ht⟩ := h k (by omega)
    have pt := ro.rot p (k + 1)
    have cm := chd_mem pt ne
    refine ⟨rfl, ?_⟩
    rw [show leadf ts rs (v, rot (rw_ rs v) t (k + 1)) = _ from lead_chd ne]
    have b := eu_run ok ro (n := n) ht (bk_lt cm)
    have e : leadf ts rs (chd ts v (rot (rw_ rs v) t (k + 1)), 0) = (v, rot (rw_ rs v) t (k + 1 + 1)) := by
      rw [lead_up (nx_bk.mp cm), chd_idx pt ne, show rot (rw_ rs v) (rot (rw_ rs v) t (k + 1)) 1 = _ from rot_add (ro.nodup p.s) (ro.has p)]
    rw [← e]
    exact b
termination_by v t k => (n, k + 1)
end
end
end GM

namespace GM
section
variable {ts : Tab} {rs : List (List Nat)}
theorem Ht.mono : ∀ {n m v : Nat}, n ≤ m → Ht ts n v → Ht ts m v
  | 0, m, v, _, h => h.elim
  | n + 1, 0, v, e, h => absurd e (by omega)
  | n + 1, m + 1, v, e, h => fun c hc => Ht.mono (by omega) (h c hc)
theorem fw_last {u v : Nat} (f : Fw ts u v) : u = v ∨ ∃ c, c ∈ bk ts v ∧ Fw ts u c := by
  induction f with
  | refl => exact .inl rfl
  | step e f ih =>
    rcases ih with h | ⟨c, h1, h2⟩
    · subst h
      exact .inr ⟨_, nx_bk.mpr e, .refl _⟩
    · exact .inr ⟨c, h1, .step e h2⟩
theorem fw_lt {u v : Nat} (hv : v < ts.length) (f : Fw ts u v) : u < ts.length := by
  cases f with
  | refl => exact hv
  | step e _ => exact nx_lt e
def Cyc (ts : Tab) (v : Nat) : Prop := ∃ y, nx ts v = some y ∧ Fw ts y v
theorem ht_acyc : ∀ {n c : Nat}, Ht ts n c → ¬ Cyc ts c
  | 0, c, h, _ => h
  | n + 1, c, h, ⟨y, e, f⟩ => by
    rcases fw_last f with z | ⟨d, h1, h2⟩
    · subst z
      exact ht_acyc (h _ (nx_bk.mpr e)) ⟨_, e, .refl _⟩
    · exact ht_acyc (h d h1) ⟨c, nx_bk.mp h1, .step e h2⟩
open Classical in
theorem ht_of {v : Nat} (hv : v < ts.length) (h : ¬ Cyc ts v) : Ht ts (ts.length + 1) v := by
  have key : ∀ n v, v < ts.length → ¬ Cyc ts v → ((List.range ts.length).filter fun u => decide (Fw ts u v)).length ≤ n → Ht ts n v := by
    intro n
    induction n with
    | zero =>
      intro v hv h hn
      have : v ∈ (List.range ts.length).filter fun u => decide (Fw ts u v) := List.mem_filter.mpr ⟨List.mem_range.mpr hv, decide_eq_true (.refl v)⟩
      have := List.length_pos_of_mem this
      omega
    | succ n ih =>
      intro v hv h hn c hc
      have e := nx_bk.mp hc
      have hcv : ¬ Fw ts v c := fun f => h (by
        cases f with
        | refl => exact ⟨v, e, .refl v⟩
        | step e2 f2 => exact ⟨_, e2, f2.trans (.step e (.refl v))⟩)
      refine ih c (bk_lt hc) (fun ⟨y, e2, f⟩ => ?_) ?_
      · rw [e] at e2
        cases e2
        exact hcv f
      · have sub : ∀ u ∈ v :: (List.range ts.length).filter (fun u => decide (Fw ts u c)), u ∈ (List.range ts.length).filter fun u => decide (Fw ts u v) := fun u hu => by
          rcases List.mem_cons.mp hu with z | hu
          · subst z
            exact List.mem_filter.mpr ⟨List.mem_range.mpr hv, decide_eq_true (.refl u)⟩
          · obtain ⟨a, b⟩ := List.mem_filter.mp hu
            exact List.mem_filter.mpr ⟨a, decide_eq_true ((of_decide_eq_true b).trans (.step e (.refl v)))⟩
        have nd : (v :: (List.range ts.length).filter (fun u => decide (Fw ts u c))).Nodup := List.nodup_cons.mpr ⟨fun m => hcv (of_decide_eq_true (List.mem_filter.mp m).2), List.nodup_range.sublist List.filter_sublist⟩
        have := nd.length_le_of_subset sub
        rw [List.length_cons] at this
        omega
  refine (key ts.length v hv h ?_).mono (Nat.le_succ _)
  have := List.length_filter_le (fun u => decide (Fw ts u v)) (List.range ts.length)
  rw [List.length_range] at this
  exact this
theorem ht_child {n v c : Nat} (hc : c ∈ bk ts v) (h : Ht ts n c) : ¬ Fw ts v c := fun f => by
  have e := nx_bk.mp hc
  exact ht_acyc h ⟨v, e, f⟩
/-! ### members -/
theorem mem_sg {n v t k : Nat} {x : Pp} : x ∈ sg ts rs n v t k ↔ ∃ j, j < k ∧ (x = (v, rot (rw_ rs v) t (j + 1)) ∨ x ∈ eu ts rs n (chd ts v (rot (rw_ rs v) t (j + 1)))) := by
  unfold sg pc
  rw [List.mem_flatMap]
  refine ⟨fun ⟨j, hj, h⟩ => ⟨j, List.mem_range.mp hj, List.mem_cons.mp h⟩, fun ⟨j, hj, h⟩ => ⟨j, List.mem_range.mpr hj, List.mem_cons.mpr h⟩⟩
theorem rot_ne0 (ro : RowsOk ts rs) {v t j : Nat} (p : Pt ts v t) (h : j < gap (rw_ rs v) t 0) (h0 : 0 < j) : rot (rw_ rs v) t j ≠ 0 := fun e => by
  have g := gap_lt (u := 0) (ro.has p)
  have h : j < gap (rs.getD v []) t 0 := h
  have := gap_rot (ro.nodup p.s) (ro.has p) (show j < (rs.getD v []).length by omega)
  rw [show rot (rs.getD v []) t j = 0 from e] at this
  omega
theorem rot0_ne (ro : RowsOk ts rs) {v j : Nat} (hv : v < ts.length) (h : j < (bk ts v).length) : rot (rw_ rs v) 0 (j + 1) ≠ 0 := fun e => by
  have rl := ro.rl hv
  have p0 : Pt ts v 0 := ⟨hv, Nat.zero_le _⟩
  have e : rot (rs.getD v []) 0 (j + 1) = rot (rs.getD v []) 0 0 := by rw [show rot (rs.getD v []) 0 (j + 1) = 0 from e, rot_zero (has0 ro hv)]
  have := rot_inj (ro.nodup hv) (ro.has p0) (show j + 1 < (rs.getD v []).length by omega) (show 0 < (rs.getD v []).length by omega) e
  omega
theorem rot0_to (ro : RowsOk ts rs) {v t : Nat} (p : Pt ts v t) (h : t ≠ 0) : ∃ j, j < (bk ts v).length ∧ rot (rw_ rs v) 0 (j + 1) = t := by
  have p0 : Pt ts v 0 := ⟨p.s, Nat.zero_le _⟩
  have rl := ro.rl p.s
  have a := gap_pos (ro.has p0) (ro.has p) h
  have b := gap_lt (u := t) (ro.has p0)
  exact ⟨gap (rs.getD v []) 0 t - 1, by omega, by rw [show gap (rs.getD v []) 0 t - 1 + 1 = gap (rs.getD v []) 0 t by omega]; exact rot_gap (ro.has p0) (ro.has p)⟩
theorem pt_child (ok : TabOk ts) {v c : Nat} (h : c ∈ bk ts v) : v < ts.length := ok _ _ (mem_bk.mp h)
theorem mem_eu (ok : TabOk ts) (ro : RowsOk ts rs) : ∀ {n v : Nat}, Ht ts n v → v < ts.length → ∀ x, x ∈ eu ts rs n v ↔ Fw ts x.1 v ∧ x.2 ≤ (bk ts x.1).length
  | 0, v, h, _, x => h.elim
  | n + 1, v, h, hv, x => by
    have p0 : Pt ts v 0 := ⟨hv, Nat.zero_le _⟩
    rw [eu_succ, List.mem_append, mem_sg, List.mem_singleton]
    constructor
    · rintro (⟨j, hj, e | m⟩ | e)
      · rw [e]
        exact ⟨.refl v, (ro.rot p0 (j + 1)).t⟩
      · have ne := rot0_ne ro hv hj
        have cm := chd_mem (ro.rot p0 (j + 1)) ne
        obtain ⟨a, b⟩ := (mem_eu ok ro (h _ cm) (bk_lt cm) x).mp m
        exact ⟨a.trans (.step (nx_bk.mp cm) (.refl v)), b⟩
      · rw [e]
        exact ⟨.refl v, Nat.zero_le _⟩
    · rintro ⟨f, t⟩
      rcases fw_last f with e | ⟨c, hc, f2⟩
      · obtain ⟨x1, x2⟩ := x
        have e : x1 = v := e
        subst e
        by_cases z : x2 = 0
        · right; rw [z]
        · left
          obtain ⟨j, hj, e⟩ := rot0_to ro ⟨hv, t⟩ z
          exact ⟨j, hj, .inl (by rw [e])⟩
      · left
        have hi := List.idxOf_lt_length_of_mem hc
        obtain ⟨j, hj, e⟩ := rot0_to ro (t := (bk ts v).idxOf c + 1) ⟨hv, hi⟩ (Nat.succ_ne_zero _)
        refine ⟨j, hj, .inr ?_⟩
        rw [e]
        have ec : chd ts v ((bk ts v).idxOf c + 1) = c := getD_idx hc
        rw [ec]
        exact (mem_eu ok ro (h c hc) (bk_lt hc) x).mpr ⟨f2, t⟩
/-! ### lengths -/
def sz (ts : Tab) : Nat → Nat → Nat
  | 0, _ => 0
  | n + 1, v => 1 + ((bk ts v).map (sz ts n)).sum
def wt (ts : Tab) (rs : List (List Nat)) (n v t k : Nat) : Nat := ((List.range k).map fun j => sz ts n (chd ts v (rot (rw_ rs v) t (j + 1)))).sum
theorem wt_succ (n v t k : Nat) : wt ts rs n v t (k + 1) = wt ts rs n v t k + sz ts n (chd ts v (rot (rw_ rs v) t (k + 1))) := by
  unfold wt
  rw [List.range_succ, List.map_append, List.sum_append_nat]
  rfl
theorem rots_bk (ro : RowsOk ts rs) {v : Nat} (hv : v < ts.length) : ((List.range (bk ts v).length).map fun j => chd ts v (rot (rw_ rs v) 0 (j + 1))).Perm (bk ts v) := by
  have a := rots_perm (ro.nodup hv) (has0 ro hv)
  have rl := ro.rl hv
  rw [rl, Nat.add_sub_cancel] at a
  have b := a.trans (ro.at_ v hv)
  rw [List.range_succ_eq_map] at b
  have c := (List.Perm.cons_inv b).map (chd ts v)
  rw [List.map_map, List.map_map] at c
  have e : (List.range (bk ts v).length).map (chd ts v ∘ Nat.succ) = bk ts v := by
    refine List.ext_getElem (by simp) fun i h1 h2 => ?_
    rw [List.getElem_map, List.getElem_range]
    show (bk ts v).getD (i + 1 - 1) 0 = _
    rw [Nat.add_sub_cancel, getD_eq h2]
  rw [e] at c
  exact c
theorem wt_all (ro : RowsOk ts rs) {n v : Nat} (hv : v < ts.length) : wt ts rs n v 0 (bk ts v).length = ((bk ts v).map (sz ts n)).sum := by
  have a := (rots_bk ro hv).map (sz ts n)
  rw [List.map_map] at a
  exact a.sum_nat
theorem sz_mono : ∀ {n m v : Nat}, n ≤ m → Ht ts n v → sz ts m v = sz ts n v
  | 0, m, v, _, h => h.elim
  | n + 1, 0, v, e, h => absurd e (by omega)
  | n + 1, m + 1, v, e, h => by
    show 1 + _ = 1 + _
    rw [List.map_congr_left fun c hc => sz_mono (by omega) (h c hc)]
theorem eu_mono : ∀ {n m v : Nat}, RowsOk ts rs → v < ts.length → n ≤ m → Ht ts n v → eu ts rs m v = eu ts rs n v
  | 0, m, v, _, _, _, h => h.elim
  | n + 1, 0, v, _, _, e, h => absurd e (by omega)
  | n + 1, m + 1, v, ro, hv, e, h => by
    have p0 : Pt ts v 0 := ⟨hv, Nat.zero_le _⟩
    rw [eu_succ, eu_succ]
    congr 1
    unfold sg pc
    have g : ∀ j, j ∈ List.range (bk ts v).length → (v, rot (rw_ rs v) 0 (j + 1)) :: eu ts rs m (chd ts v (rot (rw_ rs v) 0 (j + 1))) = (v, rot (rw_ rs v) 0 (j + 1)) :: eu ts rs n (chd ts v (rot (rw_ rs v) 0 (j + 1))) := fun j hj => by
      have cm := chd_mem (ro.rot p0 (j + 1)) (rot0_ne ro hv (List.mem_range.mp hj))
      rw [eu_mono ro (bk_lt cm) (by omega) (h _ cm)]
    rw [List.flatMap_def, List.flatMap_def, List.map_congr_left g]
theorem sg_len {n v t : Nat} : ∀ {k : Nat}, (∀ j, j < k → (eu ts rs n (chd ts v (rot (rw_ rs v) t (j + 1)))).length + 1 = 2 * sz ts n (chd ts v (rot (rw_ rs v) t (j + 1)))) → (sg ts rs n v t k).length = 2 * wt ts rs n v t k
  | 0, _ => rfl
  | k + 1, h => by
    rw [sg_succ, wt_succ, List.length_append, sg_len fun j hj => h j (by omega)]
    have := h k (by omega)
    show _ + ((v, _) :: eu ts rs n _).length = _
    rw [List.length_cons]
    omega
theorem eu_len (ok : TabOk ts) (ro : RowsOk ts rs) : ∀ {n v : Nat}, Ht ts n v → v < ts.length → (eu ts rs n v).length + 1 = 2 * sz ts n v
  | 0, v, h, _ => h.elim
  | n + 1, v, h, hv => by
    have p0 : Pt ts v 0 := ⟨hv, Nat.zero_le _⟩
    rw [eu_succ, List.length_append, sg_len fun j hj => by
      have cm := chd_mem (ro.rot p0 (j + 1)) (rot0_ne ro hv hj)
      exact eu_len ok ro (h _ cm) (bk_lt cm), wt_all ro hv]
    show 2 * _ + 1 + 1 = 2 * (1 + _)
    omega
/-! ### the tour of an end -/
theorem end_tour (ok : TabOk ts) (ro : RowsOk ts rs) {n e : Nat} (he : e < ts.length) (hx : nx ts e = none) (h : Ht ts n e) : Tour (leadf ts rs) (e, rot (rw_ rs e) 0 1) (eu ts rs n e) := by
  cases n with
  | zero => exact h.elim
  | succ n =>
    have a := eu_run ok ro h he
    rw [lead_end hx] at a
    have m := mem_eu ok ro h he
    rw [eu_succ] at a m ⊢
    refine tour_of (S := PtP ts) (lead_inj ok ro) a (fun x hx => ?_) (fun z => ?_) (by simp)
    · obtain ⟨f, t⟩ := (m x).mp hx
      exact ⟨fw_lt he f, t⟩
    · obtain ⟨j, hj, e1 | e1⟩ := mem_sg.mp z
      · exact rot0_ne ro he hj (Prod.mk.inj e1).2.symm
      · have cm := chd_mem (ro.rot ⟨he, Nat.zero_le _⟩ (j + 1)) (rot0_ne ro he hj)
        exact ht_child cm (h _ cm) ((mem_eu ok ro (h _ cm) (bk_lt cm) _).mp e1).1
end
end GM

namespace GM
section
variable {ts : Tab} {rs : List (List Nat)}
/-! ### rings by their places -/
def prv (R : List Nat) (k : Nat) : Nat := R.getD ((k + (R.length - 1)) % R.length) 0
def cur (R : List Nat) (k : Nat) : Nat := R.getD k 0
structure Rg (ts : Tab) (R : List Nat) : Prop where
  pos : 0 < R.length
  nd : R.Nodup
  nxt : ∀ k, k < R.length → nx ts (cur R k) = some (cur R ((k + 1) % R.length))
theorem way_get : ∀ {l : List Nat} {c e : Option Nat}, Way ts c l e → ∀ k, k < l.length → (k = 0 → c = some (l.getD 0 0)) ∧ nx ts (l.getD k 0) = if k + 1 < l.length then some (l.getD (k + 1) 0) else e
  | [], c, e, h, k, hk => absurd hk (Nat.not_lt_zero _)
  | x :: l, c, e, h, 0, hk => by
    refine ⟨fun _ => h.1, ?_⟩
    show nx ts x = _
    cases l with
    | nil => exact h.2
    | cons y l => exact h.2.1
  | x :: l, c, e, h, k + 1, hk => by
    have hk : k < l.length := Nat.lt_of_succ_lt_succ hk
    refine ⟨fun z => by omega, ?_⟩
    have := (way_get h.2 k hk).2
    show nx ts (l.getD k 0) = if k + 1 + 1 < l.length + 1 then some (l.getD (k + 1) 0) else e
    rw [this]
    by_cases c : k + 1 < l.length
    · rw [if_pos c, if_pos (by omega)]
    · rw [if_neg c, if_neg (by omega)]
theorem ring_rg {s : Nat} {R : List Nat} (h : Ring ts s R) : Rg ts R := by
  have pos := List.length_pos_of_mem h.1
  refine ⟨pos, h.2.2, fun k hk => ?_⟩
  have a := (way_get h.2.1 k hk).2
  unfold cur
  rw [a]
  by_cases c : k + 1 < R.length
  · rw [if_pos c, Nat.mod_eq_of_lt c]
  · have e : k + 1 = R.length := by omega
    rw [if_neg c, e, Nat.mod_self]
    exact (way_get h.2.1 0 pos).1 rfl
section
variable {R : List Nat} (g : Rg ts R)
include g
theorem Rg.mem {k : Nat} (h : k < R.length) : cur R k ∈ R := by
  unfold cur
  rw [getD_eq h]
  exact List.getElem_mem h
theorem Rg.at_ {x : Nat} (h : x ∈ R) : ∃ k, k < R.length ∧ x = cur R k := ⟨R.idxOf x, List.idxOf_lt_length_of_mem h, (getD_idx h).symm⟩
theorem Rg.inj {i j : Nat} (hi : i < R.length) (hj : j < R.length) (e : cur R i = cur R j) : i = j := by
  have a := idx_getD g.nd hi
  have b := idx_getD g.nd hj
  unfold cur at e
  rw [e, b] at a
  exact a.symm
theorem Rg.prv_mem {k : Nat} : prv R k ∈ R := g.mem (Nat.mod_lt _ g.pos)
theorem Rg.prv_nx {k : Nat} (h : k < R.length) : nx ts (prv R k) = some (cur R k) := by
  have pos := g.pos
  have a := g.nxt ((k + (R.length - 1)) % R.length) (Nat.mod_lt _ g.pos)
  have e : ((k + (R.length - 1)) % R.length + 1) % R.length = k := by
    rw [Nat.mod_add_mod, show k + (R.length - 1) + 1 = k + R.length by omega, Nat.add_mod_right, Nat.mod_eq_of_lt h]
  rw [e] at a
  exact a
theorem Rg.prv_succ {k : Nat} (h : k < R.length) : prv R (k + 1) = cur R k := by
  have pos := g.pos
  unfold prv cur
  rw [show k + 1 + (R.length - 1) = k + R.length by omega, Nat.add_mod_right, Nat.mod_eq_of_lt h]
theorem Rg.prv_len : prv R R.length = prv R 0 := by
  unfold prv
  rw [Nat.add_comm, Nat.add_mod_right, Nat.zero_add]
theorem Rg.fw {x y : Nat} (hx : x ∈ R) (f : Fw ts x y) : y ∈ R := by
  induction f with
  | refl => exact hx
  | step e _ ih =>
    refine ih ?_
    obtain ⟨k, hk, ex⟩ := g.at_ hx
    rw [ex, g.nxt k hk] at e
    cases e
    exact g.mem (Nat.mod_lt _ g.pos)
theorem Rg.pred {c k : Nat} (hc : c ∈ R) (hk : k < R.length) (e : nx ts c = some (cur R k)) : c = prv R k := by
  obtain ⟨i, hi, ec⟩ := g.at_ hc
  have pos := g.pos
  rw [ec, g.nxt i hi] at e
  have e2 := g.inj (Nat.mod_lt _ g.pos) hk (Option.some.inj e)
  rw [ec]
  unfold prv cur
  congr 1
  rw [← e2, Nat.mod_add_mod, show i + 1 + (R.length - 1) = i + R.length by omega, Nat.add_mod_right, Nat.mod_eq_of_lt hi]
theorem Rg.tree {k c : Nat} (hk : k < R.length) (hc : c ∈ bk ts (cur R k)) (ne : c ≠ prv R k) : c ∉ R ∧ Ht ts (ts.length + 1) c := by
  have e := nx_bk.mp hc
  have n : c ∉ R := fun m => ne (g.pred m hk e)
  refine ⟨n, ht_of (bk_lt hc) fun ⟨y, e2, f⟩ => n ?_⟩
  rw [e] at e2
  cases e2
  exact g.fw (g.mem hk) f
end
/-! ### the two sides of a ring -/
def fin (ts : Tab) (p v : Nat) : Nat := (bk ts v).idxOf p + 1
def fseg (ts : Tab) (rs : List (List Nat)) (n p v : Nat) : List Pp := sg ts rs n v (fin ts p v) (gap (rw_ rs v) (fin ts p v) 0 - 1) ++ [(v, 0)]
def aseg (ts : Tab) (rs : List (List Nat)) (n p v : Nat) : List Pp := sg ts rs n v 0 (gap (rw_ rs v) 0 (fin ts p v) - 1) ++ [(v, fin ts p v)]
section
variable {n p v : Nat} (ok : TabOk ts) (ro : RowsOk ts rs) (hp : nx ts p = some v) (tr : ∀ c, c ∈ bk ts v → c ≠ p → Ht ts n c)
include hp
theorem fin_pt (ok : TabOk ts) : Pt ts v (fin ts p v) := ⟨pt_child ok (nx_bk.mpr hp), List.idxOf_lt_length_of_mem (nx_bk.mpr hp)⟩
theorem fin_chd : chd ts v (fin ts p v) = p := getD_idx (nx_bk.mpr hp)
include ok ro
theorem fgap : 0 < gap (rw_ rs v) (fin ts p v) 0 ∧ gap (rw_ rs v) (fin ts p v) 0 < (rw_ rs v).length :=
  have pt := fin_pt hp ok
  ⟨gap_pos (ro.has pt) (has0 ro pt.s) (Nat.succ_ne_zero _).symm, gap_lt (ro.has pt)⟩
theorem agap : gap (rw_ rs v) 0 (fin ts p v) = (bk ts v).length + 1 - gap (rw_ rs v) (fin ts p v) 0 ∧ 0 < gap (rw_ rs v) 0 (fin ts p v) := by
  have pt := fin_pt hp ok
  have a := gap_sym (ro.nodup pt.s) (ro.has pt) (has0 ro pt.s) (Nat.succ_ne_zero _).symm
  have b := fgap ok ro hp
  have c := ro.rl pt.s
  rw [c] at a
  have b2 : gap (rs.getD v []) (fin ts p v) 0 < (rs.getD v []).length := b.2
  rw [c] at b2
  constructor
  · show gap (rs.getD v []) 0 (fin ts p v) = _ - gap (rs.getD v []) (fin ts p v) 0
    omega
  · show 0 < gap (rs.getD v []) 0 (fin ts p v)
    omega
theorem fturn {j : Nat} (h : j < gap (rw_ rs v) (fin ts p v) 0 - 1) : rot (rw_ rs v) (fin ts p v) (j + 1) ≠ 0 ∧ chd ts v (rot (rw_ rs v) (fin ts p v) (j + 1)) ∈ bk ts v ∧ chd ts v (rot (rw_ rs v) (fin ts p v) (j + 1)) ≠ p := by
  have pt := fin_pt hp ok
  have ne := rot_ne0 ro pt (show j + 1 < _ by omega) (Nat.succ_pos _)
  refine ⟨ne, chd_mem (ro.rot pt (j + 1)) ne, fun e => ?_⟩
  have e1 := chd_idx (ro.rot pt (j + 1)) ne
  rw [show chd ts v (rot (rs.getD v []) (fin ts p v) (j + 1)) = p from e] at e1
  have e2 : rot (rs.getD v []) (fin ts p v) (j + 1) = rot (rs.getD v []) (fin ts p v) 0 := by
    rw [rot_zero (ro.has pt), ← e1]
    rfl
  have b := (fgap ok ro hp).2
  have := rot_inj (ro.nodup pt.s) (ro.has pt) (show j + 1 < (rs.getD v []).length from by have h : j < gap (rs.getD v []) (fin ts p v) 0 - 1 := h; have b : gap (rs.getD v []) (fin ts p v) 0 < (rs.getD v []).length := b; omega) (List.length_pos_of_mem (ro.has pt)) e2
  omega
theorem aturn {j : Nat} (h : j < gap (rw_ rs v) 0 (fin ts p v) - 1) : rot (rw_ rs v) 0 (j + 1) ≠ 0 ∧ chd ts v (rot (rw_ rs v) 0 (j + 1)) ∈ bk ts v ∧ chd ts v (rot (rw_ rs v) 0 (j + 1)) ≠ p := by
  have pt := fin_pt hp ok
  have p0 : Pt ts v 0 := ⟨pt.s, Nat.zero_le _⟩
  have a := agap ok ro hp
  have ne := rot0_ne ro pt.s (show j < (bk ts v).length by omega)
  refine ⟨ne, chd_mem (ro.rot p0 (j + 1)) ne, fun e => ?_⟩
  have e1 := chd_idx (ro.rot p0 (j + 1)) ne
  rw [show chd ts v (rot (rs.getD v []) 0 (j + 1)) = p from e] at e1
  have e2 : rot (rs.getD v []) 0 (j + 1) = fin ts p v := e1.symm
  have rl := ro.rl pt.s
  have := gap_rot (ro.nodup pt.s) (ro.has p0) (show j + 1 < (rs.getD v []).length by omega)
  rw [e2] at this
  have h : j < gap (rs.getD v []) 0 (fin ts p v) - 1 := h
  omega
/-- a finger between -/
theorem between {t : Nat} (pt : Pt ts v t) (h0 : t ≠ 0) (h1 : t ≠ fin ts p v) : (∃ j, j < gap (rw_ rs v) (fin ts p v) 0 - 1 ∧ rot (rw_ rs v) (fin ts p v) (j + 1) = t) ∨ ∃ j, j < gap (rw_ rs v) 0 (fin ts p v) - 1 ∧ rot (rw_ rs v) 0 (j + 1) = t := by
  have pf := fin_pt hp ok
  have p0 : Pt ts v 0 := ⟨pf.s, Nat.zero_le _⟩
  have a := agap ok ro hp
  have b := fgap ok ro hp
  have rl : (rw_ rs v).length = _ := ro.rl pf.s
  have c1 : 0 < gap (rw_ rs v) (fin ts p v) t := gap_pos (ro.has pf) (ro.has pt) h1
  have c2 : gap (rw_ rs v) (fin ts p v) t < (rw_ rs v).length := gap_lt (ro.has pf)
  have c3 : rot (rw_ rs v) (fin ts p v) (gap (rw_ rs v) (fin ts p v) t) = t := rot_gap (ro.has pf) (ro.has pt)
  have c4 : rot (rw_ rs v) (fin ts p v) (gap (rw_ rs v) (fin ts p v) 0) = 0 := rot_gap (ro.has pf) (ro.has p0)
  have c5 : gap (rw_ rs v) (fin ts p v) t ≠ gap (rw_ rs v) (fin ts p v) 0 := fun e => h0 (by rw [← c3, e, c4])
  by_cases z : gap (rw_ rs v) (fin ts p v) t < gap (rw_ rs v) (fin ts p v) 0
  · exact .inl ⟨gap (rw_ rs v) (fin ts p v) t - 1, by omega, by rw [show gap (rw_ rs v) (fin ts p v) t - 1 + 1 = gap (rw_ rs v) (fin ts p v) t by omega]; exact c3⟩
  · refine .inr ⟨gap (rw_ rs v) (fin ts p v) t - gap (rw_ rs v) (fin ts p v) 0 - 1, by omega, ?_⟩
    have e : rot (rw_ rs v) (rot (rw_ rs v) (fin ts p v) (gap (rw_ rs v) (fin ts p v) 0)) (gap (rw_ rs v) (fin ts p v) t - gap (rw_ rs v) (fin ts p v) 0) = _ := rot_add (ro.nodup pf.s) (ro.has pf)
    rw [c4, show gap (rw_ rs v) (fin ts p v) 0 + (gap (rw_ rs v) (fin ts p v) t - gap (rw_ rs v) (fin ts p v) 0) = gap (rw_ rs v) (fin ts p v) t by omega, c3] at e
    rw [show gap (rw_ rs v) (fin ts p v) t - gap (rw_ rs v) (fin ts p v) 0 - 1 + 1 = gap (rw_ rs v) (fin ts p v) t - gap (rw_ rs v) (fin ts p v) 0 by omega]
    exact e
include tr
theorem fseg_run : Run (leadf ts rs) (leadf ts rs (p, 0)) (fseg ts rs n p v) (leadf ts rs (v, 0)) := by
  have pf := fin_pt hp ok
  have p0 : Pt ts v 0 := ⟨pf.s, Nat.zero_le _⟩
  rw [lead_up hp]
  have a := sg_run ok ro (n := n) (k := gap (rw_ rs v) (fin ts p v) 0 - 1) pf fun j hj => by
    obtain ⟨h1, h2, h3⟩ := fturn ok ro hp hj
    exact ⟨h1, tr _ h2 h3⟩
  have b := fgap ok ro hp
  have c4 : rot (rw_ rs v) (fin ts p v) (gap (rw_ rs v) (fin ts p v) 0) = 0 := rot_gap (ro.has pf) (ro.has p0)
  rw [show gap (rw_ rs v) (fin ts p v) 0 - 1 + 1 = gap (rw_ rs v) (fin ts p v) 0 by omega, c4] at a
  exact run_app a ⟨rfl, rfl⟩
theorem aseg_run : Run (leadf ts rs) (v, rot (rw_ rs v) 0 1) (aseg ts rs n p v) (p, rot (rw_ rs p) 0 1) := by
  have pf := fin_pt hp ok
  have p0 : Pt ts v 0 := ⟨pf.s, Nat.zero_le _⟩
  have a := sg_run ok ro (n := n) (k := gap (rw_ rs v) 0 (fin ts p v) - 1) p0 fun j hj => by
    obtain ⟨h1, h2, h3⟩ := aturn ok ro hp hj
    exact ⟨h1, tr _ h2 h3⟩
  have b := agap ok ro hp
  have c4 : rot (rw_ rs v) 0 (gap (rw_ rs v) 0 (fin ts p v)) = fin ts p v := rot_gap (ro.has p0) (ro.has pf)
  rw [show gap (rw_ rs v) 0 (fin ts p v) - 1 + 1 = gap (rw_ rs v) 0 (fin ts p v) by omega, c4] at a
  refine run_app a ⟨rfl, ?_⟩
  rw [lead_chd (t := fin ts p v) (Nat.succ_ne_zero _), fin_chd hp]
  rfl
theorem mem_fseg {x : Pp} (h : x ∈ fseg ts rs n p v) : (x.1 = v ∧ x.2 ≤ (bk ts v).length) ∨ ∃ c, c ∈ bk ts v ∧ c ≠ p ∧ Fw ts x.1 c ∧ x.2 ≤ (bk ts x.1).length := by
  have pf := fin_pt hp ok
  rcases List.mem_append.mp h with h | h
  · obtain ⟨j, hj, e | m⟩ := mem_sg.mp h
    · rw [e]; exact .inl ⟨rfl, (ro.rot pf (j + 1)).t⟩
    · obtain ⟨h1, h2, h3⟩ := fturn ok ro hp hj
      obtain ⟨a, b⟩ := (mem_eu ok ro (tr _ h2 h3) (bk_lt h2) x).mp m
      exact .inr ⟨_, h2, h3, a, b⟩
  · rw [List.mem_singleton.mp h]; exact .inl ⟨rfl, Nat.zero_le _⟩
theorem mem_aseg {x : Pp} (h : x ∈ aseg ts rs n p v) : (x.1 = v ∧ x.2 ≤ (bk ts v).length ∧ x.2 ≠ 0) ∨ ∃ c, c ∈ bk ts v ∧ c ≠ p ∧ Fw ts x.1 c ∧ x.2 ≤ (bk ts x.1).length := by
  have pf := fin_pt hp ok
  have p0 : Pt ts v 0 := ⟨pf.s, Nat.zero_le _⟩
  rcases List.mem_append.mp h with h | h
  · obtain ⟨j, hj, e | m⟩ := mem_sg.mp h
    · rw [e]; exact .inl ⟨rfl, (ro.rot p0 (j + 1)).t, (aturn ok ro hp hj).1⟩
    · obtain ⟨h1, h2, h3⟩ := aturn ok ro hp hj
      obtain ⟨a, b⟩ := (mem_eu ok ro (tr _ h2 h3) (bk_lt h2) x).mp m
      exact .inr ⟨_, h2, h3, a, b⟩
  · rw [List.mem_singleton.mp h]; exact .inl ⟨rfl, pf.t, Nat.succ_ne_zero _⟩
theorem seg_all {x : Pp} (h : (x.1 = v ∧ x.2 ≤ (bk ts v).length) ∨ ∃ c, c ∈ bk ts v ∧ c ≠ p ∧ Fw ts x.1 c ∧ x.2 ≤ (bk ts x.1).length) : x ∈ fseg ts rs n p v ∨ x ∈ aseg ts rs n p v := by
  have pf := fin_pt hp ok
  rcases h with ⟨e, ht⟩ | ⟨c, hc, ne, f, ht⟩
  · obtain ⟨x1, t⟩ := x
    have e : x1 = v := e
    subst e
    by_cases z : t = 0
    · left
      rw [z]
      exact List.mem_append_right _ (List.mem_singleton.mpr rfl)
    · by_cases z1 : t = fin ts p x1
      · right
        rw [z1]
        exact List.mem_append_right _ (List.mem_singleton.mpr rfl)
      · rcases between ok ro hp (t := t) ⟨pf.s, ht⟩ z z1 with ⟨j, hj, e⟩ | ⟨j, hj, e⟩
        · exact .inl (List.mem_append_left _ (mem_sg.mpr ⟨j, hj, .inl (by rw [e])⟩))
        · exact .inr (List.mem_append_left _ (mem_sg.mpr ⟨j, hj, .inl (by rw [e])⟩))
  · have m := (mem_eu ok ro (tr c hc ne) (bk_lt hc) x).mpr ⟨f, ht⟩
    have ec : chd ts v ((bk ts v).idxOf c + 1) = c := getD_idx hc
    have z1 : (bk ts v).idxOf c + 1 ≠ fin ts p v := fun e => ne (by rw [← ec, e, fin_chd hp])
    rcases between ok ro hp (t := (bk ts v).idxOf c + 1) ⟨pf.s, List.idxOf_lt_length_of_mem hc⟩ (Nat.succ_ne_zero _) z1 with ⟨j, hj, e⟩ | ⟨j, hj, e⟩
    · exact .inl (List.mem_append_left _ (mem_sg.mpr ⟨j, hj, .inr (by rw [e, ec]; exact m)⟩))
    · exact .inr (List.mem_append_left _ (mem_sg.mpr ⟨j, hj, .inr (by rw [e, ec]; exact m)⟩))
end
end
end GM

namespace GM
section
variable {ts : Tab} {rs : List (List Nat)}
def foreR (ts : Tab) (rs : List (List Nat)) (n : Nat) (R : List Nat) : List Pp := (List.range R.length).flatMap fun k => fseg ts rs n (prv R k) (cur R k)
def aftR (ts : Tab) (rs : List (List Nat)) (n : Nat) (R : List Nat) : List Pp := (List.range R.length).flatMap fun i => aseg ts rs n (prv R (R.length - 1 - i)) (cur R (R.length - 1 - i))
/-- a ring, its trees at most n high -/
structure RgT (ts : Tab) (n : Nat) (R : List Nat) : Prop extends Rg ts R where
  off : ∀ k, k < R.length → ∀ c, c ∈ bk ts (cur R k) → c ≠ prv R k → c ∉ R
  ht : ∀ k, k < R.length → ∀ c, c ∈ bk ts (cur R k) → c ≠ prv R k → Ht ts n c
theorem Rg.rgT {R : List Nat} (g : Rg ts R) : RgT ts (ts.length + 1) R := ⟨g, fun k hk c hc ne => (g.tree hk hc ne).1, fun k hk c hc ne => (g.tree hk hc ne).2⟩
section
variable {n : Nat} {R : List Nat} (ok : TabOk ts) (ro : RowsOk ts rs) (g : RgT ts n R)
include ok ro g
theorem fore_run : ∀ k, k ≤ R.length → Run (leadf ts rs) (leadf ts rs (prv R 0, 0)) ((List.range k).flatMap fun k => fseg ts rs n (prv R k) (cur R k)) (leadf ts rs (prv R k, 0))
  | 0, _ => rfl
  | k + 1, h => by
    rw [List.range_succ, List.flatMap_append, List.flatMap_cons, List.flatMap_nil, List.append_nil, g.prv_succ h]
    exact run_app (fore_run k (by omega)) (fseg_run ok ro (g.prv_nx h) (g.ht k h))
theorem aft_run : ∀ k, k ≤ R.length → Run (leadf ts rs) (prv R 0, rot (rw_ rs (prv R 0)) 0 1) ((List.range k).flatMap fun i => aseg ts rs n (prv R (R.length - 1 - i)) (cur R (R.length - 1 - i))) (prv R (R.length - k), rot (rw_ rs (prv R (R.length - k))) 0 1)
  | 0, _ => by
    rw [Nat.sub_zero, g.prv_len]
    rfl
  | k + 1, h => by
    have lt : R.length - 1 - k < R.length := by omega
    rw [List.range_succ, List.flatMap_append, List.flatMap_cons, List.flatMap_nil, List.append_nil]
    refine run_app (aft_run k (by omega)) ?_
    have e := g.prv_succ lt
    rw [show R.length - 1 - k + 1 = R.length - k by omega] at e
    rw [e, show R.length - (k + 1) = R.length - 1 - k by omega]
    exact aseg_run ok ro (g.prv_nx lt) (g.ht _ lt)
theorem mem_foreR {x : Pp} (h : x ∈ foreR ts rs n R) : ∃ k, k < R.length ∧ x ∈ fseg ts rs n (prv R k) (cur R k) := by
  obtain ⟨k, hk, m⟩ := List.mem_flatMap.mp h
  exact ⟨k, List.mem_range.mp hk, m⟩
theorem fore_mem {k : Nat} (hk : k < R.length) {x : Pp} (h : x ∈ fseg ts rs n (prv R k) (cur R k)) : x ∈ foreR ts rs n R := List.mem_flatMap.mpr ⟨k, List.mem_range.mpr hk, h⟩
theorem mem_aftR {x : Pp} (h : x ∈ aftR ts rs n R) : ∃ k, k < R.length ∧ x ∈ aseg ts rs n (prv R k) (cur R k) := by
  obtain ⟨k, hk, m⟩ := List.mem_flatMap.mp h
  have := List.mem_range.mp hk
  exact ⟨R.length - 1 - k, by omega, m⟩
theorem aft_mem {k : Nat} (hk : k < R.length) {x : Pp} (h : x ∈ aseg ts rs n (prv R k) (cur R k)) : x ∈ aftR ts rs n R := by
  refine List.mem_flatMap.mpr ⟨R.length - 1 - k, List.mem_range.mpr (by omega), ?_⟩
  rw [show R.length - 1 - (R.length - 1 - k) = k by omega]
  exact h
theorem seg_pt {k : Nat} (hk : k < R.length) {x : Pp} (h : (x.1 = cur R k ∧ x.2 ≤ (bk ts (cur R k)).length) ∨ ∃ c, c ∈ bk ts (cur R k) ∧ c ≠ prv R k ∧ Fw ts x.1 c ∧ x.2 ≤ (bk ts x.1).length) : PtP ts x := by
  rcases h with ⟨e, t⟩ | ⟨c, hc, _, f, t⟩
  · exact ⟨by rw [e]; exact pt_child ok (nx_bk.mpr (g.prv_nx hk)), by rw [e]; exact t⟩
  · exact ⟨fw_lt (bk_lt hc) f, t⟩
/-- on the ring itself: no tree -/
theorem seg_on {k : Nat} (hk : k < R.length) {x : Pp} (hx : x.1 ∈ R) (h : ∃ c, c ∈ bk ts (cur R k) ∧ c ≠ prv R k ∧ Fw ts x.1 c ∧ x.2 ≤ (bk ts x.1).length) : False := by
  obtain ⟨c, hc, ne, f, _⟩ := h
  exact g.off k hk c hc ne (g.fw hx f)
theorem fore_tour : Tour (leadf ts rs) (leadf ts rs (prv R 0, 0)) (foreR ts rs n R) := by
  have a := fore_run ok ro g R.length (Nat.le_refl _)
  rw [g.prv_len] at a
  have pos := g.pos
  have m : ∀ x ∈ foreR ts rs n R, PtP ts x := fun x hx => by
    obtain ⟨k, hk, h⟩ := mem_foreR ok ro g hx
    exact seg_pt ok ro g hk (mem_fseg ok ro (g.prv_nx hk) (g.ht k hk) h)
  obtain ⟨m1, e1⟩ : ∃ m1, R.length = m1 + 1 := ⟨R.length - 1, by omega⟩
  have e : foreR ts rs n R = sg ts rs n (cur R 0) (fin ts (prv R 0) (cur R 0)) (gap (rw_ rs (cur R 0)) (fin ts (prv R 0) (cur R 0)) 0 - 1) ++ (cur R 0, 0) :: (List.range m1).flatMap fun k => fseg ts rs n (prv R (k + 1)) (cur R (k + 1)) := by
    unfold foreR
    rw [e1, List.range_succ_eq_map, List.flatMap_cons, List.flatMap_map]
    show (sg ts rs n _ _ _ ++ [_]) ++ _ = _
    rw [List.append_assoc]
    rfl
  have a : Run (leadf ts rs) (leadf ts rs (prv R 0, 0)) (foreR ts rs n R) (leadf ts rs (prv R 0, 0)) := a
  rw [e] at a m ⊢
  refine tour_of (S := PtP ts) (lead_inj ok ro) a m (fun z => ?_) (fun z => ?_)
  · obtain ⟨j, hj, e2 | e2⟩ := mem_sg.mp z
    · exact (fturn ok ro (g.prv_nx pos) hj).1 (Prod.mk.inj e2).2.symm
    · obtain ⟨h1, h2, h3⟩ := fturn ok ro (g.prv_nx pos) hj
      exact seg_on ok ro g pos (x := (cur R 0, 0)) (g.mem pos) ⟨_, h2, h3, ((mem_eu ok ro (g.ht 0 pos _ h2 h3) (bk_lt h2) _).mp e2).1, Nat.zero_le _⟩
  · obtain ⟨k, hk, h⟩ := List.mem_flatMap.mp z
    have hk : k + 1 < R.length := by have := List.mem_range.mp hk; omega
    rcases mem_fseg ok ro (g.prv_nx hk) (g.ht _ hk) h with ⟨h1, _⟩ | h1
    · have := g.inj pos hk h1
      omega
    · exact seg_on ok ro g hk (x := (cur R 0, 0)) (g.mem pos) h1
theorem aft_tour : Tour (leadf ts rs) (prv R 0, rot (rw_ rs (prv R 0)) 0 1) (aftR ts rs n R) := by
  have a := aft_run ok ro g R.length (Nat.le_refl _)
  rw [Nat.sub_self] at a
  have pos := g.pos
  have m : ∀ x ∈ aftR ts rs n R, PtP ts x := fun x hx => by
    obtain ⟨k, hk, h⟩ := mem_aftR ok ro g hx
    refine seg_pt ok ro g hk ?_
    rcases mem_aseg ok ro (g.prv_nx hk) (g.ht k hk) h with h | h
    · exact .inl ⟨h.1, h.2.1⟩
    · exact .inr h
  obtain ⟨m1, e1⟩ : ∃ m1, R.length = m1 + 1 := ⟨R.length - 1, by omega⟩
  have e : aftR ts rs n R = (((List.range m1).flatMap fun i => aseg ts rs n (prv R (m1 - i)) (cur R (m1 - i))) ++ sg ts rs n (cur R 0) 0 (gap (rw_ rs (cur R 0)) 0 (fin ts (prv R 0) (cur R 0)) - 1)) ++ (cur R 0, fin ts (prv R 0) (cur R 0)) :: [] := by
    unfold aftR
    rw [e1, List.range_succ, List.flatMap_append, List.flatMap_cons, List.flatMap_nil, List.append_nil, Nat.add_sub_cancel, Nat.sub_self, List.append_assoc]
    rfl
  have a : Run (leadf ts rs) (prv R 0, rot (rw_ rs (prv R 0)) 0 1) (aftR ts rs n R) (prv R 0, rot (rw_ rs (prv R 0)) 0 1) := a
  rw [e] at a m ⊢
  refine tour_of (S := PtP ts) (lead_inj ok ro) a m (fun z => ?_) (by simp)
  rcases List.mem_append.mp z with z | z
  · obtain ⟨i, hi, h⟩ := List.mem_flatMap.mp z
    have hi := List.mem_range.mp hi
    have hk : m1 - i < R.length := by omega
    rcases mem_aseg ok ro (g.prv_nx hk) (g.ht _ hk) h with ⟨h1, _⟩ | h1
    · have := g.inj pos hk h1
      omega
    · exact seg_on ok ro g hk (x := (cur R 0, fin ts (prv R 0) (cur R 0))) (g.mem pos) h1
  · obtain ⟨j, hj, e2 | e2⟩ := mem_sg.mp z
    · obtain ⟨h1, h2, h3⟩ := aturn ok ro (g.prv_nx pos) hj
      refine h3 ?_
      rw [← (Prod.mk.inj e2).2]
      exact fin_chd (g.prv_nx pos)
    · obtain ⟨h1, h2, h3⟩ := aturn ok ro (g.prv_nx pos) hj
      obtain ⟨f, t⟩ := (mem_eu ok ro (g.ht 0 pos _ h2 h3) (bk_lt h2) _).mp e2
      exact seg_on ok ro g pos (x := (cur R 0, fin ts (prv R 0) (cur R 0))) (g.mem pos) ⟨_, h2, h3, f, t⟩
/-- the sides have no pointer in common -/
theorem sides {x : Pp} (h1 : x ∈ foreR ts rs n R) (h2 : x ∈ aftR ts rs n R) : False := by
  have pos := g.pos
  have m : (cur R 0, 0) ∈ aftR ts rs n R := tour_share (fore_tour ok ro g) (aft_tour ok ro g) h1 h2 _ (fore_mem ok ro g pos (List.mem_append_right _ (List.mem_singleton.mpr rfl)))
  obtain ⟨k, hk, h⟩ := mem_aftR ok ro g m
  rcases mem_aseg ok ro (g.prv_nx hk) (g.ht _ hk) h with ⟨_, _, h1⟩ | h1
  · exact h1 rfl
  · exact seg_on ok ro g hk (x := (cur R 0, 0)) (g.mem pos) h1
theorem into {x r : Nat} (hr : r ∈ R) (f : Fw ts x r) : x ∈ R ∨ ∃ k c, k < R.length ∧ c ∈ bk ts (cur R k) ∧ c ≠ prv R k ∧ Fw ts x c := by
  induction f with
  | refl => exact .inl hr
  | @step x y z e f ih =>
    rcases ih hr with h | ⟨k, c, hk, hc, ne, f2⟩
    · by_cases hx : x ∈ R
      · exact .inl hx
      · obtain ⟨k, hk, ey⟩ := g.at_ h
        exact .inr ⟨k, x, hk, nx_bk.mpr (by rw [e, ey]), fun e => hx (e ▸ g.prv_mem), .refl _⟩
    · exact .inr ⟨k, c, hk, hc, ne, .step e f2⟩
/-- each pointer above the ring is on one side -/
theorem cover {x : Pp} {r : Nat} (hr : r ∈ R) (f : Fw ts x.1 r) (pt : PtP ts x) : x ∈ foreR ts rs n R ∨ x ∈ aftR ts rs n R := by
  have key : ∃ k, k < R.length ∧ ((x.1 = cur R k ∧ x.2 ≤ (bk ts (cur R k)).length) ∨ ∃ c, c ∈ bk ts (cur R k) ∧ c ≠ prv R k ∧ Fw ts x.1 c ∧ x.2 ≤ (bk ts x.1).length) := by
    rcases into ok ro g hr f with h | ⟨k, c, hk, hc, ne, f2⟩
    · obtain ⟨k, hk, e⟩ := g.at_ h
      exact ⟨k, hk, .inl ⟨e, by rw [← e]; exact pt.t⟩⟩
    · exact ⟨k, hk, .inr ⟨c, hc, ne, f2, pt.t⟩⟩
  obtain ⟨k, hk, h⟩ := key
  rcases seg_all ok ro (g.prv_nx hk) (g.ht k hk) h with h | h
  · exact .inl (fore_mem ok ro g hk h)
  · exact .inr (aft_mem ok ro g hk h)
end
/-! ### how many tours there are -/
theorem st_flat {i : Nat} {D : List Nat} {R : List (List Nat)} (a : St ts i D R) : R.flatten.Nodup ∧ ∀ x ∈ R.flatten, x ∈ D := by
  induction a with
  | zero => exact ⟨List.nodup_nil, fun x h => by cases h⟩
  | @hit i s D l R a t m ih =>
    rw [List.flatten_append, List.flatten_cons, List.flatten_nil, List.append_nil]
    refine ⟨List.nodup_append.mpr ⟨ih.1, t.nd.sublist (List.drop_sublist _ _), fun x hx y hy e => ?_⟩, fun x hx => ?_⟩
    · subst e
      exact t.off x (List.mem_of_mem_drop hy) (ih.2 x hx)
    · rcases List.mem_append.mp hx with h | h
      · exact List.mem_append_left _ (ih.2 x h)
      · exact List.mem_append_right _ (List.mem_of_mem_drop h)
  | miss a t m ih => exact ⟨ih.1, fun x hx => List.mem_append_left _ (ih.2 x hx)⟩
theorem flat_same : ∀ {R : List (List Nat)} {r q : List Nat} {x : Nat}, R.flatten.Nodup → r ∈ R → q ∈ R → x ∈ r → x ∈ q → r = q
  | [], r, q, x, _, h, _, _, _ => by cases h
  | l :: R, r, q, x, n, hr, hq, xr, xq => by
    rw [List.flatten_cons] at n
    obtain ⟨_, n2, n3⟩ := List.nodup_append.mp n
    rcases List.mem_cons.mp hr with e | hr2
    · rcases List.mem_cons.mp hq with e2 | hq2
      · rw [e, e2]
      · subst e
        exact absurd rfl (n3 x xr x (List.mem_flatten.mpr ⟨q, hq2, xq⟩))
    · rcases List.mem_cons.mp hq with e2 | hq2
      · subst e2
        exact absurd rfl (n3 x xq x (List.mem_flatten.mpr ⟨r, hr2, xr⟩))
      · exact flat_same n2 hr2 hq2 xr xq
def rmarks (ts : Tab) (R : List (List Nat)) : List Pp := R.flatMap fun r => [(cur r 0, 0), (cur r 0, fin ts (prv r 0) (cur r 0))]
theorem mem_rmarks {R : List (List Nat)} {m : Pp} : m ∈ rmarks ts R ↔ ∃ r ∈ R, m = (cur r 0, 0) ∨ m = (cur r 0, fin ts (prv r 0) (cur r 0)) := by
  unfold rmarks
  rw [List.mem_flatMap]
  exact ⟨fun ⟨r, hr, h⟩ => ⟨r, hr, by simpa using h⟩, fun ⟨r, hr, h⟩ => ⟨r, hr, by simpa using h⟩⟩
theorem rmarks_nd : ∀ {R : List (List Nat)}, R.flatten.Nodup → (∀ r ∈ R, 0 < r.length) → (rmarks ts R).Nodup
  | [], _, _ => List.nodup_nil
  | r :: R, n, h => by
    rw [List.flatten_cons] at n
    obtain ⟨_, n2, n3⟩ := List.nodup_append.mp n
    have m0 : cur r 0 ∈ r := by
      unfold cur
      rw [getD_eq (h r (List.mem_cons_self ..))]
      exact List.getElem_mem _
    show (([_, _] : List Pp) ++ rmarks ts R).Nodup
    refine List.nodup_append.mpr ⟨?_, rmarks_nd n2 fun q hq => h q (List.mem_cons_of_mem _ hq), fun a ha b hb e => ?_⟩
    · refine List.nodup_cons.mpr ⟨fun z => ?_, by simp⟩
      exact absurd (Prod.mk.inj (List.mem_singleton.mp z)).2 (Nat.succ_ne_zero _).symm
    · subst e
      have a1 : a.1 = cur r 0 := by
        rcases List.mem_cons.mp ha with e | e
        · rw [e]
        · rw [List.mem_singleton.mp e]
      obtain ⟨q, hq, e⟩ := mem_rmarks.mp hb
      have q1 : a.1 = cur q 0 := by rcases e with e | e <;> rw [e]
      have mq : cur q 0 ∈ q := by
        unfold cur
        rw [getD_eq (h q (List.mem_cons_of_mem _ hq))]
        exact List.getElem_mem _
      exact n3 _ m0 _ (List.mem_flatten.mpr ⟨q, hq, mq⟩) (a1.symm.trans q1)
theorem rmarks_len : ∀ R : List (List Nat), (rmarks ts R).length = 2 * R.length
  | [] => rfl
  | r :: R => by
    show (([_, _] : List Pp) ++ rmarks ts R).length = 2 * (R.length + 1)
    rw [List.length_append, rmarks_len R]
    show 2 + _ = _
    omega
theorem fw_first {x y : Nat} (f : Fw ts x y) : x = y ∨ ∃ z, nx ts x = some z ∧ Fw ts z y := by
  cases f with
  | refl => exact .inl rfl
  | step e f => exact .inr ⟨_, e, f⟩
theorem lead_rch {x : Pp} (px : PtP ts x) : Rch ts x.1 (leadf ts rs x).1 := by
  obtain ⟨v, t⟩ := x
  by_cases h : t = 0
  · subst h
    cases e : nx ts v with
    | none => rw [lead_end e]; exact .refl
    | some m => rw [lead_up e]; exact .fwd .refl e
  · rw [lead_chd h]
    exact .bwd .refl (nx_bk.mp (chd_mem px h))
theorem itr_rch (ok : TabOk ts) (ro : RowsOk ts rs) {x : Pp} (px : PtP ts x) : ∀ k, PtP ts (itr (leadf ts rs) x k) ∧ Rch ts x.1 (itr (leadf ts rs) x k).1
  | 0 => ⟨px, .refl⟩
  | k + 1 => by
    obtain ⟨a, b⟩ := itr_rch ok ro px k
    exact ⟨lead_ok ok ro a, b.trans (lead_rch a)⟩
theorem tour_rch (ok : TabOk ts) (ro : RowsOk ts rs) {c x y : Pp} {l : List Pp} (t : Tour (leadf ts rs) c l) (pl : ∀ z ∈ l, PtP ts z) (hx : x ∈ l) (hy : y ∈ l) : Rch ts x.1 y.1 := by
  obtain ⟨k, e⟩ := tour_back t hx
  obtain ⟨i, _, ei⟩ := run_mem t.run hy
  have a := (itr_rch ok ro (pl x hx) k).2
  rw [e] at a
  have b := (itr_rch ok ro (pl c t.has) i).2
  rw [← ei] at b
  exact a.trans b
/-- what is known of all tours -/
structure AllT (ts : Tab) (rs : List (List Nat)) (R : List (List Nat)) (T : List (List Pp)) : Prop where
  ok : TabOk ts
  ro : RowsOk ts rs
  st : ∃ D, St ts ts.length D R
  tsr : Tsr (leadf ts rs) (ptsTo ts ts.length) T
  pt : ∀ x ∈ T.flatten, PtP ts x
section
variable {R T : List (List Nat)} {TT : List (List Pp)} (A : AllT ts rs R TT)
include A
theorem AllT.each {l : List Pp} (hl : l ∈ TT) : ∃ c, Tour (leadf ts rs) c l ∧ PtP ts c ∧ ∀ x ∈ l, PtP ts x := by
  obtain ⟨c, _, _, _, t, _⟩ := A.tsr.ok.each l hl
  have a : ∀ x ∈ l, PtP ts x := fun x hx => A.pt x (List.mem_flatten.mpr ⟨l, hl, hx⟩)
  exact ⟨c, t, a c t.has, a⟩
theorem AllT.find {x : Pp} (px : PtP ts x) : ∃ l ∈ TT, x ∈ l := List.mem_flatten.mp (A.tsr.ok.all x (ptp_mem px))
theorem AllT.rgT {r : List Nat} (h : r ∈ R) : RgT ts (ts.length + 1) r ∧ ∀ x ∈ r, x < ts.length := by
  obtain ⟨D, st⟩ := A.st
  obtain ⟨s, rg⟩ := st.ok.rings r h
  exact ⟨(ring_rg rg).rgT, fun x hx => st_lt A.ok st (Nat.le_refl _) x ((st_flat st).2 x (List.mem_flatten.mpr ⟨r, h, hx⟩))⟩
theorem AllT.flat : R.flatten.Nodup := by
  obtain ⟨D, st⟩ := A.st
  exact (st_flat st).1
theorem AllT.endT {e : Nat} (he : e < ts.length) (h : nx ts e = none) : Ht ts (ts.length + 1) e := ht_of he fun ⟨y, e1, _⟩ => by rw [h] at e1; cases e1
/-- a pointer's end or ring -/
theorem AllT.root {x : Pp} (px : PtP ts x) : (∃ e, e < ts.length ∧ nx ts e = none ∧ Fw ts x.1 e) ∨ ∃ r ∈ R, ∃ v ∈ r, Fw ts x.1 v := by
  obtain ⟨D, st⟩ := A.st
  obtain ⟨h, h1, f⟩ := st.ok.root x.1 (st.ok.all _ px.s)
  rcases h1 with h1 | ⟨r, hr, e⟩
  · refine .inl ⟨h, ?_, h1, f⟩
    exact rch_lt A.ok px.s f.rch
  · subst e
    obtain ⟨s, rg⟩ := st.ok.rings r hr
    exact .inr ⟨r, hr, _, (mn_ok (ring_ne rg)).1, f⟩
def marks (ts : Tab) (R : List (List Nat)) : List Pp := (ends ts).map (fun e => (e, 0)) ++ rmarks ts R
theorem AllT.count : TT.length = (ends ts).length + 2 * R.length := by
  obtain ⟨D, st⟩ := A.st
  have so := st.ok
  have ok := A.ok
  have ro := A.ro
  have len : (marks ts R).length = (ends ts).length + 2 * R.length := by
    unfold marks
    rw [List.length_append, List.length_map, rmarks_len]
  rw [← len]
  have isR : ∀ {m : Pp}, m ∈ marks ts R → (nx ts m.1 = none ∧ m.1 < ts.length ∧ m.2 = 0) ∨ ∃ r ∈ R, m.1 = cur r 0 ∧ (m.2 = 0 ∨ m.2 = fin ts (prv r 0) (cur r 0)) := fun {m} h => by
    rcases List.mem_append.mp h with h | h
    · obtain ⟨e, he, rfl⟩ := List.mem_map.mp h
      obtain ⟨a, b⟩ := mem_ends.mp he
      exact .inl ⟨b, a, rfl⟩
    · obtain ⟨r, hr, e | e⟩ := mem_rmarks.mp h
      · rw [e]; exact .inr ⟨r, hr, rfl, .inl rfl⟩
      · rw [e]; exact .inr ⟨r, hr, rfl, .inr rfl⟩
  have ptM : ∀ {m : Pp}, m ∈ marks ts R → PtP ts m := fun {m} h => by
    rcases isR h with ⟨_, a, b⟩ | ⟨r, hr, e1, e2⟩
    · exact ⟨a, by rw [b]; exact Nat.zero_le _⟩
    · obtain ⟨g, lt⟩ := A.rgT hr
      have z := lt _ (g.mem g.pos)
      rcases e2 with e2 | e2
      · exact ⟨by rw [e1]; exact z, by rw [e2]; exact Nat.zero_le _⟩
      · exact ⟨by rw [e1]; exact z, by rw [e2, e1]; exact (fin_pt (g.prv_nx g.pos) ok).t⟩
  have rn : ∀ {r : List Nat}, r ∈ R → ∀ {v : Nat}, v ∈ r → ∃ y, nx ts v = some y := fun hr v hv => by
    obtain ⟨g, _⟩ := A.rgT hr
    obtain ⟨k, hk, e⟩ := g.at_ hv
    exact ⟨_, by rw [e]; exact g.nxt k hk⟩
  refine marks_len A.tsr.ok.flat ?_ (fun m hm => A.tsr.ok.all m (ptp_mem (ptM hm))) (fun l hl => ?_) (fun l hl m hm m' hm' ml ml' => ?_)
  · refine List.nodup_append.mpr ⟨List.pairwise_map.mpr ((List.nodup_range.sublist List.filter_sublist).imp fun {a b} ne e => ne (Prod.mk.inj e).1), rmarks_nd A.flat fun r hr => (A.rgT hr).1.pos, fun a ha b hb e => ?_⟩
    subst e
    obtain ⟨e, he, rfl⟩ := List.mem_map.mp ha
    obtain ⟨r, hr, e2⟩ := mem_rmarks.mp hb
    have e3 : e = cur r 0 := by rcases e2 with e2 | e2 <;> exact (Prod.mk.inj e2).1
    obtain ⟨g, _⟩ := A.rgT hr
    obtain ⟨y, hy⟩ := rn hr (g.mem g.pos)
    rw [← e3, (mem_ends.mp he).2] at hy
    cases hy
  · obtain ⟨c, t, pc, pl⟩ := A.each hl
    rcases A.root pc with ⟨e, he, hx, f⟩ | ⟨r, hr, v, hv, f⟩
    · have ht := A.endT he hx
      have tt := end_tour ok ro he hx ht
      have mc := (mem_eu ok ro ht he c).mpr ⟨f, pc.t⟩
      refine ⟨(e, 0), List.mem_append_left _ (List.mem_map.mpr ⟨e, mem_ends.mpr ⟨he, hx⟩, rfl⟩), ?_⟩
      exact tour_share tt t mc t.has _ ((mem_eu ok ro ht he (e, 0)).mpr ⟨.refl e, Nat.zero_le _⟩)
    · obtain ⟨g, _⟩ := A.rgT hr
      rcases cover ok ro g hv f pc with h | h
      · refine ⟨(cur r 0, 0), List.mem_append_right _ (mem_rmarks.mpr ⟨r, hr, .inl rfl⟩), ?_⟩
        exact tour_share (fore_tour ok ro g) t h t.has _ (fore_mem ok ro g g.pos (List.mem_append_right _ (List.mem_singleton.mpr rfl)))
      · refine ⟨(cur r 0, fin ts (prv r 0) (cur r 0)), List.mem_append_right _ (mem_rmarks.mpr ⟨r, hr, .inr rfl⟩), ?_⟩
        exact tour_share (aft_tour ok ro g) t h t.has _ (aft_mem ok ro g g.pos (List.mem_append_right _ (List.mem_singleton.mpr rfl)))
  · obtain ⟨c, t, pc, pl⟩ := A.each hl
    have rc := tour_rch ok ro t pl ml ml'
    have rc2 := tour_rch ok ro t pl ml' ml
    have endR : ∀ {m m' : Pp}, m ∈ marks ts R → m' ∈ marks ts R → nx ts m.1 = none → Rch ts m.1 m'.1 → m'.1 = m.1 := fun {m m'} hm hm' hx rc => by
      have f := root_rch ok so (Nat.le_refl _) (ptM hm).s (.inl hx) (.refl _) rc
      rcases fw_first f with z | ⟨y, e, f⟩
      · exact z
      · rcases isR hm' with ⟨a, _⟩ | ⟨r, hr, e1, _⟩
        · rw [a] at e; cases e
        · obtain ⟨g, _⟩ := A.rgT hr
          have q := g.fw (g.mem g.pos) (Fw.step (by rw [← e1]; exact e) f)
          obtain ⟨y, hy⟩ := rn hr q
          rw [hx] at hy
          cases hy
    rcases isR hm with ⟨a1, a2, a3⟩ | ⟨r, hr, e1, e2⟩
    · have e := endR hm hm' a1 rc
      rcases isR hm' with ⟨b1, b2, b3⟩ | ⟨r, hr, e1, _⟩
      · exact Prod.ext e.symm (a3.trans b3.symm)
      · obtain ⟨g, _⟩ := A.rgT hr
        obtain ⟨y, hy⟩ := rn hr (g.mem g.pos)
        rw [← e1, e, a1] at hy
        cases hy
    · rcases isR hm' with ⟨b1, b2, b3⟩ | ⟨q, hq, e3, e4⟩
      · have e := endR hm' hm b1 rc2
        obtain ⟨g, _⟩ := A.rgT hr
        obtain ⟨y, hy⟩ := rn hr (g.mem g.pos)
        rw [← e1, e, b1] at hy
        cases hy
      · have eq : r = q := by
          obtain ⟨g, lt⟩ := A.rgT hr
          obtain ⟨g2, _⟩ := A.rgT hq
          obtain ⟨s, rg⟩ := so.rings r hr
          have mm := (mn_ok (ring_ne rg)).1
          obtain ⟨s2, rg2⟩ := so.rings q hq
          rw [e1, e3] at rc
          have f := root_rch ok so (Nat.le_refl _) (lt _ (g.mem g.pos)) (.inr ⟨r, hr, rfl⟩) (ring_all rg (g.mem g.pos) mm) rc
          exact flat_same A.flat hr hq mm (g2.fw (g2.mem g2.pos) f)
        subst eq
        obtain ⟨g, _⟩ := A.rgT hr
        have m0 : ∀ {m : Pp}, m.1 = cur r 0 → m.2 = 0 → m ∈ foreR ts rs (ts.length + 1) r := fun {m} e e' => by
          have : m = (cur r 0, 0) := Prod.ext e e'
          rw [this]
          exact fore_mem ok ro g g.pos (List.mem_append_right _ (List.mem_singleton.mpr rfl))
        have m1 : ∀ {m : Pp}, m.1 = cur r 0 → m.2 = fin ts (prv r 0) (cur r 0) → m ∈ aftR ts rs (ts.length + 1) r := fun {m} e e' => by
          have : m = (cur r 0, fin ts (prv r 0) (cur r 0)) := Prod.ext e e'
          rw [this]
          exact aft_mem ok ro g g.pos (List.mem_append_right _ (List.mem_singleton.mpr rfl))
        have bad : ∀ {m m' : Pp}, m ∈ l → m' ∈ l → m ∈ foreR ts rs (ts.length + 1) r → m' ∈ aftR ts rs (ts.length + 1) r → False := fun {m m'} h1 h2 h3 h4 =>
          sides ok ro g (tour_share t (fore_tour ok ro g) h1 h3 _ h2) h4
        rcases e2 with e2 | e2 <;> rcases e4 with e4 | e4
        · exact Prod.ext (e1.trans e3.symm) (e2.trans e4.symm)
        · exact (bad ml ml' (m0 e1 e2) (m1 e3 e4)).elim
        · exact (bad ml' ml (m0 e3 e4) (m1 e1 e2)).elim
        · exact Prod.ext (e1.trans e3.symm) (e2.trans e4.symm)
end
end
end GM

namespace GM
section
variable {ts : Tab} {rs : List (List Nat)}
/-! ### what leads to a root, gathered level by level -/
inductive Gat (ts : Tab) (r : Nat) : Nat → List Nat → Prop
  | zero : Gat ts r 0 [r]
  | step {k : Nat} {L : List Nat} : Gat ts r k L → k < L.length → Gat ts r (k + 1) (L ++ bk ts (L.getD k 0))
structure GatOk (ts : Tab) (r k : Nat) (L : List Nat) : Prop where
  le : k ≤ L.length
  fw : ∀ u ∈ L, Fw ts u r
  eq : ∃ M, L = r :: M ∧ ∀ c, c ∈ M ↔ ∃ i, i < k ∧ c ∈ bk ts (L.getD i 0)
  nd : L.Nodup
  ord : ∀ i, i < k → ∀ c ∈ bk ts (L.getD i 0), i < L.idxOf c ∧ c ∈ L
  len : L.length = 1 + ((L.take k).map fun v => (bk ts v).length).sum
theorem getD_app {α : Type} {l m : List α} {i : Nat} {d : α} (h : i < l.length) : (l ++ m).getD i d = l.getD i d := by
  rw [List.getD_eq_getElem?_getD, List.getD_eq_getElem?_getD, List.getElem?_append_left h]
theorem getD_mem {α : Type} {l : List α} {i : Nat} {d : α} (h : i < l.length) : l.getD i d ∈ l := by
  rw [getD_eq h]
  exact List.getElem_mem h
theorem Gat.ok {r k : Nat} {L : List Nat} (hr : ¬ Cyc ts r) (g : Gat ts r k L) : GatOk ts r k L := by
  induction g with
  | zero => exact ⟨Nat.zero_le _, fun u hu => by rw [List.mem_singleton.mp hu]; exact .refl r, ⟨[], rfl, fun c => ⟨(fun h => by cases h), fun ⟨i, hi, _⟩ => absurd hi (Nat.not_lt_zero _)⟩⟩, by simp, fun i hi => absurd hi (Nat.not_lt_zero _), rfl⟩
  | @step k L g hk ih =>
    have mk := getD_mem (d := 0) hk
    obtain ⟨M, e, hM⟩ := ih.eq
    have ne : ∀ a ∈ L, ∀ b ∈ bk ts (L.getD k 0), a ≠ b := fun a ha b hb z => by
      subst z
      have e1 := nx_bk.mp hb
      rw [e] at ha
      rcases List.mem_cons.mp ha with z | ha
      · subst z
        exact hr ⟨_, e1, ih.fw _ mk⟩
      · obtain ⟨i, hi, hc⟩ := (hM a).mp ha
        have e2 := nx_bk.mp hc
        rw [e1] at e2
        have e3 : L.getD k 0 = L.getD i 0 := Option.some.inj e2
        have a1 := idx_getD ih.nd hk
        rw [e3, idx_getD ih.nd (by omega)] at a1
        omega
    have nd : (L ++ bk ts (L.getD k 0)).Nodup := List.nodup_append.mpr ⟨ih.nd, bk_nodup ts _, ne⟩
    have low : ∀ i, i < k + 1 → (L ++ bk ts (L.getD k 0)).getD i 0 = L.getD i 0 := fun i hi => getD_app (by omega)
    refine ⟨by rw [List.length_append]; omega, fun u hu => ?_, ⟨M ++ bk ts (L.getD k 0), by rw [← List.cons_append, ← e], fun c => ?_⟩, nd, fun i hi c hc => ?_, ?_⟩
    · rcases List.mem_append.mp hu with h | h
      · exact ih.fw u h
      · exact .step (nx_bk.mp h) (ih.fw _ mk)
    · rw [List.mem_append, hM]
      constructor
      · rintro (⟨i, hi, h⟩ | h)
        · exact ⟨i, by omega, by rw [low i (by omega)]; exact h⟩
        · exact ⟨k, by omega, by rw [low k (by omega)]; exact h⟩
      · rintro ⟨i, hi, h⟩
        rw [low i hi] at h
        by_cases z : i < k
        · exact .inl ⟨i, z, h⟩
        · obtain rfl : i = k := by omega
          exact .inr h
    · rw [low i hi] at hc
      by_cases z : i < k
      · obtain ⟨a, b⟩ := ih.ord i z c hc
        exact ⟨by rw [List.idxOf_append, if_pos b]; exact a, List.mem_append_left _ b⟩
      · obtain rfl : i = k := by omega
        refine ⟨?_, List.mem_append_right _ hc⟩
        have n : c ∉ L := fun m => ne c m c hc rfl
        rw [List.idxOf_append, if_neg n]
        omega
    · rw [List.length_append, List.take_append_of_le_length (by omega), List.take_add_one, List.getElem?_eq_getElem hk, Option.toList_some, List.map_append, List.sum_append_nat, ih.len, getD_eq hk]
      simp
      omega
/-- the whole of it -/
structure Gth (ts : Tab) (r : Nat) (L : List Nat) : Prop where
  g : Gat ts r L.length L
  ok : GatOk ts r L.length L
  mem : ∀ u, u ∈ L ↔ Fw ts u r
theorem Gat.whole {r k : Nat} {L : List Nat} (hr : ¬ Cyc ts r) (hl : r < ts.length) (g : Gat ts r k L) (h : k = L.length ∨ ts.length ≤ k) : Gth ts r L := by
  have o := g.ok hr
  have le : L.length ≤ ts.length := nodup_lt o.nd fun x hx => fw_lt hl (o.fw x hx)
  have e : k = L.length := by have := o.le; omega
  subst e
  refine ⟨g, o, fun u => ⟨o.fw u, fun f => ?_⟩⟩
  induction f with
  | refl =>
    obtain ⟨M, e, _⟩ := o.eq
    rw [e]
    exact List.mem_cons_self ..
  | @step x y z e f ih =>
    have my := ih hr hl g o
    have i1 := List.idxOf_lt_length_of_mem my
    exact (o.ord _ i1 x (by rw [getD_idx my]; exact nx_bk.mpr e)).2
theorem Gth.le {r : Nat} {L : List Nat} (hl : r < ts.length) (g : Gth ts r L) : L.length ≤ ts.length := nodup_lt g.ok.nd fun x hx => fw_lt hl (g.ok.fw x hx)
theorem Gth.det {r : Nat} {L M : List Nat} (a : Gth ts r L) (b : Gth ts r M) : L.length = M.length :=
  Nat.le_antisymm (a.ok.nd.length_le_of_subset fun x hx => (b.mem x).mpr ((a.mem x).mp hx)) (b.ok.nd.length_le_of_subset fun x hx => (a.mem x).mpr ((b.mem x).mp hx))
theorem flat_pts : ∀ L : List Nat, (L.flatMap (ptsOf ts)).length = L.length + (L.map fun v => (bk ts v).length).sum
  | [] => rfl
  | v :: L => by
    rw [List.flatMap_cons, List.length_append, flat_pts L, List.map_cons, List.sum_cons, List.length_cons]
    unfold ptsOf
    rw [List.length_map, List.length_range]
    omega
theorem flat_nd : ∀ {L : List Nat}, L.Nodup → (L.flatMap (ptsOf ts)).Nodup
  | [], _ => List.nodup_nil
  | v :: L, h => by
    obtain ⟨h1, h2⟩ := List.nodup_cons.mp h
    rw [List.flatMap_cons]
    refine List.nodup_append.mpr ⟨?_, flat_nd h2, fun a ha b hb e => ?_⟩
    · unfold ptsOf
      exact List.pairwise_map.mpr (List.nodup_range.imp fun {a b} h z => h (Prod.mk.inj z).2)
    · subst e
      obtain ⟨t, _, rfl⟩ := List.mem_map.mp ha
      obtain ⟨u, hu, hb⟩ := List.mem_flatMap.mp hb
      obtain ⟨t2, _, e⟩ := List.mem_map.mp hb
      exact h1 (by rw [← (Prod.mk.inj e).1]; exact hu)
theorem mem_flat {L : List Nat} {x : Pp} : x ∈ L.flatMap (ptsOf ts) ↔ x.1 ∈ L ∧ x.2 ≤ (bk ts x.1).length := by
  rw [List.mem_flatMap]
  constructor
  · rintro ⟨v, hv, h⟩
    obtain ⟨t, ht, rfl⟩ := List.mem_map.mp h
    exact ⟨hv, Nat.le_of_lt_succ (List.mem_range.mp ht)⟩
  · rintro ⟨h1, h2⟩
    exact ⟨x.1, h1, List.mem_map.mpr ⟨x.2, List.mem_range.mpr (Nat.lt_succ_of_le h2), rfl⟩⟩
theorem Gth.pts {r : Nat} {L : List Nat} (g : Gth ts r L) : (L.flatMap (ptsOf ts)).length + 1 = 2 * L.length := by
  have := g.ok.len
  rw [List.take_length] at this
  rw [flat_pts]
  omega
/-- a row without doubles over the pointers of the trees above r -/
theorem Gth.row {r : Nat} {L : List Nat} (g : Gth ts r L) {l : List Pp} (nd : l.Nodup) (h : ∀ x, x ∈ l ↔ Fw ts x.1 r ∧ x.2 ≤ (bk ts x.1).length) : l.length + 1 = 2 * L.length := by
  have e : l.Perm (L.flatMap (ptsOf ts)) := (List.perm_ext_iff_of_nodup nd (flat_nd g.ok.nd)).mpr fun x => by rw [h, mem_flat, g.mem]
  rw [e.length_eq]
  exact g.pts
theorem eu_nodup (ok : TabOk ts) (ro : RowsOk ts rs) {n v : Nat} (h : Ht ts n v) (hv : v < ts.length) : (eu ts rs n v).Nodup := by
  cases n with
  | zero => exact h.elim
  | succ n =>
    have m := mem_eu ok ro h hv
    have a := eu_run ok ro h hv
    have c0 : (v, rot (rw_ rs v) 0 1) ∈ eu ts rs (n + 1) v := by
      rw [m]
      exact ⟨.refl v, (ro.rot ⟨hv, Nat.zero_le _⟩ 1).t⟩
    have p0 : Pt ts v 0 := ⟨hv, Nat.zero_le _⟩
    cases e : eu ts rs (n + 1) v with
    | nil => exact List.nodup_nil
    | cons y l =>
      rw [e] at a
      obtain ⟨e1, _⟩ := a
      subst e1
      refine run_nodup (S := PtP ts) (lead_inj ok ro) (by rw [← e]; exact eu_run ok ro h hv) (fun x hx => ?_) fun z => ?_
      · rw [← e] at hx
        obtain ⟨f, t⟩ := (m x).mp hx
        exact ⟨fw_lt hv f, t⟩
      · rw [eu_succ] at e
        have only : ∀ {k : Nat}, k ≤ (bk ts v).length → (v, rot (rw_ rs v) 0 1) ∈ sg ts rs n v 0 k → 0 < k := fun {k} hk h => by
          obtain ⟨j, hj, _⟩ := mem_sg.mp h
          omega
        cases hb : (bk ts v).length with
        | zero =>
          rw [hb] at e
          have : l = [] := by
            have e2 : [(v, 0)] = (v, rot (rw_ rs v) 0 1) :: l := e
            exact (List.cons.inj e2).2.symm
          rw [this] at z
          cases z
        | succ b =>
          have e2 : sg ts rs n v 0 (b + 1) = pc ts rs n v (rot (rw_ rs v) 0 1) ++ (List.range b).flatMap fun j => pc ts rs n v (rot (rw_ rs v) 0 (j + 1 + 1)) := by
            unfold sg
            rw [List.range_succ_eq_map, List.flatMap_cons, List.flatMap_map]
          rw [hb, e2, List.append_assoc] at e
          have e3 : l = eu ts rs n (chd ts v (rot (rw_ rs v) 0 1)) ++ (((List.range b).flatMap fun j => pc ts rs n v (rot (rw_ rs v) 0 (j + 1 + 1))) ++ [(v, 0)]) := (List.cons.inj e).2.symm
          rw [e3] at z
          have tree : ∀ j, j < (bk ts v).length → (v, rot (rw_ rs v) 0 1) ∉ eu ts rs n (chd ts v (rot (rw_ rs v) 0 (j + 1))) := fun j hj q => by
            have cm := chd_mem (ro.rot p0 (j + 1)) (rot0_ne ro hv hj)
            exact ht_child cm (h _ cm) ((mem_eu ok ro (h _ cm) (bk_lt cm) _).mp q).1
          rcases List.mem_append.mp z with z | z
          · exact tree 0 (by omega) z
          · rcases List.mem_append.mp z with z | z
            · obtain ⟨j, hj, z⟩ := List.mem_flatMap.mp z
              have hj := List.mem_range.mp hj
              rcases List.mem_cons.mp z with z | z
              · have e5 : rot (rs.getD v []) 0 1 = rot (rs.getD v []) 0 (j + 1 + 1) := (Prod.mk.inj z).2
                have rl := ro.rl hv
                have := rot_inj (ro.nodup hv) (ro.has p0) (by omega) (by omega) e5
                omega
              · exact tree (j + 1) (by omega) z
            · exact rot0_ne ro hv (j := 0) (by omega) (Prod.mk.inj (List.mem_singleton.mp z)).2
theorem Gth.sz_ (ok : TabOk ts) (ro : RowsOk ts rs) {n r : Nat} {L : List Nat} (g : Gth ts r L) (h : Ht ts n r) (hr : r < ts.length) : L.length = sz ts n r := by
  have a := g.row (eu_nodup ok ro h hr) (mem_eu ok ro h hr)
  have b := eu_len ok ro h hr
  omega
/-! ### places in a tour -/
theorem itr_mod {f : Pp → Pp} {c : Pp} {l : List Pp} (t : Tour f c l) (k : Nat) : itr f c (k % l.length) = itr f c k := by
  have e : c = itr f c l.length := (run_get t.run).1
  have add : ∀ q m, itr f c (m + q * l.length) = itr f c m := fun q => by
    induction q with
    | zero => intro m; rw [Nat.zero_mul, Nat.add_zero]
    | succ q ih =>
      intro m
      rw [Nat.succ_mul, Nat.add_comm (q * l.length), ← Nat.add_assoc, ih, Nat.add_comm m, ← itr_add, ← e]
  have := add (k / l.length) (k % l.length)
  rw [← this, Nat.mul_comm, Nat.mod_add_div]
theorem tour_at {f : Pp → Pp} {c : Pp} {l : List Pp} (t : Tour f c l) {i : Nat} (h : i < l.length) : l.idxOf (itr f c i) = i := by
  have := (run_get t.run).2 i h
  have e : itr f c i = l[i] := by
    rw [List.getElem?_eq_getElem h] at this
    exact (Option.some.inj this).symm
  rw [e]
  exact t.nd.idxOf_getElem i h
theorem tour_idx {f : Pp → Pp} {c x : Pp} {l : List Pp} (t : Tour f c l) (hx : x ∈ l) (k : Nat) : itr f x k ∈ l ∧ l.idxOf (itr f x k) = (l.idxOf x + k) % l.length := by
  obtain ⟨i, hi, e⟩ := run_mem t.run hx
  have pos := tour_pos t
  refine ⟨itr_in (S := fun z => z ∈ l) (tour_closed t) hx k, ?_⟩
  have ix : l.idxOf x = i := by rw [e]; exact tour_at t hi
  rw [ix, e, itr_add, ← itr_mod t (i + k)]
  exact tour_at t (Nat.mod_lt _ pos)
/-- the stretch of a tree in the tour -/
theorem stretch (ok : TabOk ts) (ro : RowsOk ts rs) {n s p : Nat} (h : Ht ts n s) (hx : nx ts s = some p) {c : Pp} {l : List Pp} (t : Tour (leadf ts rs) c l) (hp : (p, fin ts s p) ∈ l) :
    (s, 0) ∈ l ∧ l.idxOf (s, 0) = (l.idxOf (p, fin ts s p) + (2 * sz ts n s - 1)) % l.length ∧ ∀ tip, tip ≤ (bk ts s).length → ∃ d, d ≤ 2 * sz ts n s - 1 ∧ (s, tip) ∈ l ∧ l.idxOf (s, tip) = (l.idxOf (p, fin ts s p) + d) % l.length := by
  have hs := nx_lt hx
  have a := eu_run ok ro h hs
  have le := eu_len ok ro h hs
  have f1 : leadf ts rs (p, fin ts s p) = (s, rot (rw_ rs s) 0 1) := by
    rw [lead_chd (t := fin ts s p) (Nat.succ_ne_zero _), show chd ts p (fin ts s p) = s from getD_idx (nx_bk.mpr hx)]
  have key : ∀ j y, (eu ts rs n s)[j]? = some y → y = itr (leadf ts rs) (p, fin ts s p) (j + 1) ∧ j + 1 ≤ 2 * sz ts n s - 1 := fun j y hy => by
    have lt := (List.getElem?_eq_some_iff.mp hy).1
    have := (run_get a).2 j lt
    rw [hy] at this
    refine ⟨?_, by omega⟩
    rw [← itr_succ, f1]
    exact Option.some.inj this
  have all : ∀ tip, tip ≤ (bk ts s).length → ∃ d, d ≤ 2 * sz ts n s - 1 ∧ (s, tip) ∈ l ∧ l.idxOf (s, tip) = (l.idxOf (p, fin ts s p) + d) % l.length := fun tip ht => by
    have m : (s, tip) ∈ eu ts rs n s := (mem_eu ok ro h hs _).mpr ⟨.refl s, ht⟩
    obtain ⟨j, hj⟩ := List.getElem?_of_mem m
    obtain ⟨e1, e2⟩ := key j _ hj
    obtain ⟨g1, g2⟩ := tour_idx t hp (j + 1)
    exact ⟨j + 1, e2, by rw [e1]; exact g1, by rw [e1]; exact g2⟩
  have last : (eu ts rs n s)[(eu ts rs n s).length - 1]? = some (s, 0) := by
    cases n with
    | zero => exact h.elim
    | succ n =>
      rw [eu_succ, List.length_append]
      show (_ ++ [_])[(sg ts rs n s 0 (bk ts s).length).length + 1 - 1]? = _
      rw [Nat.add_sub_cancel, List.getElem?_append_right (Nat.le_refl _), Nat.sub_self]
      rfl
  obtain ⟨e1, e2⟩ := key _ _ last
  have lp : (eu ts rs n s).length - 1 + 1 = 2 * sz ts n s - 1 := by
    have := (List.getElem?_eq_some_iff.mp last).1
    omega
  rw [lp] at e1
  obtain ⟨g1, g2⟩ := tour_idx t hp (2 * sz ts n s - 1)
  rw [← e1] at g1 g2
  exact ⟨g1, g2, all⟩
/-! ### the heads of all tours -/
def hdP (l : List Pp) : Pp := l.getD 0 (0, 0)
theorem tour_hd {f : Pp → Pp} {c : Pp} {l : List Pp} (t : Tour f c l) : hdP l = c := by
  have := (run_get t.run).2 0 (tour_pos t)
  unfold hdP
  rw [List.getD_eq_getElem?_getD, this]
  rfl
theorem Tsr.heads {f : Pp → Pp} {D : List Pp} {T : List (List Pp)} (a : Tsr f D T) : (T.map hdP).Sublist D := by
  induction a with
  | nil => exact .slnil
  | old a m ih => exact ih.trans (List.sublist_append_left _ _)
  | new a m t ih =>
    rw [List.map_append, List.map_cons, List.map_nil, tour_hd t]
    exact ih.append (List.Sublist.refl _)
end
theorem cyc_fw {ts : Tab} {u r : Nat} (c : Cyc ts u) (f : Fw ts u r) : Cyc ts r := by
  induction f with
  | refl => exact c
  | @step x y z e f ih =>
    obtain ⟨y1, e1, f1⟩ := c
    rw [e] at e1
    cases e1
    refine ih ?_
    -- f1 : Fw y x, e : nx x = y
    rcases fw_first f1 with q | ⟨w, e2, f2⟩
    · subst q
      exact ⟨_, e, .refl _⟩
    · exact ⟨w, e2, f2.trans (.step e (.refl _))⟩
theorem sz_step {ts : Tab} {n u : Nat} (h : Ht ts (n + 1) u) : sz ts (n + 1) u = 1 + ((bk ts u).map (sz ts (n + 1))).sum := by
  show 1 + _ = 1 + _
  rw [List.map_congr_left fun c hc => (sz_mono (Nat.le_succ n) (h c hc)).symm]
end GM

namespace GM
section
variable {ts : Tab}
theorem trail_ex (ok : TabOk ts) : ∀ (n : Nat) (D : List Nat) (c : Option Nat), (∀ s, c = some s → s < ts.length) → ((List.range ts.length).filter fun x => !decide (x ∈ D)).length ≤ n → ∃ l e, Trail ts D c l e
  | n, D, none, hc, hn => ⟨[], none, rfl, List.nodup_nil, (fun x h => by cases h), fun s h => by cases h⟩
  | n, D, some s, hc, hn => by
    by_cases m : s ∈ D
    · exact ⟨[], some s, rfl, List.nodup_nil, (fun x h => by cases h), fun x h => by cases h; exact .inl m⟩
    · have hs := hc s rfl
      have lt : ((List.range ts.length).filter fun x => !decide (x ∈ s :: D)).length < ((List.range ts.length).filter fun x => !decide (x ∈ D)).length := by
        have sub : ∀ x ∈ s :: (List.range ts.length).filter (fun x => !decide (x ∈ s :: D)), x ∈ (List.range ts.length).filter fun x => !decide (x ∈ D) := fun x hx => by
          rcases List.mem_cons.mp hx with e | hx
          · rw [e]
            exact List.mem_filter.mpr ⟨List.mem_range.mpr hs, by rw [decide_eq_false m]; rfl⟩
          · obtain ⟨a, b⟩ := List.mem_filter.mp hx
            refine List.mem_filter.mpr ⟨a, ?_⟩
            rw [decide_eq_false fun z => ?_]
            · rfl
            · rw [decide_eq_true (List.mem_cons_of_mem _ z)] at b
              cases b
        have nd : (s :: (List.range ts.length).filter (fun x => !decide (x ∈ s :: D))).Nodup := List.nodup_cons.mpr ⟨(fun z => by
          have := (List.mem_filter.mp z).2
          rw [decide_eq_true (List.mem_cons_self ..)] at this
          cases this), List.nodup_range.sublist List.filter_sublist⟩
        exact nd.length_le_of_subset sub
      cases n with
      | zero => omega
      | succ n =>
        obtain ⟨l, e, t⟩ := trail_ex ok n (s :: D) (nx ts s) (fun x h => ok _ _ (getD_some h)) (by omega)
        refine ⟨s :: l, e, ⟨rfl, t.way⟩, List.nodup_cons.mpr ⟨fun z => t.off s z (List.mem_cons_self ..), t.nd⟩, fun x hx => ?_, fun x hx => ?_⟩
        · rcases List.mem_cons.mp hx with z | z
          · rw [z]; exact m
          · exact fun y => t.off x z (List.mem_cons_of_mem _ y)
        · rcases t.stop x hx with z | z
          · rcases List.mem_cons.mp z with z | z
            · rw [z]; exact .inr (List.mem_cons_self ..)
            · exact .inl z
          · exact .inr (List.mem_cons_of_mem _ z)
theorem st_ex (ok : TabOk ts) : ∀ i, i ≤ ts.length → ∃ D R, St ts i D R
  | 0, _ => ⟨[], [], .zero⟩
  | i + 1, h => by
    obtain ⟨D, R, st⟩ := st_ex ok i (by omega)
    obtain ⟨l, e, t⟩ := trail_ex ok _ D (some i) (fun s z => by cases z; omega) (Nat.le_refl _)
    by_cases c : ∃ s, e = some s ∧ s ∈ l
    · obtain ⟨s, rfl, m⟩ := c
      exact ⟨_, _, .hit st t m⟩
    · exact ⟨_, _, .miss st t fun s hs m => c ⟨s, hs, m⟩⟩
end
end GM

namespace GM
section
variable {ts : Tab} {rs : List (List Nat)}
def wF (ts : Tab) (rs : List (List Nat)) (n p v : Nat) : Nat := wt ts rs n v (fin ts p v) (gap (rw_ rs v) (fin ts p v) 0 - 1)
def wA (ts : Tab) (rs : List (List Nat)) (n p v : Nat) : Nat := wt ts rs n v 0 (gap (rw_ rs v) 0 (fin ts p v) - 1)
section
variable {n p v : Nat} (ok : TabOk ts) (ro : RowsOk ts rs) (hp : nx ts p = some v) (tr : ∀ c, c ∈ bk ts v → c ≠ p → Ht ts n c)
include ok ro hp tr
theorem fseg_len : (fseg ts rs n p v).length = 2 * wF ts rs n p v + 1 := by
  unfold fseg wF
  rw [List.length_append, sg_len fun j hj => by
    obtain ⟨h1, h2, h3⟩ := fturn ok ro hp hj
    exact eu_len ok ro (tr _ h2 h3) (bk_lt h2)]
  rfl
theorem aseg_len : (aseg ts rs n p v).length = 2 * wA ts rs n p v + 1 := by
  unfold aseg wA
  rw [List.length_append, sg_len fun j hj => by
    obtain ⟨h1, h2, h3⟩ := aturn ok ro hp hj
    exact eu_len ok ro (tr _ h2 h3) (bk_lt h2)]
  rfl
theorem last_itr {f : Pp → Pp} {c e x : Pp} {l : List Pp} (h : Run f c (l ++ [x]) e) : x = itr f c l.length := by
  have := (run_get h).2 l.length (by rw [List.length_append]; exact Nat.lt_succ_self _)
  rw [List.getElem?_append_right (Nat.le_refl _), Nat.sub_self] at this
  exact Option.some.inj this
theorem fstep : (v, 0) = itr (leadf ts rs) (p, 0) (2 * wF ts rs n p v + 1) := by
  have a := last_itr ok ro hp tr (fseg_run ok ro hp tr)
  have b := fseg_len ok ro hp tr
  unfold fseg at b
  rw [List.length_append] at b
  have e : (sg ts rs n v (fin ts p v) (gap (rw_ rs v) (fin ts p v) 0 - 1)).length = 2 * wF ts rs n p v := by
    have : ([(v, 0)] : List Pp).length = 1 := rfl
    omega
  rw [e, itr_succ] at a
  exact a
theorem astep {u : Nat} (hu : nx ts v = some u) : (v, fin ts p v) = itr (leadf ts rs) (u, fin ts v u) (2 * wA ts rs n p v + 1) := by
  have a := last_itr ok ro hp tr (aseg_run ok ro hp tr)
  have b := aseg_len ok ro hp tr
  unfold aseg at b
  rw [List.length_append] at b
  have e : (sg ts rs n v 0 (gap (rw_ rs v) 0 (fin ts p v) - 1)).length = 2 * wA ts rs n p v := by
    have : ([(v, fin ts p v)] : List Pp).length = 1 := rfl
    omega
  have f1 : leadf ts rs (u, fin ts v u) = (v, rot (rw_ rs v) 0 1) := by
    rw [lead_chd (t := fin ts v u) (Nat.succ_ne_zero _), fin_chd hu]
  rw [e, ← f1, itr_succ] at a
  exact a
end
theorem flat_sum {α : Type} (f : Nat → List α) (g : Nat → Nat) : ∀ {m : Nat}, (∀ k, k < m → (f k).length = g k) → ((List.range m).flatMap f).length = ((List.range m).map g).sum
  | 0, _ => rfl
  | m + 1, h => by
    rw [List.range_succ, List.flatMap_append, List.length_append, flat_sum f g fun k hk => h k (by omega), List.map_append, List.sum_append_nat, List.flatMap_cons, List.flatMap_nil, List.append_nil, h m (by omega)]
    rfl
theorem rev_sum (g : Nat → Nat) : ∀ m, ((List.range m).map fun i => g (m - 1 - i)).sum = ((List.range m).map g).sum := fun m => by
  have : (List.range m).map (fun i => g (m - 1 - i)) = ((List.range m).map g).reverse := by
    refine List.ext_getElem (by simp) fun i h1 h2 => ?_
    simp at h1
    rw [List.getElem_map, List.getElem_range, List.getElem_reverse, List.getElem_map, List.getElem_range, List.length_map, List.length_range]
  rw [this, List.sum_reverse]
section
variable {n : Nat} {R : List Nat} (ok : TabOk ts) (ro : RowsOk ts rs) (g : RgT ts n R)
include ok ro g
theorem fore_len : (foreR ts rs n R).length = ((List.range R.length).map fun k => 1 + 2 * wF ts rs n (prv R k) (cur R k)).sum := by
  unfold foreR
  exact flat_sum _ _ fun k hk => by rw [fseg_len ok ro (g.prv_nx hk) (g.ht k hk)]; omega
theorem aft_len : (aftR ts rs n R).length = ((List.range R.length).map fun k => 1 + 2 * wA ts rs n (prv R k) (cur R k)).sum := by
  unfold aftR
  rw [flat_sum _ (fun i => (fun k => 1 + 2 * wA ts rs n (prv R k) (cur R k)) (R.length - 1 - i)) fun i hi => by
    have hk : R.length - 1 - i < R.length := by omega
    rw [aseg_len ok ro (g.prv_nx hk) (g.ht _ hk)]
    show _ = 1 + 2 * _
    omega]
  exact rev_sum (fun k => 1 + 2 * wA ts rs n (prv R k) (cur R k)) R.length
end
/-- the place before, round -/
def bef (R : List Nat) (k : Nat) : Nat := (k + (R.length - 1)) % R.length
theorem prv_cur (R : List Nat) (k : Nat) : prv R k = cur R (bef R k) := rfl
theorem Rg.bef_lt {R : List Nat} (g : Rg ts R) (k : Nat) : bef R k < R.length := Nat.mod_lt _ g.pos
/-- tours with the same pointers are of the same length -/
theorem tour_same {f : Pp → Pp} {c d x : Pp} {l u : List Pp} (a : Tour f c l) (b : Tour f d u) (hx : x ∈ l) (hy : x ∈ u) : l.Perm u :=
  (List.perm_ext_iff_of_nodup a.nd b.nd).mpr fun y => ⟨fun h => tour_share a b hx hy y h, fun h => tour_share b a hy hx y h⟩
theorem mod_gap {a b w n : Nat} (h : a = (b + (2 * w + 1)) % n) : ((a : Int) - (b : Int) - 1 - 2 * (w : Int)) % (n : Int) = 0 := by
  subst h
  have e : (((b + (2 * w + 1)) % n : Nat) : Int) - (b : Int) - 1 - 2 * (w : Int) = (((b + (2 * w + 1) : Nat) : Int) % (n : Int)) + (-((b + (2 * w + 1) : Nat) : Int)) := by
    rw [Int.natCast_emod]
    omega
  rw [e, Int.emod_add_emod, Int.add_right_neg, Int.zero_emod]
end
end GM

/-! rows of whole numbers of any size; tables whose numbers may be out of range -/
namespace OwnG
open PySem PySem.Spec PyProof.Rows L2 Evl Own GM
abbrev zvs (l : List Int) : List V := l.map V.int
theorem zvs_nvs (l : List Nat) : nvs l = zvs (l.map fun n : Nat => (n : Int)) := by
  unfold zvs
  rw [List.map_map]
  rfl
def oV : Option Int → V
  | none => .non
  | some i => .int i
abbrev Otab := List (Option Int)
def OkAt (ts : Otab) (k : Nat) : Prop := ∀ i, ts[k]? = some (some i) → 0 ≤ i ∧ i < (ts.length : Int)
def OkT (ts : Otab) : Prop := ∀ k, OkAt ts k
def tabOf (ts : Otab) : Tab := ts.map (Option.map Int.toNat)
theorem tabOf_len {ts : Otab} : (tabOf ts).length = ts.length := List.length_map _
theorem tabOf_get {ts : Otab} {k : Nat} : (tabOf ts)[k]? = (ts[k]?).map (Option.map Int.toNat) := List.getElem?_map
theorem tabOf_ok {ts : Otab} (h : OkT ts) : TabOk (tabOf ts) := fun k m hk => by
  rw [tabOf_get] at hk
  cases e : ts[k]? with
  | none => rw [e] at hk; cases hk
  | some o =>
    cases o with
    | none => rw [e] at hk; cases hk
    | some i =>
      rw [e] at hk
      have := Option.some.inj (Option.some.inj hk)
      obtain ⟨h0, h1⟩ := h k i e
      rw [tabOf_len]
      have : i.toNat = m := this
      omega
theorem tabOf_map {ts : Otab} (h : OkT ts) : ts.map oV = (tabOf ts).map nV := by
  unfold tabOf
  rw [List.map_map]
  refine List.map_congr_left fun o ho => ?_
  cases o with
  | none => rfl
  | some i =>
    obtain ⟨k, hk⟩ := List.mem_iff_getElem?.mp ho
    have := (h k i hk).1
    show V.int i = V.int ((i.toNat : Nat) : Int)
    rw [Int.toNat_of_nonneg this]
/-- a table of places among places -/
def otab (ts : Tab) : Otab := ts.map (Option.map fun n : Nat => (n : Int))
theorem otab_len {ts : Tab} : (otab ts).length = ts.length := List.length_map _
theorem otab_map (ts : Tab) : (otab ts).map oV = ts.map nV := by
  unfold otab
  rw [List.map_map]
  exact List.map_congr_left fun o _ => by cases o <;> rfl
theorem tabOf_otab (ts : Tab) : tabOf (otab ts) = ts := by
  unfold tabOf otab
  rw [List.map_map]
  refine (List.map_congr_left fun o _ => ?_).trans (List.map_id _)
  cases o with
  | none => rfl
  | some n => rfl
theorem otab_ok {ts : Tab} (h : TabOk ts) : OkT (otab ts) := fun k i hk => by
  unfold otab at hk
  rw [List.getElem?_map] at hk
  cases e : ts[k]? with
  | none => rw [e] at hk; cases hk
  | some o =>
    cases o with
    | none => rw [e] at hk; cases hk
    | some m =>
      rw [e] at hk
      have z := Option.some.inj (Option.some.inj hk)
      have := h k m e
      have z : (m : Int) = i := z
      rw [otab_len]
      omega
/-- the row of the fingers in their order -/
def rowZ (ts : Otab) (k : Nat) : List Int := (List.range ((bk (tabOf ts) k).length + 1)).map fun n : Nat => (n : Int)
def plainZ (ts : Otab) : List (List Int) := (List.range ts.length).map (rowZ ts)
theorem rowZ_len {ts : Otab} {k : Nat} : (rowZ ts k).length = (bk (tabOf ts) k).length + 1 := by unfold rowZ; rw [List.length_map, List.length_range]
def RowAt (ts : Otab) (rows : List (List Int)) (k : Nat) : Prop := (rows.getD k []).Perm (rowZ ts k)
/-- what is due: 0 a graph, 1 the first node whose next is no node, 2 the first row that is not right -/
inductive DueP (ts : Otab) (ro : Option (List (List Int))) : Nat → Nat → Prop
  | node (k : Nat) : ¬ OkAt ts k → (∀ j, j < k → OkAt ts j) → DueP ts ro 1 k
  | row (rows : List (List Int)) (k : Nat) : OkT ts → ro = some rows → k < ts.length → ¬ RowAt ts rows k → (∀ j, j < k → RowAt ts rows j) → DueP ts ro 2 k
  | fine : OkT ts → (∀ rows, ro = some rows → ∀ k, k < ts.length → RowAt ts rows k) → DueP ts ro 0 0
theorem DueP.uniq {ts : Otab} {ro : Option (List (List Int))} {c k c' k' : Nat} (h : DueP ts ro c k) (h' : DueP ts ro c' k') : c = c' ∧ k = k' := by
  cases h with
  | node _ a b =>
    cases h' with
    | node _ a' b' =>
      refine ⟨rfl, Nat.le_antisymm (Nat.not_lt.mp fun z => ?_) (Nat.not_lt.mp fun z => ?_)⟩
      · exact a' (b _ z)
      · exact a (b' _ z)
    | row rows _ o _ _ _ _ => exact absurd (o _) a
    | fine o _ => exact absurd (o _) a
  | row rows _ o e l a b =>
    cases h' with
    | node _ a' b' => exact absurd (o _) a'
    | row rows' _ o' e' l' a' b' =>
      rw [e] at e'
      cases e'
      refine ⟨rfl, Nat.le_antisymm (Nat.not_lt.mp fun z => ?_) (Nat.not_lt.mp fun z => ?_)⟩
      · exact a' (b _ z)
      · exact a (b' _ z)
    | fine o' f => exact absurd (f _ e _ l) a
  | fine o f =>
    cases h' with
    | node _ a' b' => exact absurd (o _) a'
    | row rows _ o' e' l' a' b' => exact absurd (f _ e' _ l') a'
    | fine _ _ => exact ⟨rfl, rfl⟩
/-! ### tuples of rows -/
structure TZ (K : PySem.W.Frag) (H : Hp) (a : Addr) (rows : List (List Int)) : Prop where
  ex : ∃ ps : List Addr, SqT K H a (ps.map V.ref) ∧ ps.length = rows.length ∧ ∀ (i : Nat) (p : Addr) (l : List Int), ps[i]? = some p → rows[i]? = some l → SqT K H p (zvs l)
section
variable {K : PySem.W.Frag} {σ : L2.St} {H H' : Hp} {a g : Addr} {rows : List (List Int)} {ta tb te tl : TE}
theorem TZ.up (e : Ex H H') (h : TZ K H a rows) : TZ K H' a rows := by
  obtain ⟨ps, h1, h2, h3⟩ := h.ex
  exact ⟨ps, ex_t e h1, h2, fun i p l hp hl => ex_t e (h3 i p l hp hl)⟩
theorem TZ.ig {C dx : Addr} {fs : List (Str × V)} (h : TZ K H a rows) (hg : H g = some (.ins C dx fs)) (i : Ig g H H') : TZ K H' a rows := by
  obtain ⟨ps, h1, h2, h3⟩ := h.ex
  exact ⟨ps, sq_ig h1 hg i, h2, fun i' p l hp hl => sq_ig (h3 i' p l hp hl) hg i⟩
theorem TZ.of {n : Nat} {f : Nat → List Nat} (h : TTf K H a n f) : TZ K H a ((List.range n).map fun k => (f k).map fun m : Nat => (m : Int)) := by
  obtain ⟨ps, h1, h2, h3⟩ := h.ex
  refine ⟨ps, h1, by rw [List.length_map, List.length_range, h2], fun i p l hp hl => ?_⟩
  rw [List.getElem?_map] at hl
  cases e : (List.range n)[i]? with
  | none => rw [e] at hl; cases hl
  | some j =>
    rw [e] at hl
    cases hl
    have ej : j = i := by
      have := (List.getElem?_eq_some_iff.mp e)
      obtain ⟨_, z⟩ := this
      rw [List.getElem_range] at z
      exact z.symm
    subst ej
    rw [← zvs_nvs]
    exact (h3 _ p hp).sq
theorem TZ.at_ {k : Nat} {l : List Int} (h : TZ K H a rows) (hk : rows[k]? = some l) : ∃ p xs, SqT K H a xs ∧ xs.length = rows.length ∧ xs[k]? = some (.ref p) ∧ SqT K H p (zvs l) := by
  obtain ⟨ps, h1, h2, h3⟩ := h.ex
  have hl : k < ps.length := by rw [h2]; exact (List.getElem?_eq_some_iff.mp hk).1
  refine ⟨ps[k], ps.map V.ref, h1, by rw [List.length_map, h2], by rw [List.getElem?_map, List.getElem?_eq_getElem hl]; rfl, h3 k _ l (List.getElem?_eq_getElem hl) hk⟩
theorem evH_TZ {k : Nat} {l : List Int} (h : TZ K H a rows) (ha : Ev ta σ H (.ref a)) (hb : Ev tb σ H (iV k)) (hk : rows[k]? = some l) : EvH (tOp (rIxT K) ta tb) σ H (TpV K (zvs l)) := by
  obtain ⟨p, xs, h1, _, h2, h3⟩ := h.at_ hk
  exact evH_Tv (ev_op ha hb (rv_ixT h1 (atI_nat h2))) h3
theorem ev_lenTZ (h : TZ K H a rows) (ha : Ev ta σ H (.ref a)) : Ev (tCB (fun xs H Q => ∃ p ys, xs = [V.ref p] ∧ (SqL K H p ys ∨ SqT K H p ys) ∧ Q (.int ys.length) H) (tCons ta tNil)) σ H (iV rows.length) := by
  obtain ⟨ps, h1, h2, h3⟩ := h.ex
  refine ev_is (ev_cb (ea_cons ha ea_nil) (rc_lenT h1)) ?_
  rw [List.length_map, h2]
def zowD (l : List Int) : PyData := .tuple (l.map PyData.int)
theorem zowD_ok (l : List Int) : okD1 1 (zowD l) := okD1.tup fun d hd => by
  obtain ⟨n, _, rfl⟩ := List.mem_map.mp hd
  exact .int
theorem dp_allZ : ∀ l : List Int, DpAll K H (zvs l) (l.map PyData.int)
  | [] => .nil
  | n :: l => .cons (.int n) (dp_allZ l)
theorem dp_rowZ {p : Addr} {l : List Int} (h : SqT K H p (zvs l)) : Dp K H (.ref p) (zowD l) := .tup h (dp_allZ l)
theorem eqv_zows : ∀ a b : List Int, PyData.eqvAll (a.map PyData.int) (b.map PyData.int) = decide (a = b)
  | [], [] => by simp [PyData.eqvAll]
  | [], y :: b => by simp [PyData.eqvAll]
  | x :: a, [] => by simp [PyData.eqvAll]
  | x :: a, y :: b => by
    simp only [List.map_cons, PyData.eqvAll, PyData.eqv, eqv_zows a b]
    by_cases e1 : x = y
    · subst e1
      simp
    · rw [beq_eq_false_iff_ne.mpr e1, Bool.false_and, decide_eq_false fun z => e1 (List.cons.inj z).1]
theorem rv_neZ {p q : Addr} {a b : List Int} (h : SqT K H p (zvs a)) (h' : SqT K H q (zvs b)) : RV (rNeD K) (.ref p) (.ref q) H (.bl (!decide (a = b))) := fun H1 e Q k =>
  ⟨_, _, dp_rowZ (ex_t e h), dp_rowZ (ex_t e h'), (zowD_ok a).shaped (by decide), (zowD_ok b).shaped (by decide), by
    have : PyData.eqv (zowD a) (zowD b) = decide (a = b) := by
      unfold zowD
      simp only [PyData.eqv, eqv_zows]
    rw [this]
    exact k H1 (Ex.refl H1)⟩
theorem ev_neZ {x y : List Int} (ha : EvH ta σ H (TpV K (zvs x))) (hb : EvH tb σ H (TpV K (zvs y))) : Ev (tOp (rNeD K) ta tb) σ H (.bl (!decide (x = y))) :=
  ev_opHH ha hb (st_Tp _) fun v w H1 _ ⟨p, e1, h1⟩ ⟨q, e2, h2⟩ => by
    subst e1 e2
    exact rv_neZ h1 h2
/-- the row in ascending order -/
def srt (l : List Int) : List Int := l.mergeSort (fun a b => decide (a ≤ b))
theorem srt_perm (l : List Int) : (srt l).Perm l := List.mergeSort_perm _ _
theorem srt_sorted (l : List Int) : (srt l).Pairwise (· ≤ ·) :=
  (List.pairwise_mergeSort (le := fun a b : Int => decide (a ≤ b)) (fun a b c h1 h2 => decide_eq_true (Int.le_trans (of_decide_eq_true h1) (of_decide_eq_true h2))) (fun a b => by simp only [Bool.or_eq_true, decide_eq_true_eq]; omega) l).imp fun h => of_decide_eq_true h
theorem srt_eq {l ns : List Int} (h1 : ns.Perm l) (h2 : ns.Pairwise (· ≤ ·)) : ns = srt l :=
  List.Perm.eq_of_pairwise (le := (· ≤ ·)) (fun a b _ _ x y => Int.le_antisymm x y) h2 (srt_sorted l) (h1.trans (srt_perm l).symm)
theorem rowZ_sorted {ts : Otab} {k : Nat} : (rowZ ts k).Pairwise (· ≤ ·) := List.pairwise_map.mpr (List.pairwise_le_range.imp fun h => Int.ofNat_le.mpr h)
theorem srt_row {ts : Otab} {rows : List (List Int)} {k : Nat} : srt (rows.getD k []) = rowZ ts k ↔ RowAt ts rows k :=
  ⟨fun h => (srt_perm _).symm.trans (h ▸ .refl _), fun h => (srt_eq h.symm rowZ_sorted).symm⟩
theorem el_sortedZ {row : List Int} (h : EvH te σ H (TpV K (zvs row))) : EvL (tCB (rSortedTI K) (tCons te tNil)) σ H (zvs (srt row)) := fun H1 e Q q =>
  h H1 e _ fun v H2 e2 ⟨p, ep, hs⟩ => ⟨p, row, by rw [ep], hs, fun ns' l h1 h2 hl => by
    rw [srt_eq h1 h2]
    exact q l _ (fresh_back e2 hl) (e2.trans (Ex.new hl)) upd_same⟩
end
end OwnG

/-! t[::-1] of a tuple -/
namespace OwnZ2
open PySem PySem.Calls PyProof.Rows HT
section
variable {prog : Program} {w : World} {A : Around} {E : Value → Shared → Prop} {s : Shared}
theorem rev_places (n : Nat) : Builtin.Slice.sliceAdjust none none (-1) (n : Int) = ((n : Int) - 1, -1) := by
  unfold Builtin.Slice.sliceAdjust
  simp
theorem rev_count (n : Nat) : Builtin.Slice.slicePlaces ((n : Int) - 1) (-1) (-1) = n := by
  unfold Builtin.Slice.slicePlaces
  cases n with
  | zero => decide
  | succ n =>
    simp
    omega
theorem fm_congr {α β : Type} {f g : α → Option β} : ∀ {l : List α}, (∀ x ∈ l, f x = g x) → l.filterMap f = l.filterMap g
  | [], _ => rfl
  | x :: l, h => by
    rw [List.filterMap_cons, List.filterMap_cons, h x List.mem_cons_self, fm_congr fun y hy => h y (List.mem_cons_of_mem _ hy)]
theorem rev_pick (xs : List Value) : (List.range xs.length).filterMap (fun k : Nat => xs[(((xs.length : Int) - 1) + (k : Int) * (-1)).toNat]?) = xs.reverse := by
  have h1 : ∀ k ∈ List.range xs.length, (fun k : Nat => xs[(((xs.length : Int) - 1) + (k : Int) * (-1)).toNat]?) k = some (xs.reverse.getD k .none) := fun k hk => by
    have hk := List.mem_range.mp hk
    have e : (((xs.length : Int) - 1) + (k : Int) * (-1)).toNat = xs.length - 1 - k := by omega
    show xs[(((xs.length : Int) - 1) + (k : Int) * (-1)).toNat]? = _
    rw [e, List.getD_eq_getElem?_getD, List.getElem?_reverse hk, List.getElem?_eq_getElem (by omega)]
    rfl
  have h2 : (List.range xs.length).filterMap (fun k : Nat => xs[(((xs.length : Int) - 1) + (k : Int) * (-1)).toNat]?) = (List.range xs.length).map fun k => xs.reverse.getD k .none := by
    rw [← List.filterMap_eq_map]
    exact fm_congr h1
  rw [h2]
  refine List.ext_getElem (by rw [List.length_map, List.length_range, List.length_reverse]) fun i h3 h4 => ?_
  rw [List.getElem_map, List.getElem_range, List.getD_eq_getElem?_getD, List.getElem?_eq_getElem h4]
  rfl
theorem getItem_tuple_rev {t sl : Addr} {items : Array Value} {vl vu vs : Value} {Q : Value → Shared → Prop} (ht : IsTup s.heap t items) (hs : s.heap.IsSliceOf sl vl vu vs) (pl : IsPart vl none) (pu : IsPart vu none) (ps : IsPart vs (some (-1)))
    (h : Q (.ref s.heap.objs.size) { s with heap := s.heap.push { cls := .type "tuple", data := .seq items.toList.reverse.toArray } }) (hsz : items.size ≤ sizeLine) : wpAny (model prog w) A (getItem (.ref t) (.ref sl)) Q E s := by
  have htake : sizeOk (.seq items.toList.reverse.toArray) := by
    show items.toList.reverse.toArray.size ≤ sizeLine
    rw [List.size_toArray, List.length_reverse, Array.length_toList]
    exact hsz
  obtain ⟨os, hos, hcs, hds⟩ := id hs
  have hTs : s.TypeIs (.ref sl) "slice" := ⟨os, hos, hcs⟩
  unfold getItem
  try with_reducible refine wpAny_holding ?_
  first | refine wpAny_bind (wpAny_pure ?_) | skip
  refine wpAny_bind (wpAny_sequenceKey ht.typeIs (by decide) ?_)
  refine wpAny_bind (wpAny_callSpecial?_slot (name := Str.ofString "__getitem__") ht.typeIs PyProof.Rows.slot_tuple_getitem
    (wpAny_call_entry PyProof.Rows.slot_tuple_getitem ht.typeIs entry_tuple_getitem ?_ (args_tuple_getitem _ _)))
  show wpAny _ _ (Builtin.Tuple.tupleItemsOf (.ref t) >>= _) _ _ s
  refine wpAny_bind (tupleItemsOf_ ht ?_)
  refine wpAny_bind (wpAny_typeOf hTs ?_)
  rw [if_pos (by decide)]
  refine wpAny_bind ?_
  unfold Builtin.Slice.sliceApplied Builtin.Slice.sliceFields
  refine wpAny_bind (wpAny_bind (wpAny_field hos hds (x := vl) rfl (wpAny_bind (wpAny_field hos hds (x := vu) rfl (wpAny_bind (wpAny_field hos hds (x := vs) rfl (wpAny_pure ?_)))))))
  refine wpAny_bind (slicePart_ ps ?_)
  show wpAny _ _ (if ((-1 : Int) == 0) = true then _ else _) _ _ s
  rw [if_neg (by decide)]
  refine wpAny_bind (slicePart_ pl (wpAny_bind (slicePart_ pu (wpAny_bind (wpAny_pure ?_)))))
  show wpAny _ _ (match Builtin.Slice.sliceAdjust none none (-1) (items.size : Int) with | (lo, hi) => pure (lo, (-1 : Int), Builtin.Slice.slicePlaces lo hi (-1))) _ _ s
  rw [rev_places]
  show wpAny _ _ (pure (((items.size : Int) - 1), (-1 : Int), Builtin.Slice.slicePlaces ((items.size : Int) - 1) (-1) (-1))) _ _ s
  rw [rev_count]
  refine wpAny_pure ?_
  have hno : ¬ ((((items.size : Int) - 1 == 0) && ((-1 : Int) == 1) && (items.size == items.size)) = true) := by
    intro q
    rw [Bool.and_eq_true, Bool.and_eq_true] at q
    exact absurd q.1.2 (by decide)
  show wpAny _ _ (if (((items.size : Int) - 1 == 0) && ((-1 : Int) == 1) && (items.size == items.size)) = true then _ else _) _ _ s
  have pk : (List.range items.size).filterMap (fun k : Nat => items[(((items.size : Int) - 1) + (k : Int) * (-1)).toNat]?) = items.toList.reverse := by
    have z := rev_pick items.toList
    rw [Array.length_toList] at z
    rw [← z]
    exact fm_congr fun k _ => by rw [Array.getElem?_toList]
  rw [if_neg hno, pk]
  first
    | exact wpAny_bind (m := Builtin.Tuple.tupleExact _) (wpAny_newObj_type (wpAny_pure ⟨_, rfl, wpAny_pure h⟩) htake)
    | exact wpAny_bind (m := Builtin.Tuple.tupleExact _) (wpAny_newObj_type (wpAny_bind (wpAny_pure (wpAny_pure ⟨_, rfl, wpAny_pure h⟩))) htake)
    | exact wpAny_bind (wpAny_bind (m := Builtin.Tuple.tupleExact _) (wpAny_newObj_type (wpAny_pure (wpAny_pure ⟨_, rfl, wpAny_pure h⟩)) htake))
    | exact wpAny_bind (wpAny_bind (m := Builtin.Tuple.tupleExact _) (wpAny_newObj_type (wpAny_pure ⟨_, rfl, wpAny_pure h⟩) htake))
end
end OwnZ2
namespace OwnG
open PySem PySem.Spec PyProof.Rows L2 Evl Own
/-- t[::-1], t a tuple -/
def tRevT (K : PySem.W.Frag) (te : TE) : TE := fun σ H Q => te σ H fun x H1 => ∃ a xs, x = .ref a ∧ SqT K H1 a xs ∧ ∀ p, H1 p = none → Q (.ref p) (upd H1 p (.tup xs.reverse))
theorem pe_revT {X : Cx} {e : Expr} {te : TE} {k : Nat} {p1 p2 p3 pos : Pos} (he : PE X e te) : PE X (.Subscript e (.Slice none none (some (.UnaryOp .USub (.Constant (.int 1) k p1) p2)) p3) pos) (tRevT X.K te) := by
  refine ⟨fun pins s σ H Q I h => ?_⟩
  refine Subscript_ (thn (he.run pins s σ H _ I h) fun v s1 ⟨x, H1, I1, r1, q1⟩ => ?_)
  obtain ⟨a, xs, ex, hx, q⟩ := q1
  subst ex
  cases r1
  have hst : PO X (some (.UnaryOp .USub (.Constant (.int 1) k p1) p2)) (tPart (tUn (rU fun i => .int (-i)) (tC (.int 1)))) := po_some (pe_un un_neg pe_int)
  refine wpAny_Slice (thn (po_none.run pins s1 σ H1 (fun o H2 => o = none ∧ H2 = H1) I1 ⟨rfl, rfl⟩) fun vl s2 ⟨l, H2, I2, pl, el, e2⟩ => ?_)
  subst el e2
  refine thn (po_none.run pins s2 σ H2 (fun o H3 => o = none ∧ H3 = H2) I2 ⟨rfl, rfl⟩) fun vu s3 ⟨u, H3, I3, pu, eu, e3⟩ => ?_
  subst eu e3
  refine thn (hst.run pins s3 σ H3 (fun o H4 => o = some (-1) ∧ H4 = H3) I3 ⟨1, rfl, -1, rfl, rfl, rfl⟩) fun vs s4 ⟨o, H4, I4, ps, eo, e4⟩ => ?_
  subst eo e4
  have I5 : Inv X pins σ H4 { s4 with heap := s4.heap.push { cls := .type "slice", data := .fields #[vl, vu, vs] } } := I4.kept (t' := s4.toks) fun b ob q => Heap.get?_push_of_some _ q
  obtain ⟨its, r, ht, hz⟩ := I5.tuple hx
  have hlen : its.toArray.size = xs.length := by rw [List.size_toArray]; exact r.length.symm
  show wpAny (model X.prog X.w) X.A (subscriptTail e (.Slice none none (some (.UnaryOp .USub (.Constant (.int 1) k p1) p2)) p3) (.ref a) (.ref s4.heap.objs.size)) (EP X pins σ Q) X.xe { s4 with heap := s4.heap.push { cls := .type "slice", data := .fields #[vl, vu, vs] } }
  refine tail_any (ops := [.ref a, .ref s4.heap.objs.size]) ht.typeIs (PyProof.Rows.slot_tuple_getitem.lookup) ?_ (by with_unfolding_all rfl)
  refine OwnZ2.getItem_tuple_rev ht (Heap.IsSliceOf.new _ vl vu vs) pl pu ps ?_ (by rw [hlen]; exact hz)
  refine ⟨.ref _, _, I5.laid (t' := s4.toks) (o := .tup xs.reverse) (fun b ob q => Heap.get?_push_of_some _ q) (Nat.le_refl _) ?_, rfl, q _ (I5.hok.fresh (Nat.le_refl _))⟩
  exact ⟨by rw [List.length_reverse]; exact hz, _, r.reverse, IsTup.new _ _⟩
end OwnG

/-! rows of any whole numbers, cut and joined; lists made of lists that are told by a property -/
namespace OwnG
open PySem PySem.Spec PyProof.Rows L2 Evl Own GM
/-- a tuple of at most n whole numbers -/
def ZR (K : PySem.W.Frag) (n : Nat) : V → Hp → Prop := fun v H => ∃ p l, v = .ref p ∧ l.length ≤ n ∧ SqT K H p (zvs l)
def IsZ (v : V) : Prop := ∃ i : Int, v = .int i
theorem all_int : ∀ {xs : List V}, (∀ x ∈ xs, IsZ x) → ∃ l : List Int, xs = zvs l
  | [], _ => ⟨[], rfl⟩
  | x :: xs, h => by
    obtain ⟨i, rfl⟩ := h x List.mem_cons_self
    obtain ⟨l, rfl⟩ := all_int fun y hy => h y (List.mem_cons_of_mem _ hy)
    exact ⟨i :: l, rfl⟩
theorem all_oV : ∀ {xs : List V}, (∀ x ∈ xs, ∃ o, x = oV o) → ∃ l : Otab, xs = l.map oV
  | [], _ => ⟨[], rfl⟩
  | x :: xs, h => by
    obtain ⟨i, rfl⟩ := h x List.mem_cons_self
    obtain ⟨l, rfl⟩ := all_oV fun y hy => h y (List.mem_cons_of_mem _ hy)
    exact ⟨i :: l, rfl⟩
section
variable {K : PySem.W.Frag} {σ : L2.St} {H H' : Hp} {a : Addr} {ta tb te tl : TE} {n m : Nat}
theorem ZR.ex (e : Ex H H') {v : V} (h : ZR K n v H) : ZR K n v H' := by
  obtain ⟨p, l, ev, hl, hp⟩ := h
  exact ⟨p, l, ev, hl, ex_t e hp⟩
theorem ZR.le (h : n ≤ m) {v : V} {H : Hp} (z : ZR K n v H) : ZR K m v H := by
  obtain ⟨p, l, ev, hl, hp⟩ := z
  exact ⟨p, l, ev, Nat.le_trans hl h, hp⟩
theorem evZ_le (h : EvH te σ H (ZR K n)) (hm : n ≤ m) : EvH te σ H (ZR K m) := fun H1 e Q q => h H1 e Q fun v H2 e2 z => q v H2 e2 (z.le hm)
theorem evZ_v {p : Addr} {l : List Int} (h : Ev te σ H (.ref p)) (hp : SqT K H p (zvs l)) (hl : l.length ≤ n) : EvH te σ H (ZR K n) := evH_of h fun H1 e => ⟨p, l, rfl, hl, ex_t e hp⟩
theorem evZ_cat (ha : EvH ta σ H (ZR K n)) (hb : EvH tb σ H (ZR K m)) (hz : n + m ≤ 100000) : EvH (tOp (rCatA K) ta tb) σ H (ZR K (n + m)) := fun H1 e Q q =>
  ha H1 e _ fun v H2 e2 ⟨p, l, ev, hl, hp⟩ => hb H2 (e.trans e2) _ fun w H3 e3 ⟨p', l', ew, hl', hp'⟩ => by
    subst ev ew
    have hp3 := ex_t e3 hp
    refine ⟨p, p', zvs l, zvs l', rfl, rfl, hp3, hp', ?_, fun z => ?_, fun z1 z2 => ?_, fun z1 z2 r hr => ?_⟩
    · rw [List.length_map, List.length_map]
      exact sz_of (by omega)
    · exact q _ H3 (e2.trans e3) ⟨p', l', rfl, by omega, hp'⟩
    · exact q _ H3 (e2.trans e3) ⟨p, l, rfl, by omega, hp3⟩
    · exact q _ _ ((e2.trans e3).trans (Ex.new hr)) ⟨r, l ++ l', rfl, by rw [List.length_append]; omega, .inl (.inl (by rw [upd_same, zvs, zvs, zvs, List.map_append]))⟩
theorem cut_zvs (l : List Int) (lo hi : Option Int) : ∃ l', cutV (zvs l) lo hi = zvs l' ∧ l'.length ≤ l.length := by
  refine ⟨(l.drop (HT.sIx (zvs l).length 0 lo)).take (HT.sIx (zvs l).length (zvs l).length hi - HT.sIx (zvs l).length 0 lo), ?_, ?_⟩
  · unfold cutV zvs
    rw [List.map_take, List.map_drop]
  · rw [List.length_take, List.length_drop]
    omega
theorem evZ_sl {t1 t2 : TO} {lo hi : Option Int} (h : EvH te σ H (ZR K n)) (h1 : EvO t1 σ H lo) (h2 : EvO t2 σ H hi) : EvH (tSl (rSlA K) te t1 t2) σ H (ZR K n) := fun H1 e Q q =>
  h H1 e _ fun v H2 e2 ⟨p, l, ev, hl, hp⟩ => h1 H2 (e.trans e2) _ fun H3 e3 => h2 H3 ((e.trans e2).trans e3) _ fun H4 e4 => by
    subst ev
    have hp4 := ex_t (e3.trans e4) hp
    refine ⟨p, zvs l, rfl, hp4, fun _ => q _ H4 (e2.trans (e3.trans e4)) ⟨p, l, rfl, hl, hp4⟩, fun _ r hr => ?_⟩
    obtain ⟨l', el, hl'⟩ := cut_zvs l lo hi
    exact q _ _ ((e2.trans (e3.trans e4)).trans (Ex.new hr)) ⟨r, l', rfl, by omega, .inl (.inl (by rw [upd_same, el]))⟩
theorem evZ_rev (h : EvH te σ H (ZR K n)) : EvH (tRevT K te) σ H (ZR K n) := fun H1 e Q q =>
  h H1 e _ fun v H2 e2 ⟨p, l, ev, hl, hp⟩ => by
    subst ev
    exact ⟨p, zvs l, rfl, hp, fun r hr => q _ _ (e2.trans (Ex.new hr)) ⟨r, l.reverse, rfl, by rw [List.length_reverse]; exact hl, .inl (.inl (by rw [upd_same, zvs, zvs, List.map_reverse]))⟩⟩
theorem evZ_one (h : EvS te σ H IsZ) : EvH (tTup (tCons te tNil)) σ H (ZR K 1) := fun H1 e Q q =>
  h H1 e _ fun v H2 ⟨i, ev⟩ e2 => ⟨sz_of (show 1 ≤ 100000 by decide), fun r hr => q _ _ (e2.trans (Ex.new hr)) ⟨r, [i], rfl, Nat.le_refl _, .inl (.inl (by rw [upd_same, ev]; rfl))⟩⟩
theorem evZ_nil : EvH (tTup tNil) σ H (ZR K 0) := fun H1 e Q q => ⟨sz_of (show 0 ≤ 100000 by decide), fun r hr => q _ _ (Ex.new hr) ⟨r, [], rfl, Nat.le_refl _, .inl (.inl (by rw [upd_same]; rfl))⟩⟩
theorem evZ_tup (h : EvLH te σ H n (fun _ v _ => IsZ v)) : EvH (tCB (rTupF K) (tCons te tNil)) σ H (ZR K n) := fun H1 e Q q =>
  h H1 e _ fun xs p H2 hp e2 h2 hn hr => ⟨p, xs, rfl, sq_of h2, fun r o d hr2 => by
    obtain ⟨l, rfl⟩ := all_int fun x hx => by
      obtain ⟨i, hi⟩ := List.mem_iff_getElem?.mp hx
      exact hr i x hi
    exact q _ _ (e2.trans (Ex.new hr2)) ⟨r, l, rfl, by rw [List.length_map] at hn; omega, .inl (.inr ⟨o, upd_same⟩)⟩⟩
theorem evFz_tup (h : EvLH te σ H n (fun _ v _ => IsZ v)) : EvH (tCB (rTupF K) (tCons te tNil)) σ H (fun v H1 => ∃ l, FzV (zvs l) v H1) := fun H1 e Q q =>
  h H1 e _ fun xs p H2 hp e2 h2 hn hr => ⟨p, xs, rfl, sq_of h2, fun r o d hr2 => by
    obtain ⟨l, rfl⟩ := all_int fun x hx => by
      obtain ⟨i, hi⟩ := List.mem_iff_getElem?.mp hx
      exact hr i x hi
    exact q _ _ (e2.trans (Ex.new hr2)) ⟨l, r, rfl, o, d, upd_same⟩⟩
/-- a comprehension over a list that is told by a property -/
theorem elH_lcLS {Rl : List V → Prop} {j : Nat} {vs : List Nat} {R : Nat → V → Hp → Prop} (h : EvLS tl σ H Rl) (hz : ∀ xs, Rl xs → xs.length = n) (hn : n ≤ 40000) (hw : ∀ x, wipe ((wipe σ vs).set j (some x)) vs = wipe σ vs) (hst : ∀ i v H H', Kt H H' → R i v H → R i v H')
    (he : ∀ (xs : List V) (i : Nat) (x : V) H1, Rl xs → Ex H H1 → xs[i]? = some x → EvH te ((wipe σ vs).set j (some x)) H1 (R i)) : EvLH (tLc (iList K tl) (gName j) tYes te vs) σ H n R := fun H0 e Q q => h H0 e _ fun xs a H1 rx ha e1 hx => ⟨a, rfl, ⟨xs, sq_of hx⟩, fun Dl hD => by
  have ln := hz xs rx
  exact lc_list (xs := xs) (Cq H1 R Dl) ⟨hD, Ex.new hD, [], upd_same, rfl, fun j x hj => by cases hj⟩ (fun i H' _ p => sq_of (p.2.1 a _ hx)) (fun i x H' hi p => ⟨hw x, iteT (B := Cq H1 R Dl (i + 1) H') (cq_turn hst p (by have := (List.getElem?_eq_some_iff.mp hi).1; omega) (he xs i x H' rx ((e.trans e1).trans p.2.1) hi))⟩)
    (fun H' ⟨p1, p2, acc, p3, p4, p5⟩ => q acc Dl H' (fresh_back e1 p1) (e1.trans p2) p3 (by rw [p4, ln]) p5)⟩
/-- tuple(rows) -/
theorem evH_tupTZ {p : Addr} {qs : List Addr} {rows : List (List Int)} (h : Ev te σ H (.ref p)) (hs : SqL K H p (qs.map V.ref)) (hn : qs.length = rows.length) (hq : ∀ (i : Nat) (a : Addr) (l : List Int), qs[i]? = some a → rows[i]? = some l → SqT K H a (zvs l)) : EvH (tCB (rTupF K) (tCons te tNil)) σ H (fun v H1 => ∃ p, v = .ref p ∧ TZ K H1 p rows) := fun H1 e Q q =>
  h H1 e _ fun H2 e2 => ⟨p, _, rfl, ex_l (e.trans e2) hs, fun l o d hl => q _ _ (e2.trans (Ex.new hl)) ⟨l, rfl, qs, .inl (.inr ⟨o, upd_same⟩), hn, fun i a r hi hr => ex_t ((e.trans e2).trans (Ex.new hl)) (hq i a r hi hr)⟩⟩
end
end OwnG

/-! rows told right by their tips; caught errors read -/
namespace OwnG
open PySem PySem.Spec PyProof.Rows L2 Evl Own GM
theorem inV_zvs (i : Int) (l : List Int) : inV (.int i) (zvs l) = decide (i ∈ l) := by
  unfold inV zvs
  rw [List.any_map]
  induction l with
  | nil => rfl
  | cons x l ih =>
    rw [List.any_cons, ih]
    show ((x == i) || decide (i ∈ l)) = decide (i ∈ x :: l)
    by_cases h : x = i
    · subst h
      simp
    · have h' : ¬ i = x := fun z => h z.symm
      simp [h, h']
theorem flat_zvs (l : List Int) : (zvs l).all flatV = true := List.all_eq_true.mpr fun x hx => by
  obtain ⟨i, _, rfl⟩ := List.mem_map.mp hx
  rfl
theorem perm_sub {α : Type} [DecidableEq α] : ∀ {l r : List α}, l.Nodup → (∀ x ∈ l, x ∈ r) → r.length = l.length → r.Perm l
  | [], r, _, _, h => by rw [List.length_eq_zero_iff.mp h]
  | x :: l, r, nd, hs, h => by
    obtain ⟨hx, nl⟩ := List.nodup_cons.mp nd
    have p := List.perm_cons_erase (hs x List.mem_cons_self)
    refine p.trans (List.Perm.cons x (perm_sub nl (fun y hy => ?_) ?_))
    · exact (List.mem_erase_of_ne (fun z : y = x => hx (by rw [← z]; exact hy))).mpr (hs y (List.mem_cons_of_mem _ hy))
    · rw [List.length_erase_of_mem (hs x List.mem_cons_self), h]
      rfl
theorem rowZ_nodup {ts : Otab} {k : Nat} : (rowZ ts k).Nodup := List.Pairwise.map _ (fun a b h z => h (Int.ofNat_inj.mp z)) List.nodup_range
theorem rowAt_iff {ts : Otab} {rows : List (List Int)} {k : Nat} : RowAt ts rows k ↔ (∀ t, t < (bk (tabOf ts) k).length + 1 → ((t : Nat) : Int) ∈ rows.getD k []) ∧ (rows.getD k []).length = (bk (tabOf ts) k).length + 1 := by
  constructor
  · intro h
    refine ⟨fun t ht => h.mem_iff.mpr (List.mem_map.mpr ⟨t, List.mem_range.mpr ht, rfl⟩), ?_⟩
    rw [h.length_eq, rowZ_len]
  · rintro ⟨h1, h2⟩
    refine perm_sub rowZ_nodup (fun x hx => ?_) (by rw [h2, rowZ_len])
    obtain ⟨t, ht, rfl⟩ := List.mem_map.mp hx
    exact h1 t (List.mem_range.mp ht)
/-- the tips that lack -/
theorem given_none {n : Nat} {f : Nat → Bool} {v : Nat → V} : (given n f v).length = 0 ↔ ∀ t, t < n → f t = false := by
  unfold given
  rw [List.length_map, List.length_eq_zero_iff, List.filter_eq_nil_iff]
  exact ⟨fun h t ht => by simpa using h t (List.mem_range.mpr ht), fun h t ht => by simpa using h t (List.mem_range.mp ht)⟩
section
variable {K : PySem.W.Frag} {σ : L2.St} {H : Hp} {te : TE}
theorem ev_xf {a C dd : Addr} {cls : Value} {f : Str} {fs : List (Str × V)} {v : V} (hx : Ev te σ H (.ref a)) (hc : cls = .ref C) (T : XfC K C) (hn : PySem.W.findIn K (.ref C) f = some none) (hd : H dd = some (.xd fs)) (hl : fs.lookup f = some v) :
    Ev (OwnF.tXf K a cls (some dd) f te) σ H v := fun H1 e Q q => hx H1 e _ fun H2 e2 => ⟨C, dd, fs, v, rfl, hc, T, hn, rfl, (e.trans e2) _ _ hd, hl, q H2 e2⟩
theorem ev_isE {a D : Addr} {cls : Value} {d : Option Addr} {c : V} {cvv : Value} {b : Bool} {tc : TE} (hx : Ev te σ H (.ref a)) (hc : Ev tc σ H c) (hcls : cls = .ref D) (E : ExcC K D) (hd : OwnF.DictAt H d) (hv : ∀ u, RelV c u → u = cvv) (k : PySem.W.kitOne K (.ref D) cvv = some b) :
    Ev (tCB (OwnF.rIsE K a cls d) (tCons te (tCons tc tNil))) σ H (.bl b) := fun H1 e Q q => hx H1 e _ fun H2 e2 => hc H2 (e.trans e2) _ fun H3 e3 => ⟨D, c, cvv, b, rfl, hcls, E, by
    rcases hd with h | ⟨dd, fs, h1, h2⟩
    · exact .inl h
    · exact .inr ⟨dd, fs, h1, ((e.trans e2).trans e3) _ _ h2⟩, hv, k, q H3 (e2.trans e3)⟩
theorem relV_ref {a : Addr} (u : Value) (h : RelV (.ref a) u) : u = .ref a := h
theorem relV_ty {s : String} (u : Value) (h : RelV (.ty s) u) : u = .type s := h
/-- C(e, ..).f, C(k = e, ..).f -/
theorem ev_mkV {C : Addr} {fs : List Str} {ok : List V → Prop} {ta : TA} {xs : List V} {f : Str} {v : V} (T : XfC K C) (hn : PySem.W.findIn K (.ref C) f = some none) (ha : EvA ta σ H xs) (hl : xs.length = fs.length) (hz : fs.length ≤ 1000) (hok : ok xs) (hf : (fs.zip xs).reverse.lookup f = some v) :
    Ev (OwnF.tXv K f (OwnF.tMkV C (OwnF.spErr C fs ok) [] ta)) σ H v := fun H1 e Q q => ha H1 e _ fun H2 e2 => ⟨by omega, fun a na => ⟨a, xs, by rw [List.append_nil], hl, hok, upd_same, fun d H3 ne nd k h1 h2 => ⟨rfl, a, C, d, _, v, rfl, T, hn, h1, h2, hf, q H3 (e2.trans fun b o hb => k b o (fun z => by rw [z, na] at hb; cases hb) (by rw [upd_ne fun z => by rw [z, na] at hb; cases hb]; exact hb))⟩⟩⟩
theorem ev_mkVK0 {C : Addr} {fs : List Str} {ok : List V → Prop} {tk : TA} {xs : List V} {f : Str} {v : V} {m : Nat} {gV : List V → List V → List V} (T : XfC K C) (hn : PySem.W.findIn K (.ref C) f = some none) (ha : EvA tk σ H xs) (hm : xs.length = m) (hg : ∀ a, gV [.ref a] xs = .ref a :: xs) (hl : xs.length = fs.length) (hz : fs.length ≤ 1000) (hok : ok xs) (hf : (fs.zip xs).reverse.lookup f = some v) :
    Ev (OwnF.tXv K f (OwnF.tMkVK C 0 m (OwnF.spErr C fs ok) gV tNil tk)) σ H v := fun H1 e Q q => ha H1 e _ fun H2 e2 => ⟨rfl, hm, Nat.zero_le _, fun a na => by
    rw [hg a]
    exact ⟨a, xs, rfl, hl, hok, upd_same, fun d H3 ne nd k h1 h2 => ⟨rfl, a, C, d, _, v, rfl, T, hn, h1, h2, hf, q H3 (e2.trans fun b o hb => k b o (fun z => by rw [z, na] at hb; cases hb) (by rw [upd_ne fun z => by rw [z, na] at hb; cases hb]; exact hb))⟩⟩⟩
/-- [[..], [..]][int(b)] -/
theorem el_pick2 {t0 t1 ti : TE} {xs0 xs1 : List V} {b : Bool} (h0 : EvL t0 σ H xs0) (h1 : EvL t1 σ H xs1) (hi : Ev ti σ H (.int (if b then 1 else 0))) : EvL (tOp (rIxL K) (tLst (tCons t0 (tCons t1 tNil))) ti) σ H (if b then xs1 else xs0) := fun H1 e Q q =>
  h0 H1 e _ fun a H2 ha e2 g2 => h1 H2 (e.trans e2) _ fun c H3 hc e3 g3 => ⟨(by show 2 ≤ sizeLine; decide), fun p hp => hi _ (((e.trans e2).trans e3).trans (Ex.new hp)) _ fun H4 e4 => by
    have gp : H4 p = some (.lst [.ref a, .ref c]) := e4 _ _ upd_same
    have e14 := ((e2.trans e3).trans (Ex.new hp)).trans e4
    cases b with
    | true => exact ⟨p, _, 1, .ref c, rfl, rfl, sq_of gp, atI_nat (j := 1) rfl, q c H4 (fresh_back e2 hc) e14 (((Ex.new hp).trans e4) _ _ g3)⟩
    | false => exact ⟨p, _, 0, .ref a, rfl, rfl, sq_of gp, atI_nat (j := 0) rfl, q a H4 ha e14 (((e3.trans (Ex.new hp)).trans e4) _ _ g2)⟩⟩
theorem ev_intB {b : Bool} (h : Ev te σ H (.bl b)) : Ev (tCB (fun xs H Q => (∃ i, xs = [V.int i] ∧ Q (V.int i) H) ∨ ∃ k, xs = [V.bl k] ∧ Q (V.int (if k = true then 1 else 0)) H) (tCons te tNil)) σ H (.int (if b then 1 else 0)) := ev_cb (ea_cons h ea_nil) fun H2 e2 Q2 q2 => .inr ⟨_, rfl, q2 H2 (Ex.refl H2)⟩
end
section
variable {K : PySem.W.Frag} {σ : L2.St} {H : Hp} {ta tb : TE}
def zlsD (l : List Int) : PyData := .list (l.map PyData.int)
theorem zlsD_ok (l : List Int) : okD1 1 (zlsD l) := okD1.lst fun d hd => by
  obtain ⟨n, _, rfl⟩ := List.mem_map.mp hd
  exact .int
theorem dp_lstZ {p : Addr} {l : List Int} (h : SqL K H p (zvs l)) : Dp K H (.ref p) (zlsD l) := .lst h (dp_allZ l)
theorem eqv_zls (a b : List Int) : PyData.eqv (zlsD a) (zlsD b) = decide (a = b) := by
  unfold zlsD
  simp only [PyData.eqv, eqv_zows]
theorem ev_eqLZ {x y : List Int} (ha : EvH ta σ H (LsV K (zvs x))) (hb : EvL tb σ H (zvs y)) : Ev (tOp (rEqD K) ta tb) σ H (.bl (decide (x = y))) := fun H1 e Q q =>
  ha H1 e _ fun v H2 e2 ⟨p, ev, hp⟩ => hb H2 (e.trans e2) _ fun p' H3 np e3 h3 => by
    subst ev
    refine ⟨_, _, dp_lstZ (ex_l e3 hp), dp_lstZ (sq_of h3), (zlsD_ok x).shaped (by decide), (zlsD_ok y).shaped (by decide), ?_⟩
    rw [eqv_zls]
    exact q H3 (e2.trans e3)
theorem ev_neLZ {x y : List Int} (ha : EvH ta σ H (LsV K (zvs x))) (hb : EvH tb σ H (LsV K (zvs y))) (st : ∀ {p H H'}, Ex H H' → SqL K H p (zvs x) → SqL K H' p (zvs x) := fun e h => ex_l e h) : Ev (tOp (rNeD K) ta tb) σ H (.bl (!decide (x = y))) := fun H1 e Q q =>
  ha H1 e _ fun v H2 e2 ⟨p, ev, hp⟩ => hb H2 (e.trans e2) _ fun v' H3 e3 ⟨p', ev', hp'⟩ => by
    subst ev ev'
    refine ⟨_, _, dp_lstZ (st e3 hp), dp_lstZ hp', (zlsD_ok x).shaped (by decide), (zlsD_ok y).shaped (by decide), ?_⟩
    rw [eqv_zls]
    exact q H3 (e2.trans e3)
theorem ev_eqLZ' {x y : List Int} (ha : EvH ta σ H (LsV K (zvs x))) (hb : EvH tb σ H (LsV K (zvs y))) (st : ∀ {p H H'}, Ex H H' → SqL K H p (zvs x) → SqL K H' p (zvs x) := fun e h => ex_l e h) : Ev (tOp (rEqD K) ta tb) σ H (.bl (decide (x = y))) := fun H1 e Q q =>
  ha H1 e _ fun v H2 e2 ⟨p, ev, hp⟩ => hb H2 (e.trans e2) _ fun v' H3 e3 ⟨p', ev', hp'⟩ => by
    subst ev ev'
    refine ⟨_, _, dp_lstZ (st e3 hp), dp_lstZ hp', (zlsD_ok x).shaped (by decide), (zlsD_ok y).shaped (by decide), ?_⟩
    rw [eqv_zls]
    exact q H3 (e2.trans e3)
end
section
variable {K : PySem.W.Frag} {σ : L2.St} {H : Hp} {ta : TA} {D : Ends} {tz : TS} {Wout : WX} {l : List OwnF.Hd} {sp : Sp} {vs : List V} {i : Nat}
theorem q_tryCall (h : EvA ta σ H vs) (k : ∀ H1, Ex H H1 → sp vs H1 (fun v H2 => tz D (σ.set i (some v)) H2) (fun cls d H2 => OwnF.wAll K Wout { D with nx := tz D } l cls d σ H2)) : tSeq (OwnF.tTry K Wout l fun W => tAsg (tCallS sp (WE W) ta) (gName i)) tz D σ H := h H (Ex.refl H) _ k
theorem q_tryDrop (h : EvA ta σ H vs) (k : ∀ H1, Ex H H1 → sp vs H1 (fun _ H2 => tz D σ H2) (fun cls d H2 => OwnF.wAll K Wout { D with nx := tz D } l cls d σ H2)) : tSeq (OwnF.tTry K Wout l fun W => tDrop (tCallS sp (WE W) ta)) tz D σ H := h H (Ex.refl H) _ k
end
end OwnG

namespace K23
open PySem L2 Evl Own OwnG GM
local macro_rules | `(tactic| walk_at "ev") => `(tactic| first
  | exact ev_c
  | with_reducible exact ea_nil
  | ((with_reducible refine' ev_op ?_ ?_ ?_) <;> walk_at "ev")
  | ((with_reducible refine' ea_cons ?_ ?_) <;> walk_at "ev")
  | ((with_reducible refine' ev_un ?_ ?_) <;> walk_at "ev")
  | ((with_reducible refine' et_test ?_); walk_at "ev")
  | ((with_reducible refine' et_B ?_); walk_at "ev")
  | ((with_reducible refine' et_not ?_); walk_at "ev")
  | ((with_reducible refine' ev_slS ?_ ?_ ?_ ?_) <;> walk_at "ev")
  | with_reducible exact eo_none
  | ((with_reducible refine' eo_some ?_) <;> walk_at "ev")
  | exact ev_var rfl
  | exact rv_I0
  | exact rc_int1
  | exact rv_eqI
  | exact rv_neI
  | exact rc_min2
  | exact rc_max2
  | exact rv_niS
  | exact rv_inS
  | exact rv_isB
  | exact rc_lenS (by first | assumption | exact sz_of (by omega))
  | (apply rc_lenL; assumption)
  | (apply rv_ixL; (focus assumption); first | assumption | exact at_map (by assumption) | exact at_ints (by omega) | exact at_intsI (by omega) (by omega) | skip)
  | ((with_reducible refine' ev_cb ?_ ?_) <;> walk_at "ev")
  | (refine' rv_I ?_; first | omega | assumption | (unfold CMul; omega) | (unfold CDiv; omega) | (unfold CPow; decide))
  | skip)
--@errors
--@pp
--@lift 33

def top (i : Nat) : Stmt := PySem.Challenge.pw_sameroom_k23_bad_graphs.main.body.getD i (.Pass ⟨0, 0, 0, 0⟩)
abbrev s_wall : Stmt := top 0
abbrev N_wall : List Str := ["k"]
theorem sc_wall : FnScope ["k"] ["k"] (defScope s_wall) := ⟨rfl, rfl, rfl, by decide +kernel, rfl, by decide +kernel, by decide +kernel⟩
abbrev s_told : Stmt := top 3
abbrev N_told : List Str := ["number"]
theorem sc_told : FnScope ["number"] ["number"] (defScope s_told) := ⟨rfl, rfl, rfl, by decide +kernel, rfl, by decide +kernel, by decide +kernel⟩
abbrev s_nodes_before : Stmt := top 17
abbrev N_nodes_before : List Str := ["nexts", "rows", "node", "onward", "_", "row"]
theorem sc_nodes_before : FnScope ["nexts", "rows", "node", "onward", "_", "row"] ["nexts"] (defScope s_nodes_before) := ⟨rfl, rfl, rfl, by decide +kernel, rfl, by decide +kernel, by decide +kernel⟩
abbrev s_Graph___init__ : Stmt := inClass (top 18) 0
abbrev N_Graph___init__ : List Str := ["self", "nexts", "rotation", "node", "onward", "row", "plain"]
theorem sc_Graph___init__ : FnScope ["self", "nexts", "rotation", "node", "onward", "row", "plain"] ["self", "nexts", "rotation"] (defScope s_Graph___init__) := ⟨rfl, rfl, rfl, by decide +kernel, rfl, by decide +kernel, by decide +kernel⟩
abbrev s_Graph_nodes_before : Stmt := inClass (top 18) 1
abbrev N_Graph_nodes_before : List Str := ["self", "node"]
theorem sc_Graph_nodes_before : FnScope ["self", "node"] ["self", "node"] (defScope s_Graph_nodes_before) := ⟨rfl, rfl, rfl, by decide +kernel, rfl, by decide +kernel, by decide +kernel⟩
abbrev s_law_whole : Stmt := top 20
abbrev N_law_whole : List Str := ["value"]
theorem sc_law_whole : FnScope ["value"] ["value"] (defScope s_law_whole) := ⟨rfl, rfl, rfl, by decide +kernel, rfl, by decide +kernel, by decide +kernel⟩
abbrev s_law_numbers : Stmt := top 21
abbrev N_law_numbers : List Str := ["value", "part"]
theorem sc_law_numbers : FnScope ["value", "part"] ["value"] (defScope s_law_numbers) := ⟨rfl, rfl, rfl, by decide +kernel, rfl, by decide +kernel, by decide +kernel⟩
abbrev s_law_cell : Stmt := top 22
abbrev N_law_cell : List Str := ["script", "k", "seed", "cell"]
theorem sc_law_cell : FnScope ["script", "k", "seed", "cell"] ["script", "k"] (defScope s_law_cell) := ⟨rfl, rfl, rfl, by decide +kernel, rfl, by decide +kernel, by decide +kernel⟩
abbrev s_law_digits : Stmt := top 23
abbrev N_law_digits : List Str := ["cell", "sizes", "row", "rest", "size", "seed", "k", "twice"]
theorem sc_law_digits : FnScope ["cell", "sizes", "row", "rest", "size", "seed", "k", "twice"] ["cell", "sizes"] (defScope s_law_digits) := ⟨rfl, rfl, rfl, by decide +kernel, rfl, by decide +kernel, by decide +kernel⟩
abbrev s_law_many : Stmt := top 24
abbrev N_law_many : List Str := ["row"]
theorem sc_law_many : FnScope ["row"] ["row"] (defScope s_law_many) := ⟨rfl, rfl, rfl, by decide +kernel, rfl, by decide +kernel, by decide +kernel⟩
abbrev s_law_next : Stmt := top 25
abbrev N_law_next : List Str := ["k", "ring", "hang", "digit"]
theorem sc_law_next : FnScope ["k", "ring", "hang", "digit"] ["k", "ring", "hang", "digit"] (defScope s_law_next) := ⟨rfl, rfl, rfl, by decide +kernel, rfl, by decide +kernel, by decide +kernel⟩
abbrev s_law_alike : Stmt := top 26
abbrev N_law_alike : List Str := ["k", "many", "kind", "hub"]
theorem sc_law_alike : FnScope ["k", "many", "kind", "hub"] ["k", "many", "kind", "hub"] (defScope s_law_alike) := ⟨rfl, rfl, rfl, by decide +kernel, rfl, by decide +kernel, by decide +kernel⟩
abbrev s_law_order : Stmt := top 27
abbrev N_law_order : List Str := ["digits", "left", "order", "digit"]
theorem sc_law_order : FnScope ["digits", "left", "order", "digit"] ["digits"] (defScope s_law_order) := ⟨rfl, rfl, rfl, by decide +kernel, rfl, by decide +kernel, by decide +kernel⟩
abbrev s_law_table : Stmt := top 28
abbrev N_law_table : List Str := ["script", "many", "row", "digits", "k", "cut", "one", "two", "table", "other", "order", "made", "digit"]
theorem sc_law_table : FnScope ["script", "many", "row", "digits", "k", "cut", "one", "two", "table", "other", "order", "made", "digit"] ["script", "many"] (defScope s_law_table) := ⟨rfl, rfl, rfl, by decide +kernel, rfl, by decide +kernel, by decide +kernel⟩
abbrev s_law_back : Stmt := top 29
abbrev N_law_back : List Str := ["table", "back", "k", "other"]
theorem sc_law_back : FnScope ["table", "back", "k", "other"] ["table"] (defScope s_law_back) := ⟨rfl, rfl, rfl, by decide +kernel, rfl, by decide +kernel, by decide +kernel⟩
abbrev s_law_rows : Stmt := top 30
abbrev N_law_rows : List Str := ["back", "way", "cell", "near", "k", "sizes", "digits", "rows", "done"]
theorem sc_law_rows : FnScope ["back", "way", "cell", "near", "k", "sizes", "digits", "rows", "done"] ["back", "way", "cell"] (defScope s_law_rows) := ⟨rfl, rfl, rfl, by decide +kernel, rfl, by decide +kernel, by decide +kernel⟩
abbrev s_law_graph : Stmt := top 31
abbrev N_law_graph : List Str := ["table", "rows", "way"]
theorem sc_law_graph : FnScope ["table", "rows", "way"] ["table", "rows", "way"] (defScope s_law_graph) := ⟨rfl, rfl, rfl, by decide +kernel, rfl, by decide +kernel, by decide +kernel⟩
abbrev s_law_fields : Stmt := top 32
abbrev N_law_fields : List Str := ["graph", "table", "rows", "k"]
theorem sc_law_fields : FnScope ["graph", "table", "rows", "k"] ["graph", "table", "rows"] (defScope s_law_fields) := ⟨rfl, rfl, rfl, by decide +kernel, rfl, by decide +kernel, by decide +kernel⟩
abbrev s_law_harmed_next : Stmt := top 33
abbrev N_law_harmed_next : List Str := ["kind", "many", "spot", "raw"]
theorem sc_law_harmed_next : FnScope ["kind", "many", "spot", "raw"] ["kind", "many", "spot", "raw"] (defScope s_law_harmed_next) := ⟨rfl, rfl, rfl, by decide +kernel, rfl, by decide +kernel, by decide +kernel⟩
abbrev s_law_harmed_row : Stmt := top 34
abbrev N_law_harmed_row : List Str := ["kind", "row", "other", "k", "raw", "wrong", "tip"]
theorem sc_law_harmed_row : FnScope ["kind", "row", "other", "k", "raw", "wrong", "tip"] ["kind", "row", "other", "k", "raw"] (defScope s_law_harmed_row) := ⟨rfl, rfl, rfl, by decide +kernel, rfl, by decide +kernel, by decide +kernel⟩
abbrev s_law_reach : Stmt := top 35
abbrev N_law_reach : List Str := ["cell"]
theorem sc_law_reach : FnScope ["cell"] ["cell"] (defScope s_law_reach) := ⟨rfl, rfl, rfl, by decide +kernel, rfl, by decide +kernel, by decide +kernel⟩
abbrev s_law_any_nexts : Stmt := top 36
abbrev N_law_any_nexts : List Str := ["cell", "many", "wide", "low", "digit"]
theorem sc_law_any_nexts : FnScope ["cell", "many", "wide", "low", "digit"] ["cell", "many", "wide", "low"] (defScope s_law_any_nexts) := ⟨rfl, rfl, rfl, by decide +kernel, rfl, by decide +kernel, by decide +kernel⟩
abbrev s_law_any_rows : Stmt := top 37
abbrev N_law_any_rows : List Str := ["back", "cell", "more", "lengths", "sizes", "k", "place", "digits", "rows", "done", "length", "near", "digit"]
theorem sc_law_any_rows : FnScope ["back", "cell", "more", "lengths", "sizes", "k", "place", "digits", "rows", "done", "length", "near", "digit"] ["back", "cell", "more"] (defScope s_law_any_rows) := ⟨rfl, rfl, rfl, by decide +kernel, rfl, by decide +kernel, by decide +kernel⟩
abbrev s_law_due : Stmt := top 38
abbrev N_law_due : List Str := ["table", "rows", "way", "k", "back", "missing", "tip"]
theorem sc_law_due : FnScope ["table", "rows", "way", "k", "back", "missing", "tip"] ["table", "rows", "way"] (defScope s_law_due) := ⟨rfl, rfl, rfl, by decide +kernel, rfl, by decide +kernel, by decide +kernel⟩
abbrev s_law_told : Stmt := top 39
abbrev N_law_told : List Str := ["table", "rows", "way", "graph", "e", "due"]
theorem sc_law_told : FnScope ["table", "rows", "way", "graph", "e", "due"] ["table", "rows", "way"] (defScope s_law_told) := ⟨rfl, rfl, rfl, by decide +kernel, rfl, by decide +kernel, by decide +kernel⟩
abbrev s_law_class : Stmt := top 40
abbrev N_law_class : List Str := ["table", "rows", "way", "e"]
theorem sc_law_class : FnScope ["table", "rows", "way", "e"] ["table", "rows", "way"] (defScope s_law_class) := ⟨rfl, rfl, rfl, by decide +kernel, rfl, by decide +kernel, by decide +kernel⟩
abbrev s_law_fielded : Stmt := top 41
abbrev N_law_fielded : List Str := ["one", "two", "told", "number"]
theorem sc_law_fielded : FnScope ["one", "two", "told", "number"] ["one", "two"] (defScope s_law_fielded) := ⟨rfl, rfl, rfl, by decide +kernel, rfl, by decide +kernel, by decide +kernel⟩
abbrev s_law : Stmt := top 42
abbrev N_law : List Str := ["script", "many", "table", "back", "row", "way", "rows", "changed", "wide", "k", "harm", "harmed", "old", "other", "due", "told"]
theorem sc_law : FnScope ["script", "many", "table", "back", "row", "way", "rows", "changed", "wide", "k", "harm", "harmed", "old", "other", "due", "told"] ["script"] (defScope s_law) := ⟨rfl, rfl, rfl, by decide +kernel, rfl, by decide +kernel, by decide +kernel⟩
abbrev PP : Program := (PySem.Challenge.rw_sameroom_k23_bad_graphs).prog
abbrev s_BadText___init__ : Stmt := inClass (top 5) 0
abbrev N_BadText___init__ : List Str := ["self", "at", "__class__"]
theorem sc_BadText___init__ : NdefX.NScope ["self", "at", "__class__"] ["self", "at"] ["__class__"] (defScope s_BadText___init__) := NdefX.nscope_by (by decide +kernel)
abbrev s_BadLine___init__ : Stmt := inClass (top 6) 0
abbrev N_BadLine___init__ : List Str := ["self", "line", "__class__"]
theorem sc_BadLine___init__ : NdefX.NScope ["self", "line", "__class__"] ["self", "line"] ["__class__"] (defScope s_BadLine___init__) := NdefX.nscope_by (by decide +kernel)
abbrev s_BadLibrary___init__ : Stmt := inClass (top 7) 0
abbrev N_BadLibrary___init__ : List Str := ["self", "program", "rule", "__class__"]
theorem sc_BadLibrary___init__ : NdefX.NScope ["self", "program", "rule", "__class__"] ["self", "program", "rule"] ["__class__"] (defScope s_BadLibrary___init__) := NdefX.nscope_by (by decide +kernel)
abbrev s_ProcedureCycle___init__ : Stmt := inClass (top 8) 0
abbrev N_ProcedureCycle___init__ : List Str := ["self", "program", "names", "__class__"]
theorem sc_ProcedureCycle___init__ : NdefX.NScope ["self", "program", "names", "__class__"] ["self", "program", "names"] ["__class__"] (defScope s_ProcedureCycle___init__) := NdefX.nscope_by (by decide +kernel)
abbrev s_UnknownProgram___init__ : Stmt := inClass (top 9) 0
abbrev N_UnknownProgram___init__ : List Str := ["self", "name", "__class__"]
theorem sc_UnknownProgram___init__ : NdefX.NScope ["self", "name", "__class__"] ["self", "name"] ["__class__"] (defScope s_UnknownProgram___init__) := NdefX.nscope_by (by decide +kernel)
abbrev s_BadCode___init__ : Stmt := inClass (top 10) 0
abbrev N_BadCode___init__ : List Str := ["self", "line", "__class__"]
theorem sc_BadCode___init__ : NdefX.NScope ["self", "line", "__class__"] ["self", "line"] ["__class__"] (defScope s_BadCode___init__) := NdefX.nscope_by (by decide +kernel)
abbrev s_BadGraph___init__ : Stmt := inClass (top 11) 0
abbrev N_BadGraph___init__ : List Str := ["self", "node", "__class__"]
theorem sc_BadGraph___init__ : NdefX.NScope ["self", "node", "__class__"] ["self", "node"] ["__class__"] (defScope s_BadGraph___init__) := NdefX.nscope_by (by decide +kernel)
abbrev s_BadRotation___init__ : Stmt := inClass (top 12) 0
abbrev N_BadRotation___init__ : List Str := ["self", "at", "__class__"]
theorem sc_BadRotation___init__ : NdefX.NScope ["self", "at", "__class__"] ["self", "at"] ["__class__"] (defScope s_BadRotation___init__) := NdefX.nscope_by (by decide +kernel)
abbrev s_BadBook___init__ : Stmt := inClass (top 13) 0
abbrev N_BadBook___init__ : List Str := ["self", "rule", "__class__"]
theorem sc_BadBook___init__ : NdefX.NScope ["self", "rule", "__class__"] ["self", "rule"] ["__class__"] (defScope s_BadBook___init__) := NdefX.nscope_by (by decide +kernel)
abbrev s_TooLarge___init__ : Stmt := inClass (top 14) 0
abbrev N_TooLarge___init__ : List Str := ["self", "size", "__class__"]
theorem sc_TooLarge___init__ : NdefX.NScope ["self", "size", "__class__"] ["self", "size"] ["__class__"] (defScope s_TooLarge___init__) := NdefX.nscope_by (by decide +kernel)
abbrev s_BadSnapshot___init__ : Stmt := inClass (top 15) 0
abbrev N_BadSnapshot___init__ : List Str := ["self", "at", "__class__"]
theorem sc_BadSnapshot___init__ : NdefX.NScope ["self", "at", "__class__"] ["self", "at"] ["__class__"] (defScope s_BadSnapshot___init__) := NdefX.nscope_by (by decide +kernel)
structure DefOk (K : PySem.W.Frag) (mg : Str → Option Value) (x : Str) (st : Stmt) (ps : List Str) (f : Addr) (fd : FuncData) : Prop where
  F : Fun K x x st f fd
  g : mg x = some (.ref f)
  k : PySem.W.keepIn K (.ref f) = true
  b : Binds K fd ps []
/-- a dict of the module's top with text keys -/
structure DctOk (K : PySem.W.Frag) (w : World) (a : Addr) (d : List (Str × V)) : Prop where
  at_ : ∃ es n, KDict K w a es n
  get : ∀ z v, d.lookup z = some v → ∃ u, PySem.W.nsIn K a z = some (some u) ∧ RelV v u
structure MethOk (K : PySem.W.Frag) (x qual : Str) (st : Stmt) (ps : List Str) (f : Addr) (fd : FuncData) : Prop where
  F : Fun K x qual st f fd
  b : Binds K fd ps []
structure MethD (K : PySem.W.Frag) (x qual : Str) (st : Stmt) (ps : List Str) (dvs : List V) (f : Addr) (fd : FuncData) : Prop where
  F : FunD K x qual (defArgs st) (defBody st) (defScope st) dvs [] f fd
  b : Binds K fd ps []
  b1 : ∃ ds, Vals dvs ds ∧ Binds K fd ps ds
structure Txt (w : World) (K : PySem.W.Frag) (mg : Str → Option Value) (fa : Nat → Addr) (fd : Nat → FuncData) (cv : Nat → Value) : Prop where
  b_ValueError : mg "ValueError" = none
  b_all : mg "all" = none
  b_bool : mg "bool" = none
  b_enumerate : mg "enumerate" = none
  b_int : mg "int" = none
  b_isinstance : mg "isinstance" = none
  b_len : mg "len" = none
  b_list : mg "list" = none
  b_max : mg "max" = none
  b_min : mg "min" = none
  b_range : mg "range" = none
  b_sorted : mg "sorted" = none
  b_tuple : mg "tuple" = none
  c_VERY_LARGE : mg "VERY_LARGE" = some (cv 0)
  r_VERY_LARGE : RelV (.int (1000000000000000000)) (cv 0)
  d_wall : DefOk K mg "_wall" s_wall ["k"] (fa 0) (fd 0)
  d_told : DefOk K mg "_told" s_told ["number"] (fa 1) (fd 1)
  d_nodes_before : DefOk K mg "_nodes_before" s_nodes_before ["nexts"] (fa 2) (fd 2)
  d_law_whole : DefOk K mg "_law_whole" s_law_whole ["value"] (fa 5) (fd 5)
  d_law_numbers : DefOk K mg "_law_numbers" s_law_numbers ["value"] (fa 6) (fd 6)
  d_law_cell : DefOk K mg "_law_cell" s_law_cell ["script", "k"] (fa 7) (fd 7)
  d_law_digits : DefOk K mg "_law_digits" s_law_digits ["cell", "sizes"] (fa 8) (fd 8)
  d_law_many : DefOk K mg "_law_many" s_law_many ["row"] (fa 9) (fd 9)
  d_law_next : DefOk K mg "_law_next" s_law_next ["k", "ring", "hang", "digit"] (fa 10) (fd 10)
  d_law_alike : DefOk K mg "_law_alike" s_law_alike ["k", "many", "kind", "hub"] (fa 11) (fd 11)
  d_law_order : DefOk K mg "_law_order" s_law_order ["digits"] (fa 12) (fd 12)
  d_law_table : DefOk K mg "_law_table" s_law_table ["script", "many"] (fa 13) (fd 13)
  d_law_back : DefOk K mg "_law_back" s_law_back ["table"] (fa 14) (fd 14)
  d_law_rows : DefOk K mg "_law_rows" s_law_rows ["back", "way", "cell"] (fa 15) (fd 15)
  d_law_graph : DefOk K mg "_law_graph" s_law_graph ["table", "rows", "way"] (fa 16) (fd 16)
  d_law_fields : DefOk K mg "_law_fields" s_law_fields ["graph", "table", "rows"] (fa 17) (fd 17)
  d_law_harmed_next : DefOk K mg "_law_harmed_next" s_law_harmed_next ["kind", "many", "spot", "raw"] (fa 18) (fd 18)
  d_law_harmed_row : DefOk K mg "_law_harmed_row" s_law_harmed_row ["kind", "row", "other", "k", "raw"] (fa 19) (fd 19)
  d_law_reach : DefOk K mg "_law_reach" s_law_reach ["cell"] (fa 20) (fd 20)
  d_law_any_nexts : DefOk K mg "_law_any_nexts" s_law_any_nexts ["cell", "many", "wide", "low"] (fa 21) (fd 21)
  d_law_any_rows : DefOk K mg "_law_any_rows" s_law_any_rows ["back", "cell", "more"] (fa 22) (fd 22)
  d_law_due : DefOk K mg "_law_due" s_law_due ["table", "rows", "way"] (fa 23) (fd 23)
  d_law_told : DefOk K mg "_law_told" s_law_told ["table", "rows", "way"] (fa 24) (fd 24)
  d_law_class : DefOk K mg "_law_class" s_law_class ["table", "rows", "way"] (fa 25) (fd 25)
  d_law_fielded : DefOk K mg "_law_fielded" s_law_fielded ["one", "two"] (fa 26) (fd 26)
  d_law : DefOk K mg "law" s_law ["script"] (fa 27) (fd 27)
  cl_Graph : Cls K (fa 200)
  g_Graph : mg "Graph" = some (.ref (fa 200))
  mk_Graph : Mk K (fa 200) (fa 3)
  n_Graph__before : NoAttr K (fa 200) "_before"
  n_Graph_nexts : NoAttr K (fa 200) "nexts"
  n_Graph_rotation : NoAttr K (fa 200) "rotation"
  d_Graph___init__ : MethD K "__init__" "Graph.__init__" s_Graph___init__ ["self", "nexts", "rotation"] [.non] (fa 3) (fd 3)
  m_Graph___init__ : Meth K (fa 200) "__init__" (fa 3)
  d_Graph_nodes_before : MethOk K "nodes_before" "Graph.nodes_before" s_Graph_nodes_before ["self", "node"] (fa 4) (fd 4)
  m_Graph_nodes_before : Meth K (fa 200) "nodes_before" (fa 4)
  sk : OwnHd.SkK K
  b_super : mg "super" = none
  x_RoomError : OwnHd.ErrC K (fa 300)
  gx_RoomError : mg "RoomError" = some (.ref (fa 300))
  x_BadText : OwnHd.ErrC K (fa 301)
  gx_BadText : mg "BadText" = some (.ref (fa 301))
  nx_BadText_at : PySem.W.findIn K (.ref (fa 301)) "at" = some none
  ix_BadText : OwnHd.ErrI PP K (fa 301) (fa 401) "BadText.__init__" (defArgs s_BadText___init__) (defBody s_BadText___init__) (defScope s_BadText___init__) (fd 401)
  bx_BadText : Binds K (fd 401) ["self", "at"] []
  x_BadLine : OwnHd.ErrC K (fa 302)
  gx_BadLine : mg "BadLine" = some (.ref (fa 302))
  nx_BadLine_line : PySem.W.findIn K (.ref (fa 302)) "line" = some none
  ix_BadLine : OwnHd.ErrI PP K (fa 302) (fa 402) "BadLine.__init__" (defArgs s_BadLine___init__) (defBody s_BadLine___init__) (defScope s_BadLine___init__) (fd 402)
  bx_BadLine : Binds K (fd 402) ["self", "line"] []
  x_BadLibrary : OwnHd.ErrC K (fa 303)
  gx_BadLibrary : mg "BadLibrary" = some (.ref (fa 303))
  nx_BadLibrary_program : PySem.W.findIn K (.ref (fa 303)) "program" = some none
  nx_BadLibrary_rule : PySem.W.findIn K (.ref (fa 303)) "rule" = some none
  ix_BadLibrary : OwnHd.ErrI PP K (fa 303) (fa 403) "BadLibrary.__init__" (defArgs s_BadLibrary___init__) (defBody s_BadLibrary___init__) (defScope s_BadLibrary___init__) (fd 403)
  bx_BadLibrary : Binds K (fd 403) ["self", "program", "rule"] []
  x_ProcedureCycle : OwnHd.ErrC K (fa 304)
  gx_ProcedureCycle : mg "ProcedureCycle" = some (.ref (fa 304))
  nx_ProcedureCycle_names : PySem.W.findIn K (.ref (fa 304)) "names" = some none
  nx_ProcedureCycle_program : PySem.W.findIn K (.ref (fa 304)) "program" = some none
  ix_ProcedureCycle : OwnHd.ErrI PP K (fa 304) (fa 404) "ProcedureCycle.__init__" (defArgs s_ProcedureCycle___init__) (defBody s_ProcedureCycle___init__) (defScope s_ProcedureCycle___init__) (fd 404)
  bx_ProcedureCycle : Binds K (fd 404) ["self", "program", "names"] []
  x_UnknownProgram : OwnHd.ErrC K (fa 305)
  gx_UnknownProgram : mg "UnknownProgram" = some (.ref (fa 305))
  nx_UnknownProgram_name : PySem.W.findIn K (.ref (fa 305)) "name" = some none
  ix_UnknownProgram : OwnHd.ErrI PP K (fa 305) (fa 405) "UnknownProgram.__init__" (defArgs s_UnknownProgram___init__) (defBody s_UnknownProgram___init__) (defScope s_UnknownProgram___init__) (fd 405)
  bx_UnknownProgram : Binds K (fd 405) ["self", "name"] []
  x_BadCode : OwnHd.ErrC K (fa 306)
  gx_BadCode : mg "BadCode" = some (.ref (fa 306))
  nx_BadCode_line : PySem.W.findIn K (.ref (fa 306)) "line" = some none
  ix_BadCode : OwnHd.ErrI PP K (fa 306) (fa 406) "BadCode.__init__" (defArgs s_BadCode___init__) (defBody s_BadCode___init__) (defScope s_BadCode___init__) (fd 406)
  bx_BadCode : Binds K (fd 406) ["self", "line"] []
  x_BadGraph : OwnHd.ErrC K (fa 307)
  gx_BadGraph : mg "BadGraph" = some (.ref (fa 307))
  nx_BadGraph_node : PySem.W.findIn K (.ref (fa 307)) "node" = some none
  ix_BadGraph : OwnHd.ErrI PP K (fa 307) (fa 407) "BadGraph.__init__" (defArgs s_BadGraph___init__) (defBody s_BadGraph___init__) (defScope s_BadGraph___init__) (fd 407)
  bx_BadGraph : Binds K (fd 407) ["self", "node"] []
  x_BadRotation : OwnHd.ErrC K (fa 308)
  gx_BadRotation : mg "BadRotation" = some (.ref (fa 308))
  nx_BadRotation_at : PySem.W.findIn K (.ref (fa 308)) "at" = some none
  ix_BadRotation : OwnHd.ErrI PP K (fa 308) (fa 408) "BadRotation.__init__" (defArgs s_BadRotation___init__) (defBody s_BadRotation___init__) (defScope s_BadRotation___init__) (fd 408)
  bx_BadRotation : Binds K (fd 408) ["self", "at"] []
  x_BadBook : OwnHd.ErrC K (fa 309)
  gx_BadBook : mg "BadBook" = some (.ref (fa 309))
  nx_BadBook_rule : PySem.W.findIn K (.ref (fa 309)) "rule" = some none
  ix_BadBook : OwnHd.ErrI PP K (fa 309) (fa 409) "BadBook.__init__" (defArgs s_BadBook___init__) (defBody s_BadBook___init__) (defScope s_BadBook___init__) (fd 409)
  bx_BadBook : Binds K (fd 409) ["self", "rule"] []
  x_TooLarge : OwnHd.ErrC K (fa 310)
  gx_TooLarge : mg "TooLarge" = some (.ref (fa 310))
  nx_TooLarge_size : PySem.W.findIn K (.ref (fa 310)) "size" = some none
  ix_TooLarge : OwnHd.ErrI PP K (fa 310) (fa 410) "TooLarge.__init__" (defArgs s_TooLarge___init__) (defBody s_TooLarge___init__) (defScope s_TooLarge___init__) (fd 410)
  bx_TooLarge : Binds K (fd 410) ["self", "size"] []
  x_BadSnapshot : OwnHd.ErrC K (fa 311)
  gx_BadSnapshot : mg "BadSnapshot" = some (.ref (fa 311))
  nx_BadSnapshot_at : PySem.W.findIn K (.ref (fa 311)) "at" = some none
  ix_BadSnapshot : OwnHd.ErrI PP K (fa 311) (fa 411) "BadSnapshot.__init__" (defArgs s_BadSnapshot___init__) (defBody s_BadSnapshot___init__) (defScope s_BadSnapshot___init__) (fd 411)
  bx_BadSnapshot : Binds K (fd 411) ["self", "at"] []
  kx : OwnHd.Knd K ["RoomError", "BadText", "BadLine", "BadLibrary", "ProcedureCycle", "UnknownProgram", "BadCode", "BadGraph", "BadRotation", "BadBook", "TooLarge", "BadSnapshot"] "RoomError" fa
/-! the errors of the text -/
section
variable {w : World} {K : PySem.W.Frag} {mg : Str → Option Value} {base : Heap} {fa : Nat → Addr} {fd : Nat → FuncData} {cv : Nat → Value}
theorem ok_told (T : Txt w K mg fa fd cv) : FnOk PP w K mg base CX0 34 (fa 1) (fd 1) ["number"] spTold := by
  refine T.d_told.F.ok sc_told (fun vs H Q E h => ?_) (fun cdv A outer s H vs Q E hr h => ?_)
  · obtain ⟨i, rfl, _⟩ := h
    rfl
  · obtain ⟨i, rfl, q⟩ := h
    refine ⟨_, pss_cons (ps_if (PW.pt (pw_and (pt_val (pe_callB call_isi (by rfl) T.b_isinstance (by decide +kernel) (pa_cons (pv 0) (pa_cons (pe_bltn (v := .ty "int") (by rfl) T.b_int (by decide +kernel) rfl) pa_nil)))) (pw_and1 (pt_not (pt_chain op_lt op_lt (pe_un un_neg (pe_glob rfl T.c_VERY_LARGE T.r_VERY_LARGE)) (pv 0) (pe_glob rfl T.c_VERY_LARGE T.r_VERY_LARGE)))))) (pss_one (ps_ret pe_str)) (pss_nil))
      (pss_one (ps_ret (pe_joined1 (pe_fmt (pv 0))))), ?_⟩
    refine q_when (b := !(decide (-1000000000000000000 < i) && decide (i < 1000000000000000000))) (et_is (et_andT (et_B (ev_isInt (ev_var rfl))) (et_not (et_test (ev_chain (x := .int (-1000000000000000000)) (y := .int i) (z := .int 1000000000000000000) (ev_neg ev_c) (ev_var rfl) rv_I0 (fun _ => ev_c) fun _ => rv_I0)))) rfl) (fun hb H1 e1 => s_ret ev_c fun H2 e2 => q _ H2 (by decide) (e1.trans e2)) fun hb H1 e1 => ?_
    rw [Bool.not_eq_false', Bool.and_eq_true, decide_eq_true_eq, decide_eq_true_eq] at hb
    exact evS_fmtI (ev_var rfl) (log2_small hb.1 hb.2) H1 (Ex.refl H1) _ fun v H2 ⟨y, ev, hy⟩ e2 => by
      subst ev
      exact q y H2 hy (e1.trans e2)
theorem ok_err_BadGraph (T : Txt w K mg fa fd cv) : FnOk PP w K mg base CX0 35 (fa 407) (fd 407) ["self", "node"] (OwnF.spErr (fa 307) ["node"] (fun xs => ∃ i : Int, xs = [.int i])) := by
  have G_told := ok_told (w := w) (base := base) T
  obtain ⟨cc, cda, oc, kV, doc, pm, ct, an, od, osl, efd, lk, hcd, FC⟩ := T.ix_BadGraph.ex
  rw [efd]
  refine OwnE.fnE_of lk hcd sc_BadGraph___init__ FC rfl rfl rfl (by decide +kernel) rfl T.b_super (by decide +kernel) ⟨_, fun _ => rfl⟩ (fun _ => rfl) (fun vs H Q E h => ?_) (fun A outer s H vs Q E hr h => ?_)
  · obtain ⟨a, xs, rfl, hl, _⟩ := h
    exact congrArg (· + 1) hl
  · obtain ⟨a, xs, rfl, _, ⟨i, rfl⟩, ha, q⟩ := h
    refine ⟨_, _, a, (pa_cons (pe_joined (PJ.cons pe_str (PJ.cons (pe_fmt (pe_call G_told (by first | exact hr.mono (by decide) | exact hr.mono (by omega)) (by rfl) T.d_told.g T.d_told.k T.d_told.b .nil pass0 (pa_cons (pv 1) pa_nil))) (PJ.cons pe_str PJ.nil)))) pa_nil), (pss_cons (ps_ost (pv 0) ((pv 1))) pss_nil), ?_⟩
    refine ⟨rfl, ha, ea_msg (n := 2000) (by
      simp only [List.forall_mem_cons, List.not_mem_nil, false_imp_iff, implies_true, and_true]
      exact ⟨fun H1 e1 => evS_str (by decide), fun H1 e1 => evS_fmt (evS_told (ev_var rfl)) (by decide), fun H1 e1 => evS_str (by decide)⟩) (by decide) fun us H1 hu e1 => ⟨hu, e1 _ _ ha, ?_⟩⟩
    exact q_ost1 T.x_BadGraph.oex T.nx_BadGraph_node rfl rfl (e1 _ _ ha) fun d H2 ne nd k h1 h2 => q d H2 ne (by
      cases z : H d with
      | none => rfl
      | some o => rw [e1 d o z] at nd; cases nd) (fun b o hb z => k b o hb (e1 b o z)) h1 h2
theorem ok_err_BadRotation (T : Txt w K mg fa fd cv) : FnOk PP w K mg base CX0 35 (fa 408) (fd 408) ["self", "at"] (OwnF.spErr (fa 308) ["at"] (fun xs => ∃ i : Int, xs = [.int i])) := by
  have G_told := ok_told (w := w) (base := base) T
  obtain ⟨cc, cda, oc, kV, doc, pm, ct, an, od, osl, efd, lk, hcd, FC⟩ := T.ix_BadRotation.ex
  rw [efd]
  refine OwnE.fnE_of lk hcd sc_BadRotation___init__ FC rfl rfl rfl (by decide +kernel) rfl T.b_super (by decide +kernel) ⟨_, fun _ => rfl⟩ (fun _ => rfl) (fun vs H Q E h => ?_) (fun A outer s H vs Q E hr h => ?_)
  · obtain ⟨a, xs, rfl, hl, _⟩ := h
    exact congrArg (· + 1) hl
  · obtain ⟨a, xs, rfl, _, ⟨i, rfl⟩, ha, q⟩ := h
    refine ⟨_, _, a, (pa_cons (pe_joined (PJ.cons pe_str (PJ.cons (pe_fmt (pe_call G_told (by first | exact hr.mono (by decide) | exact hr.mono (by omega)) (by rfl) T.d_told.g T.d_told.k T.d_told.b .nil pass0 (pa_cons (pv 1) pa_nil))) (PJ.cons pe_str PJ.nil)))) pa_nil), (pss_cons (ps_ost (pv 0) ((pv 1))) pss_nil), ?_⟩
    refine ⟨rfl, ha, ea_msg (n := 2000) (by
      simp only [List.forall_mem_cons, List.not_mem_nil, false_imp_iff, implies_true, and_true]
      exact ⟨fun H1 e1 => evS_str (by decide), fun H1 e1 => evS_fmt (evS_told (ev_var rfl)) (by decide), fun H1 e1 => evS_str (by decide)⟩) (by decide) fun us H1 hu e1 => ⟨hu, e1 _ _ ha, ?_⟩⟩
    exact q_ost1 T.x_BadRotation.oex T.nx_BadRotation_at rfl rfl (e1 _ _ ha) fun d H2 ne nd k h1 h2 => q d H2 ne (by
      cases z : H d with
      | none => rfl
      | some o => rw [e1 d o z] at nd; cases nd) (fun b o hb z => k b o hb (e1 b o z)) h1 h2
end

/-! the rows of predecessors -/
def spNB (K : PySem.W.Frag) : Sp := fun vs H Q _ => ∃ (nx : Addr) (ts : Tab), vs = [.ref nx] ∧ SqT K H nx (ts.map nV) ∧ TabOk ts ∧ ts.length ≤ 1600 ∧ ∀ p H2, Ex H H2 → TTf K H2 p ts.length (bk ts) → Q (.ref p) H2
section
variable {w : World} {K : PySem.W.Frag} {mg : Str → Option Value} {base : Heap} {fa : Nat → Addr} {fd : Nat → FuncData} {cv : Nat → Value}
theorem ok_nb (T : Txt w K mg fa fd cv) : FnOk PP w K mg base CX0 34 (fa 2) (fd 2) ["nexts"] (spNB K) := by
  refine T.d_nodes_before.F.ok sc_nodes_before (fun vs H Q E h => ?_) (fun cdv A outer s H vs Q E hr h => ?_)
  · obtain ⟨nx, ts, rfl, _⟩ := h
    rfl
  · obtain ⟨nx, ts, rfl, hx, ok, hn, q⟩ := h
    refine ⟨_, pss_cons (ps_setLc (i := 1) (own := [("_", 4)]) (g := gName 4) rfl sc_nodes_before.nd rfl rfl (sw_true rfl rfl rfl (by decide +kernel)) (pi_tup (pv 0)) (blkOk_by (own := [("_", 4)]) (N := N_nodes_before) (sc := defScope s_nodes_before) (by decide +kernel)) (fun _ _ _ _ _ => pg_name (i := 4) sc_nodes_before.nd rfl (Or.inl rfl)) (fun _ _ _ _ _ => pts_nil) (fun _ _ _ _ _ => (pe_lst pa_nil)))
      (pss_cons (ps_for (by exact PassesOwn.never) rfl (OwnG.pi_enumT (by rfl) T.b_enumerate (pa_cons (pv 0) pa_nil)) (pg_tup (by rfl) (pgs_cons (pg_name (i := 2) sc_nodes_before.nd rfl (Or.inl rfl)) (pgs_cons (pg_name (i := 3) sc_nodes_before.nd rfl (Or.inl rfl)) (pgs_nil)))) (pss_one (ps_if (pt_cmpR op_notN (pv 3) pe_non (nomark _)) (pss_one (ps_expr (pe_bm PySem.F.plainAttrs_list PySem.F.slot_list_append PySem.F.type_list_append mt_append (pe_ix ix_list (pv 1) (pv 3) (fun _ _ => rfl)) (pa_cons (pv 2) pa_nil)))) (pss_nil))))
      (pss_one (ps_ret (pe_callTy (r := OwnG.rTupF K) (by exact OwnG.call_tupF) (by rfl) T.b_tuple (by decide +kernel) (pa_cons (pe_lc (own := [("row", 5)]) (g := gName 5) rfl sc_nodes_before.nd (pi_list (pv 1)) (blkOk_by (own := [("row", 5)]) (N := N_nodes_before) (sc := defScope s_nodes_before) (by decide +kernel)) (fun _ _ _ _ _ => pg_name (i := 5) sc_nodes_before.nd rfl (Or.inl rfl)) (fun _ _ _ _ _ => pts_nil) (fun _ _ _ _ _ => (pe_callTy (r := OwnG.rTupF K) (by exact OwnG.call_tupF) (by rfl) T.b_tuple (by decide +kernel) (pa_cons (pv 5) pa_nil)))) pa_nil))))), ?_⟩
    have hl : (ts.map nV).length = ts.length := List.length_map _
    refine q_asgN (en_lcT (ev_var rfl) hx (by omega) (fun _ => rfl)) fun ps p H1 np e1 h1 l1 nd ap hq => ?_
    have F0 : Fill H H1 p ts.length (fun _ => []) ps := Fill.start e1 np h1 (by rw [l1, hl]) nd ap hq
    refine q_forE (a := nx) (xs := ts.map nV) (ev_var rfl) (ex_t e1 hx) (fun i σ' H' => ∃ y2 y3, σ' = [some (.ref nx), some (.ref p), y2, y3, none, none] ∧ Fill H H' p ts.length (fun k => pre ts k i) ps)
      (fun H2 e2 => ⟨_, _, rfl, F0.up e2⟩) (fun i σ' H' _ ⟨_, _, _, F⟩ => ex_t F.e hx) (fun i x σ' H' H2 hi ⟨y2, y3, hσ, F⟩ e2 => ?_) (fun σ' H' ⟨y2, y3, hσ, F⟩ => ?_)
    · subst hσ
      obtain ⟨o, ho, rfl⟩ : ∃ o, ts[i]? = some o ∧ x = nV o := by
        rw [List.getElem?_map] at hi
        cases e : ts[i]? with
        | none => rw [e] at hi; cases hi
        | some o => rw [e] at hi; exact ⟨o, rfl, (Option.some.inj hi).symm⟩
      refine s_when (b := !o.isNone) (et_is (et_test (ev_notN (ev_var rfl))) (by rw [nV_non])) (fun hb H3 e3 => ?_) (fun hb H3 e3 => ?_)
      · cases o with
        | none => cases hb
        | some m =>
          have hm := ok i m ho
          have F3 := (F.up e2).up e3
          have gp : ps[m]? = some (ps[m]'(by rw [F.len]; exact hm)) := List.getElem?_eq_getElem _
          refine s_app (F3.at_ m _ gp).2 (ev_op (ev_var rfl) (ev_var rfl) (rv_ixL (sq_of F3.ha) (at_map gp))) (ev_var rfl) (by rw [List.length_map]; exact Nat.lt_of_le_of_lt (pre_len ts m i) (by have := (List.getElem?_eq_some_iff.mp ho).1; omega)) fun H4 e4 => ?_
          exact ⟨_, _, rfl, (F3.up e4).push gp (pre_yes ho) fun k hk => pre_no fun z => hk (by rw [ho] at z; cases z; rfl)⟩
      · cases o with
        | some m => cases hb
        | none => exact ⟨_, _, rfl, ((F.up e2).up e3).congr fun k _ => (pre_no fun z => by rw [ho] at z; cases z).symm⟩
    · subst hσ
      have F : Fill H H' p ts.length (bk ts) ps := by rw [hl] at F; exact F
      have hpl : (ps.map V.ref).length = ps.length := List.length_map _
      have L := elH_lcL (te := tCB (rTupF K) (tCons (tVar 5) tNil)) (j := 5) (vs := [5]) (K := K) (tl := tVar 1) (σ := [some (.ref nx), some (.ref p), y2, y3, none, none]) (R := fun i => FzV (nvs (bk ts i))) (ev_var rfl) (sq_of F.ha) (by rw [hpl, F.len]; omega) (fun _ => rfl) (fun i v H H' k h => h.kt k) fun i x H1 e1 hi => by
        rw [List.getElem?_map] at hi
        cases e : ps[i]? with
        | none => rw [e] at hi; cases hi
        | some a =>
          rw [e] at hi
          cases hi
          exact evH_tupF (evH_Lv (ev_var rfl) (sq_of (e1 _ _ (F.at_ i a e).2)))
      rw [hpl, F.len] at L
      exact s_retH (evH_tupTT L) fun v H2 e2 ⟨a, ea, ha⟩ => by
        subst ea
        exact q a H2 (F.e.trans e2) ha
end

def spCell (K : PySem.W.Frag) : Sp := fun vs H Q _ => ∃ (a : Addr) (ns : List Int) (k : Int), vs = [.ref a, .int k] ∧ SqL K H a (ns.map V.int) ∧ ns.length ≤ 63 ∧ 0 ≤ k ∧ k < 1000 ∧ ∀ (i : Int) H2, Ex H H2 → Q (.int i) H2
section
variable {w : World} {K : PySem.W.Frag} {mg : Str → Option Value} {base : Heap} {fa : Nat → Addr} {fd : Nat → FuncData} {cv : Nat → Value}
theorem ok_cell (T : Txt w K mg fa fd cv) : FnOk PP w K mg base CX0 34 (fa 7) (fd 7) ["script", "k"] (spCell K) := by
  refine T.d_law_cell.F.ok sc_law_cell (fun vs H Q E h => ?_) (fun cdv A outer s H vs Q E hr h => ?_)
  · obtain ⟨a, ns, k, rfl, _⟩ := h
    rfl
  · obtain ⟨a, ns, k, rfl, hS, hn, k0, k1, q⟩ := h
    refine ⟨_, pss_cons (ps_if (pt_cmpR op_lt (pv 1) (pe_callB call_len_seq (by rfl) T.b_len PySem.boot_len (pa_cons (pv 0) pa_nil)) (nomark _)) (pss_one (ps_ret (pe_ix ix_list (pv 0) (pv 1) (fun _ _ => rfl)))) (pss_nil))
      (pss_cons (ps_set (i := 2) sc_law_cell.nd rfl (Or.inl rfl) pe_int)
      (pss_cons (ps_for (by exact PassesOwn.never) rfl (pi_list (pv 0)) (pg_name (i := 3) sc_law_cell.nd rfl (Or.inl rfl)) (pss_one (ps_set (i := 2) sc_law_cell.nd rfl (Or.inl rfl) (pe_op op_mod (pe_callTy call_int1 (by rfl) T.b_int PyProof.Rows.boot_int (pa_cons (pe_op op_add (pe_op op_mul (pv 2) pe_int) (pe_op op_mod (pe_callTy call_int1 (by rfl) T.b_int PyProof.Rows.boot_int (pa_cons (pv 3) pa_nil)) pe_int)) pa_nil)) pe_int))))
      (pss_one (ps_ret (pe_op op_mod (pe_callTy call_int1 (by rfl) T.b_int PyProof.Rows.boot_int (pa_cons (pe_op op_mul (pe_op op_mul (pe_op op_add (pv 2) pe_int) (pe_op op_add (pv 1) pe_int)) pe_int) pa_nil)) pe_int))))), ?_⟩
    have hl : (ns.map V.int).length = ns.length := List.length_map _
    refine q_when (b := decide (k < (ns.length : Int))) ?_ (fun hb H1 e1 => ?_) (fun hb H1 e1 => ?_)
    · rw [← hl]
      walk_at "ev"
    · have c : k < (ns.length : Int) := of_decide_eq_true hb
      obtain ⟨j, rfl⟩ : ∃ j : Nat, k = (j : Int) := ⟨k.toNat, by omega⟩
      have hj : j < ns.length := by omega
      refine s_ret (v := .int (ns.getD j 0)) ?_ fun H2 e2 => q _ H2 (e1.trans e2)
      have hS1 := ex_l e1 hS
      walk_at "ev"
    · refine q_asg ev_c fun H2 e2 => ?_
      refine q_forLn (a := a) (xs := ns.map V.int) (ev_var rfl) (ex_l (e1.trans e2) hS) (fun i σ' H' => ∃ (sd : Int) (y : Option V), σ' = [some (.ref a), some (.int k), some (.int sd), y] ∧ Ex H H' ∧ 0 ≤ sd ∧ sd < 1000003)
        (fun H3 e3 => ⟨17, none, rfl, (e1.trans e2).trans e3, by decide, by decide⟩) (fun i σ' H' _ ⟨_, _, _, e, _⟩ => ex_l e hS) (fun i x σ' H' hi ⟨sd, y, hσ, e, h0, h1⟩ => ?_) (fun σ' H' ⟨sd, y, hσ, e, h0, h1⟩ => ?_)
      · subst hσ
        obtain ⟨z, rfl⟩ : ∃ z, x = V.int z := by
          rw [List.getElem?_map] at hi
          cases e : ns[i]? with
          | none => rw [e] at hi; cases hi
          | some z => rw [e] at hi; exact ⟨z, (Option.some.inj hi).symm⟩
        refine s_asg (v := .int ((sd * 31 + z % 1000003) % 1000003)) ?_ fun H3 e3 => ?_
        · walk_at "ev"
        · exact ⟨_, _, rfl, e.trans e3, by omega, by omega⟩
      · subst hσ
        refine s_ret (v := .int ((sd + 7) * (k + 3) * 69621 % 2147483647)) ?_ fun H3 e3 => q _ H3 (e.trans e3)
        walk_at "ev"
def spDigits (K : PySem.W.Frag) : Sp := fun vs H Q _ => ∃ (a : Addr) (c : Int) (ss : List Int), vs = [.int c, .ref a] ∧ SqL K H a (ss.map V.int) ∧ ss.length ≤ 40000 ∧ (∀ x ∈ ss, 0 < x) ∧
  ∀ (rs : List Int) p H2, rs.length = ss.length → (∀ (i : Nat) (s : Int), ss[i]? = some s → 0 ≤ rs.getD i 0 ∧ rs.getD i 0 < s) → H p = none → Ex H H2 → H2 p = some (.lst (rs.map V.int)) → Q (.ref p) H2
/-- the digits so far -/
structure Dg (ss rs : List Int) (i : Nat) : Prop where
  len : rs.length = i
  rg : ∀ (j : Nat) (s : Int), j < i → ss[j]? = some s → 0 ≤ rs.getD j 0 ∧ rs.getD j 0 < s
theorem Dg.nil {ss : List Int} : Dg ss [] 0 := ⟨rfl, fun j s h => by omega⟩
theorem Dg.snoc {ss rs : List Int} {i : Nat} {s z : Int} (h : Dg ss rs i) (hs : ss[i]? = some s) (h0 : 0 ≤ z) (h1 : z < s) : Dg ss (rs ++ [z]) (i + 1) := by
  refine ⟨by rw [List.length_append, h.len]; rfl, fun j t hj ht => ?_⟩
  by_cases e : j = i
  · subst e
    have e2 : (rs ++ [z]).getD j 0 = z := by
      rw [List.getD_eq_getElem?_getD, List.getElem?_append_right (by rw [h.len]; exact Nat.le_refl _), h.len, Nat.sub_self]
      rfl
    rw [e2]
    have : s = t := Option.some.inj (hs.symm.trans ht)
    subst this
    exact ⟨h0, h1⟩
  · have e2 : (rs ++ [z]).getD j 0 = rs.getD j 0 := by
      rw [List.getD_eq_getElem?_getD, List.getD_eq_getElem?_getD, List.getElem?_append_left (by rw [h.len]; omega)]
    rw [e2]
    exact h.rg j t (by omega) ht
theorem ok_digits (T : Txt w K mg fa fd cv) : FnOk PP w K mg base CX0 34 (fa 8) (fd 8) ["cell", "sizes"] (spDigits K) := by
  refine T.d_law_digits.F.ok sc_law_digits (fun vs H Q E h => ?_) (fun cdv A outer s H vs Q E hr h => ?_)
  · obtain ⟨a, c, ss, rfl, _⟩ := h
    rfl
  · obtain ⟨a, c, ss, rfl, hS, hn, hpos, q⟩ := h
    refine ⟨_, pss_cons (ps_set (i := 2) sc_law_digits.nd rfl (Or.inl rfl) (pe_lst pa_nil))
      (pss_cons (ps_set (i := 3) sc_law_digits.nd rfl (Or.inl rfl) (pe_callTy call_int1 (by rfl) T.b_int PyProof.Rows.boot_int (pa_cons (pv 0) pa_nil)))
      (pss_cons (ps_if (pt_cmpR op_ge (pv 3) (pe_op op_pow pe_int pe_int) (nomark _)) (pss_cons (ps_set (i := 3) sc_law_digits.nd rfl (Or.inl rfl) (pe_op op_sub (pv 3) (pe_op op_pow pe_int pe_int)))
      (pss_cons (ps_for (by exact PassesOwn.never) rfl (pi_list (pv 1)) (pg_name (i := 4) sc_law_digits.nd rfl (Or.inl rfl)) (pss_cons (ps_expr (pe_bm PySem.F.plainAttrs_list PySem.F.slot_list_append PySem.F.type_list_append mt_append (pv 2) (pa_cons (pe_op op_mod (pe_callTy call_int1 (by rfl) T.b_int PyProof.Rows.boot_int (pa_cons (pv 3) pa_nil)) (pv 4)) pa_nil)))
      (pss_one (ps_set (i := 3) sc_law_digits.nd rfl (Or.inl rfl) (pe_op (OwnHd.op_fdivA (hr.mono (by decide)) rfl T.sk (by kernel_rfl) rfl rfl) (pe_callTy call_int1 (by rfl) T.b_int PyProof.Rows.boot_int (pa_cons (pv 3) pa_nil)) (pv 4))))))
      (pss_one (ps_ret (pv 2))))) (pss_nil))
      (pss_cons (ps_set (i := 5) sc_law_digits.nd rfl (Or.inl rfl) (pe_op op_mod (pe_callTy call_int1 (by rfl) T.b_int PyProof.Rows.boot_int (pa_cons (pv 3) pa_nil)) pe_int))
      (pss_cons (ps_for (by exact PassesOwn.never) rfl (pi_range1 (by rfl) T.b_range (pa_cons (pe_callB call_len_seq (by rfl) T.b_len PySem.boot_len (pa_cons (pv 1) pa_nil)) pa_nil)) (pg_name (i := 6) sc_law_digits.nd rfl (Or.inl rfl)) (pss_cons (ps_set (i := 5) sc_law_digits.nd rfl (Or.inl rfl) (pe_op op_mod (pe_callTy call_int1 (by rfl) T.b_int PyProof.Rows.boot_int (pa_cons (pe_op op_add (pe_op op_add (pe_op op_mul (pv 5) pe_int) (pe_op op_mul pe_int (pv 6))) pe_int) pa_nil)) pe_int))
      (pss_cons (ps_set (i := 7) sc_law_digits.nd rfl (Or.inl rfl) (pe_op op_mod (pe_callTy call_int1 (by rfl) T.b_int PyProof.Rows.boot_int (pa_cons (pe_op op_mul (pv 5) (pe_op op_add (pe_op op_fdiv (pv 5) pe_int) pe_int)) pa_nil)) pe_int))
      (pss_one (ps_expr (pe_bm PySem.F.plainAttrs_list PySem.F.slot_list_append PySem.F.type_list_append mt_append (pv 2) (pa_cons (pe_op op_mod (pe_op op_fdiv (pv 7) pe_int) (pe_ix ix_list (pv 1) (pv 6) (fun _ _ => rfl))) pa_nil)))))))
      (pss_one (ps_ret (pv 2))))))), ?_⟩
    have hl : (ss.map V.int).length = ss.length := List.length_map _
    -- row = []
    refine q_asgL (xs := []) (el_lst ea_nil (by decide)) fun p H1 hp e1 h1 => ?_
    refine q_asg (v := .int c) ?_ fun H2 e2 => ?_
    · walk_at "ev"
    have hS2 : SqL K H2 a (ss.map V.int) := ex_l (e1.trans e2) hS
    have hp2 := e2 _ _ h1
    refine q_when (b := decide ((10 : Int) ^ 18 ≤ c)) ?_ (fun hb H3 e3 => ?_) (fun hb H3 e3 => ?_)
    · walk_at "ev"
    · refine q_asg (v := .int (c - (10 : Int) ^ 18)) ?_ fun H4 e4 => ?_
      · walk_at "ev"
      refine q_forLn (a := a) (xs := ss.map V.int) (ev_var rfl) (ex_l (e3.trans e4) hS2) (fun i σ' H' => ∃ (z : Int) (rs : List Int) (y5 : Option V), σ' = [some (.int c), some (.ref a), some (.ref p), some (.int z), y5, none, none, none] ∧ Ex H H' ∧ H' p = some (.lst (rs.map V.int)) ∧ Dg ss rs i)
        (fun H5 e5 => ⟨_, [], none, rfl, (((e1.trans e2).trans e3).trans e4).trans e5, e5 _ _ (e4 _ _ (e3 _ _ hp2)), .nil⟩) (fun i σ' H' _ ⟨_, _, _, _, e, _⟩ => ex_l e hS) (fun i x σ' H' hi ⟨z, rs, y5, hσ, e, hrow, dg⟩ => ?_) (fun σ' H' ⟨z, rs, y5, hσ, e, hrow, dg⟩ => ?_)
      · subst hσ
        obtain ⟨sz, hsz, rfl⟩ : ∃ z, ss[i]? = some z ∧ x = V.int z := by
          rw [List.getElem?_map] at hi
          cases e : ss[i]? with
          | none => rw [e] at hi; cases hi
          | some z => rw [e] at hi; exact ⟨z, rfl, (Option.some.inj hi).symm⟩
        have g0 := hpos sz (List.mem_of_getElem? hsz)
        have hi' : i < ss.length := (List.getElem?_eq_some_iff.mp hsz).1
        refine q_app (xs := rs.map V.int) (v := .int (z % sz)) hrow (ev_var rfl) ?_ (by rw [List.length_map, dg.len]; omega) fun H5 e5 => ?_
        · walk_at "ev"
        have e6 : Ex H (upd H5 p (.lst (rs.map V.int ++ [V.int (z % sz)]))) := Ex.mut (e.trans e5) hp
        refine s_asg (v := .int (z / sz)) ?_ fun H6 e7 => ?_
        · walk_at "ev"
        refine ⟨_, rs ++ [z % sz], _, rfl, e6.trans e7, ?_, dg.snoc hsz (Int.emod_nonneg _ (by omega)) (Int.emod_lt_of_pos _ g0)⟩
        rw [e7 _ _ upd_same, List.map_append]
        rfl
      · subst hσ
        refine s_ret (ev_var rfl) fun H5 e5 => q rs p H5 (by rw [dg.len, hl]) (fun i s hi => dg.rg i s (by rw [hl]; exact (List.getElem?_eq_some_iff.mp hi).1) hi) hp (e.trans e5) (e5 _ _ hrow)
    · refine q_asg (v := .int (c % 2147483629)) ?_ fun H4 e4 => ?_
      · walk_at "ev"
      refine q_forR1 (n := (ss.length : Int)) ?_ ⟨by omega, by omega⟩ (fun i σ' H' => ∃ (sd : Int) (rs : List Int) (y6 y7 : Option V), σ' = [some (.int c), some (.ref a), some (.ref p), some (.int c), none, some (.int sd), y6, y7] ∧ Ex H H' ∧ H' p = some (.lst (rs.map V.int)) ∧ Dg ss rs i ∧ 0 ≤ sd ∧ sd < 2147483648)
        (fun H5 e5 => ⟨_, [], none, none, rfl, (((e1.trans e2).trans e3).trans e4).trans e5, e5 _ _ (e4 _ _ (e3 _ _ hp2)), .nil, by omega, by omega⟩) (fun i σ' H' hi ⟨sd, rs, y6, y7, hσ, e, hrow, dg, s0, s1⟩ => ?_) (fun σ' H' ⟨sd, rs, y6, y7, hσ, e, hrow, dg, s0, s1⟩ => ?_)
      · have hS4 := ex_l (e3.trans e4) hS2
        rw [← hl]
        walk_at "ev"
      · subst hσ
        have hi' : i < ss.length := by omega
        have g0 := hpos ss[i] (List.getElem_mem hi')
        have hsz : ss[i]? = some ss[i] := List.getElem?_eq_getElem hi'
        refine q_asg (v := .int ((sd * 48271 + 974711 * (i : Int) + 12345) % 2147483647)) ?_ fun H5 e5 => ?_
        · walk_at "ev"
        generalize hsd : (sd * 48271 + 974711 * (i : Int) + 12345) % 2147483647 = sd2
        have t0 : 0 ≤ sd2 := by omega
        have t1 : sd2 < 2147483648 := by omega
        refine q_asg (v := .int (sd2 * (sd2 / 65537 + 3) % 2147483629)) ?_ fun H6 e6 => ?_
        · walk_at "ev"
        generalize htw : sd2 * (sd2 / 65537 + 3) % 2147483629 = tw
        have hS6 : SqL K H6 a (ss.map V.int) := ex_l ((e.trans e5).trans e6) hS
        refine s_app (xs := rs.map V.int) (v := .int (tw / 19 % ss[i])) (e6 _ _ (e5 _ _ hrow)) (ev_var rfl) ?_ (by rw [List.length_map, dg.len]; omega) fun H7 e7 => ?_
        · walk_at "ev"
        have e8 : Ex H (upd H7 p (.lst (rs.map V.int ++ [V.int (tw / 19 % ss[i])]))) := Ex.mut (((e.trans e5).trans e6).trans e7) hp
        refine ⟨sd2, rs ++ [tw / 19 % ss[i]], _, _, rfl, e8, ?_, dg.snoc hsz (Int.emod_nonneg _ (by omega)) (Int.emod_lt_of_pos _ g0), t0, t1⟩
        rw [upd_same, List.map_append]
        rfl
      · subst hσ
        have hl2 : (ss.length : Int).toNat = ss.length := rfl
        refine s_ret (ev_var rfl) fun H5 e5 => q rs p H5 (by rw [dg.len]; omega) (fun i s hi => dg.rg i s (by have := (List.getElem?_eq_some_iff.mp hi).1; omega) hi) hp (e.trans e5) (e5 _ _ hrow)
end
def DigR (ss : List Int) (xs : List V) : Prop := ∃ rs : List Int, xs = rs.map V.int ∧ rs.length = ss.length ∧ ∀ (i : Nat) (s : Int), ss[i]? = some s → 0 ≤ rs.getD i 0 ∧ rs.getD i 0 < s
section
variable {w : World} {K : PySem.W.Frag} {mg : Str → Option Value} {base : Heap} {fa : Nat → Addr} {fd : Nat → FuncData} {cv : Nat → Value}
theorem sp_digits {H : Hp} {a : Addr} {c : Int} {ss : List Int} (h : SqL K H a (ss.map V.int)) (hl : ss.length ≤ 4000) (hp : ∀ x ∈ ss, 0 < x ∧ x < 1000000) :
    SpLS (spDigits K) [.int c, .ref a] H (DigR ss) := fun Q q E =>
  ⟨a, c, ss, rfl, h, by omega, fun x hx => (hp x hx).1, fun rs p H2 h1 h2 h3 h4 h5 => q _ p H2 ⟨rs, rfl, h1, h2⟩ h3 h4 h5⟩
theorem sp_digitsW {H : Hp} {a : Addr} {c : Int} {ss : List Int} (h : SqL K H a (ss.map V.int)) (hl : ss.length ≤ 40000) (hp : ∀ x ∈ ss, 0 < x) :
    SpLS (spDigits K) [.int c, .ref a] H (DigR ss) := fun Q q E =>
  ⟨a, c, ss, rfl, h, hl, hp, fun rs p H2 h1 h2 h3 h4 h5 => q _ p H2 ⟨rs, rfl, h1, h2⟩ h3 h4 h5⟩
theorem sp_cell {a : Addr} {ns : List Int} {k : Int} {H : Hp} (h : SqL K H a (ns.map V.int)) (hn : ns.length ≤ 63) (h0 : 0 ≤ k) (h1 : k < 1000) : SpS (spCell K) [.ref a, .int k] H (fun v => ∃ i : Int, v = .int i) := fun H1 e Q q E => ⟨a, ns, k, rfl, ex_l e h, hn, h0, h1, fun i H2 e2 => q _ H2 ⟨i, rfl⟩ e2⟩
end

/-! the law's tables: many, next, alike, order -/
def spMany (K : PySem.W.Frag) : Sp := fun vs H Q _ => ∃ (a : Addr) (r : List Int), vs = [.ref a] ∧ SqL K H a (r.map V.int) ∧ r.length = 5 ∧ (0 ≤ r.getD 1 0 ∧ r.getD 1 0 < 14) ∧ (0 ≤ r.getD 2 0 ∧ r.getD 2 0 < 90) ∧ (0 ≤ r.getD 3 0 ∧ r.getD 3 0 < 400) ∧ (0 ≤ r.getD 4 0 ∧ r.getD 4 0 < 1600) ∧
  ∀ (m : Nat) H2, 1 ≤ m → m ≤ 1600 → Ex H H2 → Q (iV m) H2
def spNext : Sp := fun vs H Q _ => ∃ (k ring n : Nat) (hang d : Int), vs = [iV k, iV ring, .int hang, .int d] ∧ k < n ∧ ring ≤ n ∧ ∀ v H2, NxV n v → Ex H H2 → Q v H2
def spAlike : Sp := fun vs H Q _ => ∃ (k m : Nat) (kind hub : Int), vs = [iV k, iV m, .int kind, .int hub] ∧ k < m ∧ 0 ≤ hub ∧ hub < (m : Int) ∧ ∀ v H2, NxV m v → Ex H H2 → Q v H2
def spOrder (K : PySem.W.Frag) : Sp := fun vs H Q _ => ∃ (a : Addr) (ds : List Int), vs = [.ref a] ∧ SqL K H a (ds.map V.int) ∧ ds.length ≤ 4000 ∧ ∀ (os : List Nat) p H2, os.Perm (List.range ds.length) → H p = none → Ex H H2 → H2 p = some (.lst (nvs os)) → Q (.ref p) H2
section
variable {w : World} {K : PySem.W.Frag} {mg : Str → Option Value} {base : Heap} {fa : Nat → Addr} {fd : Nat → FuncData} {cv : Nat → Value}
theorem ok_many (T : Txt w K mg fa fd cv) : FnOk PP w K mg base CX0 34 (fa 9) (fd 9) ["row"] (spMany K) := by
  refine T.d_law_many.F.ok sc_law_many (fun vs H Q E h => ?_) (fun cdv A outer s H vs Q E hr h => ?_)
  · obtain ⟨a, r, rfl, _⟩ := h
    rfl
  · obtain ⟨a, r, rfl, ha, hl, ⟨a0, a1⟩, ⟨b0, b1⟩, ⟨c0, c1⟩, ⟨d0, d1⟩, q⟩ := h
    refine ⟨_, pss_cons (ps_if (pt_cmpR op_lt (pe_ix ix_list (pv 0) pe_int (fun _ _ => rfl)) pe_int (nomark _)) (pss_one (ps_ret (pe_op op_add pe_int (pe_ix ix_list (pv 0) pe_int (fun _ _ => rfl))))) (pss_nil))
      (pss_cons (ps_if (pt_cmpR op_lt (pe_ix ix_list (pv 0) pe_int (fun _ _ => rfl)) pe_int (nomark _)) (pss_one (ps_ret (pe_op op_add pe_int (pe_op op_mod (pe_callTy call_int1 (by rfl) T.b_int PyProof.Rows.boot_int (pa_cons (pe_ix ix_list (pv 0) pe_int (fun _ _ => rfl)) pa_nil)) pe_int)))) (pss_nil))
      (pss_cons (ps_if (pt_cmpR op_lt (pe_ix ix_list (pv 0) pe_int (fun _ _ => rfl)) pe_int (nomark _)) (pss_one (ps_ret (pe_op op_add pe_int (pe_ix ix_list (pv 0) pe_int (fun _ _ => rfl))))) (pss_nil))
      (pss_cons (ps_if (pt_cmpR op_lt (pe_ix ix_list (pv 0) pe_int (fun _ _ => rfl)) pe_int (nomark _)) (pss_one (ps_ret (pe_op op_add pe_int (pe_ix ix_list (pv 0) pe_int (fun _ _ => rfl))))) (pss_nil))
      (pss_one (ps_ret (pe_op op_add pe_int (pe_ix ix_list (pv 0) pe_int (fun _ _ => rfl)))))))), ?_⟩
    have IX : ∀ (j : Nat), j < 5 → ∀ H1, Ex H H1 → Ev (tOp (rIxL K) (tVar 0) (tC (.int (j : Int)))) [some (.ref a)] H1 (.int (r.getD j 0)) := fun j hj H1 e1 => ev_op (ev_var rfl) ev_c (rv_ixL (ex_l e1 ha) (at_ints (by omega)))
    have RT : ∀ (z : Int) H1 (te : TE), Ex H H1 → 1 ≤ z → z ≤ 1600 → Ev te [some (.ref a)] H1 (.int z) → tRet te { nx := fun x H' => Q V.non H', rt := Q } [some (.ref a)] H1 := fun z H1 te e1 h0 h1 he => s_ret (ev_is he (int_iV (by omega))) fun H2 e2 => q _ H2 (by omega) (by omega) (e1.trans e2)
    refine q_when (et_test (ev_op (IX 0 (by omega) H (Ex.refl H)) ev_c rv_I0)) (fun hb H1 e1 => RT _ H1 _ e1 (by omega) (by omega) (ev_op ev_c (IX 1 (by omega) H1 e1) rv_I0)) fun hb H1 e1 => ?_
    refine q_when (et_test (ev_op (IX 0 (by omega) H1 e1) ev_c rv_I0)) (fun hb H2 e2 => RT (8 + r.getD 2 0 % 17) H2 _ (e1.trans e2) (by omega) (by omega) (ev_op ev_c (ev_op (ev_cb (ea_cons (IX 2 (by omega) H2 (e1.trans e2)) ea_nil) rc_int1) ev_c (rv_I (by show (0 : Int) < 17; decide))) rv_I0)) fun hb H2 e2 => ?_
    have e12 := e1.trans e2
    refine q_when (et_test (ev_op (IX 0 (by omega) H2 e12) ev_c rv_I0)) (fun hb H3 e3 => RT _ H3 _ (e12.trans e3) (by omega) (by omega) (ev_op ev_c (IX 2 (by omega) H3 (e12.trans e3)) rv_I0)) fun hb H3 e3 => ?_
    have e13 := e12.trans e3
    refine q_when (et_test (ev_op (IX 0 (by omega) H3 e13) ev_c rv_I0)) (fun hb H4 e4 => RT _ H4 _ (e13.trans e4) (by omega) (by omega) (ev_op ev_c (IX 3 (by omega) H4 (e13.trans e4)) rv_I0)) fun hb H4 e4 => ?_
    exact RT _ H4 _ (e13.trans e4) (by omega) (by omega) (ev_op ev_c (IX 4 (by omega) H4 (e13.trans e4)) rv_I0)
theorem ok_next (T : Txt w K mg fa fd cv) : FnOk PP w K mg base CX0 34 (fa 10) (fd 10) ["k", "ring", "hang", "digit"] spNext := by
  refine T.d_law_next.F.ok sc_law_next (fun vs H Q E h => ?_) (fun cdv A outer s H vs Q E hr h => ?_)
  · obtain ⟨k, ring, n, hang, d, rfl, _⟩ := h
    rfl
  · obtain ⟨k, ring, n, hang, d, rfl, hk, hn, q⟩ := h
    refine ⟨_, pss_cons (ps_if (pt_cmpR op_lt (pv 0) (pv 1) (nomark _)) (pss_one (ps_ret (pe_op op_mod (pe_op op_add (pv 0) pe_int) (pv 1)))) (pss_nil))
      (pss_cons (ps_if (PW.pt (pw_or (pt_cmpR op_eq (pv 0) pe_int (nomark _)) (pw_or1 (PW.pt (pw_and (pt_cmpR op_eq (pv 2) pe_int (nomark _)) (pw_and1 (pt_cmpR op_eq (pe_op op_mod (pe_callTy call_int1 (by rfl) T.b_int PyProof.Rows.boot_int (pa_cons (pv 3) pa_nil)) pe_int) pe_int (nomark _)))))))) (pss_one (ps_ret pe_non)) (pss_nil))
      (pss_cons (ps_if (PW.pt (pw_and (pt_cmpR op_eq (pv 2) pe_int (nomark _)) (pw_and1 (pt_cmpR op_eq (pe_op op_mod (pe_callTy call_int1 (by rfl) T.b_int PyProof.Rows.boot_int (pa_cons (pv 3) pa_nil)) pe_int) pe_int (nomark _))))) (pss_one (ps_ret (pv 0))) (pss_nil))
      (pss_cons (ps_if (pt_cmpR op_eq (pv 2) pe_int (nomark _)) (pss_one (ps_ret (pe_op op_sub (pv 0) pe_int))) (pss_nil))
      (pss_cons (ps_if (PW.pt (pw_or (pt_cmpR op_eq (pv 2) pe_int (nomark _)) (pw_or1 (PW.pt (pw_and (pt_cmpR op_gt (pv 2) pe_int (nomark _)) (pw_and1 (pt_cmpR op_eq (pe_op op_mod (pv 0) pe_int) pe_int (nomark _)))))))) (pss_one (ps_ret (pe_op op_mod (pe_callTy call_int1 (by rfl) T.b_int PyProof.Rows.boot_int (pa_cons (pv 3) pa_nil)) (pe_callB (call_max2 rfl) (by rfl) T.b_max (by decide +kernel) (pa_cons pe_int (pa_cons (pv 1) pa_nil)))))) (pss_nil))
      (pss_cons (ps_if (pt_cmpR op_eq (pv 2) pe_int (nomark _)) (pss_one (ps_ret (pe_callB (call_max2 rfl) (by rfl) T.b_max (by decide +kernel) (pa_cons pe_int (pa_cons (pe_op op_sub (pe_op op_sub (pv 0) pe_int) (pe_op op_mod (pe_callTy call_int1 (by rfl) T.b_int PyProof.Rows.boot_int (pa_cons (pv 3) pa_nil)) pe_int)) pa_nil))))) (pss_nil))
      (pss_one (ps_ret (pe_op op_mod (pe_callTy call_int1 (by rfl) T.b_int PyProof.Rows.boot_int (pa_cons (pv 3) pa_nil)) (pv 0))))))))), ?_⟩
    have RT : ∀ (v : V) H1 (te : TE), Ex H H1 → NxV n v → Ev te [some (iV k), some (iV ring), some (.int hang), some (.int d)] H1 v → tRet te { nx := fun x H' => Q V.non H', rt := Q } [some (iV k), some (iV ring), some (.int hang), some (.int d)] H1 := fun v H1 te e1 h0 he => s_ret he fun H2 e2 => q _ H2 h0 (e1.trans e2)
    have DM : ∀ (z : Int) H1, 0 < z → Ev (tOp (rI (fun x j => 0 < j) fun i j => .int (i % j)) (tCB (fun xs H Q => (∃ i, xs = [V.int i] ∧ Q (V.int i) H) ∨ ∃ k, xs = [.bl k] ∧ Q (.int (if k = true then 1 else 0)) H) (tCons (tVar 3) tNil)) (tC (.int z))) [some (iV k), some (iV ring), some (.int hang), some (.int d)] H1 (.int (d % z)) := fun z H1 hz => ev_op (ev_cb (ea_cons (ev_var rfl) ea_nil) rc_int1) ev_c (rv_I hz)
    refine q_when (et_test (ev_op (ev_var rfl) (ev_var rfl) rv_I0)) (fun hb H1 e1 => ?_) fun hb H1 e1 => ?_
    · have c := of_decide_eq_true hb
      have g0 := Int.emod_nonneg ((k : Int) + 1) (show (ring : Int) ≠ 0 by omega)
      have g1 := Int.emod_lt_of_pos ((k : Int) + 1) (show (0 : Int) < ring by omega)
      exact RT _ H1 _ e1 (nx_int g0 (by omega)) (ev_op (ev_op (ev_var rfl) ev_c rv_I0) (ev_var rfl) (rv_I (by omega)))
    refine q_when (et_or (et_test (ev_op (ev_var rfl) ev_c rv_eqI)) fun _ => et_and (et_test (ev_op (ev_var rfl) ev_c rv_eqI)) fun _ => et_test (ev_op (DM 6 H1 (by decide)) ev_c rv_eqI)) (fun hb H2 e2 => RT _ H2 _ (e1.trans e2) nx_non ev_c) fun hb H2 e2 => ?_
    have k0 : 0 < k := by
      have := (Bool.or_eq_false_iff.mp hb).1
      have := of_decide_eq_false this
      omega
    have e12 := e1.trans e2
    refine q_when (et_and (et_test (ev_op (ev_var rfl) ev_c rv_eqI)) fun _ => et_test (ev_op (DM 6 H2 (by decide)) ev_c rv_eqI)) (fun hb H3 e3 => RT _ H3 _ (e12.trans e3) (nx_int (by omega) (by omega)) (ev_var rfl)) fun hb H3 e3 => ?_
    have e13 := e12.trans e3
    refine q_when (et_test (ev_op (ev_var rfl) ev_c rv_eqI)) (fun hb H4 e4 => RT _ H4 _ (e13.trans e4) (nx_int (i := (k : Int) - 1) (by omega) (by omega)) (ev_op (ev_var rfl) ev_c rv_I0)) fun hb H4 e4 => ?_
    have e14 := e13.trans e4
    refine q_when (et_or (et_test (ev_op (ev_var rfl) ev_c rv_eqI)) fun _ => et_and (et_test (ev_op (ev_var rfl) ev_c rv_I0)) fun _ => et_test (ev_op (ev_op (ev_var rfl) ev_c (rv_I (by show (0 : Int) < 2; decide))) ev_c rv_eqI)) (fun hb H5 e5 => ?_) fun hb H5 e5 => ?_
    · have g : (0 : Int) < (if (ring : Int) > 1 then (ring : Int) else 1) := by split <;> omega
      have g2 : (if (ring : Int) > 1 then (ring : Int) else 1) ≤ (n : Int) := by split <;> omega
      have g0 := Int.emod_nonneg d (Int.ne_of_gt g)
      have g1 := Int.emod_lt_of_pos d g
      exact RT _ H5 _ (e14.trans e5) (nx_int g0 (by omega)) (ev_op (ev_cb (ea_cons (ev_var rfl) ea_nil) rc_int1) (ev_cb (ea_cons ev_c (ea_cons (ev_var rfl) ea_nil)) rc_max2) (rv_I g))
    have e15 := e14.trans e5
    refine q_when (et_test (ev_op (ev_var rfl) ev_c rv_eqI)) (fun hb H6 e6 => ?_) fun hb H6 e6 => ?_
    · have g0 := Int.emod_nonneg d (show (3 : Int) ≠ 0 by decide)
      refine RT _ H6 _ (e15.trans e6) (nx_int ?_ ?_) (ev_cb (ea_cons ev_c (ea_cons (ev_op (ev_op (ev_var rfl) ev_c rv_I0) (DM 3 H6 (by decide)) rv_I0) ea_nil)) rc_max2)
      · split <;> omega
      · split <;> omega
    · have g0 := Int.emod_nonneg d (show (k : Int) ≠ 0 by omega)
      have g1 := Int.emod_lt_of_pos d (show (0 : Int) < k by omega)
      exact RT _ H6 _ (e15.trans e6) (nx_int g0 (by omega)) (ev_op (ev_cb (ea_cons (ev_var rfl) ea_nil) rc_int1) (ev_var rfl) (rv_I (by omega)))
theorem ok_alike (T : Txt w K mg fa fd cv) : FnOk PP w K mg base CX0 34 (fa 11) (fd 11) ["k", "many", "kind", "hub"] spAlike := by
  refine T.d_law_alike.F.ok sc_law_alike (fun vs H Q E h => ?_) (fun cdv A outer s H vs Q E hr h => ?_)
  · obtain ⟨k, m, kind, hub, rfl, _⟩ := h
    rfl
  · obtain ⟨k, m, kind, hub, rfl, hk, h0, h1, q⟩ := h
    refine ⟨_, pss_cons (ps_if (PW.pt (pw_or (pt_cmpR op_eq (pv 2) pe_int (nomark _)) (pw_or1 (PW.pt (pw_and (pt_cmpR op_eq (pv 2) pe_int (nomark _)) (pw_and1 (pt_cmpR op_eq (pv 0) (pv 3) (nomark _)))))))) (pss_one (ps_ret pe_non)) (pss_nil))
      (pss_cons (ps_if (pt_cmpR op_eq (pv 2) pe_int (nomark _)) (pss_one (ps_ret (pv 0))) (pss_nil))
      (pss_cons (ps_if (pt_cmpR op_eq (pv 2) pe_int (nomark _)) (pss_one (ps_ret (pe_op op_mod (pe_op op_add (pv 0) pe_int) (pv 1)))) (pss_nil))
      (pss_one (ps_ret (pv 3))))), ?_⟩
    have RT : ∀ (v : V) H1 (te : TE), Ex H H1 → NxV m v → Ev te [some (iV k), some (iV m), some (.int kind), some (.int hub)] H1 v → tRet te { nx := fun x H' => Q V.non H', rt := Q } [some (iV k), some (iV m), some (.int kind), some (.int hub)] H1 := fun v H1 te e1 h0 he => s_ret he fun H2 e2 => q _ H2 h0 (e1.trans e2)
    refine q_when (et_or (et_test (ev_op (ev_var rfl) ev_c rv_eqI)) fun _ => et_and (et_test (ev_op (ev_var rfl) ev_c rv_eqI)) fun _ => et_test (ev_op (ev_var rfl) (ev_var rfl) rv_eqI)) (fun hb H1 e1 => RT _ H1 _ e1 nx_non ev_c) fun hb H1 e1 => ?_
    refine q_when (et_test (ev_op (ev_var rfl) ev_c rv_eqI)) (fun hb H2 e2 => RT _ H2 _ (e1.trans e2) (nx_int (by omega) (by omega)) (ev_var rfl)) fun hb H2 e2 => ?_
    have e12 := e1.trans e2
    refine q_when (et_test (ev_op (ev_var rfl) ev_c rv_eqI)) (fun hb H3 e3 => ?_) fun hb H3 e3 => ?_
    · have g0 := Int.emod_nonneg ((k : Int) + 1) (show (m : Int) ≠ 0 by omega)
      have g1 := Int.emod_lt_of_pos ((k : Int) + 1) (show (0 : Int) < m by omega)
      exact RT _ H3 _ (e12.trans e3) (nx_int g0 (by omega)) (ev_op (ev_op (ev_var rfl) ev_c rv_I0) (ev_var rfl) (rv_I (by omega)))
    · exact RT _ H3 _ (e12.trans e3) (nx_int h0 h1) (ev_var rfl)
theorem ok_order (T : Txt w K mg fa fd cv) : FnOk PP w K mg base CX0 34 (fa 12) (fd 12) ["digits"] (spOrder K) := by
  refine T.d_law_order.F.ok sc_law_order (fun vs H Q E h => ?_) (fun cdv A outer s H vs Q E hr h => ?_)
  · obtain ⟨a, ds, rfl, _⟩ := h
    rfl
  · obtain ⟨a, ds, rfl, ha, hn, q⟩ := h
    refine ⟨_, pss_cons (ps_set (i := 1) sc_law_order.nd rfl (Or.inl rfl) (pe_listRg rfl (by rfl) T.b_list (prg_1 (by rfl) T.b_range (pe_callB call_len_seq (by rfl) T.b_len PySem.boot_len (pa_cons (pv 0) pa_nil)))))
      (pss_cons (ps_set (i := 2) sc_law_order.nd rfl (Or.inl rfl) (pe_lst pa_nil))
      (pss_cons (ps_for (by exact PassesOwn.never) rfl (pi_list (pv 0)) (pg_name (i := 3) sc_law_order.nd rfl (Or.inl rfl)) (pss_one (ps_expr (pe_bm PySem.F.plainAttrs_list PySem.F.slot_list_append PySem.F.type_list_append mt_append (pv 2) (pa_cons (pe_bm PySem.F.plainAttrs_list PySem.F.slot_list_pop PySem.F.type_list_pop mt_popAt (pv 1) (pa_cons (pe_op op_mod (pe_callTy call_int1 (by rfl) T.b_int PyProof.Rows.boot_int (pa_cons (pv 3) pa_nil)) (pe_callB call_len_seq (by rfl) T.b_len PySem.boot_len (pa_cons (pv 1) pa_nil))) pa_nil)) pa_nil)))))
      (pss_one (ps_ret (pv 2))))), ?_⟩
    have hl : (ds.map V.int).length = ds.length := List.length_map _
    refine q_asgL (xs := nvs (List.range ds.length)) (el_lstRg (ev_is (ev_cb (ea_cons (ev_var rfl) ea_nil) (rc_lenL ha)) (by rw [hl])) (by omega)) fun l H1 nl e1 h1 => ?_
    refine q_asgL (xs := []) (el_lst ea_nil (by decide)) fun o H2 no e2 h2 => ?_
    have hl2 := e2 _ _ h1
    have nlo : l ≠ o := fun e => by rw [e, no] at h1; cases h1
    refine q_forLn (a := a) (xs := ds.map V.int) (ev_var rfl) (ex_l (e1.trans e2) ha) (fun i σ' H' => ∃ (y : Option V) (L O : List Nat), σ' = [some (.ref a), some (.ref l), some (.ref o), y] ∧ Ex H H' ∧ H' l = some (.lst (nvs L)) ∧ H' o = some (.lst (nvs O)) ∧ L.length = ds.length - i ∧ O.length = i ∧ (O ++ L).Perm (List.range ds.length))
      (fun H3 e3 => ⟨_, List.range ds.length, [], rfl, (e1.trans e2).trans e3, e3 _ _ hl2, e3 _ _ h2, by rw [List.length_range]; rfl, rfl, .refl _⟩) (fun i σ' H' _ ⟨_, _, _, _, e, _⟩ => ex_l e ha) (fun i x σ' H' hi ⟨y, L, O, hσ, e, hL, hO, lL, lO, hp⟩ => ?_) (fun σ' H' ⟨y, L, O, hσ, e, hL, hO, lL, lO, hp⟩ => ?_)
    · subst hσ
      obtain ⟨z, hz, rfl⟩ : ∃ z, ds[i]? = some z ∧ x = V.int z := by
        rw [List.getElem?_map] at hi
        cases e : ds[i]? with
        | none => rw [e] at hi; cases hi
        | some z => rw [e] at hi; exact ⟨z, rfl, (Option.some.inj hi).symm⟩
      have hi2 := (List.getElem?_eq_some_iff.mp hz).1
      have g0 := Int.emod_nonneg z (show (L.length : Int) ≠ 0 by omega)
      have g1 := Int.emod_lt_of_pos z (show (0 : Int) < L.length by omega)
      obtain ⟨j, hj⟩ : ∃ j : Nat, z % (L.length : Int) = (j : Int) := ⟨(z % (L.length : Int)).toNat, by omega⟩
      have hjl : j < L.length := by omega
      have gj : L[j]? = some L[j] := List.getElem?_eq_getElem hjl
      have hnl : (nvs L).length = L.length := List.length_map _
      have IJ : Ev (tOp (rI (fun x j => 0 < j) fun i j => V.int (i % j)) (tCB (fun xs H Q => (∃ i, xs = [V.int i] ∧ Q (V.int i) H) ∨ ∃ k, xs = [.bl k] ∧ Q (.int (if k = true then 1 else 0)) H) (tCons (tVar 3) tNil)) (tCB (fun xs H Q => ∃ p ys, xs = [V.ref p] ∧ (SqL K H p ys ∨ SqT K H p ys) ∧ Q (.int ys.length) H) (tCons (tVar 1) tNil)))
          [some (.ref a), some (.ref l), some (.ref o), some (.int z)] H' (.int (j : Int)) := ev_is (ev_op (ev_cb (ea_cons (ev_var rfl) ea_nil) rc_int1) (ev_cb (ea_cons (ev_var rfl) ea_nil) (rc_lenL (sq_of hL))) (rv_I (by rw [hnl]; omega))) (by rw [hnl, hj])
      refine s_appPop (ev_var rfl) (ev_var rfl) IJ hO hL nlo.symm (by rw [List.getElem?_map, gj]; rfl) (by rw [List.length_map]; omega) (by rw [List.length_map]; omega) fun H5 e35 => ?_
      refine ⟨_, L.eraseIdx j, O ++ [L[j]], rfl, Ex.mut (Ex.mut (e.trans e35) nl) (fresh_back e1 no), ?_, ?_, ?_, ?_, (perm_move gj).trans hp⟩
      · rw [upd_ne nlo, upd_same]
        rw [map_erase]
      · rw [upd_same, nvs_snoc]
      · rw [List.length_eraseIdx, if_pos hjl, lL]
        omega
      · rw [List.length_append, lO]
        rfl
    · subst hσ
      have l0 : L = [] := List.length_eq_zero_iff.mp (by rw [lL, hl]; omega)
      subst l0
      rw [List.append_nil] at hp
      exact s_ret (ev_var rfl) fun H3 e3 => q O o H3 hp (fresh_back e1 no) (e.trans e3) (e3 _ _ hO)
end

/-! Graph(..), which may raise -/
def spGIX (K : PySem.W.Frag) (C CB CR : Addr) : Sp := fun vs H Q E => ∃ (g dx nx : Addr) (ts : Otab) (rot : V) (ro : Option (List (List Int))), vs = [.ref g, .ref nx, rot] ∧ H g = some (.ins C dx []) ∧ SqT K H nx (ts.map oV) ∧ ts.length ≤ 1600 ∧
  ((rot = .non ∧ ro = none) ∨ ∃ (r : Addr) (rows : List (List Int)), rot = .ref r ∧ ro = some rows ∧ TZ K H r rows ∧ rows.length = ts.length) ∧
  (∀ (k : Nat) (d : Addr) H2, DueP ts ro 1 k → Ig g H H2 → H2 d = some (.xd [("node", iV k)]) → E (.ref CB) (some d) H2) ∧
  (∀ (k : Nat) (d : Addr) H2, DueP ts ro 2 k → Ig g H H2 → H2 d = some (.xd [("at", iV k)]) → E (.ref CR) (some d) H2) ∧
  ∀ bf rt H2, DueP ts ro 0 0 → Ig g H H2 → H2 g = some (.ins C dx (gf nx bf rt)) → TZ K H2 rt (ro.getD (plainZ ts)) → Q .non H2
section
variable {w : World} {K : PySem.W.Frag} {mg : Str → Option Value} {base : Heap} {fa : Nat → Addr} {fd : Nat → FuncData} {cv : Nat → Value}
theorem ok_gix (T : Txt w K mg fa fd cv) : FnOk PP w K mg base (L2.CX PP w) 37 (fa 3) (fd 3) ["self", "nexts", "rotation"] (spGIX K (fa 200) (fa 307) (fa 308)) := by
  have G_nodes_before := ok_nb (w := w) (base := base) T
  have G_err_BadGraph := ok_err_BadGraph (base := base) T
  have G_err_BadRotation := ok_err_BadRotation (base := base) T
  refine T.d_Graph___init__.F.ok sc_Graph___init__ (fun vs H Q E h => ?_) (fun cdv A outer s H vs Q E hr h => ?_)
  · obtain ⟨g, dx, nx, ts, rot, ro, rfl, _⟩ := h
    rfl
  · obtain ⟨g, dx, nx, ts, rot, ro, rfl, hg, hx, hn, hrot, qB, qR, q⟩ := h
    refine ⟨_, pss_cons (ps_for (by exact (passes_of rfl)) rfl (OwnG.pi_enumT (by rfl) T.b_enumerate (pa_cons (pv 1) pa_nil)) (pg_tup (by rfl) (pgs_cons (pg_name (i := 3) sc_Graph___init__.nd rfl (Or.inl rfl)) (pgs_cons (pg_name (i := 4) sc_Graph___init__.nd rfl (Or.inl rfl)) (pgs_nil)))) (pss_one (ps_if (PW.pt (pw_and (pt_cmpR op_notN (pv 4) pe_non (nomark _)) (pw_and1 (pt_not (pt_chain op_le op_lt pe_int (pv 4) (pe_callB call_len_seq (by rfl) T.b_len PySem.boot_len (pa_cons (pv 1) pa_nil))))))) (pss_one (ps_raise rfl (takes_of rfl rfl rfl rfl) (pmk_oex T.x_BadGraph.oex T.ix_BadGraph.iC T.ix_BadGraph.tI G_err_BadGraph (by first | exact hr.mono (by decide) | exact hr.mono (by omega)) T.bx_BadGraph .nil pass0 (by rfl) T.gx_BadGraph (pa_cons (pv 3) pa_nil)))) (pss_nil))))
      (pss_cons (ps_fld (pv 0) (pv 1) rfl)
      (pss_cons (ps_fld (pv 0) (pe_call G_nodes_before (by first | exact hr.mono (by decide) | exact hr.mono (by omega)) (by rfl) T.d_nodes_before.g T.d_nodes_before.k T.d_nodes_before.b .nil pass0 (pa_cons (pv 1) pa_nil)) rfl)
      (pss_cons (ps_set (i := 6) sc_Graph___init__.nd rfl (Or.inl rfl) (pe_callTy (r := OwnG.rTupF K) (by exact OwnG.call_tupF) (by rfl) T.b_tuple (by decide +kernel) (pa_cons (pe_lc (own := [("row", 5)]) (g := gName 5) rfl sc_Graph___init__.nd (pi_tup (pe_fld (pv 0) rfl)) (blkOk_by (own := [("row", 5)]) (N := N_Graph___init__) (sc := defScope s_Graph___init__) (by decide +kernel)) (fun _ _ _ _ _ => pg_name (i := 5) sc_Graph___init__.nd rfl (Or.inl rfl)) (fun _ _ _ _ _ => pts_nil) (fun _ _ _ _ _ => (OwnG.pe_tupRgF rfl (by rfl) T.b_tuple (prg_1 (by rfl) T.b_range (pe_op op_add (pe_callB (r := rLenS K) (by exact call_len_seq) (by rfl) T.b_len PySem.boot_len (pa_cons (pv 5) pa_nil)) pe_int))))) pa_nil)))
      (pss_cons (ps_fld (pv 0) (pe_ifExp (pt_cmpR op_isN (pv 2) pe_non (nomark _)) (pv 6) (pv 2)) rfl)
      (pss_one (ps_for (by exact (passes_of rfl)) rfl (OwnG.pi_enumT (by rfl) T.b_enumerate (pa_cons (pe_fld (pv 0) rfl) pa_nil)) (pg_tup (by rfl) (pgs_cons (pg_name (i := 3) sc_Graph___init__.nd rfl (Or.inl rfl)) (pgs_cons (pg_name (i := 5) sc_Graph___init__.nd rfl (Or.inl rfl)) (pgs_nil)))) (pss_one (ps_if (pt_cmpR (op_neD hr.units) (pe_callTy (r := OwnG.rTupF K) (by exact OwnG.call_tupF) (by rfl) T.b_tuple (by decide +kernel) (pa_cons (pe_callB OwnG.cr_sortedTI (by rfl) T.b_sorted (by decide +kernel) (pa_cons (pv 5) pa_nil)) pa_nil)) (pe_ix ix_tup (pv 6) (pv 3) (fun _ _ => rfl)) (nomark _)) (pss_one (ps_raise rfl (takes_of rfl rfl rfl rfl) (pmk_oex T.x_BadRotation.oex T.ix_BadRotation.iC T.ix_BadRotation.tI G_err_BadRotation (by first | exact hr.mono (by decide) | exact hr.mono (by omega)) T.bx_BadRotation .nil pass0 (by rfl) T.gx_BadRotation (pa_cons (pv 3) pa_nil)))) (pss_nil))))))))), ?_⟩
    have hl : (ts.map oV).length = ts.length := List.length_map _
    refine q_forE (a := nx) (xs := ts.map oV) (ev_var rfl) hx (fun i σ' H' => ∃ y3 y4, σ' = [some (.ref g), some (.ref nx), some rot, y3, y4, none, none] ∧ Ex H H' ∧ ∀ j, j < i → OkAt ts j)
      (fun H2 e2 => ⟨_, _, rfl, e2, fun j hj => by omega⟩) (fun i σ' H' _ ⟨_, _, _, e, _⟩ => ex_t e hx) (fun i x σ' H' H2 hi ⟨y3, y4, hσ, e, hok⟩ e2 => ?_) (fun σ' H' ⟨y3, y4, hσ, e, hok⟩ => ?_)
    · subst hσ
      obtain ⟨o, ho, rfl⟩ : ∃ o, ts[i]? = some o ∧ x = oV o := by
        rw [List.getElem?_map] at hi
        cases e : ts[i]? with
        | none => rw [e] at hi; cases hi
        | some o => rw [e] at hi; exact ⟨o, rfl, (Option.some.inj hi).symm⟩
      have hx2 := ex_t (e.trans e2) hx
      have L : ∀ σ : L2.St, σ[1]? = some (some (.ref nx)) → Ev (tCB (fun xs H Q => ∃ p ys, xs = [V.ref p] ∧ (SqL K H p ys ∨ SqT K H p ys) ∧ Q (.int ys.length) H) (tCons (tVar 1) tNil)) σ H2 (iV ts.length) := fun σ hσ => ev_is (ev_lenT (evH_Tv (ev_var hσ) hx2)) (by rw [hl])
      have okS : OkAt ts i → ∀ j, j < i + 1 → OkAt ts j := fun h j hj => by
        rcases Nat.lt_or_ge j i with c | c
        · exact hok j c
        · rw [show j = i by omega]
          exact h
      cases o with
      | none =>
        exact s_when (b := false) (et_andF (et_is (et_test (ev_notN (ev_var rfl))) rfl)) (fun hb => by cases hb) (fun _ H3 e3 => ⟨_, _, rfl, (e.trans e2).trans e3, okS fun z hz => by rw [ho] at hz; cases hz⟩)
      | some m =>
        refine s_when (b := !(decide (0 ≤ m) && decide (m < (ts.length : Int)))) (et_andT (et_is (et_test (ev_notN (ev_var rfl))) rfl) (et_not (et_test (ev_chain (x := .int 0) (y := .int m) (z := iV ts.length) ev_c (ev_var rfl) rv_I0 (fun _ => L _ rfl) fun _ => rv_I0)))) (fun hb H3 e3 => ?_) (fun hb H3 e3 => ?_)
        · have bad : ¬ OkAt ts i := fun z => by
            obtain ⟨z0, z1⟩ := z m ho
            rw [decide_eq_true z0, decide_eq_true z1] at hb
            cases hb
          exact q_mkO (xs := [iV i]) (ea_cons (ev_var rfl) ea_nil) rfl (by decide) ⟨_, rfl⟩ fun d H4 e4 hd => qB i d H4 (.node i bad hok) (Ig.of ((e.trans e2).trans (e3.trans e4))) hd
        · rw [Bool.not_eq_false', Bool.and_eq_true, decide_eq_true_eq, decide_eq_true_eq] at hb
          exact ⟨_, _, rfl, (e.trans e2).trans e3, okS fun z hz => by
            rw [ho] at hz
            cases hz
            exact hb⟩
    · subst hσ
      rw [hl] at hok
      have ok : OkT ts := fun k i hk => hok k (List.getElem?_eq_some_iff.mp hk).1 i hk
      have okN := tabOf_ok ok
      have hlN : (tabOf ts).length = ts.length := tabOf_len
      have hg1 := e _ _ hg
      have hx1 := ex_t e hx
      have i1 : Ig g H H' := Ig.of e
      refine q_fld (R := fun v _ => v = V.ref nx) (evH_of (ev_var rfl) fun _ _ => rfl) (ev_var rfl) (fun v H H' _ h => h) hg1 T.cl_Graph T.n_Graph_nexts (by show 0 < 1000; decide) fun v H2 e2 hv => ?_
      subst hv
      have i2 := i1.trans ((Ig.of e2).trans (Ig.upd (H := H2) (g := g) (o := .ins (fa 200) dx (putF "nexts" (.ref nx) []))))
      have hg2 : (upd H2 g (.ins (fa 200) dx (putF "nexts" (.ref nx) []))) g = some (.ins (fa 200) dx (putF "nexts" (.ref nx) [])) := upd_same
      have hx2 := sq_ig hx hg i2
      generalize upd H2 g (.ins (fa 200) dx (putF "nexts" (.ref nx) [])) = G2 at *
      refine q_fld (R := fun v H => ∃ p, v = V.ref p ∧ TTf K H p ts.length (bk (tabOf ts))) (evH_call (ea_cons (ev_var rfl) ea_nil) fun H1 e1 Q1 q1 E1 => ⟨nx, tabOf ts, rfl, by rw [← tabOf_map ok]; exact ex_t e1 hx2, okN, by rw [hlN]; exact hn, fun p H2 e2 h2 => q1 _ H2 e2 ⟨p, rfl, by rw [hlN] at h2; exact h2⟩⟩) (ev_var rfl) (fun v H H' e ⟨p, e1, h⟩ => ⟨p, e1, h.up e⟩) hg2 T.cl_Graph T.n_Graph__before (by show 1 < 1000; decide) fun v H3 e3 ⟨bf, hv, hb⟩ => ?_
      subst hv
      have i3 := i2.trans ((Ig.of e3).trans (Ig.upd (H := H3) (g := g) (o := .ins (fa 200) dx (putF "_before" (.ref bf) (putF "nexts" (.ref nx) [])))))
      have hg3 : (upd H3 g (.ins (fa 200) dx (putF "_before" (.ref bf) (putF "nexts" (.ref nx) [])))) g = some (.ins (fa 200) dx (putF "_before" (.ref bf) (putF "nexts" (.ref nx) []))) := upd_same
      have hb3 : TTf K (upd H3 g (.ins (fa 200) dx (putF "_before" (.ref bf) (putF "nexts" (.ref nx) [])))) bf ts.length (bk (tabOf ts)) := tt_ig hb (e3 _ _ hg2) Ig.upd
      generalize upd H3 g (.ins (fa 200) dx (putF "_before" (.ref bf) (putF "nexts" (.ref nx) []))) = G3 at *
      obtain ⟨ps, hps, lps, hpa⟩ := hb3.ex
      have hpl : (ps.map V.ref).length = ps.length := List.length_map _
      have L := elH_lcT (K := K) (tl := tFld K (tVar 0) "_before") (te := tTupRgF (tRg1 (tOp (rI0 fun i j => V.int (i + j)) (tCB (rLenS K) (tCons (tVar 5) tNil)) (tC (V.int 1))))) (j := 5) (vs := [5]) (σ := [some (.ref g), some (.ref nx), some rot, y3, y4, none, none]) (H := G3) (R := fun i => FzV (nvs (List.range ((bk (tabOf ts) i).length + 1)))) (evH_Tv (ev_fld (ev_var rfl) hg3 T.cl_Graph T.n_Graph__before rfl) hps) (by rw [hpl, lps]; omega) (fun _ => rfl) (fun i v H H' k h => h.kt k) fun i x H1 e1 hi => by
        rw [List.getElem?_map] at hi
        cases e : ps[i]? with
        | none => rw [e] at hi; cases hi
        | some a =>
          rw [e] at hi
          cases hi
          have hz := (hpa i a e).ex e1
          refine evH_tupRg (ev_is (ev_op (ev_lenT (evH_Tv (ev_var rfl) hz.sq)) ev_c rv_I0) ?_) (by have := bk_len (tabOf ts) i; omega)
          rw [List.length_map]
          rfl
      rw [hpl, lps] at L
      refine q_asgH (evH_tupTT L) fun v H4 e4 ⟨pl, ev, hpt⟩ => ?_
      subst ev
      have hg4 := e4 _ _ hg3
      have i4 := i3.trans (Ig.of (g := g) e4)
      obtain ⟨rt, hrv, hrt⟩ : ∃ rt, Ev (tIf (tTest (tOp (fun x y H Q => y = V.non ∧ Q (V.bl (decide (x = V.non))) H) (tVar 2) (tC .non))) (tVar 6) (tVar 2)) [some (.ref g), some (.ref nx), some rot, y3, y4, none, some (.ref pl)] H4 (.ref rt) ∧ TZ K H4 rt (ro.getD (plainZ ts)) := by
        rcases hrot with ⟨rfl, rfl⟩ | ⟨r, rows, rfl, rfl, hr, _⟩
        · exact ⟨pl, ev_if (b := true) (et_is (et_test (ev_isN (ev_var rfl))) rfl) (fun _ => ev_var rfl) (fun h => by cases h), TZ.of hpt⟩
        · exact ⟨r, ev_if (b := false) (et_is (et_test (ev_isN (ev_var rfl))) rfl) (fun h => by cases h) (fun _ => ev_var rfl), hr.ig hg i4⟩
      have rl : (ro.getD (plainZ ts)).length = ts.length := by
        rcases hrot with ⟨rfl, rfl⟩ | ⟨r, rows, rfl, rfl, _, hlr⟩
        · show (plainZ ts).length = _
          unfold plainZ
          rw [List.length_map, List.length_range]
        · exact hlr
      refine q_fld (R := fun v _ => v = V.ref rt) (evH_of hrv fun _ _ => rfl) (ev_var rfl) (fun v H H' _ h => h) hg4 T.cl_Graph T.n_Graph_rotation (by show 2 < 1000; decide) fun v H5 e5 hv => ?_
      subst hv
      have i5 := i4.trans ((Ig.of e5).trans (Ig.upd (H := H5) (g := g) (o := .ins (fa 200) dx (gf nx bf rt))))
      have hg5 : (upd H5 g (.ins (fa 200) dx (gf nx bf rt))) g = some (.ins (fa 200) dx (gf nx bf rt)) := upd_same
      have hr5 : TZ K (upd H5 g (.ins (fa 200) dx (gf nx bf rt))) rt (ro.getD (plainZ ts)) := (hrt.up e5).ig (e5 _ _ hg4) Ig.upd
      have hp5 : TTf K (upd H5 g (.ins (fa 200) dx (gf nx bf rt))) pl ts.length (fun i => List.range ((bk (tabOf ts) i).length + 1)) := tt_ig (hpt.up e5) (e5 _ _ hg4) Ig.upd
      rw [gf_put]
      generalize upd H5 g (.ins (fa 200) dx (gf nx bf rt)) = G5 at *
      obtain ⟨qs, hqs, lqs, hqa⟩ := hr5.ex
      have hql : (qs.map V.ref).length = qs.length := List.length_map _
      refine s_forE (a := rt) (xs := qs.map V.ref) (ev_fld (ev_var rfl) hg5 T.cl_Graph T.n_Graph_rotation rfl) hqs (fun i σ' H' => ∃ y3 y5, σ' = [some (.ref g), some (.ref nx), some rot, y3, y4, y5, some (.ref pl)] ∧ Ex G5 H' ∧ ∀ j, j < i → RowAt ts (ro.getD (plainZ ts)) j)
        (fun H2 e2 => ⟨_, _, rfl, e2, fun j hj => by omega⟩) (fun i σ' H' _ ⟨_, _, _, e, _⟩ => ex_t e hqs) (fun i x σ' H' H2 hi ⟨y3, y5, hσ, e, hro⟩ e2 => ?_) (fun σ' H' ⟨y3, y5, hσ, e, hro⟩ => ?_)
      · subst hσ
        have hil : i < ts.length := by have := (List.getElem?_eq_some_iff.mp hi).1; omega
        have hgl : (ro.getD (plainZ ts))[i]? = some ((ro.getD (plainZ ts)).getD i []) := by
          rw [List.getD_eq_getElem?_getD, List.getElem?_eq_getElem (by rw [rl]; exact hil)]
          rfl
        rw [List.getElem?_map] at hi
        cases ea : qs[i]? with
        | none => rw [ea] at hi; cases hi
        | some a =>
          rw [ea] at hi
          cases hi
          have hz := ex_t (e.trans e2) (hqa i a _ ea hgl)
          have PL : EvH (tOp (rIxT K) (tVar 6) (tVar 3)) [some (.ref g), some (.ref nx), some rot, some (iV i), y4, some (.ref a), some (.ref pl)] H2 (TpV K (zvs (rowZ ts i))) := by
            have z := evH_sq (K := K) (evH_TT (f := fun i => List.range ((bk (tabOf ts) i).length + 1)) (hp5.up (e.trans e2)) (ev_var (i := 6) (σ := [some (.ref g), some (.ref nx), some rot, some (iV i), y4, some (.ref a), some (.ref pl)]) rfl) (ev_var (i := 3) rfl) hil)
            rw [zvs_nvs] at z
            exact z
          refine s_when (b := !decide (srt ((ro.getD (plainZ ts)).getD i []) = rowZ ts i)) (et_test (ev_neZ (evH_sq (evH_tupF (evH_L (el_sortedZ (evH_Tv (ev_var rfl) hz))))) PL)) (fun hb H3 e3 => ?_) (fun hb H3 e3 => ?_)
          · have bad : ¬ RowAt ts (ro.getD (plainZ ts)) i := fun z => by
              rw [decide_eq_true (srt_row.mpr z)] at hb
              cases hb
            rcases hrot with ⟨rfl, rfl⟩ | ⟨r, rows, rfl, rfl, _, hlr⟩
            · refine absurd ?_ bad
              show ((plainZ ts).getD i []).Perm _
              unfold plainZ
              rw [List.getD_eq_getElem?_getD, List.getElem?_map, List.getElem?_range hil]
              exact .refl _
            · exact q_mkO (xs := [iV i]) (ea_cons (ev_var rfl) ea_nil) rfl (by decide) ⟨_, rfl⟩ fun d H4 e4 hd => qR i d H4 (.row rows i ok rfl hil bad hro) (i5.trans (Ig.of ((e.trans e2).trans (e3.trans e4)))) hd
          · refine ⟨_, _, rfl, (e.trans e2).trans e3, fun j hj => ?_⟩
            rcases Nat.lt_or_ge j i with c | c
            · exact hro j c
            · rw [show j = i by omega]
              exact srt_row.mp (of_decide_eq_true (by rw [Bool.not_eq_false'] at hb; exact hb))
      · have hro2 : ∀ j, j < ts.length → RowAt ts (ro.getD (plainZ ts)) j := fun j hj => hro j (by rw [hql, lqs, rl]; exact hj)
        exact q bf rt H' (.fine ok fun rows er k hk => by
          have z := hro2 k hk
          rw [er] at z
          exact z) (i5.trans (Ig.of e)) (e _ _ hg5) (hr5.up e)
end

/-! the law's graphs: made, or refused; their fields -/
def roW (way : Int) (rows : List (List Int)) : Option (List (List Int)) := if 1 < way then some rows else none
def GZ (K : PySem.W.Frag) (C : Addr) (H : Hp) (g : Addr) (ts : Otab) (rs : List (List Int)) : Prop := ∃ dx nx bf rt, H g = some (.ins C dx (gf nx bf rt)) ∧ SqT K H nx (ts.map oV) ∧ TZ K H rt rs
theorem GZ.up {K : PySem.W.Frag} {C : Addr} {H H' : Hp} {g : Addr} {ts : Otab} {rs : List (List Int)} (e : Ex H H') (h : GZ K C H g ts rs) : GZ K C H' g ts rs := by
  obtain ⟨dx, nx, bf, rt, h1, h2, h3⟩ := h
  exact ⟨dx, nx, bf, rt, e _ _ h1, ex_t e h2, h3.up e⟩
def spWhole : Sp := fun vs H Q _ => ∃ i : Int, vs = [.int i] ∧ ∀ H2, Ex H H2 → Q (.bl true) H2
def spNumsZ (K : PySem.W.Frag) : Sp := fun vs H Q _ => ∃ (p : Addr) (ns : List Int), vs = [.ref p] ∧ SqT K H p (zvs ns) ∧ ns.length ≤ 40000 ∧ ∀ H2, Ex H H2 → Q (.bl true) H2
def spGraphX (K : PySem.W.Frag) (C CB CR : Addr) : Sp := fun vs H Q E => ∃ (ta ra : Addr) (ts : Otab) (rows : List (List Int)) (way : Int), vs = [.ref ta, .ref ra, .int way] ∧ SqL K H ta (ts.map oV) ∧ TZ K H ra rows ∧ rows.length = ts.length ∧ ts.length ≤ 1600 ∧ 0 ≤ way ∧
  (∀ (k : Nat) (d : Addr) H2, DueP ts (roW way rows) 1 k → Ex H H2 → H2 d = some (.xd [("node", iV k)]) → E (.ref CB) (some d) H2) ∧
  (∀ (k : Nat) (d : Addr) H2, DueP ts (roW way rows) 2 k → Ex H H2 → H2 d = some (.xd [("at", iV k)]) → E (.ref CR) (some d) H2) ∧
  ∀ g H2, DueP ts (roW way rows) 0 0 → Ex H H2 → GZ K C H2 g ts ((roW way rows).getD (plainZ ts)) → Q (.ref g) H2
def spFieldsZ (K : PySem.W.Frag) (C : Addr) : Sp := fun vs H Q _ => ∃ (g ta ra : Addr) (ts : Otab) (rs : List (List Int)), vs = [.ref g, .ref ta, .ref ra] ∧ GZ K C H g ts rs ∧ SqL K H ta (ts.map oV) ∧ TZ K H ra rs ∧ rs.length = ts.length ∧ (∀ (k : Nat) (l : List Int), rs[k]? = some l → l.length ≤ 40000) ∧ ts.length ≤ 1600 ∧ ∀ H2, Ex H H2 → Q (.bl true) H2
section
variable {K : PySem.W.Frag} {H : Hp}
theorem sp_whole {i : Int} : SpV spWhole [.int i] H (.bl true) := fun H1 e Q q E => ⟨i, rfl, q⟩
theorem ev_numsZ {σ : L2.St} {te : TE} {l : List Int} (h : EvH te σ H (TpV K (zvs l))) (hl : l.length ≤ 40000) : Ev (tCall (spNumsZ K) [] E0 (tCons te tNil)) σ H (.bl true) :=
  ev_callH (eaHc h (st_Tp _) eaHn) fun vs H1 e1 ⟨v, r, ev, ⟨p, ep, hp⟩, en⟩ => by
    subst ev ep en
    exact fun H2 e2 Q2 q2 E2 => ⟨p, l, rfl, ex_t e2 hp, hl, q2⟩
theorem oV_non (o : Option Int) : decide (oV o = .non) = o.isNone := by cases o <;> rfl
theorem scal_oV (o : Option Int) : scal (oV o) (oV o) = true := by cases o <;> rfl
theorem at_otab {ts : Otab} {i : Nat} {o : Option Int} (h : ts[i]? = some o) : atI (ts.map oV) (i : Int) = some (oV o) := at_map h
end
section
variable {w : World} {K : PySem.W.Frag} {mg : Str → Option Value} {base : Heap} {fa : Nat → Addr} {fd : Nat → FuncData} {cv : Nat → Value}
theorem ok_whole (T : Txt w K mg fa fd cv) : FnOk PP w K mg base CX0 34 (fa 5) (fd 5) ["value"] spWhole := by
  refine T.d_law_whole.F.ok sc_law_whole (fun vs H Q E h => ?_) (fun cdv A outer s H vs Q E hr h => ?_)
  · obtain ⟨i, rfl, _⟩ := h
    rfl
  · obtain ⟨i, rfl, q⟩ := h
    refine ⟨_, pss_one (ps_ret (pe_and (pe_callB call_isi (by rfl) T.b_isinstance (by decide +kernel) (pa_cons (pv 0) (pa_cons (pe_bltn (v := .ty "int") (by rfl) T.b_int (by decide +kernel) rfl) pa_nil))) (pe_one (pe_not (pe_callB call_isi (by rfl) T.b_isinstance (by decide +kernel) (pa_cons (pv 0) (pa_cons (pe_bltn (v := .ty "bool") (by rfl) T.b_bool (by decide +kernel) rfl) pa_nil))))))), ?_⟩
    exact s_ret (ev_andV (a := true) (b := true) (ev_isInt (ev_var rfl)) fun _ => ev_notV (a := false) (ev_isBool (ev_var rfl))) q
theorem ok_nums (T : Txt w K mg fa fd cv) : FnOk PP w K mg base CX0 35 (fa 6) (fd 6) ["value"] (spNumsZ K) := by
  have G_law_whole := ok_whole (w := w) (base := base) T
  refine T.d_law_numbers.F.ok sc_law_numbers (fun vs H Q E h => ?_) (fun cdv A outer s H vs Q E hr h => ?_)
  · obtain ⟨p, ns, rfl, _⟩ := h
    rfl
  · obtain ⟨p, ns, rfl, hp, hn, q⟩ := h
    refine ⟨_, pss_one (ps_ret (pe_and (pe_callB call_isi (by rfl) T.b_isinstance (by decide +kernel) (pa_cons (pv 0) (pa_cons (pe_bltn (v := .ty "tuple") (by rfl) T.b_tuple (by decide +kernel) rfl) pa_nil))) (pe_one (pe_callB (cr_all rfl) (by rfl) T.b_all (by decide +kernel) (pa_cons (pe_lc (own := [("part", 1)]) (g := gName 1) rfl sc_law_numbers.nd (pi_tup (pv 0)) (blkOk_by (own := [("part", 1)]) (N := N_law_numbers) (sc := defScope s_law_numbers) (by decide +kernel)) (fun _ _ _ _ _ => pg_name (i := 1) sc_law_numbers.nd rfl (Or.inl rfl)) (fun _ _ _ _ _ => pts_nil) (fun _ _ _ _ _ => (pe_call G_law_whole (by first | exact hr.mono (by decide) | exact hr.mono (by omega)) (by rfl) T.d_law_whole.g T.d_law_whole.k T.d_law_whole.b .nil pass0 (pa_cons (pv 1) pa_nil)))) pa_nil))))), ?_⟩
    refine s_ret (ev_andV (a := true) (b := true) (ev_isTup (ev_var rfl) hp) fun _ => ev_all (elH_lcT (R := fun _ v _ => v = .bl true) (evH_Tv (ev_var rfl) hp) (by rw [List.length_map]; exact hn) (fun _ => rfl) (fun i v H H' _ h => h) fun i x H1 e1 hi => ?_)) q
    rw [List.getElem?_map] at hi
    cases e : ns[i]? with
    | none => rw [e] at hi; cases hi
    | some a =>
      rw [e] at hi
      cases hi
      exact evH_of (ev_call (ea_cons (ev_var rfl) ea_nil) sp_whole) fun _ _ => rfl
theorem ok_graph (T : Txt w K mg fa fd cv) : FnOk PP w K mg base (L2.CX PP w) 40 (fa 16) (fd 16) ["table", "rows", "way"] (spGraphX K (fa 200) (fa 307) (fa 308)) := by
  have G_Graph___init__ := ok_gix (w := w) (base := base) T
  obtain ⟨ds_Graph, vd_Graph, bd_Graph⟩ := T.d_Graph___init__.b1
  obtain ⟨its, kb_Graph_1_rotation⟩ := T.d_Graph___init__.F.kbindsD (ps := ["self", "nexts", "rotation"]) 2 ["rotation"] (fun us _ ws => us ++ ws) (by simp) (fun r1 _ r3 => r1.append r3) (fun _ _ _ _ _ _ _ us its ws h1 h2 h3 => match us, its, ws, h1, h2, h3 with | [_, _], [_], [_], _, _, _ => ⟨_, rfl, rfl⟩)
  refine T.d_law_graph.F.okX sc_law_graph (fun vs H Q E h => ?_) (fun cdv A outer s H vs Q E hr h => ?_)
  · obtain ⟨ta, ra, ts, rs, way, rfl, _⟩ := h
    rfl
  · obtain ⟨ta, ra, ts, rows, way, rfl, ht, hra, hlr, hn, hw, qB, qR, q⟩ := h
    refine ⟨_, pss_cons (ps_if (pt_cmpR op_eq (pv 2) pe_int (nomark _)) (pss_one (ps_ret (pe_make T.mk_Graph G_Graph___init__ (by first | exact hr.mono (by decide) | exact hr.mono (by omega)) (by rfl) T.g_Graph bd_Graph vd_Graph (passes_call (takes_of rfl rfl rfl rfl) fun _ _ _ _ h => h) (pa_cons (pe_callTy (r := OwnG.rTupF K) (by exact OwnG.call_tupF) (by rfl) T.b_tuple (by decide +kernel) (pa_cons (pv 0) pa_nil)) pa_nil)))) (pss_nil))
      (pss_cons (ps_if (pt_cmpR op_eq (pv 2) pe_int (nomark _)) (pss_one (ps_ret (pe_makeN T.mk_Graph G_Graph___init__ (by first | exact hr.mono (by decide) | exact hr.mono (by omega)) (by rfl) T.g_Graph kb_Graph_1_rotation (passes_call (takes_of rfl rfl rfl rfl) fun _ _ _ _ h => h) (pa_cons (pe_callTy (r := OwnG.rTupF K) (by exact OwnG.call_tupF) (by rfl) T.b_tuple (by decide +kernel) (pa_cons (pv 0) pa_nil)) pa_nil) (pk_cons pe_non pk_nil)))) (pss_nil))
      (pss_one (ps_ret (pe_makeN T.mk_Graph G_Graph___init__ (by first | exact hr.mono (by decide) | exact hr.mono (by omega)) (by rfl) T.g_Graph kb_Graph_1_rotation (passes_call (takes_of rfl rfl rfl rfl) fun _ _ _ _ h => h) (pa_cons (pe_callTy (r := OwnG.rTupF K) (by exact OwnG.call_tupF) (by rfl) T.b_tuple (by decide +kernel) (pa_cons (pv 0) pa_nil)) pa_nil) (pk_cons (pv 1) pk_nil))))), ?_⟩
    have MK : ∀ (H1 : Hp) (nx : Addr) (rot : V) (x dx : Addr), Ex H H1 → H1 x = none → H1 dx = none → dx ≠ x → FzT H1 nx (ts.map oV) → ((rot = .non ∧ way ≤ 1) ∨ (rot = .ref ra ∧ 1 < way)) →
        spGIX K (fa 200) (fa 307) (fa 308) [.ref x, .ref nx, rot] (upd (upd H1 dx (.own x)) x (.ins (fa 200) dx [])) (fun v H2 => v = .non ∧ Q (.ref x) H2) E := fun H1 nx rot x dx e1 hx hdx hne hnx hrot => by
      have e2 : Ex H1 (upd (upd H1 dx (.own x)) x (.ins (fa 200) dx [])) := (Ex.new hdx).trans (Ex.new (by rw [upd_ne hne.symm]; exact hx))
      have hnx2 := (hnx.ex e2).sq (K := K)
      have hxi : (upd (upd H1 dx (.own x)) x (.ins (fa 200) dx [])) x = some (.ins (fa 200) dx []) := upd_same
      have e3 : ∀ H2, Ig x (upd (upd H1 dx (.own x)) x (.ins (fa 200) dx [])) H2 → Ex H H2 := fun H2 ig a o ha => by
        have h1 := e1 _ _ ha
        exact ig a o (e2 _ _ h1) (fun e => by rw [e, hx] at h1; cases h1)
      refine ⟨x, dx, nx, ts, rot, roW way rows, rfl, hxi, hnx2, hn, ?_, fun k d H2 du ig hd => qB k d H2 du (e3 H2 ig) hd, fun k d H2 du ig hd => qR k d H2 du (e3 H2 ig) hd, fun bf rt H2 du ig hg2 hr2 => ⟨rfl, q x H2 du (e3 H2 ig) ⟨dx, nx, bf, rt, hg2, sq_ig hnx2 hxi ig, hr2⟩⟩⟩
      rcases hrot with ⟨rfl, h3⟩ | ⟨rfl, h3⟩
      · exact .inl ⟨rfl, if_neg (by omega)⟩
      · exact .inr ⟨ra, rows, rfl, if_pos h3, hra.up (e1.trans e2), hlr⟩
    have TP : ∀ H1, Ex H H1 → EvH (tCB (rTupF K) (tCons (tVar 0) tNil)) [some (.ref ta), some (.ref ra), some (.int way)] H1 (FzV (ts.map oV)) := fun H1 e1 => evH_tupF (evH_Lv (ev_var rfl) (ex_l e1 ht))
    refine q_when (b := decide (way = 0)) (et_test (ev_op (ev_var rfl) ev_c rv_eqI)) (fun hb1 H1 e1 => ?_) fun hb1 H1 e1 => ?_
    · have w0 := of_decide_eq_true hb1
      exact TP H1 e1 H1 (Ex.refl H1) _ fun v H2 e2 ⟨nx, ev, hnx⟩ => fun x dx hx hdx hne => by
        subst ev
        exact MK H2 nx .non x dx (e1.trans e2) hx hdx hne hnx (.inl ⟨rfl, by omega⟩)
    have w0 := of_decide_eq_false hb1
    refine q_when (b := decide (way = 1)) (et_test (ev_op (ev_var rfl) ev_c rv_eqI)) (fun hb2 H2 e2 => ?_) fun hb2 H2 e2 => ?_
    · have w1 := of_decide_eq_true hb2
      exact TP H2 (e1.trans e2) H2 (Ex.refl H2) _ fun v H3 e3 ⟨nx, ev, hnx⟩ => ⟨rfl, rfl, fun x dx hx hdx hne => by
        subst ev
        exact MK H3 nx .non x dx ((e1.trans e2).trans e3) hx hdx hne hnx (.inl ⟨rfl, by omega⟩)⟩
    · have w1 := of_decide_eq_false hb2
      exact TP H2 (e1.trans e2) H2 (Ex.refl H2) _ fun v H3 e3 ⟨nx, ev, hnx⟩ => ⟨.ref ra, rfl, rfl, rfl, fun x dx hx hdx hne => by
        subst ev
        exact MK H3 nx (.ref ra) x dx ((e1.trans e2).trans e3) hx hdx hne hnx (.inr ⟨rfl, by omega⟩)⟩
theorem ok_fields (T : Txt w K mg fa fd cv) : FnOk PP w K mg base CX0 36 (fa 17) (fd 17) ["graph", "table", "rows"] (spFieldsZ K (fa 200)) := by
  have G_law_whole := ok_whole (w := w) (base := base) T
  have G_law_numbers := ok_nums (w := w) (base := base) T
  refine T.d_law_fields.F.ok sc_law_fields (fun vs H Q E h => ?_) (fun cdv A outer s H vs Q E hr h => ?_)
  · obtain ⟨g, ta, ra, ts, rs, rfl, _⟩ := h
    rfl
  · obtain ⟨g, ta, ra, ts, rs, rfl, hg, ht, hra, hlr, hsz, hn, q⟩ := h
    refine ⟨_, pss_cons (ps_if (PW.pt (pw_or (pt_not (pt_val (pe_callB call_isi (by rfl) T.b_isinstance (by decide +kernel) (pa_cons (pe_fld (pv 0) rfl) (pa_cons (pe_bltn (v := .ty "tuple") (by rfl) T.b_tuple (by decide +kernel) rfl) pa_nil))))) (pw_or1 (pt_cmpR op_ne (pe_callB call_len_seq (by rfl) T.b_len PySem.boot_len (pa_cons (pe_fld (pv 0) rfl) pa_nil)) (pe_callB call_len_seq (by rfl) T.b_len PySem.boot_len (pa_cons (pv 1) pa_nil)) (nomark _))))) (pss_one (ps_ret pe_bl)) (pss_nil))
      (pss_cons (ps_if (PW.pt (pw_or (pt_not (pt_val (pe_callB call_isi (by rfl) T.b_isinstance (by decide +kernel) (pa_cons (pe_fld (pv 0) rfl) (pa_cons (pe_bltn (v := .ty "tuple") (by rfl) T.b_tuple (by decide +kernel) rfl) pa_nil))))) (pw_or1 (pt_cmpR op_ne (pe_callB call_len_seq (by rfl) T.b_len PySem.boot_len (pa_cons (pe_fld (pv 0) rfl) pa_nil)) (pe_callB call_len_seq (by rfl) T.b_len PySem.boot_len (pa_cons (pv 2) pa_nil)) (nomark _))))) (pss_one (ps_ret pe_bl)) (pss_nil))
      (pss_cons (ps_for (by exact PassesOwn.never) rfl (pi_range1 (by rfl) T.b_range (pa_cons (pe_callB call_len_seq (by rfl) T.b_len PySem.boot_len (pa_cons (pv 1) pa_nil)) pa_nil)) (pg_name (i := 3) sc_law_fields.nd rfl (Or.inl rfl)) (pss_cons (ps_if (PW.pt (pw_or (PW.pt (pw_and (pt_cmpR op_notN (pe_ix ix_tup (pe_fld (pv 0) rfl) (pv 3) (fun _ _ => rfl)) pe_non (nomark _)) (pw_and1 (pt_not (pt_val (pe_call G_law_whole (by first | exact hr.mono (by decide) | exact hr.mono (by omega)) (by rfl) T.d_law_whole.g T.d_law_whole.k T.d_law_whole.b .nil pass0 (pa_cons (pe_ix ix_tup (pe_fld (pv 0) rfl) (pv 3) (fun _ _ => rfl)) pa_nil))))))) (pw_or1 (pt_cmpR op_ne (pe_ix ix_tup (pe_fld (pv 0) rfl) (pv 3) (fun _ _ => rfl)) (pe_ix ix_list (pv 1) (pv 3) (fun _ _ => rfl)) (nomark _))))) (pss_one (ps_ret pe_bl)) (pss_nil))
      (pss_one (ps_if (PW.pt (pw_or (pt_not (pt_val (pe_call G_law_numbers (by first | exact hr.mono (by decide) | exact hr.mono (by omega)) (by rfl) T.d_law_numbers.g T.d_law_numbers.k T.d_law_numbers.b .nil pass0 (pa_cons (pe_ix ix_tup (pe_fld (pv 0) rfl) (pv 3) (fun _ _ => rfl)) pa_nil)))) (pw_or1 (pt_cmpR (op_neD hr.units) (pe_ix ix_tup (pe_fld (pv 0) rfl) (pv 3) (fun _ _ => rfl)) (pe_ix ix_tup (pv 2) (pv 3) (fun _ _ => rfl)) (nomark _))))) (pss_one (ps_ret pe_bl)) (pss_nil)))))
      (pss_one (ps_ret pe_bl)))), ?_⟩
    obtain ⟨dx, nx, bf, rt, h1, h2, h4⟩ := hg
    have hl : (ts.map oV).length = ts.length := List.length_map _
    have FN : ∀ H1, Ex H H1 → ∀ σ : L2.St, σ[0]? = some (some (.ref g)) → Ev (tFld K (tVar 0) "nexts") σ H1 (.ref nx) := fun H1 e1 σ a => ev_fld (ev_var a) (e1 _ _ h1) T.cl_Graph T.n_Graph_nexts rfl
    have FR : ∀ H1, Ex H H1 → ∀ σ : L2.St, σ[0]? = some (some (.ref g)) → Ev (tFld K (tVar 0) "rotation") σ H1 (.ref rt) := fun H1 e1 σ a => ev_fld (ev_var a) (e1 _ _ h1) T.cl_Graph T.n_Graph_rotation rfl
    have sr : ∃ xs, SqT K H rt xs := ⟨_, h4.ex.choose_spec.1⟩
    obtain ⟨xr, hxr⟩ := sr
    refine q_when (b := false) (et_orF (et_is (et_not (et_B (ev_isTup (FN H (Ex.refl H) _ rfl) h2))) rfl) (et_test (ev_neS (ev_lenT (evH_Tv (FN H (Ex.refl H) _ rfl) h2)) (ev_lenL' (evH_Lv (ev_var rfl) ht)) rfl))) (fun hb => by cases hb) (fun _ H1 e1 => ?_)
    refine q_when (b := false) (et_orF (et_is (et_not (et_B (ev_isTup (FR H1 e1 _ rfl) (ex_t e1 hxr)))) rfl) (et_test (ev_neS (ev_lenTZ (h4.up e1) (FR H1 e1 _ rfl)) (ev_lenTZ (hra.up e1) (ev_var rfl)) rfl))) (fun hb => by cases hb) (fun _ H2 e2 => ?_)
    have e12 := e1.trans e2
    refine q_forR1 (n := (ts.length : Int)) (ea_cons (ev_is (ev_lenL' (evH_Lv (ev_var rfl) (ex_l e12 ht))) (by rw [hl])) ea_nil) ⟨by omega, by omega⟩ (fun i σ' H' => ∃ y, σ' = [some (.ref g), some (.ref ta), some (.ref ra), y] ∧ Ex H H')
      (fun H3 e3 => ⟨_, rfl, e12.trans e3⟩) (fun i σ' H' hi ⟨y, hσ, e⟩ => ?_) (fun σ' H' ⟨y, hσ, e⟩ => ?_)
    · subst hσ
      have hk : i < ts.length := by omega
      obtain ⟨o, ho⟩ : ∃ o, ts[i]? = some o := ⟨_, List.getElem?_eq_getElem hk⟩
      obtain ⟨l, hll⟩ : ∃ l, rs[i]? = some l := ⟨_, List.getElem?_eq_getElem (by rw [hlr]; exact hk)⟩
      have NK : ∀ H3, Ex H H3 → Ev (tOp (rIxT K) (tFld K (tVar 0) "nexts") (tVar 3)) [some (.ref g), some (.ref ta), some (.ref ra), some (iV i)] H3 (oV o) := fun H3 e3 => ev_op (FN H3 e3 _ rfl) (ev_var rfl) (rv_ixT (ex_t e3 h2) (at_otab ho))
      have W : EvT (tAnd (tTest (tOp (fun x y H Q => y = V.non ∧ Q (V.bl (!decide (x = V.non))) H) (tOp (rIxT K) (tFld K (tVar 0) "nexts") (tVar 3)) (tC .non))) (tNot (tB (tCall spWhole [] E0 (tCons (tOp (rIxT K) (tFld K (tVar 0) "nexts") (tVar 3)) tNil))))) [some (.ref g), some (.ref ta), some (.ref ra), some (iV i)] H' false := by
        have NK' := NK H' e
        cases o with
        | none => exact et_andF (et_is (et_test (ev_notN NK')) rfl)
        | some m => exact et_andT (et_is (et_test (ev_notN NK')) rfl) (et_is (et_not (et_B (ev_call (ea_cons NK' ea_nil) sp_whole))) rfl)
      refine q_when (b := false) (et_orF W (et_test (ev_neS (NK H' e) (ev_op (ev_var rfl) (ev_var rfl) (rv_ixL (ex_l e ht) (at_otab ho))) (scal_oV _)))) (fun hb => by cases hb) (fun _ H3 e3 => ?_)
      have e13 := e.trans e3
      have RK : EvH (tOp (rIxT K) (tFld K (tVar 0) "rotation") (tVar 3)) [some (.ref g), some (.ref ta), some (.ref ra), some (iV i)] H3 (TpV K (zvs l)) := evH_TZ (h4.up e13) (FR H3 e13 _ rfl) (ev_var rfl) hll
      exact s_when (b := false) (et_orF (et_is (et_not (et_B (ev_numsZ RK (hsz i l hll)))) rfl) (et_is (et_test (ev_neZ RK (evH_TZ (hra.up e13) (ev_var rfl) (ev_var rfl) hll))) (by rw [decide_eq_true rfl]; rfl))) (fun hb => by cases hb) (fun _ H4 e4 => ⟨_, rfl, e13.trans e4⟩)
    · subst hσ
      exact s_ret ev_c fun H3 e3 => q H3 (e.trans e3)
end

/-! the law's changes: nexts and rows of any kind -/
def spHarmedNext : Sp := fun vs H Q _ => ∃ (kind many spot raw : Int), vs = [.int kind, .int many, .int spot, .int raw] ∧ 0 ≤ kind ∧ kind < 10 ∧ ∀ (o : Option Int) H2, Ex H H2 → Q (oV o) H2
def spHarmedRow (K : PySem.W.Frag) : Sp := fun vs H Q _ => ∃ (kind k raw : Int) (rp op : Addr) (row other : List Int), vs = [.int kind, .ref rp, .ref op, .int k, .int raw] ∧ SqT K H rp (zvs row) ∧ SqT K H op (zvs other) ∧ row.length ≤ 1700 ∧ other.length ≤ 1700 ∧ 0 ≤ k ∧ k < (row.length : Int) ∧ 0 ≤ kind ∧ kind < 14 ∧ ∀ v H2, Ex H H2 → ZR K 40000 v H2 → Q v H2
def spReach : Sp := fun vs H Q _ => ∃ c : Int, vs = [.int c] ∧ ∀ (i : Int) H2, 0 ≤ i → Ex H H2 → Q (.int i) H2
def spAnyNexts (K : PySem.W.Frag) : Sp := fun vs H Q _ => ∃ (cell wide low : Int) (m : Nat), vs = [.int cell, iV m, .int wide, .int low] ∧ m ≤ 1600 ∧ 0 ≤ wide ∧ ∀ (ts : Otab) p H2, ts.length = m → H p = none → Ex H H2 → H2 p = some (.lst (ts.map oV)) → Q (.ref p) H2
def spAnyRows (K : PySem.W.Frag) : Sp := fun vs H Q _ => ∃ (ba : Addr) (cell more : Int) (ts : Tab), vs = [.ref ba, .int cell, .int more] ∧ LLf K H ba ts.length (bk ts) ∧ ts.length ≤ 1600 ∧ ∀ (rows : List (List Int)) p H2, rows.length = ts.length → Ex H H2 → TZ K H2 p rows → Q (.ref p) H2
section
variable {w : World} {K : PySem.W.Frag} {mg : Str → Option Value} {base : Heap} {fa : Nat → Addr} {fd : Nat → FuncData} {cv : Nat → Value}
theorem ok_hnext (T : Txt w K mg fa fd cv) : FnOk PP w K mg base CX0 34 (fa 18) (fd 18) ["kind", "many", "spot", "raw"] spHarmedNext := by
  refine T.d_law_harmed_next.F.ok sc_law_harmed_next (fun vs H Q E h => ?_) (fun cdv A outer s H vs Q E hr h => ?_)
  · obtain ⟨kind, many, spot, raw, rfl, _⟩ := h
    rfl
  · obtain ⟨kind, many, spot, raw, rfl, k0, k1, q⟩ := h
    refine ⟨_, pss_cons (ps_if (pt_cmpR op_eq (pv 0) pe_int (nomark _)) (pss_one (ps_ret (pe_un un_neg pe_int))) (pss_nil))
      (pss_cons (ps_if (pt_cmpR op_eq (pv 0) pe_int (nomark _)) (pss_one (ps_ret (pv 1))) (pss_nil))
      (pss_cons (ps_if (pt_cmpR op_eq (pv 0) pe_int (nomark _)) (pss_one (ps_ret (pe_op op_add (pv 1) pe_int))) (pss_nil))
      (pss_cons (ps_if (pt_cmpR op_eq (pv 0) pe_int (nomark _)) (pss_one (ps_ret (pe_op op_sub pe_int (pv 1)))) (pss_nil))
      (pss_cons (ps_if (pt_cmpR op_eq (pv 0) pe_int (nomark _)) (pss_one (ps_ret (pv 3))) (pss_nil))
      (pss_cons (ps_if (pt_cmpR op_eq (pv 0) pe_int (nomark _)) (pss_one (ps_ret (pe_op op_sub (pe_un un_neg pe_int) (pv 3)))) (pss_nil))
      (pss_cons (ps_if (pt_cmpR op_eq (pv 0) pe_int (nomark _)) (pss_one (ps_ret pe_non)) (pss_nil))
      (pss_one (ps_ret (pe_ix ix_list (pe_lst (pa_cons (pe_op op_sub (pv 1) pe_int) (pa_cons pe_int (pa_cons (pv 2) pa_nil)))) (pe_op op_sub (pv 0) pe_int) (fun _ _ => rfl)))))))))), ?_⟩
    have RT : ∀ (o : Option Int) H1 (te : TE), Ex H H1 → Ev te [some (.int kind), some (.int many), some (.int spot), some (.int raw)] H1 (oV o) → tRet te { nx := fun x H' => Q V.non H', rt := Q } [some (.int kind), some (.int many), some (.int spot), some (.int raw)] H1 := fun o H1 te e1 he => s_ret he fun H2 e2 => q o H2 (e1.trans e2)
    have TS : ∀ (z : Int) H1, EvT (tTest (tOp rEq (tVar 0) (tC (.int z)))) [some (.int kind), some (.int many), some (.int spot), some (.int raw)] H1 (decide (kind = z)) := fun z H1 => et_test (ev_op (ev_var rfl) ev_c rv_eqI)
    refine q_when (TS 0 H) (fun hb H1 e1 => RT (some (-1)) H1 _ e1 (ev_neg ev_c)) fun b0 H1 e1 => ?_
    refine q_when (TS 1 H1) (fun hb H2 e2 => RT (some many) H2 _ (e1.trans e2) (ev_var rfl)) fun b1 H2 e2 => ?_
    have e12 := e1.trans e2
    refine q_when (TS 2 H2) (fun hb H3 e3 => RT (some _) H3 _ (e12.trans e3) (ev_op (ev_var rfl) ev_c rv_I0)) fun b2 H3 e3 => ?_
    have e13 := e12.trans e3
    refine q_when (TS 3 H3) (fun hb H4 e4 => RT (some _) H4 _ (e13.trans e4) (ev_op ev_c (ev_var rfl) rv_I0)) fun b3 H4 e4 => ?_
    have e14 := e13.trans e4
    refine q_when (TS 4 H4) (fun hb H5 e5 => RT (some raw) H5 _ (e14.trans e5) (ev_var rfl)) fun b4 H5 e5 => ?_
    have e15 := e14.trans e5
    refine q_when (TS 5 H5) (fun hb H6 e6 => RT (some _) H6 _ (e15.trans e6) (ev_op (ev_neg ev_c) (ev_var rfl) rv_I0)) fun b5 H6 e6 => ?_
    have e16 := e15.trans e6
    refine q_when (TS 6 H6) (fun hb H7 e7 => RT none H7 _ (e16.trans e7) ev_c) fun b6 H7 e7 => ?_
    have e17 := e16.trans e7
    have n0 := of_decide_eq_false b0
    have n1 := of_decide_eq_false b1
    have n2 := of_decide_eq_false b2
    have n3 := of_decide_eq_false b3
    have n4 := of_decide_eq_false b4
    have n5 := of_decide_eq_false b5
    have n6 := of_decide_eq_false b6
    refine evS_ix (S := IsZ) (xs := [.int (many - 1), .int 0, .int spot]) (el_lst (ea_cons (ev_op (ev_var rfl) ev_c rv_I0) (ea_cons ev_c (ea_cons (ev_var rfl) ea_nil))) (by show 3 ≤ 100000; decide)) (ev_op (ev_var rfl) ev_c rv_I0) (by omega) (by show kind - 7 < 3; omega) (fun x hx => ?_) H7 (Ex.refl H7) _ fun v H8 ⟨i, ev⟩ e8 => ?_
    · simp only [List.mem_cons, List.not_mem_nil, or_false] at hx
      rcases hx with rfl | rfl | rfl <;> exact ⟨_, rfl⟩
    · subst ev
      exact q (some i) H8 (e17.trans e8)
theorem ok_hrow (T : Txt w K mg fa fd cv) : FnOk PP w K mg base CX0 34 (fa 19) (fd 19) ["kind", "row", "other", "k", "raw"] (spHarmedRow K) := by
  refine T.d_law_harmed_row.F.ok sc_law_harmed_row (fun vs H Q E h => ?_) (fun cdv A outer s H vs Q E hr h => ?_)
  · obtain ⟨kind, k, raw, rp, op, row, other, rfl, _⟩ := h
    rfl
  · obtain ⟨kind, k, raw, rp, op, row, other, rfl, hrp, hop, lr, lo, k0, k1, d0, d1, q⟩ := h
    refine ⟨_, pss_cons (ps_if (pt_cmpR op_eq (pv 0) pe_int (nomark _)) (pss_one (ps_ret (pe_op op_catA (pe_slice sl_tupA (pv 1) po_none (po_some (pv 3))) (pe_slice sl_tupA (pv 1) (po_some (pe_op op_add (pv 3) pe_int)) po_none)))) (pss_nil))
      (pss_cons (ps_if (pt_cmpR op_eq (pv 0) pe_int (nomark _)) (pss_one (ps_ret (pe_op op_catA (pe_op op_catA (pe_slice sl_tupA (pv 1) po_none (po_some (pv 3))) (pe_tup (pa_cons (pe_ix ix_tup (pv 1) (pv 3) (fun _ _ => rfl)) pa_nil))) (pe_slice sl_tupA (pv 1) (po_some (pv 3)) po_none)))) (pss_nil))
      (pss_cons (ps_if (pt_cmpR op_eq (pv 0) pe_int (nomark _)) (pss_one (ps_ret (pe_op op_catA (pv 1) (pe_tup (pa_cons (pe_callB call_len_seq (by rfl) T.b_len PySem.boot_len (pa_cons (pv 1) pa_nil)) pa_nil))))) (pss_nil))
      (pss_cons (ps_if (pt_cmpR op_eq (pv 0) pe_int (nomark _)) (pss_one (ps_ret (pe_tup pa_nil))) (pss_nil))
      (pss_cons (ps_if (pt_cmpR op_eq (pv 0) pe_int (nomark _)) (pss_one (ps_ret (pe_callTy (r := OwnG.rTupF K) (by exact OwnG.call_tupF) (by rfl) T.b_tuple (by decide +kernel) (pa_cons (pe_lc (own := [("tip", 6)]) (g := gName 6) rfl sc_law_harmed_row.nd (pi_tup (pv 1)) (blkOk_by (own := [("tip", 6)]) (N := N_law_harmed_row) (sc := defScope s_law_harmed_row) (by decide +kernel)) (fun _ _ _ _ _ => pg_name (i := 6) sc_law_harmed_row.nd rfl (Or.inl rfl)) (fun _ _ _ _ _ => pts_nil) (fun _ _ _ _ _ => (pe_op op_add (pv 6) pe_int))) pa_nil)))) (pss_nil))
      (pss_cons (ps_if (pt_cmpR op_eq (pv 0) pe_int (nomark _)) (pss_one (ps_ret (pv 2))) (pss_nil))
      (pss_cons (ps_if (pt_cmpR op_eq (pv 0) pe_int (nomark _)) (pss_one (ps_ret (OwnG.pe_revT (pv 1)))) (pss_nil))
      (pss_cons (ps_if (pt_cmpR op_eq (pv 0) pe_int (nomark _)) (pss_one (ps_ret (pe_op op_catA (pe_slice sl_tupA (pv 1) (po_some (pv 3)) po_none) (pe_slice sl_tupA (pv 1) po_none (po_some (pv 3)))))) (pss_nil))
      (pss_cons (ps_set (i := 5) sc_law_harmed_row.nd rfl (Or.inl rfl) (pe_ix ix_list (pe_lst (pa_cons (pe_ix ix_tup (pv 1) (pe_op op_mod (pe_op op_add (pv 3) pe_int) (pe_callB call_len_seq (by rfl) T.b_len PySem.boot_len (pa_cons (pv 1) pa_nil))) (fun _ _ => rfl)) (pa_cons (pe_callB call_len_seq (by rfl) T.b_len PySem.boot_len (pa_cons (pv 1) pa_nil)) (pa_cons (pe_un un_neg pe_int) (pa_cons (pe_op op_sub (pe_ix ix_tup (pv 1) (pv 3) (fun _ _ => rfl)) (pe_callB call_len_seq (by rfl) T.b_len PySem.boot_len (pa_cons (pv 1) pa_nil))) (pa_cons (pe_op op_add (pe_ix ix_tup (pv 1) (pv 3) (fun _ _ => rfl)) (pe_callB call_len_seq (by rfl) T.b_len PySem.boot_len (pa_cons (pv 1) pa_nil))) (pa_cons (pv 4) pa_nil))))))) (pe_op op_sub (pv 0) pe_int) (fun _ _ => rfl)))
      (pss_one (ps_ret (pe_op op_catA (pe_op op_catA (pe_slice sl_tupA (pv 1) po_none (po_some (pv 3))) (pe_tup (pa_cons (pv 5) pa_nil))) (pe_slice sl_tupA (pv 1) (po_some (pe_op op_add (pv 3) pe_int)) po_none)))))))))))), ?_⟩
    have hl : (zvs row).length = row.length := List.length_map _
    have RT : ∀ (n : Nat) H1 (te : TE) (y5 : Option V), Ex H H1 → n ≤ 40000 → EvH te [some (.int kind), some (.ref rp), some (.ref op), some (.int k), some (.int raw), y5, none] H1 (ZR K n) → tRet te { nx := fun x H' => Q V.non H', rt := Q } [some (.int kind), some (.ref rp), some (.ref op), some (.int k), some (.int raw), y5, none] H1 := fun n H1 te y5 e1 hn he => s_retH he fun v H2 e2 hv => q v H2 (e1.trans e2) (hv.le hn)
    have TS : ∀ (z : Int) H1, EvT (tTest (tOp rEq (tVar 0) (tC (.int z)))) [some (.int kind), some (.ref rp), some (.ref op), some (.int k), some (.int raw), none, none] H1 (decide (kind = z)) := fun z H1 => et_test (ev_op (ev_var rfl) ev_c rv_eqI)
    have RW : ∀ H1 (y5 : Option V), Ex H H1 → EvH (tVar 1) [some (.int kind), some (.ref rp), some (.ref op), some (.int k), some (.int raw), y5, none] H1 (ZR K 1700) := fun H1 y5 e1 => evZ_v (ev_var rfl) (ex_t e1 hrp) lr
    have LN : ∀ H1 (y5 : Option V), Ex H H1 → Ev (tCB (fun xs H Q => ∃ p ys, xs = [V.ref p] ∧ (SqL K H p ys ∨ SqT K H p ys) ∧ Q (.int ys.length) H) (tCons (tVar 1) tNil)) [some (.int kind), some (.ref rp), some (.ref op), some (.int k), some (.int raw), y5, none] H1 (iV row.length) := fun H1 y5 e1 => ev_is (ev_lenT (evH_Tv (ev_var rfl) (ex_t e1 hrp))) (by rw [hl])
    obtain ⟨kn, rfl⟩ : ∃ kn : Nat, k = (kn : Int) := ⟨k.toNat, by omega⟩
    have hkn : kn < row.length := by omega
    obtain ⟨x, hx⟩ : ∃ x, row[kn]? = some x := ⟨_, List.getElem?_eq_getElem hkn⟩
    have IX : ∀ H1 (y5 : Option V), Ex H H1 → Ev (tOp (rIxT K) (tVar 1) (tVar 3)) [some (.int kind), some (.ref rp), some (.ref op), some (iV kn), some (.int raw), y5, none] H1 (.int x) := fun H1 y5 e1 => ev_op (ev_var rfl) (ev_var rfl) (rv_ixT (ex_t e1 hrp) (at_map hx))
    refine q_when (TS 0 H) (fun hb H1 e1 => RT 3400 H1 _ _ e1 (by decide) (evZ_cat (evZ_sl (RW H1 _ e1) eo_none (eo_some (ev_var rfl))) (evZ_sl (RW H1 _ e1) (eo_some (ev_op (ev_var rfl) ev_c rv_I0)) eo_none) (by decide))) fun b0 H1 e1 => ?_
    refine q_when (TS 1 H1) (fun hb H2 e2 => RT 3401 H2 _ _ (e1.trans e2) (by decide) (evZ_cat (n := 1701) (evZ_cat (evZ_sl (RW H2 _ (e1.trans e2)) eo_none (eo_some (ev_var rfl))) (evZ_one (evS_of (IX H2 _ (e1.trans e2)) ⟨x, rfl⟩)) (by decide)) (evZ_sl (RW H2 _ (e1.trans e2)) (eo_some (ev_var rfl)) eo_none) (by decide))) fun b1 H2 e2 => ?_
    have e12 := e1.trans e2
    refine q_when (TS 2 H2) (fun hb H3 e3 => RT 1701 H3 _ _ (e12.trans e3) (by decide) (evZ_cat (RW H3 _ (e12.trans e3)) (evZ_one (evS_of (LN H3 _ (e12.trans e3)) ⟨_, rfl⟩)) (by decide))) fun b2 H3 e3 => ?_
    have e13 := e12.trans e3
    refine q_when (TS 3 H3) (fun hb H4 e4 => RT 0 H4 _ _ (e13.trans e4) (by decide) evZ_nil) fun b3 H4 e4 => ?_
    have e14 := e13.trans e4
    refine q_when (TS 4 H4) (fun hb H5 e5 => RT row.length H5 _ _ (e14.trans e5) (by omega) (evZ_tup (by
      have L := elH_lcT (K := K) (tl := tVar 1) (te := tOp (rI0 fun i j => V.int (i + j)) (tVar 6) (tC (V.int 1))) (j := 6) (vs := [6]) (σ := [some (.int kind), some (.ref rp), some (.ref op), some (iV kn), some (.int raw), none, none]) (H := H5) (R := fun _ v _ => IsZ v) (evH_Tv (ev_var rfl) (ex_t (e14.trans e5) hrp)) (by rw [hl]; omega) (fun _ => rfl) (fun i v H H' k h => h) fun i y H6 e6 hi => by
        rw [List.getElem?_map] at hi
        cases e : row[i]? with
        | none => rw [e] at hi; cases hi
        | some z =>
          rw [e] at hi
          cases hi
          exact evH_of (ev_op (ev_var rfl) ev_c rv_I0) fun _ _ => ⟨_, rfl⟩
      rw [hl] at L
      exact L))) fun b4 H5 e5 => ?_
    have e15 := e14.trans e5
    refine q_when (TS 5 H5) (fun hb H6 e6 => RT 1700 H6 _ _ (e15.trans e6) (by decide) (evZ_v (ev_var rfl) (ex_t (e15.trans e6) hop) lo)) fun b5 H6 e6 => ?_
    have e16 := e15.trans e6
    refine q_when (TS 6 H6) (fun hb H7 e7 => RT 1700 H7 _ _ (e16.trans e7) (by decide) (evZ_rev (RW H7 _ (e16.trans e7)))) fun b6 H7 e7 => ?_
    have e17 := e16.trans e7
    refine q_when (TS 7 H7) (fun hb H8 e8 => RT 3400 H8 _ _ (e17.trans e8) (by decide) (evZ_cat (evZ_sl (RW H8 _ (e17.trans e8)) (eo_some (ev_var rfl)) eo_none) (evZ_sl (RW H8 _ (e17.trans e8)) eo_none (eo_some (ev_var rfl))) (by decide))) fun b7 H8 e8 => ?_
    have e18 := e17.trans e8
    have n0 := of_decide_eq_false b0
    have n1 := of_decide_eq_false b1
    have n2 := of_decide_eq_false b2
    have n3 := of_decide_eq_false b3
    have n4 := of_decide_eq_false b4
    have n5 := of_decide_eq_false b5
    have n6 := of_decide_eq_false b6
    have n7 := of_decide_eq_false b7
    have hm := Nat.mod_lt (kn + 1) (show 0 < row.length by omega)
    obtain ⟨y, hy⟩ : ∃ y, row[(kn + 1) % row.length]? = some y := ⟨_, List.getElem?_eq_getElem hm⟩
    refine (evS_ix (S := IsZ) (xs := [.int y, iV row.length, .int (-1), .int (x - row.length), .int (x + row.length), .int raw]) (el_lst (ea_cons (ev_op (ev_var rfl) (ev_is (ev_op (ev_op (ev_var rfl) ev_c rv_I0) (LN H8 _ e18) (rv_I (by omega))) (by show V.int (((kn : Int) + 1) % (row.length : Int)) = V.int (((kn + 1) % row.length : Nat) : Int); rw [Int.natCast_emod]; rfl)) (rv_ixT (ex_t e18 hrp) (at_map hy))) (ea_cons (LN H8 _ e18) (ea_cons (ev_neg ev_c) (ea_cons (ev_op (IX H8 _ e18) (LN H8 _ e18) rv_I0) (ea_cons (ev_op (IX H8 _ e18) (LN H8 _ e18) rv_I0) (ea_cons (ev_var rfl) ea_nil)))))) (by show 6 ≤ 100000; decide)) (ev_op (ev_var rfl) ev_c rv_I0) (by omega) (by show kind - 8 < 6; omega) (fun x hx => ?_) : EvS _ _ H8 IsZ) H8 (Ex.refl H8) _ fun v H9 ⟨i, ev⟩ e9 => ?_
    · simp only [List.mem_cons, List.not_mem_nil, or_false] at hx
      rcases hx with rfl | rfl | rfl | rfl | rfl | rfl <;> exact ⟨_, rfl⟩
    · subst ev
      have e19 := e18.trans e9
      exact RT 3401 H9 _ (some (.int i)) e19 (by decide) (evZ_cat (n := 1701) (evZ_cat (evZ_sl (RW H9 _ e19) eo_none (eo_some (ev_var rfl))) (evZ_one (evS_of (ev_var rfl) ⟨i, rfl⟩)) (by decide)) (evZ_sl (RW H9 _ e19) (eo_some (ev_op (ev_var rfl) ev_c rv_I0)) eo_none) (by decide))
theorem ok_reach (T : Txt w K mg fa fd cv) : FnOk PP w K mg base CX0 34 (fa 20) (fd 20) ["cell"] spReach := by
  refine T.d_law_reach.F.ok sc_law_reach (fun vs H Q E h => ?_) (fun cdv A outer s H vs Q E hr h => ?_)
  · obtain ⟨c, rfl, _⟩ := h
    rfl
  · obtain ⟨c, rfl, q⟩ := h
    refine ⟨_, pss_cons (ps_if (pt_cmpR op_ge (pv 0) (pe_op op_pow pe_int pe_int) (nomark _)) (pss_one (ps_ret (pe_op op_sub (pv 0) (pe_op op_pow pe_int pe_int)))) (pss_nil))
      (pss_one (ps_ret (pe_op op_mod (pe_callTy call_int1 (by rfl) T.b_int PyProof.Rows.boot_int (pa_cons (pv 0) pa_nil)) pe_int))), ?_⟩
    refine q_when (b := decide ((10 : Int) ^ 18 ≤ c)) ?_ (fun hb H1 e1 => ?_) (fun hb H1 e1 => ?_)
    · walk_at "ev"
    · have g := of_decide_eq_true hb
      refine s_ret (v := .int (c - (10 : Int) ^ 18)) ?_ fun H2 e2 => q _ H2 (by omega) (e1.trans e2)
      walk_at "ev"
    · refine s_ret (v := .int (c % 4)) ?_ fun H2 e2 => q _ H2 (Int.emod_nonneg _ (by decide)) (e1.trans e2)
      walk_at "ev"
theorem ok_anexts (T : Txt w K mg fa fd cv) : FnOk PP w K mg base CX0 35 (fa 21) (fd 21) ["cell", "many", "wide", "low"] (spAnyNexts K) := by
  have G_law_digits := ok_digits (w := w) (base := base) T
  refine T.d_law_any_nexts.F.ok sc_law_any_nexts (fun vs H Q E h => ?_) (fun cdv A outer s H vs Q E hr h => ?_)
  · obtain ⟨cell, wide, low, m, rfl, _⟩ := h
    rfl
  · obtain ⟨cell, wide, low, m, rfl, hm, hw, q⟩ := h
    refine ⟨_, pss_one (ps_ret (pe_lc (own := [("digit", 4)]) (g := gName 4) rfl sc_law_any_nexts.nd (pi_list (pe_call G_law_digits (by first | exact hr.mono (by decide) | exact hr.mono (by omega)) (by rfl) T.d_law_digits.g T.d_law_digits.k T.d_law_digits.b .nil pass0 (pa_cons (pv 0) (pa_cons (pe_op op_rep (pe_lst (pa_cons (pe_op op_add (pv 2) pe_int) pa_nil)) (pv 1)) pa_nil)))) (blkOk_by (own := [("digit", 4)]) (N := N_law_any_nexts) (sc := defScope s_law_any_nexts) (by decide +kernel)) (fun _ _ _ _ _ => pg_name (i := 4) sc_law_any_nexts.nd rfl (Or.inl rfl)) (fun _ _ _ _ _ => pts_nil) (fun _ _ _ _ _ => (pe_ix (r := rIxL K) (by exact ix_list) (pe_lst (pa_cons (pe_op op_sub (pv 4) (pv 3)) (pa_cons pe_non pa_nil))) (pe_callTy call_int1 (by rfl) T.b_int PyProof.Rows.boot_int (pa_cons (pe_cmpR (r := rEq) (by exact op_eq) (pv 4) (pv 2) (by exact nomark _)) pa_nil)) (fun _ _ => rfl))))), ?_⟩
    have RP : EvL (tOp rRep (tLst (tCons (tOp (rI0 fun i j => V.int (i + j)) (tVar 2) (tC (V.int 1))) tNil)) (tVar 1)) [some (.int cell), some (iV m), some (.int wide), some (.int low), none] H (zvs (List.replicate m (wide + 1))) := by
      have z := el_rep (σ := [some (.int cell), some (iV m), some (.int wide), some (.int low), none]) (H := H) (ta := tLst (tCons (tOp (rI0 fun i j => V.int (i + j)) (tVar 2) (tC (V.int 1))) tNil)) (tb := tVar 1) (xs := [.int (wide + 1)]) (k := (m : Int)) (el_lst (ea_cons (ev_op (ev_var rfl) ev_c rv_I0) ea_nil) (by show 1 ≤ 100000; decide)) (ev_var rfl) (by omega) (by omega) (by show 1 * (m : Int).toNat ≤ 100000; omega)
      have e : (List.replicate (m : Int).toNat [V.int (wide + 1)]).flatten = zvs (List.replicate m (wide + 1)) := by
        rw [Int.toNat_natCast, zvs, List.map_replicate]
        clear z q hm
        induction m with
        | zero => rfl
        | succ m ih => rw [List.replicate_succ, List.flatten_cons, ih, List.replicate_succ]; rfl
      rw [e] at z
      exact z
    have DG : EvLS (tCall (spDigits K) [] E0 (tCons (tVar 0) (tCons (tOp rRep (tLst (tCons (tOp (rI0 fun i j => V.int (i + j)) (tVar 2) (tC (V.int 1))) tNil)) (tVar 1)) tNil))) [some (.int cell), some (iV m), some (.int wide), some (.int low), none] H (DigR (List.replicate m (wide + 1))) :=
      elS_call (P := fun vs H1 => ∃ p : Addr, vs = [.int cell, .ref p] ∧ H1 p = some (.lst (zvs (List.replicate m (wide + 1))))) (fun H1 e1 Q1 q1 => (ev_var (v := .int cell) rfl : Ev (tVar 0) [some (.int cell), some (iV m), some (.int wide), some (.int low), none] H _) H1 e1 _ fun H2 e2 => RP H2 (e1.trans e2) _ fun p H3 hp e3 h3 => q1 _ H3 ⟨p, rfl, h3⟩ (e2.trans e3)) fun vs H1 e1 ⟨p, ev, hp⟩ => by
        subst ev
        exact sp_digitsW (sq_of hp) (by rw [List.length_replicate]; omega) fun x hx => by
          rw [(List.mem_replicate.mp hx).2]
          omega
    refine (elH_lcLS (n := m) (R := fun _ v _ => ∃ o, v = oV o) DG (fun xs ⟨rs, ex, lr, _⟩ => by rw [ex, List.length_map, lr, List.length_replicate]) (by omega) (fun _ => rfl) (fun i v H H' k h => h) fun xs i x H1 ⟨rs, ex, lr, _⟩ e1 hi => ?_) H (Ex.refl H) _ fun xs p H2 hp e2 h2 hn hr => ?_
    · subst ex
      rw [List.getElem?_map] at hi
      cases e : rs[i]? with
      | none => rw [e] at hi; cases hi
      | some z =>
        rw [e] at hi
        cases hi
        have IB : Ev (tCB (fun xs H Q => (∃ i, xs = [V.int i] ∧ Q (V.int i) H) ∨ ∃ k, xs = [V.bl k] ∧ Q (V.int (if k = true then 1 else 0)) H) (tCons (tOp rEq (tVar 4) (tVar 2)) tNil)) [some (.int cell), some (iV m), some (.int wide), some (.int low), some (.int z)] H1 (.int (if decide (z = wide) = true then 1 else 0)) := ev_cb (ea_cons (ev_op (ev_var rfl) (ev_var rfl) rv_eqI) ea_nil) (fun H2 e2 Q2 q2 => .inr ⟨_, rfl, q2 H2 (Ex.refl H2)⟩)
        have LL : EvL (tLst (tCons (tOp (rI0 fun i j => V.int (i - j)) (tVar 4) (tVar 3)) (tCons (tC V.non) tNil))) [some (.int cell), some (iV m), some (.int wide), some (.int low), some (.int z)] H1 [.int (z - low), .non] := el_lst (ea_cons (ev_op (ev_var rfl) (ev_var rfl) rv_I0) (ea_cons ev_c ea_nil)) (by show 2 ≤ 100000; decide)
        by_cases hz : z = wide
        · rw [decide_eq_true hz] at IB
          exact evH_of (ev_ixLS LL IB (atI_nat (j := 1) rfl)) fun _ _ => ⟨none, rfl⟩
        · rw [decide_eq_false hz] at IB
          exact evH_of (ev_ixLS LL IB (atI_nat (j := 0) rfl)) fun _ _ => ⟨some (z - low), rfl⟩
    · obtain ⟨ts, rfl⟩ := all_oV (xs := xs) fun x hx => by
        obtain ⟨i, hi⟩ := List.mem_iff_getElem?.mp hx
        exact hr i x hi
      exact q ts p H2 (by rw [List.length_map] at hn; exact hn) hp e2 h2
theorem ok_arows (T : Txt w K mg fa fd cv) : FnOk PP w K mg base CX0 35 (fa 22) (fd 22) ["back", "cell", "more"] (spAnyRows K) := by
  have G_law_digits := ok_digits (w := w) (base := base) T
  refine T.d_law_any_rows.F.ok sc_law_any_rows (fun vs H Q E h => ?_) (fun cdv A outer s H vs Q E hr h => ?_)
  · obtain ⟨ba, cell, more, ts, rfl, _⟩ := h
    rfl
  · obtain ⟨ba, cell, more, ts, rfl, hb, hn, q⟩ := h
    refine ⟨_, pss_cons (ps_set (i := 3) sc_law_any_rows.nd rfl (Or.inl rfl) (pe_call G_law_digits (by first | exact hr.mono (by decide) | exact hr.mono (by omega)) (by rfl) T.d_law_digits.g T.d_law_digits.k T.d_law_digits.b .nil pass0 (pa_cons (pv 1) (pa_cons (pe_lc (own := [("near", 11)]) (g := gName 11) rfl sc_law_any_rows.nd (pi_list (pv 0)) (blkOk_by (own := [("near", 11)]) (N := N_law_any_rows) (sc := defScope s_law_any_rows) (by decide +kernel)) (fun _ _ _ _ _ => pg_name (i := 11) sc_law_any_rows.nd rfl (Or.inl rfl)) (fun _ _ _ _ _ => pts_nil) (fun _ _ _ _ _ => (pe_op op_add (pe_callB (r := rLenS K) (by exact call_len_seq) (by rfl) T.b_len PySem.boot_len (pa_cons (pv 11) pa_nil)) pe_int))) pa_nil))))
      (pss_cons (ps_set (i := 4) sc_law_any_rows.nd rfl (Or.inl rfl) (pe_lst pa_nil))
      (pss_cons (ps_for (by exact PassesOwn.never) rfl (pi_range1 (by rfl) T.b_range (pa_cons (pe_callB call_len_seq (by rfl) T.b_len PySem.boot_len (pa_cons (pv 0) pa_nil)) pa_nil)) (pg_name (i := 5) sc_law_any_rows.nd rfl (Or.inl rfl)) (pss_one (ps_for (by exact PassesOwn.never) rfl (pi_range1 (by rfl) T.b_range (pa_cons (pe_ix ix_list (pv 3) (pv 5) (fun _ _ => rfl)) pa_nil)) (pg_name (i := 6) sc_law_any_rows.nd rfl (Or.inl rfl)) (pss_one (ps_expr (pe_bm PySem.F.plainAttrs_list PySem.F.slot_list_append PySem.F.type_list_append mt_append (pv 4) (pa_cons (pe_op op_add (pe_callB call_len_seq (by rfl) T.b_len PySem.boot_len (pa_cons (pe_ix ix_list (pv 0) (pv 5) (fun _ _ => rfl)) pa_nil)) pe_int) pa_nil)))))))
      (pss_cons (ps_set (i := 7) sc_law_any_rows.nd rfl (Or.inl rfl) (pe_call G_law_digits (by first | exact hr.mono (by decide) | exact hr.mono (by omega)) (by rfl) T.d_law_digits.g T.d_law_digits.k T.d_law_digits.b .nil pass0 (pa_cons (pv 2) (pa_cons (pv 4) pa_nil))))
      (pss_cons (ps_set (i := 8) sc_law_any_rows.nd rfl (Or.inl rfl) (pe_lst pa_nil))
      (pss_cons (ps_set (i := 9) sc_law_any_rows.nd rfl (Or.inl rfl) pe_int)
      (pss_cons (ps_for (by exact PassesOwn.never) rfl (pi_list (pv 3)) (pg_name (i := 10) sc_law_any_rows.nd rfl (Or.inl rfl)) (pss_cons (ps_expr (pe_bm PySem.F.plainAttrs_list PySem.F.slot_list_append PySem.F.type_list_append mt_append (pv 8) (pa_cons (pe_callTy (r := OwnG.rTupF K) (by exact OwnG.call_tupF) (by rfl) T.b_tuple (by decide +kernel) (pa_cons (pe_lc (own := [("digit", 12)]) (g := gName 12) rfl sc_law_any_rows.nd (pi_list (pe_slice sl_list (pv 7) (po_some (pv 9)) (po_some (pe_op op_add (pv 9) (pv 10))))) (blkOk_by (own := [("digit", 12)]) (N := N_law_any_rows) (sc := defScope s_law_any_rows) (by decide +kernel)) (fun _ _ _ _ _ => pg_name (i := 12) sc_law_any_rows.nd rfl (Or.inl rfl)) (fun _ _ _ _ _ => pts_nil) (fun _ _ _ _ _ => (pe_op op_sub (pv 12) pe_int))) pa_nil)) pa_nil)))
      (pss_one (ps_set (i := 9) sc_law_any_rows.nd rfl (Or.inl rfl) (pe_op op_add (pv 9) (pv 10))))))
      (pss_one (ps_ret (pe_callTy (r := OwnG.rTupF K) (by exact OwnG.call_tupF) (by rfl) T.b_tuple (by decide +kernel) (pa_cons (pv 8) pa_nil)))))))))), ?_⟩
    obtain ⟨ps, hps, lps, hpa⟩ := hb.ex
    have hpl : (ps.map V.ref).length = ts.length := by rw [List.length_map, lps]
    have LB : ∀ (i j : Nat) (a : Addr) H1 (σ : L2.St), Ex H H1 → ps[i]? = some a → σ[j]? = some (some (.ref a)) → Ev (tCB (rLenS K) (tCons (tVar j) tNil)) σ H1 (iV (bk ts i).length) := fun i j a H1 σ e1 ha hj => ev_is (ev_lenL' (evH_Lv (ev_var hj) (ex_l e1 (hpa i a ha)))) (by rw [List.length_map])
    -- lengths
    have L0 : EvLH (tLc (iList K (tVar 0)) (gName 11) tYes (tOp (rI0 fun i j => V.int (i + j)) (tCB (rLenS K) (tCons (tVar 11) tNil)) (tC (V.int 4))) [11]) (L2.start ["back", "cell", "more", "lengths", "sizes", "k", "place", "digits", "rows", "done", "length", "near", "digit"] [.ref ba, .int cell, .int more]) H (ps.map V.ref).length (fun i v _ => v = iV ((bk ts i).length + 4)) := elH_lcL (ev_var rfl) hps (by rw [hpl]; omega) (fun _ => rfl) (fun i v H H' _ h => h) fun i x H1 e1 hi => by
      rw [List.getElem?_map] at hi
      cases e : ps[i]? with
      | none => rw [e] at hi; cases hi
      | some a =>
        rw [e] at hi
        cases hi
        exact evH_of (ev_op (LB i 11 a H1 _ e1 e rfl) ev_c rv_I0) fun _ _ => rfl
    have DG : EvLS (tCall (spDigits K) [] E0 (tCons (tVar 1) (tCons (tLc (iList K (tVar 0)) (gName 11) tYes (tOp (rI0 fun i j => V.int (i + j)) (tCB (rLenS K) (tCons (tVar 11) tNil)) (tC (V.int 4))) [11]) tNil))) (L2.start ["back", "cell", "more", "lengths", "sizes", "k", "place", "digits", "rows", "done", "length", "near", "digit"] [.ref ba, .int cell, .int more]) H (DigR ((List.range ts.length).map fun i => (((bk ts i).length + 4 : Nat) : Int))) :=
      elS_call (P := fun vs H1 => ∃ p : Addr, vs = [.int cell, .ref p] ∧ H1 p = some (.lst (zvs ((List.range ts.length).map fun i => (((bk ts i).length + 4 : Nat) : Int))))) (fun H1 e1 Q1 q1 => (ev_var (v := .int cell) rfl : Ev (tVar 1) (L2.start ["back", "cell", "more", "lengths", "sizes", "k", "place", "digits", "rows", "done", "length", "near", "digit"] [.ref ba, .int cell, .int more]) H _) H1 e1 _ fun H2 e2 => L0 H2 (e1.trans e2) _ fun xs p H3 hp e3 h3 hlx hrx => q1 _ H3 ⟨p, rfl, by
        have ex : xs = zvs ((List.range ts.length).map fun i => (((bk ts i).length + 4 : Nat) : Int)) := by
          refine List.ext_getElem (by rw [hlx, hpl]; simp [zvs]) fun i a b => ?_
          have := hrx i _ (List.getElem?_eq_getElem a)
          rw [this]
          simp [zvs]
        rw [← ex]
        exact h3⟩ (e2.trans e3)) fun vs H1 e1 ⟨p, ev, hp⟩ => by
        subst ev
        exact sp_digitsW (sq_of hp) (by simp; omega) fun x hx => by
          obtain ⟨i, _, rfl⟩ := List.mem_map.mp hx
          omega
    refine q_asgLS DG fun xs le H1 ⟨rs, ers, lrs, brs⟩ nle e1 hle => ?_
    subst ers
    have lrs' : rs.length = ts.length := by rw [lrs, List.length_map, List.length_range]
    have brs' : ∀ i, i < ts.length → 0 ≤ rs.getD i 0 ∧ rs.getD i 0 < ((bk ts i).length + 4 : Nat) := fun i hi => brs i _ (by rw [List.getElem?_map, List.getElem?_range hi]; rfl)
    refine q_asgL (xs := []) (el_lst ea_nil (by decide)) fun z H2 nz e2 hz => ?_
    have e12 := e1.trans e2
    have nzH : H1 z = none := nz
    have nzH0 : H z = none := fresh_back e1 nz
    refine q_forR1 (n := (ts.length : Int)) (ea_cons (ev_is (ev_lenL' (evH_Lv (ev_var rfl) (ex_l e12 hps))) (by rw [hpl])) ea_nil) ⟨by omega, by omega⟩ (fun i σ' H' => ∃ (y5 y6 : Option V) (xs : List Int), σ' = [some (.ref ba), some (.int cell), some (.int more), some (.ref le), some (.ref z), y5, y6, none, none, none, none, none, none] ∧ Ex H1 H' ∧ H' z = some (.lst (zvs xs)) ∧ xs.length ≤ fing ts i + 2 * i ∧ ∀ x ∈ xs, 0 < x)
      (fun H3 e3 => ⟨_, _, [], rfl, e2.trans e3, e3 _ _ hz, Nat.zero_le _, fun x hx => by cases hx⟩) (fun i σ' H' hi ⟨y5, y6, xs, hσ, e, hz, lz, bz⟩ => ?_) (fun σ' H' ⟨y5, y6, xs, hσ, e, hz, lz, bz⟩ => ?_)
    · subst hσ
      have hil : i < ts.length := by omega
      obtain ⟨r0, r1⟩ := brs' i hil
      have hrs : rs[i]? = some (rs.getD i 0) := by rw [List.getD_eq_getElem?_getD, List.getElem?_eq_getElem (by omega)]; rfl
      obtain ⟨a, ha⟩ : ∃ a, ps[i]? = some a := ⟨_, List.getElem?_eq_getElem (by omega)⟩
      have hfs := fing_succ ts i
      have hfl := fing_le ts i
      have hbl := bk_len ts i
      refine s_forR1 (n := rs.getD i 0) (ea_cons (ev_op (ev_var rfl) (ev_var rfl) (rv_ixL (sq_of (e _ _ hle)) (at_map hrs))) ea_nil) ⟨by omega, by omega⟩ (fun j σ' H' => ∃ (y6 : Option V) (xs : List Int), σ' = [some (.ref ba), some (.int cell), some (.int more), some (.ref le), some (.ref z), some (iV i), y6, none, none, none, none, none, none] ∧ Ex H1 H' ∧ H' z = some (.lst (zvs xs)) ∧ xs.length ≤ fing ts i + 2 * i + j ∧ ∀ x ∈ xs, 0 < x)
        (fun H3 e3 => ⟨_, xs, rfl, e.trans e3, e3 _ _ hz, lz, bz⟩) (fun j σ2 H4 hj ⟨y6, xs, hσ, e, hz, lz, bz⟩ => ?_) (fun σ2 H4 ⟨y6, xs, hσ, e, hz, lz, bz⟩ => ?_)
      · subst hσ
        have BL : Ev (tCB (fun xs H Q => ∃ p ys, xs = [V.ref p] ∧ (SqL K H p ys ∨ SqT K H p ys) ∧ Q (.int ys.length) H) (tCons (tOp (rIxL K) (tVar 0) (tVar 5)) tNil)) [some (.ref ba), some (.int cell), some (.int more), some (.ref le), some (.ref z), some (iV i), some (.int (j : Int)), none, none, none, none, none, none] H4 (iV (bk ts i).length) := ev_is (ev_lenL' (evH_Lv (ev_op (ev_var rfl) (ev_var rfl) (rv_ixL (ex_l (e1.trans e) hps) (at_map ha))) (ex_l (e1.trans e) (hpa i a ha)))) (by rw [List.length_map])
        refine s_app (v := .int (((bk ts i).length : Int) + 3)) hz (ev_var rfl) (ev_op BL ev_c rv_I0) (by rw [List.length_map]; omega) fun H5 e5 => ?_
        refine ⟨_, xs ++ [((bk ts i).length : Int) + 3], rfl, Ex.mut (e.trans e5) nzH, by rw [upd_same, zvs, zvs, List.map_append]; rfl, by rw [List.length_append]; show xs.length + 1 ≤ _; omega, fun x hx => ?_⟩
        rcases List.mem_append.mp hx with hx | hx
        · exact bz x hx
        · rw [List.mem_singleton.mp hx]
          omega
      · subst hσ
        exact ⟨_, _, xs, rfl, e, hz, by omega, bz⟩
    · subst hσ
      rw [Int.toNat_natCast] at lz
      have hfl := fing_le ts ts.length
      refine q_asgLS (R := DigR xs) (elS_call (P := fun vs _ => vs = [.int more, .ref z]) (fun H4 e4 Q4 q4 => (ea_cons (ev_var rfl) (ea_cons (ev_var rfl) ea_nil) : EvA _ _ H' [.int more, .ref z]) H4 e4 Q4 fun H5 e5 => q4 _ H5 rfl e5) fun vs H4 e4 ev => by
        subst ev
        exact sp_digitsW (sq_of (e4 _ _ hz)) (by omega) bz) fun dl d H4 ⟨ds, eds, lds, _⟩ nd e4 hd => ?_
      subst eds
      refine q_asgL (xs := []) (el_lst ea_nil (by decide)) fun r H5 nr e5 hr5 => ?_
      refine q_asg (v := iV 0) ev_c fun H6 e6 => ?_
      have e06 := (e4.trans e5).trans e6
      have nrH : H4 r = none := nr
      have hd4 : H4 d = some (.lst (zvs ds)) := hd
      have hle4 := e4 _ _ (e _ _ hle)
      have rl : (zvs rs).length = ts.length := by rw [List.length_map, lrs']
      refine q_forLn (a := le) (xs := zvs rs) (ev_var rfl) (sq_of (e06 _ _ (e _ _ hle))) (fun i σ' H' => ∃ (y10 : Option V) (dn : Int) (qs : List Addr) (rows : List (List Int)), σ' = [some (.ref ba), some (.int cell), some (.int more), some (.ref le), some (.ref z), y5, y6, some (.ref d), some (.ref r), some (.int dn), y10, none, none] ∧ Ex H4 H' ∧ H' r = some (.lst (qs.map V.ref)) ∧ qs.length = i ∧ rows.length = i ∧ ∀ (j : Nat) (a : Addr) (l : List Int), qs[j]? = some a → rows[j]? = some l → FzT H' a (zvs l))
        (fun H7 e7 => ⟨_, 0, [], [], rfl, (e5.trans e6).trans e7, e7 _ _ (e6 _ _ hr5), rfl, rfl, (fun j a l h => by cases h)⟩) (fun i σ' H' _ ⟨_, _, _, _, _, e', _⟩ => sq_of (e' _ _ hle4)) (fun i x σ' H7 hi ⟨y10, dn, qs, rows, hσ, e7, hr7, lq, lo, hq⟩ => ?_) (fun σ' H7 ⟨y10, dn, qs, rows, hσ, e7, hr7, lq, lo, hq⟩ => ?_)
      · subst hσ
        have hil : i < ts.length := by rw [← rl]; exact (List.getElem?_eq_some_iff.mp hi).1
        rw [List.getElem?_map] at hi
        cases er : rs[i]? with
        | none => rw [er] at hi; cases hi
        | some len =>
          rw [er] at hi
          cases hi
          have hd7 := e7 _ _ hd4
          obtain ⟨cs, ecs, lcs⟩ := cut_zvs ds (some dn) (some (dn + len))
          have SL : EvL (tSl (rSlL K) (tVar 7) (tPart (tVar 9)) (tPart (tOp (rI0 fun i j => V.int (i + j)) (tVar 9) (tVar 10)))) [some (.ref ba), some (.int cell), some (.int more), some (.ref le), some (.ref z), y5, y6, some (.ref d), some (.ref r), some (.int dn), some (.int len), none, none] H7 (zvs cs) := by
            rw [← ecs]
            exact el_sl (ev_var rfl) (eo_some (ev_var rfl)) (eo_some (ev_op (ev_var rfl) (ev_var rfl) rv_I0)) (sq_of hd7)
          have RW : EvH (tCB (rTupF K) (tCons (tLc (iList K (tSl (rSlL K) (tVar 7) (tPart (tVar 9)) (tPart (tOp (rI0 fun i j => V.int (i + j)) (tVar 9) (tVar 10))))) (gName 12) tYes (tOp (rI0 fun i j => V.int (i - j)) (tVar 12) (tC (V.int 1))) [12]) tNil)) [some (.ref ba), some (.int cell), some (.int more), some (.ref le), some (.ref z), y5, y6, some (.ref d), some (.ref r), some (.int dn), some (.int len), none, none] H7 (fun v H8 => ∃ l, FzV (zvs l) v H8) :=
            evFz_tup (n := cs.length) (elH_lcLS (Rl := fun xs => xs = zvs cs) (fun H9 e9 Q9 q9 => SL H9 e9 Q9 fun p H10 hp e10 h10 => q9 _ p H10 rfl hp e10 h10) (fun xs ex => by rw [ex, List.length_map]) (by omega) (fun _ => rfl) (fun i v H H' _ h => h) fun xs i x H9 ex e9 hi => by
              subst ex
              rw [List.getElem?_map] at hi
              cases e : cs[i]? with
              | none => rw [e] at hi; cases hi
              | some c =>
                rw [e] at hi
                cases hi
                exact evH_of (ev_op (ev_var rfl) ev_c rv_I0) fun _ _ => ⟨_, rfl⟩)
          refine (show tSeq (tDrop (tBM K "list" rAppend (tVar 8) (tCons _ tNil))) _ _ _ _ from q_appH hr7 (ev_var rfl) RW (by rw [List.length_map]; omega) fun v H8 e8 ⟨l, p, ev, hp⟩ => ?_)
          subst ev
          have hr8 := e8 _ _ hr7
          have k9 : Kt H7 (upd H8 r (.lst (qs.map V.ref ++ [.ref p]))) := (Kt.of e8).trans (Kt.upd hr8)
          refine s_asg (v := .int (dn + len)) (ev_op (ev_var rfl) (ev_var rfl) rv_I0) fun H9 e9 => ?_
          refine ⟨_, dn + len, qs ++ [p], rows ++ [l], rfl, (Ex.mut (e7.trans e8) nrH).trans e9, e9 _ _ (by rw [upd_same, List.map_append]; rfl), by rw [List.length_append, lq]; rfl, by rw [List.length_append, lo]; rfl, fun j a l' hj hl' => ?_⟩
          by_cases c : j < qs.length
          · rw [List.getElem?_append_left c] at hj
            rw [List.getElem?_append_left (by omega)] at hl'
            exact (hq j a l' hj hl').kt (k9.trans (Kt.of e9))
          · rw [List.getElem?_append_right (by omega)] at hj hl'
            have e0 : j - qs.length = 0 := by have := (List.getElem?_eq_some_iff.mp hj).1; simp at this; omega
            rw [e0] at hj
            rw [show j - rows.length = 0 by omega] at hl'
            cases hj
            cases hl'
            exact hp.kt ((Kt.upd hr8).trans (Kt.of e9))
      · subst hσ
        rw [rl] at lq lo
        exact s_retH (evH_tupTZ (ev_var rfl) (sq_of hr7) (by rw [lq, lo]) fun i a l h1 h2 => (hq i a l h1 h2).sq) fun v H8 e8 ⟨p, ev, hp⟩ => by
          subst ev
          exact q rows p H8 lo ((e1.trans (e.trans e4)).trans (e7.trans e8)) hp
end

/-! the law's tables: back, rows, graphs -/
def spBack (K : PySem.W.Frag) : Sp := fun vs H Q _ => ∃ (ta : Addr) (ts : Tab), vs = [.ref ta] ∧ SqL K H ta (ts.map nV) ∧ TabOk ts ∧ ts.length ≤ 1600 ∧ ∀ p H2, Ex H H2 → LLf K H2 p ts.length (bk ts) → Q (.ref p) H2
def spRows (K : PySem.W.Frag) : Sp := fun vs H Q _ => ∃ (ba : Addr) (ts : Tab) (way c : Int), vs = [.ref ba, .int way, .int c] ∧ LLf K H ba ts.length (bk ts) ∧ ts.length ≤ 1600 ∧ 0 ≤ way ∧
  ∀ (rs : List (List Nat)) p H2, Ex H H2 → TTf K H2 p ts.length (fun k => rs.getD k []) → RowsOk ts rs → (way < 3 → ∀ k, k < ts.length → rs.getD k [] = List.range ((bk ts k).length + 1)) → Q (.ref p) H2
theorem rows_of {ts : Tab} (f : Nat → List Nat) (h : ∀ k, k < ts.length → (f k).Perm (List.range ((bk ts k).length + 1))) : RowsOk ts ((List.range ts.length).map f) := ⟨by rw [List.length_map, List.length_range], fun k hk => by rw [getD_map_range f [] hk]; exact h k hk⟩
section
variable {w : World} {K : PySem.W.Frag} {mg : Str → Option Value} {base : Heap} {fa : Nat → Addr} {fd : Nat → FuncData} {cv : Nat → Value}
theorem ok_back (T : Txt w K mg fa fd cv) : FnOk PP w K mg base CX0 34 (fa 14) (fd 14) ["table"] (spBack K) := by
  refine T.d_law_back.F.ok sc_law_back (fun vs H Q E h => ?_) (fun cdv A outer s H vs Q E hr h => ?_)
  · obtain ⟨ta, ts, rfl, _⟩ := h
    rfl
  · obtain ⟨ta, ts, rfl, hx, ok, hn, q⟩ := h
    refine ⟨_, pss_cons (ps_setLc (i := 1) (own := [("other", 3)]) (g := gName 3) rfl sc_law_back.nd rfl rfl (sw_true rfl rfl rfl (by decide +kernel)) (pi_list (pv 0)) (blkOk_by (own := [("other", 3)]) (N := N_law_back) (sc := defScope s_law_back) (by decide +kernel)) (fun _ _ _ _ _ => pg_name (i := 3) sc_law_back.nd rfl (Or.inl rfl)) (fun _ _ _ _ _ => pts_nil) (fun _ _ _ _ _ => (pe_lst pa_nil)))
      (pss_cons (ps_for (by exact PassesOwn.never) rfl (pi_range1 (by rfl) T.b_range (pa_cons (pe_callB call_len_seq (by rfl) T.b_len PySem.boot_len (pa_cons (pv 0) pa_nil)) pa_nil)) (pg_name (i := 2) sc_law_back.nd rfl (Or.inl rfl)) (pss_one (ps_if (pt_cmpR op_notN (pe_ix ix_list (pv 0) (pv 2) (fun _ _ => rfl)) pe_non (nomark _)) (pss_one (ps_expr (pe_bm PySem.F.plainAttrs_list PySem.F.slot_list_append PySem.F.type_list_append mt_append (pe_ix ix_list (pv 1) (pe_ix ix_list (pv 0) (pv 2) (fun _ _ => rfl)) (fun _ _ => rfl)) (pa_cons (pv 2) pa_nil)))) (pss_nil))))
      (pss_one (ps_ret (pv 1)))), ?_⟩
    have hl : (ts.map nV).length = ts.length := List.length_map _
    refine q_asgN (en_lcL (ev_var rfl) hx (by omega) (fun _ => rfl)) fun ps p H1 np e1 h1 l1 nd ap hq => ?_
    have F0 : Fill H H1 p ts.length (fun _ => []) ps := Fill.start e1 np h1 (by rw [l1, hl]) nd ap hq
    refine q_forR1 (n := (ts.length : Int)) (ea_cons (ev_is (ev_lenL' (evH_Lv (ev_var rfl) (ex_l e1 hx))) (by rw [hl])) ea_nil) ⟨by omega, by omega⟩ (fun i σ' H' => ∃ y, σ' = [some (.ref ta), some (.ref p), y, none] ∧ Fill H H' p ts.length (fun k => pre ts k i) ps)
      (fun H2 e2 => ⟨_, rfl, F0.up e2⟩) (fun i σ' H' hi ⟨y, hσ, F⟩ => ?_) (fun σ' H' ⟨y, hσ, F⟩ => ?_)
    · subst hσ
      have hk : i < ts.length := by omega
      have TK : ∀ H2, Ex H' H2 → Ev (tOp (rIxL K) (tVar 0) (tVar 2)) [some (.ref ta), some (.ref p), some (iV i), none] H2 (nV (ts.getD i none)) := fun H2 e2 => ev_op (ev_var rfl) (ev_var rfl) (rv_ixL (ex_l (F.e.trans e2) hx) (at_tab hk))
      cases eo : ts.getD i none with
      | none =>
        rw [eo] at TK
        have ho : ts[i]? = some none := by rw [List.getElem?_eq_getElem hk, ← getD_eq (d := none) hk, eo]
        exact s_when (b := false) (et_is (et_test (ev_notN (TK H' (Ex.refl H')))) rfl) (fun hb => by cases hb) fun hb H3 e3 => ⟨_, rfl, (F.up e3).congr fun k _ => (pre_no fun z => by rw [ho] at z; cases z).symm⟩
      | some m =>
        rw [eo] at TK
        have ho := getD_some eo
        have hm := ok i m ho
        refine s_when (b := true) (et_is (et_test (ev_notN (TK H' (Ex.refl H')))) rfl) (fun hb H3 e3 => ?_) (fun hb => by cases hb)
        have F3 := F.up e3
        have gp : ps[m]? = some (ps[m]'(by rw [F.len]; exact hm)) := List.getElem?_eq_getElem _
        refine s_app (F3.at_ m _ gp).2 (ev_op (ev_var rfl) (TK H3 e3) (rv_ixL (sq_of F3.ha) (at_map gp))) (ev_var rfl) (by rw [List.length_map]; exact Nat.lt_of_le_of_lt (pre_len ts m i) (by omega)) fun H4 e4 => ?_
        exact ⟨_, rfl, (F3.up e4).push gp (pre_yes ho) fun k hk => pre_no fun z => hk (by rw [ho] at z; cases z; rfl)⟩
    · subst hσ
      rw [Int.toNat_natCast] at F
      exact s_ret (ev_var rfl) fun H2 e2 => q p H2 (F.e.trans e2) (F.up e2).ll
theorem ok_rows (T : Txt w K mg fa fd cv) : FnOk PP w K mg base CX0 35 (fa 15) (fd 15) ["back", "way", "cell"] (spRows K) := by
  have G_law_digits := ok_digits (w := w) (base := base) T
  have G_law_order := ok_order (w := w) (base := base) T
  refine T.d_law_rows.F.ok sc_law_rows (fun vs H Q E h => ?_) (fun cdv A outer s H vs Q E hr h => ?_)
  · obtain ⟨ba, ts, way, c, rfl, _⟩ := h
    rfl
  · obtain ⟨ba, ts, way, c, rfl, hb, hn, hw, q⟩ := h
    refine ⟨_, pss_cons (ps_if (pt_cmpR op_lt (pv 1) pe_int (nomark _)) (pss_one (ps_ret (pe_callTy (r := OwnG.rTupF K) (by exact OwnG.call_tupF) (by rfl) T.b_tuple (by decide +kernel) (pa_cons (pe_lc (own := [("near", 3)]) (g := gName 3) rfl sc_law_rows.nd (pi_list (pv 0)) (blkOk_by (own := [("near", 3)]) (N := N_law_rows) (sc := defScope s_law_rows) (by decide +kernel)) (fun _ _ _ _ _ => pg_name (i := 3) sc_law_rows.nd rfl (Or.inl rfl)) (fun _ _ _ _ _ => pts_nil) (fun _ _ _ _ _ => (OwnG.pe_tupRgF rfl (by rfl) T.b_tuple (prg_1 (by rfl) T.b_range (pe_op op_add (pe_callB (r := rLenS K) (by exact call_len_seq) (by rfl) T.b_len PySem.boot_len (pa_cons (pv 3) pa_nil)) pe_int))))) pa_nil)))) (pss_nil))
      (pss_cons (ps_if (pt_cmpR op_eq (pv 1) pe_int (nomark _)) (pss_one (ps_ret (pe_callTy (r := OwnG.rTupF K) (by exact OwnG.call_tupF) (by rfl) T.b_tuple (by decide +kernel) (pa_cons (pe_lc (own := [("near", 3)]) (g := gName 3) rfl sc_law_rows.nd (pi_list (pv 0)) (blkOk_by (own := [("near", 3)]) (N := N_law_rows) (sc := defScope s_law_rows) (by decide +kernel)) (fun _ _ _ _ _ => pg_name (i := 3) sc_law_rows.nd rfl (Or.inr rfl)) (fun _ _ _ _ _ => pts_nil) (fun _ _ _ _ _ => (pe_callTy (r := OwnG.rTupF K) (by exact OwnG.call_tupF) (by rfl) T.b_tuple (by decide +kernel) (pa_cons (pe_lc (own := [("k", 4)]) (g := gName 4) rfl sc_law_rows.nd (pi_range1 (by rfl) T.b_range (pa_cons (pe_op op_add (pe_callB (r := rLenS K) (by exact call_len_seq) (by rfl) T.b_len PySem.boot_len (pa_cons (pv 3) pa_nil)) pe_int) pa_nil)) (blkOk_by (own := [("k", 4)]) (by kernel_rfl)) (fun _ _ _ _ _ => pg_name (i := 4) sc_law_rows.nd rfl (Or.inl rfl)) (fun _ _ _ _ _ => pts_nil) (fun _ _ _ _ _ => (pe_op op_sub (pe_callB (r := rLenS K) (by exact call_len_seq) (by rfl) T.b_len PySem.boot_len (pa_cons (pv 3) pa_nil)) (pv 4)))) pa_nil)))) pa_nil)))) (pss_nil))
      (pss_cons (ps_set (i := 5) sc_law_rows.nd rfl (Or.inl rfl) (pe_lst pa_nil))
      (pss_cons (ps_for (by exact PassesOwn.never) rfl (pi_list (pv 0)) (pg_name (i := 3) sc_law_rows.nd rfl (Or.inl rfl)) (pss_one (ps_for (by exact PassesOwn.never) rfl (pi_range1 (by rfl) T.b_range (pa_cons (pe_op op_add (pe_callB call_len_seq (by rfl) T.b_len PySem.boot_len (pa_cons (pv 3) pa_nil)) pe_int) pa_nil)) (pg_name (i := 4) sc_law_rows.nd rfl (Or.inl rfl)) (pss_one (ps_expr (pe_bm PySem.F.plainAttrs_list PySem.F.slot_list_append PySem.F.type_list_append mt_append (pv 5) (pa_cons (pe_op op_sub (pe_op op_add (pe_callB call_len_seq (by rfl) T.b_len PySem.boot_len (pa_cons (pv 3) pa_nil)) pe_int) (pv 4)) pa_nil)))))))
      (pss_cons (ps_set (i := 6) sc_law_rows.nd rfl (Or.inl rfl) (pe_call G_law_digits (by first | exact hr.mono (by decide) | exact hr.mono (by omega)) (by rfl) T.d_law_digits.g T.d_law_digits.k T.d_law_digits.b .nil pass0 (pa_cons (pv 2) (pa_cons (pv 5) pa_nil))))
      (pss_cons (ps_set (i := 7) sc_law_rows.nd rfl (Or.inl rfl) (pe_lst pa_nil))
      (pss_cons (ps_set (i := 8) sc_law_rows.nd rfl (Or.inl rfl) pe_int)
      (pss_cons (ps_for (by exact PassesOwn.never) rfl (pi_list (pv 0)) (pg_name (i := 3) sc_law_rows.nd rfl (Or.inl rfl)) (pss_cons (ps_expr (pe_bm PySem.F.plainAttrs_list PySem.F.slot_list_append PySem.F.type_list_append mt_append (pv 7) (pa_cons (pe_callTy (r := OwnG.rTupF K) (by exact OwnG.call_tupF) (by rfl) T.b_tuple (by decide +kernel) (pa_cons (pe_call G_law_order (by first | exact hr.mono (by decide) | exact hr.mono (by omega)) (by rfl) T.d_law_order.g T.d_law_order.k T.d_law_order.b .nil pass0 (pa_cons (pe_slice sl_list (pv 6) (po_some (pv 8)) (po_some (pe_op op_add (pe_op op_add (pv 8) (pe_callB call_len_seq (by rfl) T.b_len PySem.boot_len (pa_cons (pv 3) pa_nil))) pe_int))) pa_nil)) pa_nil)) pa_nil)))
      (pss_one (ps_set (i := 8) sc_law_rows.nd rfl (Or.inl rfl) (pe_op op_add (pe_op op_add (pv 8) (pe_callB call_len_seq (by rfl) T.b_len PySem.boot_len (pa_cons (pv 3) pa_nil))) pe_int)))))
      (pss_one (ps_ret (pe_callTy (r := OwnG.rTupF K) (by exact OwnG.call_tupF) (by rfl) T.b_tuple (by decide +kernel) (pa_cons (pv 7) pa_nil))))))))))), ?_⟩
    obtain ⟨ps, hps, lps, hpa⟩ := hb.ex
    have hpl : (ps.map V.ref).length = ts.length := by rw [List.length_map, lps]
    have IT : ∀ {i : Nat} {x : V}, (ps.map V.ref)[i]? = some x → ∃ a, x = .ref a ∧ i < ts.length ∧ SqL K H a (nvs (bk ts i)) := fun {i x} hi => by
      rw [List.getElem?_map] at hi
      cases e : ps[i]? with
      | none => rw [e] at hi; cases hi
      | some a =>
        rw [e] at hi
        cases hi
        exact ⟨a, rfl, by rw [← lps]; exact (List.getElem?_eq_some_iff.mp e).1, hpa i a e⟩
    have LB : ∀ {σ : L2.St} {H1 : Hp} {a : Addr} {i : Nat} {j : Nat}, Ex H H1 → σ[j]? = some (some (.ref a)) → SqL K H a (nvs (bk ts i)) → Ev (tCB (fun xs H Q => ∃ p ys, xs = [V.ref p] ∧ (SqL K H p ys ∨ SqT K H p ys) ∧ Q (.int ys.length) H) (tCons (tVar j) tNil)) σ H1 (iV (bk ts i).length) := fun e a b => ev_is (ev_lenL' (evH_Lv (ev_var a) (ex_l e b))) (by rw [List.length_map])
    refine q_when (b := decide (way < 3)) (et_test (ev_op (ev_var rfl) ev_c rv_I0)) (fun hb1 H1 e1 => ?_) fun hb1 H1 e1 => ?_
    · have L := elH_lcL (K := K) (tl := tVar 0) (te := tTupRgF (tRg1 (tOp (rI0 fun i j => V.int (i + j)) (tCB (rLenS K) (tCons (tVar 3) tNil)) (tC (V.int 1))))) (j := 3) (vs := [3]) (σ := [some (.ref ba), some (.int way), some (.int c), none, none, none, none, none, none]) (H := H1) (R := fun i => FzV (nvs (List.range ((bk ts i).length + 1)))) (ev_var rfl) (ex_l e1 hps) (by omega) (fun _ => rfl) (fun i v H H' k h => h.kt k) fun i x H2 e2 hi => by
        obtain ⟨a, rfl, hil, ha⟩ := IT hi
        exact evH_tupRg (ev_is (ev_op (LB (e1.trans e2) rfl ha) ev_c rv_I0) rfl) (by have := bk_len ts i; omega)
      rw [hpl] at L
      refine s_retH (evH_tupTT L) fun v H2 e2 ⟨p, ev, hp⟩ => ?_
      subst ev
      refine q ((List.range ts.length).map fun k => List.range ((bk ts k).length + 1)) p H2 (e1.trans e2) (hp.congr fun i hi => (getD_map_range (fun k => List.range ((bk ts k).length + 1)) [] hi).symm) (rows_of _ fun k hk => .refl _) fun _ k hk => getD_map_range _ [] hk
    have w3 : ¬ way < 3 := of_decide_eq_false hb1
    refine q_when (b := decide (way = 3)) (et_test (ev_op (ev_var rfl) ev_c rv_eqI)) (fun hb2 H2 e2 => ?_) fun hb2 H2 e2 => ?_
    · have e12 := e1.trans e2
      have L := elH_lcL (K := K) (tl := tVar 0) (te := tCB (rTupF K) (tCons (tLc (iRng1 (tCons (tOp (rI0 fun i j => V.int (i + j)) (tCB (rLenS K) (tCons (tVar 3) tNil)) (tC (V.int 1))) tNil)) (gName 4) tYes (tOp (rI0 fun i j => V.int (i - j)) (tCB (rLenS K) (tCons (tVar 3) tNil)) (tVar 4)) [4]) tNil)) (j := 3) (vs := [3]) (σ := [some (.ref ba), some (.int way), some (.int c), none, none, none, none, none, none]) (H := H2) (R := fun i => FzV (nvs ((List.range ((bk ts i).length + 1)).map fun k => (bk ts i).length - k))) (ev_var rfl) (ex_l e12 hps) (by omega) (fun _ => rfl) (fun i v H H' k h => h.kt k) fun i x H3 e3 hi => by
        obtain ⟨a, rfl, hil, ha⟩ := IT hi
        have e13 := e12.trans e3
        refine evH_tupF (evH_L ?_)
        have I := elH_lcR (te := tOp (rI0 fun i j => V.int (i - j)) (tCB (rLenS K) (tCons (tVar 3) tNil)) (tVar 4)) (ta := tCons (tOp (rI0 fun i j => V.int (i + j)) (tCB (rLenS K) (tCons (tVar 3) tNil)) (tC (V.int 1))) tNil) (j := 4) (vs := [4]) (m := (bk ts i).length + 1) (H := H3) (σ := [some (.ref ba), some (.int way), some (.int c), some (.ref a), none, none, none, none, none]) (R := fun k v _ => v = iV ((bk ts i).length - k)) (ea_cons (ev_is (ev_op (LB e13 rfl ha) ev_c rv_I0) rfl) ea_nil) (by have := bk_len ts i; omega) (fun _ => rfl) (fun i v H H' _ h => h) fun k H4 e4 hk => evH_of (ev_is (ev_op (LB (e13.trans e4) rfl ha) (ev_var rfl) rv_I0) (by show V.int _ = V.int _; congr 1; omega)) fun _ _ => rfl
        have E := el_ofH I
        have : (List.range ((bk ts i).length + 1)).map (fun k => iV ((bk ts i).length - k)) = nvs ((List.range ((bk ts i).length + 1)).map fun k => (bk ts i).length - k) := by
          show _ = List.map iV _
          rw [List.map_map]
          rfl
        rw [this] at E
        exact E
      rw [hpl] at L
      refine s_retH (evH_tupTT L) fun v H3 e3 ⟨p, ev, hp⟩ => ?_
      subst ev
      refine q ((List.range ts.length).map fun i => (List.range ((bk ts i).length + 1)).map fun k => (bk ts i).length - k) p H3 (e12.trans e3) (hp.congr fun i hi => (getD_map_range (fun i => (List.range ((bk ts i).length + 1)).map fun k => (bk ts i).length - k) [] hi).symm) (rows_of _ fun k hk => rev_range _) fun z => absurd z w3
    have e12 := e1.trans e2
    refine q_asgL (xs := []) (el_lst ea_nil (by decide)) fun z H3 nz e3 hz => ?_
    have e13 := e12.trans e3
    have nzH : H z = none := fresh_back e12 nz
    refine q_forLn (a := ba) (xs := ps.map V.ref) (ev_var rfl) (ex_l e13 hps) (fun i σ' H' => ∃ (y3 y4 : Option V) (xs : List Int), σ' = [some (.ref ba), some (.int way), some (.int c), y3, y4, some (.ref z), none, none, none] ∧ Ex H H' ∧ H' z = some (.lst (xs.map V.int)) ∧ xs.length = fing ts i ∧ ∀ x ∈ xs, 0 < x ∧ x < 1000000)
      (fun H4 e4 => ⟨_, _, [], rfl, e13.trans e4, e4 _ _ hz, rfl, fun x hx => by cases hx⟩) (fun i σ' H' _ ⟨_, _, _, _, e, _⟩ => ex_l e hps) (fun i x σ' H' hi ⟨y3, y4, xs, hσ, e, hz, lz, bz⟩ => ?_) (fun σ' H' ⟨y3, y4, xs, hσ, e, hz, lz, bz⟩ => ?_)
    · subst hσ
      obtain ⟨a, rfl, hil, ha⟩ := IT hi
      have hbl := bk_len ts i
      refine s_forR1 (n := (((bk ts i).length + 1 : Nat) : Int)) (ea_cons (ev_is (ev_op (LB e rfl ha) ev_c rv_I0) rfl) ea_nil) ⟨by omega, by omega⟩ (fun j σ' H' => ∃ (y4 : Option V) (xs : List Int), σ' = [some (.ref ba), some (.int way), some (.int c), some (.ref a), y4, some (.ref z), none, none, none] ∧ Ex H H' ∧ H' z = some (.lst (xs.map V.int)) ∧ xs.length = fing ts i + j ∧ ∀ x ∈ xs, 0 < x ∧ x < 1000000)
        (fun H4 e4 => ⟨_, xs, rfl, e.trans e4, e4 _ _ hz, lz, bz⟩) (fun j σ2 H4 hj ⟨y4, xs, hσ, e, hz, lz, bz⟩ => ?_) (fun σ2 H4 ⟨y4, xs, hσ, e, hz, lz, bz⟩ => ?_)
      · subst hσ
        have hfl := fing_le ts i
        refine s_app (v := .int (((bk ts i).length : Int) + 1 - (j : Int))) hz (ev_var rfl) (ev_op (ev_op (LB e rfl ha) ev_c rv_I0) (ev_var rfl) rv_I0) (by rw [List.length_map]; omega) fun H5 e5 => ?_
        refine ⟨_, xs ++ [((bk ts i).length : Int) + 1 - (j : Int)], rfl, Ex.mut (e.trans e5) nzH, by rw [upd_same, List.map_append]; rfl, by rw [List.length_append, lz]; rfl, fun x hx => ?_⟩
        rcases List.mem_append.mp hx with hx | hx
        · exact bz x hx
        · rw [List.mem_singleton.mp hx]
          omega
      · subst hσ
        exact ⟨_, _, xs, rfl, e, hz, by rw [lz, fing_succ, Int.toNat_natCast], bz⟩
    · subst hσ
      rw [hpl] at lz
      have hfl := fing_le ts ts.length
      refine q_asgLS (R := DigR xs) (elS_call (P := fun vs _ => vs = [.int c, .ref z]) (fun H4 e4 Q4 q4 => (ea_cons (ev_var rfl) (ea_cons (ev_var rfl) ea_nil) : EvA _ _ H' [.int c, .ref z]) H4 e4 Q4 fun H5 e5 => q4 _ H5 rfl e5) fun vs H4 e4 ev => by
        subst ev
        exact sp_digits (sq_of (e4 _ _ hz)) (by omega) bz) fun dl d H4 ⟨ds, eds, lds, _⟩ nd e4 hd => ?_
      subst eds
      refine q_asgL (xs := []) (el_lst ea_nil (by decide)) fun r H5 nr e5 hr5 => ?_
      refine q_asg (v := iV 0) ev_c fun H6 e6 => ?_
      have e06 := ((e.trans e4).trans e5).trans e6
      have nrH : H4 r = none := nr
      have nrH0 : H r = none := fresh_back (e.trans e4) nr
      have hd4 : H4 d = some (.lst (ds.map V.int)) := hd
      have hdl : (ds.map V.int).length = fing ts ts.length := by rw [List.length_map, lds, lz]
      refine q_forLn (a := ba) (xs := ps.map V.ref) (ev_var rfl) (ex_l e06 hps) (fun i σ' H' => ∃ (y3 : Option V) (qs : List Addr) (os : List (List Nat)), σ' = [some (.ref ba), some (.int way), some (.int c), y3, y4, some (.ref z), some (.ref d), some (.ref r), some (iV (fing ts i))] ∧ Ex H4 H' ∧ H' r = some (.lst (qs.map V.ref)) ∧ qs.length = i ∧ os.length = i ∧ (∀ j a, qs[j]? = some a → FzT H' a (nvs (os.getD j []))) ∧ ∀ j, j < i → (os.getD j []).Perm (List.range ((bk ts j).length + 1)))
        (fun H7 e7 => ⟨_, [], [], rfl, (e5.trans e6).trans e7, e7 _ _ (e6 _ _ hr5), rfl, rfl, (fun j a h => by cases h), fun j h => by omega⟩) (fun i σ' H' _ ⟨_, _, _, _, e', _⟩ => ex_l ((e.trans e4).trans e') hps) (fun i x σ' H7 hi ⟨y3, qs, os, hσ, e7, hr7, lq, lo, hq, ho⟩ => ?_) (fun σ' H7 ⟨y3, qs, os, hσ, e7, hr7, lq, lo, hq, ho⟩ => ?_)
      · subst hσ
        obtain ⟨a, rfl, hil, ha⟩ := IT hi
        have eH7 := (e.trans e4).trans e7
        have hbl := bk_len ts i
        have hfs := fing_succ ts i
        have hfm : fing ts (i + 1) ≤ fing ts ts.length := by
          have mono : ∀ a b, a ≤ b → fing ts a ≤ fing ts b := fun a b h => by
            induction h with
            | refl => exact Nat.le_refl _
            | step _ ih => exact Nat.le_trans ih (by rw [fing_succ]; omega)
          exact mono _ _ hil
        have B : ∀ H8, Ex H H8 → Ev (tOp (rI0 fun i j => V.int (i + j)) (tOp (rI0 fun i j => V.int (i + j)) (tVar 8) (tCB (fun xs H Q => ∃ p ys, xs = [V.ref p] ∧ (SqL K H p ys ∨ SqT K H p ys) ∧ Q (.int ys.length) H) (tCons (tVar 3) tNil))) (tC (V.int 1))) [some (.ref ba), some (.int way), some (.int c), some (.ref a), y4, some (.ref z), some (.ref d), some (.ref r), some (iV (fing ts i))] H8 (iV (fing ts (i + 1))) := fun H8 e8 => ev_is (ev_op (ev_op (ev_var rfl) (LB e8 rfl ha) rv_I0) ev_c rv_I0) (by show V.int _ = V.int _; congr 1; rw [hfs]; omega)
        have hd7 := e7 _ _ hd4
        have SL : EvL (tSl (rSlL K) (tVar 6) (tPart (tVar 8)) (tPart (tOp (rI0 fun i j => V.int (i + j)) (tOp (rI0 fun i j => V.int (i + j)) (tVar 8) (tCB (fun xs H Q => ∃ p ys, xs = [V.ref p] ∧ (SqL K H p ys ∨ SqT K H p ys) ∧ Q (.int ys.length) H) (tCons (tVar 3) tNil))) (tC (V.int 1))))) [some (.ref ba), some (.int way), some (.int c), some (.ref a), y4, some (.ref z), some (.ref d), some (.ref r), some (iV (fing ts i))] H7 (cutV (ds.map V.int) (some ((fing ts i : Nat) : Int)) (some ((fing ts (i + 1) : Nat) : Int))) := el_sl (ev_var rfl) (eo_some (ev_var rfl)) (eo_some (B H7 eH7)) (sq_of hd7)
        obtain ⟨cs, ecs⟩ := map_cut V.int ds (fing ts i) (fing ts (i + 1))
        have lcs : cs.length = (bk ts i).length + 1 := by
          have := cut_len (xs := ds.map V.int) (a := fing ts i) (b := fing ts (i + 1)) (by omega) (by omega)
          rw [ecs, List.length_map] at this
          omega
        rw [ecs] at SL
        have OR : EvH (tCB (rTupF K) (tCons (tCall (spOrder K) [] E0 (tCons (tSl (rSlL K) (tVar 6) (tPart (tVar 8)) (tPart (tOp (rI0 fun i j => V.int (i + j)) (tOp (rI0 fun i j => V.int (i + j)) (tVar 8) (tCB (fun xs H Q => ∃ p ys, xs = [V.ref p] ∧ (SqL K H p ys ∨ SqT K H p ys) ∧ Q (.int ys.length) H) (tCons (tVar 3) tNil))) (tC (V.int 1))))) tNil)) tNil)) [some (.ref ba), some (.int way), some (.int c), some (.ref a), y4, some (.ref z), some (.ref d), some (.ref r), some (iV (fing ts i))] H7 (fun v H8 => ∃ os : List Nat, os.Perm (List.range ((bk ts i).length + 1)) ∧ FzV (nvs os) v H8) := fun H8 e8 Q8 q8 =>
          SL H8 e8 _ fun p H9 np e9 h9 => ⟨p, cs, rfl, sq_of h9, by omega, fun os p2 H10 hp n10 e10 h10 => ⟨p2, nvs os, rfl, sq_of h10, fun l o d hl => q8 _ _ ((e9.trans e10).trans (Ex.new hl)) ⟨os, by rw [lcs] at hp; exact hp, l, rfl, o, d, upd_same⟩⟩⟩
        refine (show tSeq (tDrop (tBM K "list" rAppend (tVar 7) (tCons _ tNil))) _ _ _ _ from q_appH hr7 (ev_var rfl) OR (by rw [List.length_map]; omega) fun v H8 e8 ⟨on, hon, p, ev, hp⟩ => ?_)
        subst ev
        have hr8 := e8 _ _ hr7
        have k9 : Kt H7 (upd H8 r (.lst (qs.map V.ref ++ [.ref p]))) := (Kt.of e8).trans (Kt.upd hr8)
        refine s_asg (B _ (Ex.mut (eH7.trans e8) nrH0)) fun H9 e9 => ?_
        refine ⟨_, qs ++ [p], os ++ [on], rfl, (Ex.mut (e7.trans e8) nrH).trans e9, e9 _ _ (by rw [upd_same, List.map_append]; rfl), by rw [List.length_append, lq]; rfl, by rw [List.length_append, lo]; rfl, fun j a hj => ?_, fun j hj => ?_⟩
        · by_cases c : j < qs.length
          · rw [List.getElem?_append_left c] at hj
            rw [getD_snoc_lt (by omega)]
            exact (hq j a hj).kt (k9.trans (Kt.of e9))
          · rw [List.getElem?_append_right (by omega)] at hj
            have e0 : j - qs.length = 0 := by have := (List.getElem?_eq_some_iff.mp hj).1; simp at this; omega
            rw [e0] at hj
            cases hj
            have : j = os.length := by omega
            subst this
            rw [getD_snoc]
            exact hp.kt ((Kt.upd hr8).trans (Kt.of e9))
        · by_cases c : j < os.length
          · rw [getD_snoc_lt c]
            exact ho j (by omega)
          · have : j = os.length := by omega
            subst this
            rw [getD_snoc, lo]
            exact hon
      · subst hσ
        rw [hpl] at lq lo ho
        exact s_retH (evH_tupTTv (f := fun k => os.getD k []) (ev_var rfl) (sq_of hr7) lq hq) fun v H8 e8 ⟨p, ev, hp⟩ => by
          subst ev
          exact q os p H8 (((e.trans e4).trans e7).trans e8) hp ⟨lo, ho⟩ fun z => absurd z w3
end

/-! what is due, what is told -/
def spDue (K : PySem.W.Frag) : Sp := fun vs H Q _ => ∃ (ta ra : Addr) (ts : Otab) (rows : List (List Int)) (way : Int), vs = [.ref ta, .ref ra, .int way] ∧ SqL K H ta (ts.map oV) ∧ TZ K H ra rows ∧ rows.length = ts.length ∧ ts.length ≤ 1600 ∧
  ∀ c k p H2, DueP ts (roW way rows) c k → H p = none → Ex H H2 → H2 p = some (.lst [iV c, iV k]) → Q (.ref p) H2
def spTold2 (K : PySem.W.Frag) : Sp := fun vs H Q _ => ∃ (ta ra : Addr) (ts : Otab) (rows : List (List Int)) (way : Int), vs = [.ref ta, .ref ra, .int way] ∧ SqL K H ta (ts.map oV) ∧ TZ K H ra rows ∧ rows.length = ts.length ∧ ts.length ≤ 1600 ∧ 0 ≤ way ∧
  ∀ c k p H2, DueP ts (roW way rows) c k → H p = none → Ex H H2 → H2 p = some (.lst [iV c, iV k]) → Q (.ref p) H2
def spClass (K : PySem.W.Frag) : Sp := fun vs H Q _ => ∃ (ta ra : Addr) (ts : Otab) (rows : List (List Int)) (way : Int), vs = [.ref ta, .ref ra, .int way] ∧ SqL K H ta (ts.map oV) ∧ TZ K H ra rows ∧ rows.length = ts.length ∧ ts.length ≤ 1600 ∧ 0 ≤ way ∧
  ∀ c k H2, DueP ts (roW way rows) c k → Ex H H2 → Q (iV c) H2
def spFielded : Sp := fun vs H Q _ => ∃ i j : Int, vs = [.int i, .int j] ∧ ∀ H2, Ex H H2 → Q (.bl true) H2
theorem TZ.pl {K : PySem.W.Frag} {H : Hp} {a : Addr} {ts : Otab} {rs : List (List Nat)} {n : Nat} (h : TTf K H a n (fun k => rs.getD k [])) (hn : n = ts.length) (hp : ∀ k, k < n → rs.getD k [] = List.range ((bk (tabOf ts) k).length + 1)) : TZ K H a (plainZ ts) := by
  have z := TZ.of h
  have e : ((List.range n).map fun k => (rs.getD k []).map fun m : Nat => (m : Int)) = plainZ ts := by
    subst hn
    unfold plainZ rowZ
    exact List.map_congr_left fun k hk => by rw [hp k (List.mem_range.mp hk)]
  rw [e] at z
  exact z
section
variable {w : World} {K : PySem.W.Frag} {mg : Str → Option Value} {base : Heap} {fa : Nat → Addr} {fd : Nat → FuncData} {cv : Nat → Value}
theorem ok_due (T : Txt w K mg fa fd cv) : FnOk PP w K mg base CX0 35 (fa 23) (fd 23) ["table", "rows", "way"] (spDue K) := by
  have G_law_back := ok_back (w := w) (base := base) T
  refine T.d_law_due.F.ok sc_law_due (fun vs H Q E h => ?_) (fun cdv A outer s H vs Q E hr h => ?_)
  · obtain ⟨ta, ra, ts, rows, way, rfl, _⟩ := h
    rfl
  · obtain ⟨ta, ra, ts, rows, way, rfl, ht, hra, hlr, hn, q⟩ := h
    refine ⟨_, pss_cons (ps_for (by exact PassesOwn.never) rfl (pi_range1 (by rfl) T.b_range (pa_cons (pe_callB call_len_seq (by rfl) T.b_len PySem.boot_len (pa_cons (pv 0) pa_nil)) pa_nil)) (pg_name (i := 3) sc_law_due.nd rfl (Or.inr rfl)) (pss_one (ps_if (PW.pt (pw_and (pt_cmpR op_notN (pe_ix ix_list (pv 0) (pv 3) (fun _ _ => rfl)) pe_non (nomark _)) (pw_and1 (PW.pt (pw_or (pt_cmpR op_lt (pe_ix ix_list (pv 0) (pv 3) (fun _ _ => rfl)) pe_int (nomark _)) (pw_or1 (pt_cmpR op_ge (pe_ix ix_list (pv 0) (pv 3) (fun _ _ => rfl)) (pe_callB call_len_seq (by rfl) T.b_len PySem.boot_len (pa_cons (pv 0) pa_nil)) (nomark _)))))))) (pss_one (ps_ret (pe_lst (pa_cons pe_int (pa_cons (pv 3) pa_nil))))) (pss_nil))))
      (pss_cons (ps_set (i := 4) sc_law_due.nd rfl (Or.inl rfl) (pe_call G_law_back (by first | exact hr.mono (by decide) | exact hr.mono (by omega)) (by rfl) T.d_law_back.g T.d_law_back.k T.d_law_back.b .nil pass0 (pa_cons (pv 0) pa_nil)))
      (pss_cons (ps_for (by exact PassesOwn.never) rfl (pi_range1 (by rfl) T.b_range (pa_cons (pe_callB call_len_seq (by rfl) T.b_len PySem.boot_len (pa_cons (pv 0) pa_nil)) pa_nil)) (pg_name (i := 3) sc_law_due.nd rfl (Or.inr rfl)) (pss_cons (ps_setLc (i := 5) (own := [("tip", 6)]) (g := gName 6) rfl sc_law_due.nd rfl rfl (sw_true rfl rfl rfl (by decide +kernel)) (pi_range1 (by rfl) T.b_range (pa_cons (pe_op op_add (pe_callB call_len_seq (by rfl) T.b_len PySem.boot_len (pa_cons (pe_ix ix_list (pv 4) (pv 3) (fun _ _ => rfl)) pa_nil)) pe_int) pa_nil)) (blkOk_by (own := [("tip", 6)]) (N := N_law_due) (sc := defScope s_law_due) (by decide +kernel)) (fun _ _ _ _ _ => pg_name (i := 6) sc_law_due.nd rfl (Or.inl rfl)) (fun _ _ _ _ _ => pts_one (pt_cmpR (r := rIn K true) (by exact op_notIn_seq) (pv 6) (pe_ix (r := rIxT K) (by exact ix_tup) (pv 1) (pv 3) (fun _ _ => rfl)) (by rfl))) (fun _ _ _ _ _ => (pv 6)))
      (pss_one (ps_if (PW.pt (pw_and (pt_cmpR op_gt (pv 2) pe_int (nomark _)) (pw_and1 (PW.pt (pw_or (pt_cmpR op_gt (pe_callB call_len_seq (by rfl) T.b_len PySem.boot_len (pa_cons (pv 5) pa_nil)) pe_int (nomark _)) (pw_or1 (pt_cmpR op_ne (pe_callB call_len_seq (by rfl) T.b_len PySem.boot_len (pa_cons (pe_ix ix_tup (pv 1) (pv 3) (fun _ _ => rfl)) pa_nil)) (pe_op op_add (pe_callB call_len_seq (by rfl) T.b_len PySem.boot_len (pa_cons (pe_ix ix_list (pv 4) (pv 3) (fun _ _ => rfl)) pa_nil)) pe_int) (nomark _)))))))) (pss_one (ps_ret (pe_lst (pa_cons pe_int (pa_cons (pv 3) pa_nil))))) (pss_nil)))))
      (pss_one (ps_ret (pe_lst (pa_cons pe_int (pa_cons pe_int pa_nil))))))), ?_⟩
    have hl : (ts.map oV).length = ts.length := List.length_map _
    refine q_forR1 (n := (ts.length : Int)) (ea_cons (ev_is (ev_lenL' (evH_Lv (ev_var rfl) ht)) (by rw [hl])) ea_nil) ⟨by omega, by omega⟩ (fun i σ' H' => ∃ y, σ' = [some (.ref ta), some (.ref ra), some (.int way), y, none, none, none] ∧ Ex H H' ∧ ∀ j, j < i → OkAt ts j)
      (fun H1 e1 => ⟨_, rfl, e1, fun j hj => by omega⟩) (fun i σ' H' hi ⟨y, hσ, e, hok⟩ => ?_) (fun σ' H' ⟨y, hσ, e, hok⟩ => ?_)
    · subst hσ
      have hk : i < ts.length := by omega
      obtain ⟨o, ho⟩ : ∃ o, ts[i]? = some o := ⟨_, List.getElem?_eq_getElem hk⟩
      have NK : ∀ H1, Ex H H1 → Ev (tOp (rIxL K) (tVar 0) (tVar 3)) [some (.ref ta), some (.ref ra), some (.int way), some (iV i), none, none, none] H1 (oV o) := fun H1 e1 => ev_op (ev_var rfl) (ev_var rfl) (rv_ixL (ex_l e1 ht) (at_otab ho))
      have L : ∀ H1, Ex H H1 → Ev (tCB (fun xs H Q => ∃ p ys, xs = [V.ref p] ∧ (SqL K H p ys ∨ SqT K H p ys) ∧ Q (.int ys.length) H) (tCons (tVar 0) tNil)) [some (.ref ta), some (.ref ra), some (.int way), some (iV i), none, none, none] H1 (iV ts.length) := fun H1 e1 => ev_is (ev_lenL' (evH_Lv (ev_var rfl) (ex_l e1 ht))) (by rw [hl])
      have okS : OkAt ts i → ∀ j, j < i + 1 → OkAt ts j := fun h j hj => by
        rcases Nat.lt_or_ge j i with c | c
        · exact hok j c
        · rw [show j = i by omega]
          exact h
      cases o with
      | none => exact s_when (b := false) (et_andF (et_is (et_test (ev_notN (NK H' e))) rfl)) (fun hb => by cases hb) (fun _ H3 e3 => ⟨_, rfl, e.trans e3, okS fun z hz => by rw [ho] at hz; cases hz⟩)
      | some m =>
        refine s_when (b := decide (m < 0) || decide ((ts.length : Int) ≤ m)) (et_andT (et_is (et_test (ev_notN (NK H' e))) rfl) (et_or (et_test (ev_op (NK H' e) ev_c rv_I0)) fun _ => et_test (ev_op (NK H' e) (L H' e) rv_I0))) (fun hb H3 e3 => ?_) (fun hb H3 e3 => ?_)
        · have bad : ¬ OkAt ts i := fun z => by
            obtain ⟨z0, z1⟩ := z m ho
            rw [decide_eq_false (by omega), decide_eq_false (by omega)] at hb
            cases hb
          exact s_retL (el_lst (ea_cons ev_c (ea_cons (ev_var rfl) ea_nil)) (by show 2 ≤ 100000; decide)) fun p H4 np e4 h4 => q 1 i p H4 (.node i bad hok) (fresh_back (e.trans e3) np) ((e.trans e3).trans e4) h4
        · rw [Bool.or_eq_false_iff, decide_eq_false_iff_not, decide_eq_false_iff_not] at hb
          exact ⟨_, rfl, e.trans e3, okS fun z hz => by
            rw [ho] at hz
            cases hz
            omega⟩
    · subst hσ
      rw [Int.toNat_natCast] at hok
      have ok : OkT ts := fun k i hk => hok k (List.getElem?_eq_some_iff.mp hk).1 i hk
      have hlN : (tabOf ts).length = ts.length := tabOf_len
      have htN : SqL K H ta ((tabOf ts).map nV) := by rw [← tabOf_map ok]; exact ht
      refine q_asgH (R := fun v H => ∃ p, v = V.ref p ∧ LLf K H p ts.length (bk (tabOf ts))) (evH_call (ea_cons (ev_var rfl) ea_nil) fun H1 e1 Q1 q1 E1 => ⟨ta, tabOf ts, rfl, ex_l (e.trans e1) htN, tabOf_ok ok, by rw [hlN]; exact hn, fun p H2 e2 h2 => q1 _ H2 e2 ⟨p, rfl, by rw [hlN] at h2; exact h2⟩⟩) fun v H2 e2 ⟨bp, ev, hbp⟩ => ?_
      subst ev
      have e02 := e.trans e2
      refine q_forR1 (n := (ts.length : Int)) (ea_cons (ev_is (ev_lenL' (evH_Lv (ev_var rfl) (ex_l e02 ht))) (by rw [hl])) ea_nil) ⟨by omega, by omega⟩ (fun i σ' H' => ∃ y5 y3, σ' = [some (.ref ta), some (.ref ra), some (.int way), y3, some (.ref bp), y5, none] ∧ Ex H2 H' ∧ (1 < way → ∀ j, j < i → RowAt ts rows j))
        (fun H1 e1 => ⟨_, _, rfl, e1, fun _ j hj => by omega⟩) (fun i σ' H' hi ⟨y5, y3, hσ, e3, hro⟩ => ?_) (fun σ' H' ⟨y5, y3, hσ, e3, hro⟩ => ?_)
      · subst hσ
        have hk : i < ts.length := by omega
        obtain ⟨l, hll⟩ : ∃ l, rows[i]? = some l := ⟨_, List.getElem?_eq_getElem (by omega)⟩
        have hgd : rows.getD i [] = l := by rw [List.getD_eq_getElem?_getD, hll]; rfl
        have BL : ∀ H1 (σ : L2.St) (j3 : Nat), Ex H2 H1 → σ[4]? = some (some (.ref bp)) → σ[j3]? = some (some (iV i)) → Ev (tCB (fun xs H Q => ∃ p ys, xs = [V.ref p] ∧ (SqL K H p ys ∨ SqT K H p ys) ∧ Q (.int ys.length) H) (tCons (tOp (rIxL K) (tVar 4) (tVar j3)) tNil)) σ H1 (iV (bk (tabOf ts) i).length) := fun H1 σ j3 e1 h4 h3 => ev_is (ev_lenL' (evH_LL (hbp.up e1) (ev_var h4) (ev_var h3) hk)) (by rw [List.length_map])
        have RI : ∀ H1 (σ : L2.St) (j3 : Nat), Ex H2 H1 → σ[1]? = some (some (.ref ra)) → σ[j3]? = some (some (iV i)) → EvH (tOp (rIxT K) (tVar 1) (tVar j3)) σ H1 (TpV K (zvs l)) := fun H1 σ j3 e1 h1 h3 => evH_TZ (hra.up (e02.trans e1)) (ev_var h1) (ev_var h3) hll
        have hbl := bk_len (tabOf ts) i
        rw [hlN] at hbl
        refine q_asgL (xs := given ((((bk (tabOf ts) i).length + 1 : Nat) : Int)).toNat (fun t => !decide ((t : Int) ∈ l)) fun t => iV t) (el_lcR1 (n := (((bk (tabOf ts) i).length + 1 : Nat) : Int)) (fun t => !decide ((t : Int) ∈ l)) (fun t => iV t) (ea_cons (ev_is (ev_op (BL H' _ 3 e3 rfl rfl) ev_c rv_I0) rfl) ea_nil) ⟨by omega, by omega⟩ (fun _ => rfl) (fun t H1 e1 ht => et_is (et_test (fun H3 e4 Q3 q3 => (ev_var (v := iV t) rfl : Ev (tVar 6) [some (.ref ta), some (.ref ra), some (.int way), some (iV i), some (.ref bp), y5, some (iV t)] H1 _) H3 e4 _ fun H4 e5 => RI H4 _ 3 ((e3.trans e1).trans (e4.trans e5)) rfl rfl H4 (Ex.refl H4) _ fun v H5 e6 ⟨p, ev, hp⟩ => by
          subst ev
          exact ⟨p, zvs l, rfl, .inr hp, rfl, flat_zvs l, q3 H5 (e5.trans e6)⟩)) (by rw [inV_zvs]; rfl)) (fun t H1 e1 ht _ => ev_var rfl)) fun mi H3 nm e4 hmi => ?_
        have e34 := e3.trans e4
        have hgn : ((((bk (tabOf ts) i).length + 1 : Nat) : Int)).toNat = (bk (tabOf ts) i).length + 1 := rfl
        rw [hgn] at hmi
        have ML : Ev (tCB (fun xs H Q => ∃ p ys, xs = [V.ref p] ∧ (SqL K H p ys ∨ SqT K H p ys) ∧ Q (.int ys.length) H) (tCons (tVar 5) tNil)) [some (.ref ta), some (.ref ra), some (.int way), some (iV i), some (.ref bp), some (.ref mi), none] H3 (iV (given ((bk (tabOf ts) i).length + 1) (fun t => !decide ((t : Int) ∈ l)) fun t => iV t).length) := ev_lenL' (evH_Lv (ev_var rfl) (sq_of hmi))
        have RL : ∀ H4, Ex H3 H4 → Ev (tCB (fun xs H Q => ∃ p ys, xs = [V.ref p] ∧ (SqL K H p ys ∨ SqT K H p ys) ∧ Q (.int ys.length) H) (tCons (tOp (rIxT K) (tVar 1) (tVar 3)) tNil)) [some (.ref ta), some (.ref ra), some (.int way), some (iV i), some (.ref bp), some (.ref mi), none] H4 (iV l.length) := fun H4 e5 => ev_is (ev_lenT (RI H4 _ 3 (e34.trans e5) rfl rfl)) (by rw [List.length_map])
        have it := rowAt_iff (ts := ts) (rows := rows) (k := i)
        rw [hgd] at it
        refine s_when (b := decide (1 < way) && (decide (0 < ((given ((bk (tabOf ts) i).length + 1) (fun t => !decide ((t : Int) ∈ l)) fun t => iV t).length : Int)) || !decide ((l.length : Int) = (((bk (tabOf ts) i).length : Int) + 1)))) (et_and (et_test (ev_op (ev_var rfl) ev_c rv_I0)) fun _ => et_or (et_test (ev_op ML ev_c rv_I0)) fun _ => et_test (ev_op (RL H3 (Ex.refl H3)) (ev_op (BL H3 _ 3 e34 rfl rfl) ev_c rv_I0) rv_neI)) (fun hb H4 e5 => ?_) (fun hb H4 e5 => ?_)
        · rw [Bool.and_eq_true, decide_eq_true_eq, Bool.or_eq_true, decide_eq_true_eq, Bool.not_eq_true', decide_eq_false_iff_not] at hb
          obtain ⟨w1, hb⟩ := hb
          have bad : ¬ RowAt ts rows i := fun z => by
            obtain ⟨z1, z2⟩ := it.mp z
            have g0 : (given ((bk (tabOf ts) i).length + 1) (fun t => !decide ((t : Int) ∈ l)) fun t => iV t).length = 0 := given_none.mpr fun t ht => by
              rw [decide_eq_true (z1 t ht)]
              rfl
            rcases hb with hb | hb
            · omega
            · omega
          exact s_retL (el_lst (ea_cons ev_c (ea_cons (ev_var rfl) ea_nil)) (by show 2 ≤ 100000; decide)) fun p H5 np e6 h5 => q 2 i p H5 (.row rows i ok (if_pos w1) hk bad (hro w1)) (fresh_back ((e02.trans e34).trans e5) np) (((e02.trans e34).trans e5).trans e6) h5
        · refine ⟨_, _, rfl, e34.trans e5, fun w1 j hj => ?_⟩
          rcases Nat.lt_or_ge j i with c | c
          · exact hro w1 j c
          · rw [show j = i by omega]
            rw [decide_eq_true w1, Bool.true_and, Bool.or_eq_false_iff, decide_eq_false_iff_not, Bool.not_eq_false', decide_eq_true_eq] at hb
            refine it.mpr ⟨fun t ht => ?_, by omega⟩
            have g := given_none.mp (show (given ((bk (tabOf ts) i).length + 1) (fun t => !decide ((t : Int) ∈ l)) fun t => iV t).length = 0 by omega) t ht
            rw [Bool.not_eq_false', decide_eq_true_eq] at g
            exact g
      · subst hσ
        rw [Int.toNat_natCast] at hro
        exact s_retL (el_lst (ea_cons ev_c (ea_cons ev_c ea_nil)) (by show 2 ≤ 100000; decide)) fun p H5 np e6 h5 => q 0 0 p H5 (.fine ok fun rs er k hk => by
          unfold roW at er
          split at er
          · rename_i w1
            cases er
            exact hro w1 k hk
          · cases er) (fresh_back (e02.trans e3) np) ((e02.trans e3).trans e6) h5
theorem ok_told2 (T : Txt w K mg fa fd cv) : FnOk PP w K mg base CX0 41 (fa 24) (fd 24) ["table", "rows", "way"] (spTold2 K) := by
  have G_law_graph := ok_graph (w := w) (base := base) T
  have G_law_back := ok_back (w := w) (base := base) T
  have G_law_rows := ok_rows (w := w) (base := base) T
  have G_law_fields := ok_fields (w := w) (base := base) T
  refine T.d_law_told.F.ok sc_law_told (fun vs H Q E h => ?_) (fun cdv A outer s H vs Q E hr h => ?_)
  · obtain ⟨ta, ra, ts, rows, way, rfl, _⟩ := h
    rfl
  · obtain ⟨ta, ra, ts, rows, way, rfl, ht, hra, hlr, hn, hw, q⟩ := h
    refine ⟨_, pss_cons (OwnF.ps_try rfl rfl takes0 (fun W pn xe tk po => pss_one (ps_set (i := 3) sc_law_told.nd rfl (Or.inl rfl) (pe_callS G_law_graph (by first | exact hr.mono (by decide) | exact hr.mono (by omega)) (by rfl) T.d_law_graph.g T.d_law_graph.k T.d_law_graph.b (fun σ => passAt tk σ) (pa_cons (pv 0) (pa_cons (pv 1) (pa_cons (pv 2) pa_nil)))))) (OwnF.HdOk.consAs (i := 4) sc_law_told.nd rfl rfl ⟨rfl, by decide, Or.inl T.gx_BadGraph⟩ (fun a oe cls d pn hz hf => pss_one (ps_ret (pe_lst (pa_cons pe_int (pa_cons (OwnF.pe_xf hz hf (pv 4)) pa_nil))))) (OwnF.HdOk.consAs (i := 4) sc_law_told.nd rfl rfl ⟨rfl, by decide, Or.inl T.gx_BadRotation⟩ (fun a oe cls d pn hz hf => pss_one (ps_ret (pe_lst (pa_cons pe_int (pa_cons (OwnF.pe_xf hz hf (pv 4)) pa_nil))))) OwnF.HdOk.nil)))
      (pss_cons (ps_set (i := 5) sc_law_told.nd rfl (Or.inl rfl) (pv 1))
      (pss_cut (ps_if (pt_cmpR op_lt (pv 2) pe_int (nomark _)) (pss_one (ps_set (i := 5) sc_law_told.nd rfl (Or.inl rfl) (pe_call G_law_rows (by first | exact hr.mono (by decide) | exact hr.mono (by omega)) (by rfl) T.d_law_rows.g T.d_law_rows.k T.d_law_rows.b .nil pass0 (pa_cons (pe_call G_law_back (by first | exact hr.mono (by decide) | exact hr.mono (by omega)) (by rfl) T.d_law_back.g T.d_law_back.k T.d_law_back.b .nil pass0 (pa_cons (pv 0) pa_nil)) (pa_cons pe_int (pa_cons pe_int pa_nil)))))) (pss_nil))
      (pss_one (ps_ret (pe_ix ix_list (pe_lst (pa_cons (pe_lst (pa_cons pe_int (pa_cons pe_int pa_nil))) (pa_cons (pe_lst (pa_cons pe_int (pa_cons pe_int pa_nil))) pa_nil))) (pe_callTy call_int1 (by rfl) T.b_int PyProof.Rows.boot_int (pa_cons (pe_call G_law_fields (by first | exact hr.mono (by decide) | exact hr.mono (by omega)) (by rfl) T.d_law_fields.g T.d_law_fields.k T.d_law_fields.b .nil pass0 (pa_cons (pv 3) (pa_cons (pv 0) (pa_cons (pv 5) pa_nil)))) pa_nil)) (fun _ _ => rfl)))))), ?_⟩
    refine q_tryCall (vs := [.ref ta, .ref ra, .int way]) (ea_cons (ev_var rfl) (ea_cons (ev_var rfl) (ea_cons (ev_var rfl) ea_nil))) fun H1 e1 => ⟨ta, ra, ts, rows, way, rfl, ex_l e1 ht, hra.up e1, hlr, hn, hw, fun k d H2 du e2 hd => ?_, fun k d H2 du e2 hd => ?_, fun g H2 du e2 hg => ?_⟩
    · refine ⟨true, (T.kx.exm 7 7 _ _ rfl rfl).trans (by decide +kernel), fun _ a na => ?_, fun z => by cases z⟩
      exact s_retL (el_lst (ea_cons ev_c (ea_cons (ev_xf (ev_var rfl) rfl T.x_BadGraph.xf T.nx_BadGraph_node hd rfl) ea_nil)) (by show 2 ≤ 100000; decide)) fun p H3 np e3 h3 => q 1 k p H3 du (fresh_back (e1.trans e2) np) ((e1.trans e2).trans e3) h3
    · refine ⟨false, (T.kx.exm 8 7 _ _ rfl rfl).trans (by decide +kernel), (fun z => by cases z), fun _ => ⟨true, (T.kx.exm 8 8 _ _ rfl rfl).trans (by decide +kernel), fun _ a na => ?_, fun z => by cases z⟩⟩
      exact s_retL (el_lst (ea_cons ev_c (ea_cons (ev_xf (ev_var rfl) rfl T.x_BadRotation.xf T.nx_BadRotation_at hd rfl) ea_nil)) (by show 2 ≤ 100000; decide)) fun p H3 np e3 h3 => q 2 k p H3 du (fresh_back (e1.trans e2) np) ((e1.trans e2).trans e3) h3
    · have e12 := e1.trans e2
      obtain ⟨ok, hro⟩ : OkT ts ∧ ∀ rs, roW way rows = some rs → ∀ k, k < ts.length → RowAt ts rs k := by
        cases du with
        | fine a b => exact ⟨a, b⟩
      have hlN : (tabOf ts).length = ts.length := tabOf_len
      have htN : SqL K H ta ((tabOf ts).map nV) := by rw [← tabOf_map ok]; exact ht
      refine (show tSeq (tAsg (tVar 1) (gName 5)) _ { nx := fun x H' => Q V.non H', rt := Q } [some (.ref ta), some (.ref ra), some (.int way), some (.ref g), none, none] H2 from q_asg (v := .ref ra) (ev_var rfl) fun H3 e3 => ?_)
      have e13 := e12.trans e3
      refine q_cut (M := fun σ' H' => ∃ r, σ' = [some (.ref ta), some (.ref ra), some (.int way), some (.ref g), none, some (.ref r)] ∧ Ex H3 H' ∧ TZ K H' r ((roW way rows).getD (plainZ ts))) ?_ ?_
      · refine s_when (b := decide (way < 2)) (et_test (ev_op (ev_var rfl) ev_c rv_I0)) (fun hb H4 e4 => ?_) (fun hb H4 e4 => ?_)
        · have w2 := of_decide_eq_true hb
          have er : roW way rows = none := if_neg (by omega)
          have BK : EvH (tCall (spBack K) [] E0 (tCons (tVar 0) tNil)) [some (.ref ta), some (.ref ra), some (.int way), some (.ref g), none, some (.ref ra)] H4 (fun v H => ∃ p, v = V.ref p ∧ LLf K H p ts.length (bk (tabOf ts))) := evH_call (ea_cons (ev_var rfl) ea_nil) fun H5 e5 Q1 q1 E1 => ⟨ta, tabOf ts, rfl, ex_l ((e13.trans e4).trans e5) htN, tabOf_ok ok, by rw [hlN]; exact hn, fun p H2 e2 h2 => q1 _ H2 e2 ⟨p, rfl, by rw [hlN] at h2; exact h2⟩⟩
          exact BK H4 (Ex.refl H4) _ fun v H5 e5 ⟨bp, ev, hbp⟩ => by
            subst ev
            exact ⟨bp, tabOf ts, 0, 0, rfl, by rw [hlN]; exact hbp, by rw [hlN]; exact hn, Int.le_refl 0, fun rs p H6 e6 h6 ro pl => ⟨p, rfl, (e4.trans e5).trans e6, by
              rw [er]
              exact TZ.pl h6 hlN (pl (by decide))⟩⟩
        · have w2 := of_decide_eq_false hb
          have er : roW way rows = some rows := if_pos (by omega)
          exact ⟨ra, rfl, e4, by
            rw [er]
            exact hra.up (e13.trans e4)⟩
      · rintro σ' H' ⟨r, rfl, e4, hr'⟩
        have e14 := e13.trans e4
        have hg' := hg.up (e3.trans e4)
        have rl : ((roW way rows).getD (plainZ ts)).length = ts.length := by
          unfold roW
          split
          · exact hlr
          · show (plainZ ts).length = _
            unfold plainZ
            rw [List.length_map, List.length_range]
        have rsz : ∀ (k : Nat) (l : List Int), ((roW way rows).getD (plainZ ts))[k]? = some l → l.length ≤ 40000 := fun k l hl => by
          have hk : k < ts.length := by rw [← rl]; exact (List.getElem?_eq_some_iff.mp hl).1
          have pm : RowAt ts ((roW way rows).getD (plainZ ts)) k := by
            cases er : roW way rows with
            | none =>
              show ((plainZ ts).getD k []).Perm _
              unfold plainZ
              rw [List.getD_eq_getElem?_getD, List.getElem?_map, List.getElem?_range hk]
              exact .refl _
            | some rs => exact hro rs er k hk
          have ll := pm.length_eq
          rw [List.getD_eq_getElem?_getD, hl, rowZ_len] at ll
          have hbl := bk_len (tabOf ts) k
          rw [hlN] at hbl
          show l.length ≤ 40000
          have : l.length = (bk (tabOf ts) k).length + 1 := ll
          omega
        have FD : Ev (tCall (spFieldsZ K (fa 200)) [] E0 (tCons (tVar 3) (tCons (tVar 0) (tCons (tVar 5) tNil)))) [some (.ref ta), some (.ref ra), some (.int way), some (.ref g), none, some (.ref r)] H' (.bl true) := ev_call (ea_cons (ev_var rfl) (ea_cons (ev_var rfl) (ea_cons (ev_var rfl) ea_nil))) fun H5 e5 Q5 q5 E5 => ⟨g, ta, r, ts, _, rfl, hg'.up e5, ex_l (e14.trans e5) ht, hr'.up e5, rl, rsz, hn, q5⟩
        exact s_retL (el_pick2 (b := true) (xs0 := [iV 3, iV 3]) (xs1 := [iV 0, iV 0]) (el_lst (ea_cons ev_c (ea_cons ev_c ea_nil)) (by show 2 ≤ 100000; decide)) (el_lst (ea_cons ev_c (ea_cons ev_c ea_nil)) (by show 2 ≤ 100000; decide)) (ev_intB FD)) fun p H5 np e5 hp => q 0 0 p H5 du (fresh_back e14 np) (e14.trans e5) hp
end

/-! the class that is raised; errors as values -/
section
variable {w : World} {K : PySem.W.Frag} {mg : Str → Option Value} {base : Heap} {fa : Nat → Addr} {fd : Nat → FuncData} {cv : Nat → Value}
theorem ok_class (T : Txt w K mg fa fd cv) : FnOk PP w K mg base CX0 41 (fa 25) (fd 25) ["table", "rows", "way"] (spClass K) := by
  have G_law_graph := ok_graph (w := w) (base := base) T
  refine T.d_law_class.F.ok sc_law_class (fun vs H Q E h => ?_) (fun cdv A outer s H vs Q E hr h => ?_)
  · obtain ⟨ta, ra, ts, rows, way, rfl, _⟩ := h
    rfl
  · obtain ⟨ta, ra, ts, rows, way, rfl, ht, hra, hlr, hn, hw, q⟩ := h
    refine ⟨_, pss_cons (OwnF.ps_try rfl rfl takes0 (fun W pn xe tk po => pss_one (ps_expr (pe_callS G_law_graph (by first | exact hr.mono (by decide) | exact hr.mono (by omega)) (by rfl) T.d_law_graph.g T.d_law_graph.k T.d_law_graph.b (fun σ => passAt tk σ) (pa_cons (pv 0) (pa_cons (pv 1) (pa_cons (pv 2) pa_nil)))))) (OwnF.HdOk.consAs (i := 3) sc_law_class.nd rfl rfl ⟨rfl, by decide, Or.inl T.gx_RoomError⟩ (fun a oe cls d pn hz hf => pss_cons (ps_if (PW.pt (pw_or (pt_not (pt_val (pe_callB (OwnF.call_isE hz hf) (by rfl) T.b_isinstance (by decide +kernel) (pa_cons (pv 3) (pa_cons (pe_bltn (v := .ty "ValueError") (by rfl) T.b_ValueError (by decide +kernel) rfl) pa_nil))))) (pw_or1 (pt_cmpR op_eq (pe_callB (OwnF.call_isE hz hf) (by rfl) T.b_isinstance (by decide +kernel) (pa_cons (pv 3) (pa_cons (pe_glob (v := .ref (fa 307)) rfl T.gx_BadGraph rfl) pa_nil))) (pe_callB (OwnF.call_isE hz hf) (by rfl) T.b_isinstance (by decide +kernel) (pa_cons (pv 3) (pa_cons (pe_glob (v := .ref (fa 308)) rfl T.gx_BadRotation rfl) pa_nil))) (nomark _))))) (pss_one (ps_ret (pe_un un_neg pe_int))) (pss_nil))
      (pss_cons (ps_if (PW.pt (pw_or (pt_val (pe_callB (OwnF.call_isE hz hf) (by rfl) T.b_isinstance (by decide +kernel) (pa_cons (pv 3) (pa_cons (pe_glob (v := .ref (fa 301)) rfl T.gx_BadText rfl) pa_nil)))) (pw_or (pt_val (pe_callB (OwnF.call_isE hz hf) (by rfl) T.b_isinstance (by decide +kernel) (pa_cons (pv 3) (pa_cons (pe_glob (v := .ref (fa 302)) rfl T.gx_BadLine rfl) pa_nil)))) (pw_or (pt_val (pe_callB (OwnF.call_isE hz hf) (by rfl) T.b_isinstance (by decide +kernel) (pa_cons (pv 3) (pa_cons (pe_glob (v := .ref (fa 303)) rfl T.gx_BadLibrary rfl) pa_nil)))) (pw_or1 (pt_val (pe_callB (OwnF.call_isE hz hf) (by rfl) T.b_isinstance (by decide +kernel) (pa_cons (pv 3) (pa_cons (pe_glob (v := .ref (fa 304)) rfl T.gx_ProcedureCycle rfl) pa_nil))))))))) (pss_one (ps_ret (pe_un un_neg pe_int))) (pss_nil))
      (pss_cons (ps_if (PW.pt (pw_or (pt_val (pe_callB (OwnF.call_isE hz hf) (by rfl) T.b_isinstance (by decide +kernel) (pa_cons (pv 3) (pa_cons (pe_glob (v := .ref (fa 305)) rfl T.gx_UnknownProgram rfl) pa_nil)))) (pw_or (pt_val (pe_callB (OwnF.call_isE hz hf) (by rfl) T.b_isinstance (by decide +kernel) (pa_cons (pv 3) (pa_cons (pe_glob (v := .ref (fa 306)) rfl T.gx_BadCode rfl) pa_nil)))) (pw_or (pt_val (pe_callB (OwnF.call_isE hz hf) (by rfl) T.b_isinstance (by decide +kernel) (pa_cons (pv 3) (pa_cons (pe_glob (v := .ref (fa 309)) rfl T.gx_BadBook rfl) pa_nil)))) (pw_or1 (pt_val (pe_callB (OwnF.call_isE hz hf) (by rfl) T.b_isinstance (by decide +kernel) (pa_cons (pv 3) (pa_cons (pe_glob (v := .ref (fa 310)) rfl T.gx_TooLarge rfl) pa_nil))))))))) (pss_one (ps_ret (pe_un un_neg pe_int))) (pss_nil))
      (pss_cons (ps_if (pt_val (pe_callB (OwnF.call_isE hz hf) (by rfl) T.b_isinstance (by decide +kernel) (pa_cons (pv 3) (pa_cons (pe_glob (v := .ref (fa 311)) rfl T.gx_BadSnapshot rfl) pa_nil)))) (pss_one (ps_ret (pe_un un_neg pe_int))) (pss_nil))
      (pss_one (ps_ret (pe_op op_add pe_int (pe_callTy call_int1 (by rfl) T.b_int PyProof.Rows.boot_int (pa_cons (pe_callB (OwnF.call_isE hz hf) (by rfl) T.b_isinstance (by decide +kernel) (pa_cons (pv 3) (pa_cons (pe_glob (v := .ref (fa 308)) rfl T.gx_BadRotation rfl) pa_nil))) pa_nil))))))))) OwnF.HdOk.nil))
      (pss_one (ps_ret pe_int)), ?_⟩
    have IS : ∀ (i j : Nat) (x y : Str) (b : Bool) (a dd : Addr) (fs : List (Str × V)) (H1 : Hp), ExcC K (fa (300 + i)) → (["RoomError", "BadText", "BadLine", "BadLibrary", "ProcedureCycle", "UnknownProgram", "BadCode", "BadGraph", "BadRotation", "BadBook", "TooLarge", "BadSnapshot"] : List Str)[i]? = some x → (["RoomError", "BadText", "BadLine", "BadLibrary", "ProcedureCycle", "UnknownProgram", "BadCode", "BadGraph", "BadRotation", "BadBook", "TooLarge", "BadSnapshot"] : List Str)[j]? = some y → (decide (x = y) || decide (y = "RoomError")) = b → H1 dd = some (.xd fs) →
        Ev (tCB (OwnF.rIsE K a (.ref (fa (300 + i))) (some dd)) (tCons (tVar 3) (tCons (tC (.ref (fa (300 + j)))) tNil))) [some (.ref ta), some (.ref ra), some (.int way), some (.ref a)] H1 (.bl b) := fun i j x y b a dd fs H1 E1 hi hj hb hd =>
      ev_isE (ev_var rfl) ev_c rfl E1 (.inr ⟨dd, fs, rfl, hd⟩) relV_ref ((T.kx.is_ i j x y hi hj).trans (by rw [hb]))
    have IV : ∀ (i : Nat) (x : Str) (a dd : Addr) (fs : List (Str × V)) (H1 : Hp), ExcC K (fa (300 + i)) → (["RoomError", "BadText", "BadLine", "BadLibrary", "ProcedureCycle", "UnknownProgram", "BadCode", "BadGraph", "BadRotation", "BadBook", "TooLarge", "BadSnapshot"] : List Str)[i]? = some x → H1 dd = some (.xd fs) →
        Ev (tCB (OwnF.rIsE K a (.ref (fa (300 + i))) (some dd)) (tCons (tVar 3) (tCons (tC (.ty "ValueError")) tNil))) [some (.ref ta), some (.ref ra), some (.int way), some (.ref a)] H1 (.bl true) := fun i x a dd fs H1 E1 hi hd =>
      ev_isE (ev_var rfl) ev_c rfl E1 (.inr ⟨dd, fs, rfl, hd⟩) relV_ty (T.kx.isv i x hi)
    refine q_tryDrop (vs := [.ref ta, .ref ra, .int way]) (ea_cons (ev_var rfl) (ea_cons (ev_var rfl) (ea_cons (ev_var rfl) ea_nil))) fun H1 e1 => ⟨ta, ra, ts, rows, way, rfl, ex_l e1 ht, hra.up e1, hlr, hn, hw, fun k d H2 du e2 hd => ?_, fun k d H2 du e2 hd => ?_, fun g H2 du e2 hg => ?_⟩
    · refine ⟨true, (T.kx.exm 7 0 _ _ rfl rfl).trans (by decide +kernel), fun _ a na => ?_, fun z => by cases z⟩
      have I := fun (j : Nat) (y : Str) (b : Bool) (H3 : Hp) (e3 : Ex H2 H3) hj hb => IS 7 j "BadGraph" y b a d _ H3 T.x_BadGraph.exc rfl hj hb (e3 _ _ hd)
      refine q_when (b := false) (et_orF (et_is (et_not (et_B (IV 7 "BadGraph" a d _ H2 T.x_BadGraph.exc rfl hd))) rfl) (et_is (et_test (ev_op (I 7 "BadGraph" true H2 (Ex.refl H2) rfl (by decide +kernel)) (I 8 "BadRotation" false H2 (Ex.refl H2) rfl (by decide +kernel)) (rv_eq rfl))) (by decide))) (fun hb => by cases hb) fun _ H3 e3 => ?_
      refine q_when (b := false) (et_orF (et_B (I 1 "BadText" false H3 e3 rfl (by decide +kernel))) (et_orF (et_B (I 2 "BadLine" false H3 e3 rfl (by decide +kernel))) (et_orF (et_B (I 3 "BadLibrary" false H3 e3 rfl (by decide +kernel))) (et_B (I 4 "ProcedureCycle" false H3 e3 rfl (by decide +kernel)))))) (fun hb => by cases hb) fun _ H4 e4 => ?_
      have e34 := e3.trans e4
      refine q_when (b := false) (et_orF (et_B (I 5 "UnknownProgram" false H4 e34 rfl (by decide +kernel))) (et_orF (et_B (I 6 "BadCode" false H4 e34 rfl (by decide +kernel))) (et_orF (et_B (I 9 "BadBook" false H4 e34 rfl (by decide +kernel))) (et_B (I 10 "TooLarge" false H4 e34 rfl (by decide +kernel)))))) (fun hb => by cases hb) fun _ H5 e5 => ?_
      have e35 := e34.trans e5
      refine q_when (b := false) (et_B (I 11 "BadSnapshot" false H5 e35 rfl (by decide +kernel))) (fun hb => by cases hb) fun _ H6 e6 => ?_
      have e36 := e35.trans e6
      exact s_ret (ev_op ev_c (ev_intB (I 8 "BadRotation" false H6 e36 rfl (by decide +kernel))) rv_I0) fun H7 e7 => q 1 k H7 du (((e1.trans e2).trans e36).trans e7)
    · refine ⟨true, (T.kx.exm 8 0 _ _ rfl rfl).trans (by decide +kernel), fun _ a na => ?_, fun z => by cases z⟩
      have I := fun (j : Nat) (y : Str) (b : Bool) (H3 : Hp) (e3 : Ex H2 H3) hj hb => IS 8 j "BadRotation" y b a d _ H3 T.x_BadRotation.exc rfl hj hb (e3 _ _ hd)
      refine q_when (b := false) (et_orF (et_is (et_not (et_B (IV 8 "BadRotation" a d _ H2 T.x_BadRotation.exc rfl hd))) rfl) (et_is (et_test (ev_op (I 7 "BadGraph" false H2 (Ex.refl H2) rfl (by decide +kernel)) (I 8 "BadRotation" true H2 (Ex.refl H2) rfl (by decide +kernel)) (rv_eq rfl))) (by decide))) (fun hb => by cases hb) fun _ H3 e3 => ?_
      refine q_when (b := false) (et_orF (et_B (I 1 "BadText" false H3 e3 rfl (by decide +kernel))) (et_orF (et_B (I 2 "BadLine" false H3 e3 rfl (by decide +kernel))) (et_orF (et_B (I 3 "BadLibrary" false H3 e3 rfl (by decide +kernel))) (et_B (I 4 "ProcedureCycle" false H3 e3 rfl (by decide +kernel)))))) (fun hb => by cases hb) fun _ H4 e4 => ?_
      have e34 := e3.trans e4
      refine q_when (b := false) (et_orF (et_B (I 5 "UnknownProgram" false H4 e34 rfl (by decide +kernel))) (et_orF (et_B (I 6 "BadCode" false H4 e34 rfl (by decide +kernel))) (et_orF (et_B (I 9 "BadBook" false H4 e34 rfl (by decide +kernel))) (et_B (I 10 "TooLarge" false H4 e34 rfl (by decide +kernel)))))) (fun hb => by cases hb) fun _ H5 e5 => ?_
      have e35 := e34.trans e5
      refine q_when (b := false) (et_B (I 11 "BadSnapshot" false H5 e35 rfl (by decide +kernel))) (fun hb => by cases hb) fun _ H6 e6 => ?_
      have e36 := e35.trans e6
      exact s_ret (ev_op ev_c (ev_intB (I 8 "BadRotation" true H6 e36 rfl (by decide +kernel))) rv_I0) fun H7 e7 => q 2 k H7 du (((e1.trans e2).trans e36).trans e7)
    · exact s_ret ev_c fun H3 e3 => q 0 0 H3 du ((e1.trans e2).trans e3)
theorem ok_fielded (T : Txt w K mg fa fd cv) : FnOk PP w K mg base CX0 37 (fa 26) (fd 26) ["one", "two"] spFielded := by
  have G_law_whole := ok_whole (w := w) (base := base) T
  have G_err_BadGraph := ok_err_BadGraph (base := base) T
  have G_err_BadRotation := ok_err_BadRotation (base := base) T
  have kb_BadGraph_0_node := T.ix_BadGraph.kbn (ps := ["self", "node"]) (ks := ["node"]) (n := 1) (g := fun us ws => us ++ ws) (gV := fun us ws => us ++ ws) (fun _ _ _ _ _ _ _ us ws h1 h2 => match us, ws, h1, h2 with | [_], [_], _, _ => rfl) (fun r1 r2 => r1.append r2)
  have kb_BadRotation_0_at := T.ix_BadRotation.kbn (ps := ["self", "at"]) (ks := ["at"]) (n := 1) (g := fun us ws => us ++ ws) (gV := fun us ws => us ++ ws) (fun _ _ _ _ _ _ _ us ws h1 h2 => match us, ws, h1, h2 with | [_], [_], _, _ => rfl) (fun r1 r2 => r1.append r2)
  refine T.d_law_fielded.F.ok sc_law_fielded (fun vs H Q E h => ?_) (fun cdv A outer s H vs Q E hr h => ?_)
  · obtain ⟨i, j, rfl, _⟩ := h
    rfl
  · obtain ⟨i, j, rfl, q⟩ := h
    refine ⟨_, pss_cons (ps_set (i := 2) sc_law_fielded.nd rfl (Or.inl rfl) (pe_lst (pa_cons (OwnF.pe_xv (OwnF.pe_exV T.x_BadGraph.oex T.ix_BadGraph.iC T.ix_BadGraph.tI G_err_BadGraph (by first | exact hr.mono (by decide) | exact hr.mono (by omega)) T.bx_BadGraph .nil pass0 (by rfl) T.gx_BadGraph (pa_cons (pv 0) pa_nil))) (pa_cons (OwnF.pe_xv (OwnF.pe_exVK0 T.x_BadGraph.oex T.ix_BadGraph.iC T.ix_BadGraph.tI G_err_BadGraph (by first | exact hr.mono (by decide) | exact hr.mono (by omega)) kb_BadGraph_0_node (fun _ _ _ => ⟨_, rfl⟩) (fun _ _ _ => ⟨_, rfl⟩) (fun _ _ _ _ => rfl) (fun _ _ _ _ => rfl) pass0 (by rfl) T.gx_BadGraph (pk_cons (pv 1) pk_nil))) (pa_cons (OwnF.pe_xv (OwnF.pe_exV T.x_BadRotation.oex T.ix_BadRotation.iC T.ix_BadRotation.tI G_err_BadRotation (by first | exact hr.mono (by decide) | exact hr.mono (by omega)) T.bx_BadRotation .nil pass0 (by rfl) T.gx_BadRotation (pa_cons (pv 1) pa_nil))) (pa_cons (OwnF.pe_xv (OwnF.pe_exVK0 T.x_BadRotation.oex T.ix_BadRotation.iC T.ix_BadRotation.tI G_err_BadRotation (by first | exact hr.mono (by decide) | exact hr.mono (by omega)) kb_BadRotation_0_at (fun _ _ _ => ⟨_, rfl⟩) (fun _ _ _ => ⟨_, rfl⟩) (fun _ _ _ _ => rfl) (fun _ _ _ _ => rfl) pass0 (by rfl) T.gx_BadRotation (pk_cons (pv 0) pk_nil))) pa_nil))))))
      (pss_one (ps_ret (pe_and (pe_callB (cr_all rfl) (by rfl) T.b_all (by decide +kernel) (pa_cons (pe_lc (own := [("number", 3)]) (g := gName 3) rfl sc_law_fielded.nd (pi_list (pv 2)) (blkOk_by (own := [("number", 3)]) (N := N_law_fielded) (sc := defScope s_law_fielded) (by decide +kernel)) (fun _ _ _ _ _ => pg_name (i := 3) sc_law_fielded.nd rfl (Or.inl rfl)) (fun _ _ _ _ _ => pts_nil) (fun _ _ _ _ _ => (pe_call G_law_whole (by first | exact hr.mono (by decide) | exact hr.mono (by omega)) (by rfl) T.d_law_whole.g T.d_law_whole.k T.d_law_whole.b .nil pass0 (pa_cons (pv 3) pa_nil)))) pa_nil)) (pe_one (pe_cmpR (op_eqD hr.units) (pv 2) (pe_lst (pa_cons (pv 0) (pa_cons (pv 1) (pa_cons (pv 1) (pa_cons (pv 0) pa_nil))))) (nomark _)))))), ?_⟩
    refine q_asgL (xs := zvs [i, j, j, i]) (el_lst (ea_cons (ev_mkV T.x_BadGraph.xf T.nx_BadGraph_node (ea_cons (ev_var rfl) ea_nil) rfl (by decide) ⟨_, rfl⟩ rfl) (ea_cons (ev_mkVK0 T.x_BadGraph.xf T.nx_BadGraph_node (ea_cons (ev_var rfl) ea_nil) rfl (fun _ => rfl) rfl (by decide) ⟨_, rfl⟩ rfl) (ea_cons (ev_mkV T.x_BadRotation.xf T.nx_BadRotation_at (ea_cons (ev_var rfl) ea_nil) rfl (by decide) ⟨_, rfl⟩ rfl) (ea_cons (ev_mkVK0 T.x_BadRotation.xf T.nx_BadRotation_at (ea_cons (ev_var rfl) ea_nil) rfl (fun _ => rfl) rfl (by decide) ⟨_, rfl⟩ rfl) ea_nil)))) (by show 4 ≤ 100000; decide)) fun p H1 np e1 hp => ?_
    refine s_ret (ev_andV (a := true) (b := true) (ev_all (elH_lcL (R := fun _ v _ => v = .bl true) (ev_var rfl) (sq_of hp) (by show 4 ≤ 40000; decide) (fun _ => rfl) (fun i v H H' _ h => h) fun k x H2 e2 hi => ?_)) fun _ => ?_) fun H2 e2 => q H2 (e1.trans e2)
    · obtain ⟨z, rfl⟩ : ∃ z : Int, x = .int z := by
        obtain ⟨z, _, hz⟩ := List.mem_map.mp (List.mem_of_getElem? hi)
        exact ⟨z, hz.symm⟩
      exact evH_of (ev_call (ea_cons (ev_var rfl) ea_nil) sp_whole) fun _ _ => rfl
    · exact ev_is (ev_eqLZ (x := [i, j, j, i]) (y := [i, j, j, i]) (evH_Lv (ev_var rfl) (sq_of hp)) (el_lst (ea_cons (ev_var rfl) (ea_cons (ev_var rfl) (ea_cons (ev_var rfl) (ea_cons (ev_var rfl) ea_nil)))) (by show 4 ≤ 100000; decide))) (by rw [decide_eq_true rfl])
end

/-! the law's table -/
def spTable (K : PySem.W.Frag) : Sp := fun vs H Q _ => ∃ (a : Addr) (ns : List Int) (m : Nat), vs = [.ref a, iV m] ∧ SqL K H a (ns.map V.int) ∧ ns.length ≤ 63 ∧ 1 ≤ m ∧ m ≤ 1600 ∧ ∀ (ts : Tab) p H2, ts.length = m → TabOk ts → H p = none → Ex H H2 → H2 p = some (.lst (ts.map nV)) → Q (.ref p) H2
section
variable {K : PySem.W.Frag} {σ : L2.St} {H : Hp}
/-- _law_digits(_law_cell(script, k), sizes) -/
theorem els_digits {a : Addr} {ns : List Int} {k : Int} {ta tl : TE} {ss : List Int} (ha : Ev ta σ H (.ref a)) (hS : SqL K H a (ns.map V.int)) (hn : ns.length ≤ 63) (h0 : 0 ≤ k) (h1 : k < 1000) (hl : EvL tl σ H (ss.map V.int)) (hz : ss.length ≤ 4000) (hp : ∀ x ∈ ss, 0 < x ∧ x < 1000000) :
    EvLS (tCall (spDigits K) [] E0 (tCons (tCall (spCell K) [] E0 (tCons ta (tCons (tC (.int k)) tNil))) (tCons tl tNil))) σ H (DigR ss) :=
  elS_call (P := fun vs H1 => ∃ (i : Int) (p : Addr), vs = [.int i, .ref p] ∧ H1 p = some (.lst (ss.map V.int))) (eaH_weak (eaH_cons (evS_call (S := fun v => ∃ i : Int, v = .int i) (ea_cons ha (ea_cons ev_c ea_nil)) (sp_cell hS hn h0 h1)) (eaH_consL hl (eaH_of (P := fun vs _ => vs = []) ea_nil fun _ _ => rfl))) fun vs H1 ⟨v, r, e1, ⟨i, ei⟩, p, r2, e2, hp, e3⟩ => ⟨i, p, by rw [e1, ei, e2, e3], hp⟩)
    fun vs H1 e1 ⟨i, p, ev, hq⟩ => by
      subst ev
      exact sp_digits (sq_of hq) hz hp
theorem ev_min {ta tb : TE} {i j : Int} (ha : Ev ta σ H (.int i)) (hb : Ev tb σ H (.int j)) : Ev (tCB (fun xs H Q => ∃ i j, xs = [V.int i, .int j] ∧ Q (.int (if j < i then j else i)) H) (tCons ta (tCons tb tNil))) σ H (.int (if j < i then j else i)) := ev_cb (ea_cons ha (ea_cons hb ea_nil)) rc_min2
/-- min([..][i], b) -/
theorem evS_minIx {tl ti tb : TE} {xs : List V} {i b : Int} {hi : Nat} (hl : EvL tl σ H xs) (h1 : Ev ti σ H (.int i)) (h0 : 0 ≤ i) (hz : i < (xs.length : Int)) (hx : ∀ x ∈ xs, ∃ z : Int, x = .int z ∧ 0 ≤ z) (hb : Ev tb σ H (.int b)) (b0 : 0 ≤ b) (b1 : b ≤ (hi : Int)) :
    EvS (tCB (fun xs H Q => ∃ i j, xs = [V.int i, .int j] ∧ Q (.int (if j < i then j else i)) H) (tCons (tOp (rIxL K) tl ti) (tCons tb tNil))) σ H (fun v => ∃ n : Nat, v = iV n ∧ n ≤ hi) := by
  obtain ⟨j, rfl⟩ : ∃ j : Nat, i = (j : Int) := ⟨i.toNat, by omega⟩
  have hj : j < xs.length := by omega
  have g := List.getElem?_eq_getElem hj
  obtain ⟨z, ez, z0⟩ := hx _ (List.getElem_mem hj)
  rw [ez] at g
  refine evS_of (ev_min (ev_ixLS hl h1 (atI_nat g)) hb) ⟨(if b < z then b else z).toNat, int_iV (by split <;> omega), ?_⟩
  split <;> omega
end
section
variable {w : World} {K : PySem.W.Frag} {mg : Str → Option Value} {base : Heap} {fa : Nat → Addr} {fd : Nat → FuncData} {cv : Nat → Value}
theorem ok_table (T : Txt w K mg fa fd cv) : FnOk PP w K mg base CX0 35 (fa 13) (fd 13) ["script", "many"] (spTable K) := by
  have G_law_cell := ok_cell (w := w) (base := base) T
  have G_law_digits := ok_digits (w := w) (base := base) T
  have G_law_next := ok_next (w := w) (base := base) T
  have G_law_alike := ok_alike (w := w) (base := base) T
  have G_law_order := ok_order (w := w) (base := base) T
  refine T.d_law_table.F.ok sc_law_table (fun vs H Q E h => ?_) (fun cdv A outer s H vs Q E hr h => ?_)
  · obtain ⟨a, ns, m, rfl, _⟩ := h
    rfl
  · obtain ⟨a, ns, m, rfl, ha, hn, m1, m2, q⟩ := h
    refine ⟨_, pss_cons (ps_set (i := 2) sc_law_table.nd rfl (Or.inr rfl) (pe_call G_law_digits (by first | exact hr.mono (by decide) | exact hr.mono (by omega)) (by rfl) T.d_law_digits.g T.d_law_digits.k T.d_law_digits.b .nil pass0 (pa_cons (pe_call G_law_cell (by first | exact hr.mono (by decide) | exact hr.mono (by omega)) (by rfl) T.d_law_cell.g T.d_law_cell.k T.d_law_cell.b .nil pass0 (pa_cons (pv 0) (pa_cons pe_int pa_nil))) (pa_cons (pe_lst (pa_cons pe_int (pa_cons (pe_op op_add (pv 1) pe_int) (pa_cons pe_int (pa_cons pe_int (pa_cons pe_int (pa_cons pe_int (pa_cons pe_int pa_nil)))))))) pa_nil))))
      (pss_cons (ps_set (i := 3) sc_law_table.nd rfl (Or.inr rfl) (pe_call G_law_digits (by first | exact hr.mono (by decide) | exact hr.mono (by omega)) (by rfl) T.d_law_digits.g T.d_law_digits.k T.d_law_digits.b .nil pass0 (pa_cons (pe_call G_law_cell (by first | exact hr.mono (by decide) | exact hr.mono (by omega)) (by rfl) T.d_law_cell.g T.d_law_cell.k T.d_law_cell.b .nil pass0 (pa_cons (pv 0) (pa_cons pe_int pa_nil))) (pa_cons (pe_op op_rep (pe_lst (pa_cons (pe_op op_add (pv 1) pe_int) pa_nil)) (pv 1)) pa_nil))))
      (pss_cons (ps_if (pt_cmpR op_lt (pe_ix ix_list (pv 2) pe_int (fun _ _ => rfl)) pe_int (nomark _)) (pss_one (ps_ret (pe_lc (own := [("digit", 12)]) (g := gName 12) rfl sc_law_table.nd (pi_list (pv 3)) (blkOk_by (own := [("digit", 12)]) (N := N_law_table) (sc := defScope s_law_table) (by decide +kernel)) (fun _ _ _ _ _ => pg_name (i := 12) sc_law_table.nd rfl (Or.inl rfl)) (fun _ _ _ _ _ => pts_nil) (fun _ _ _ _ _ => (pe_ix (r := rIxL K) (by exact ix_list) (pe_lst (pa_cons (pv 12) (pa_cons pe_non pa_nil))) (pe_callTy call_int1 (by rfl) T.b_int PyProof.Rows.boot_int (pa_cons (pe_cmpR (r := rEq) (by exact op_eq) (pv 12) (pv 1) (by exact nomark _)) pa_nil)) (fun _ _ => rfl)))))) (pss_nil))
      (pss_cons (ps_if (pt_cmpR op_eq (pe_ix ix_list (pv 2) pe_int (fun _ _ => rfl)) pe_int (nomark _)) (pss_one (ps_ret (pe_lc (own := [("k", 4)]) (g := gName 4) rfl sc_law_table.nd (pi_range1 (by rfl) T.b_range (pa_cons (pv 1) pa_nil)) (blkOk_by (own := [("k", 4)]) (N := N_law_table) (sc := defScope s_law_table) (by decide +kernel)) (fun _ _ _ _ _ => pg_name (i := 4) sc_law_table.nd rfl (Or.inl rfl)) (fun _ _ _ _ _ => pts_nil) (fun _ _ _ _ _ => (pe_call G_law_alike (by first | exact hr.mono (by decide) | exact hr.mono (by omega)) (by rfl) T.d_law_alike.g T.d_law_alike.k T.d_law_alike.b .nil pass0 (pa_cons (pv 4) (pa_cons (pv 1) (pa_cons (pe_op op_mod (pe_callTy call_int1 (by rfl) T.b_int PyProof.Rows.boot_int (pa_cons (pe_ix (r := rIxL K) (by exact ix_list) (pv 2) pe_int (fun _ _ => rfl)) pa_nil)) pe_int) (pa_cons (pe_op op_mod (pe_callTy call_int1 (by rfl) T.b_int PyProof.Rows.boot_int (pa_cons (pe_ix (r := rIxL K) (by exact ix_list) (pv 2) pe_int (fun _ _ => rfl)) pa_nil)) (pv 1)) pa_nil))))))))) (pss_nil))
      (pss_cons (ps_set (i := 5) sc_law_table.nd rfl (Or.inl rfl) (pe_ix ix_list (pe_lst (pa_cons pe_int (pa_cons pe_int (pa_cons (pv 1) (pa_cons (pe_ix ix_list (pv 2) pe_int (fun _ _ => rfl)) pa_nil))))) (pe_callB (call_min2 rfl) (by rfl) T.b_min (by decide +kernel) (pa_cons (pe_op op_sub (pe_ix ix_list (pv 2) pe_int (fun _ _ => rfl)) pe_int) (pa_cons pe_int pa_nil))) (fun _ _ => rfl)))
      (pss_cons (ps_set (i := 6) sc_law_table.nd rfl (Or.inr rfl) (pe_callB (call_min2 rfl) (by rfl) T.b_min (by decide +kernel) (pa_cons (pe_ix ix_list (pe_lst (pa_cons pe_int (pa_cons pe_int (pa_cons pe_int (pa_cons pe_int pa_nil))))) (pe_ix ix_list (pv 2) pe_int (fun _ _ => rfl)) (fun _ _ => rfl)) (pa_cons (pv 5) pa_nil))))
      (pss_cons (ps_set (i := 7) sc_law_table.nd rfl (Or.inl rfl) (pe_callB (call_min2 rfl) (by rfl) T.b_min (by decide +kernel) (pa_cons (pe_ix ix_list (pe_lst (pa_cons pe_int (pa_cons pe_int (pa_cons pe_int (pa_cons pe_int (pa_cons pe_int (pa_cons pe_int (pa_cons pe_int (pa_cons (pv 1) pa_nil))))))))) (pe_ix ix_list (pv 2) pe_int (fun _ _ => rfl)) (fun _ _ => rfl)) (pa_cons (pe_op op_sub (pv 1) (pv 5)) pa_nil))))
      (pss_cons (ps_setLc (i := 8) (own := [("k", 4)]) (g := gName 4) rfl sc_law_table.nd rfl rfl (sw_true rfl rfl rfl (by decide +kernel)) (pi_range1 (by rfl) T.b_range (pa_cons (pv 5) pa_nil)) (blkOk_by (own := [("k", 4)]) (N := N_law_table) (sc := defScope s_law_table) (by decide +kernel)) (fun _ _ _ _ _ => pg_name (i := 4) sc_law_table.nd rfl (Or.inl rfl)) (fun _ _ _ _ _ => pts_nil) (fun _ _ _ _ _ => (pe_call G_law_next (by first | exact hr.mono (by decide) | exact hr.mono (by omega)) (by rfl) T.d_law_next.g T.d_law_next.k T.d_law_next.b .nil pass0 (pa_cons (pv 4) (pa_cons (pv 6) (pa_cons (pe_ix (r := rIxL K) (by exact ix_list) (pv 2) pe_int (fun _ _ => rfl)) (pa_cons (pe_ix (r := rIxL K) (by exact ix_list) (pv 3) (pv 4) (fun _ _ => rfl)) pa_nil)))))))
      (pss_cons (ps_for (by exact PassesOwn.never) rfl (pi_range1 (by rfl) T.b_range (pa_cons (pe_op op_sub (pv 1) (pv 5)) pa_nil)) (pg_name (i := 4) sc_law_table.nd rfl (Or.inl rfl)) (pss_cons (ps_set (i := 9) sc_law_table.nd rfl (Or.inl rfl) (pe_call G_law_next (by first | exact hr.mono (by decide) | exact hr.mono (by omega)) (by rfl) T.d_law_next.g T.d_law_next.k T.d_law_next.b .nil pass0 (pa_cons (pv 4) (pa_cons (pv 7) (pa_cons (pe_ix ix_list (pv 2) pe_int (fun _ _ => rfl)) (pa_cons (pe_ix ix_list (pv 3) (pe_op op_add (pv 5) (pv 4)) (fun _ _ => rfl)) pa_nil))))))
      (pss_cut (ps_if (pt_cmpR op_notN (pv 9) pe_non (nomark _)) (pss_one (ps_set (i := 9) sc_law_table.nd rfl (Or.inl rfl) (pe_op op_add (pv 5) (pv 9)))) (pss_nil))
      (pss_one (ps_expr (pe_bm PySem.F.plainAttrs_list PySem.F.slot_list_append PySem.F.type_list_append mt_append (pv 8) (pa_cons (pv 9) pa_nil)))))))
      (pss_cons (ps_if (pt_cmpR op_eq (pe_ix ix_list (pv 2) pe_int (fun _ _ => rfl)) pe_int (nomark _)) (pss_one (ps_ret (pv 8))) (pss_nil))
      (pss_cons (ps_set (i := 10) sc_law_table.nd rfl (Or.inl rfl) (pe_call G_law_order (by first | exact hr.mono (by decide) | exact hr.mono (by omega)) (by rfl) T.d_law_order.g T.d_law_order.k T.d_law_order.b .nil pass0 (pa_cons (pe_call G_law_digits (by first | exact hr.mono (by decide) | exact hr.mono (by omega)) (by rfl) T.d_law_digits.g T.d_law_digits.k T.d_law_digits.b .nil pass0 (pa_cons (pe_call G_law_cell (by first | exact hr.mono (by decide) | exact hr.mono (by omega)) (by rfl) T.d_law_cell.g T.d_law_cell.k T.d_law_cell.b .nil pass0 (pa_cons (pv 0) (pa_cons pe_int pa_nil))) (pa_cons (pe_lc (own := [("k", 4)]) (g := gName 4) rfl sc_law_table.nd (pi_range1 (by rfl) T.b_range (pa_cons (pv 1) pa_nil)) (blkOk_by (own := [("k", 4)]) (N := N_law_table) (sc := defScope s_law_table) (by decide +kernel)) (fun _ _ _ _ _ => pg_name (i := 4) sc_law_table.nd rfl (Or.inl rfl)) (fun _ _ _ _ _ => pts_nil) (fun _ _ _ _ _ => (pe_op op_sub (pv 1) (pv 4)))) pa_nil))) pa_nil)))
      (pss_cons (ps_set (i := 11) sc_law_table.nd rfl (Or.inl rfl) (pe_op op_rep (pe_lst (pa_cons pe_non pa_nil)) (pv 1)))
      (pss_cons (ps_for (by exact PassesOwn.never) rfl (pi_range1 (by rfl) T.b_range (pa_cons (pv 1) pa_nil)) (pg_name (i := 4) sc_law_table.nd rfl (Or.inl rfl)) (pss_one (ps_if (pt_cmpR op_notN (pe_ix ix_list (pv 8) (pv 4) (fun _ _ => rfl)) pe_non (nomark _)) (pss_one (ps_asg (pe_ix ix_list (pv 10) (pe_ix ix_list (pv 8) (pv 4) (fun _ _ => rfl)) (fun _ _ => rfl)) (pg_sub (pv 11) (pe_ix ix_list (pv 10) (pv 4) (fun _ _ => rfl)) set_list))) (pss_nil))))
      (pss_one (ps_ret (pv 11))))))))))))))), ?_⟩
    have fin : ∀ (xs : List V) p H1, TabL m xs → xs.length = m → H p = none → Ex H H1 → H1 p = some (.lst xs) → Q (.ref p) H1 := fun xs p H1 ht hl hp e1 h1 => by
      obtain ⟨ts, rfl, l2, ok⟩ := ht.ok hl
      exact q ts p H1 l2 ok hp e1 h1
    refine q_asgLS (els_digits (ss := [10, (m : Int) + 1, 7, 7, 4, 8, 4]) (ev_var rfl) ha hn (by decide) (by decide) (el_lst (ea_cons ev_c (ea_cons (ev_op (ev_var rfl) ev_c rv_I0) (ea_cons ev_c (ea_cons ev_c (ea_cons ev_c (ea_cons ev_c (ea_cons ev_c ea_nil))))))) (by show 7 ≤ 100000; decide)) (by show 7 ≤ 4000; decide) (fun x hx => by simp at hx; omega)) fun _ r H1 ⟨rs, ers, lrs, brs⟩ nr e1 hr => ?_
    subst ers
    have r0 := brs 0 10 rfl
    have r1 := brs 1 ((m : Int) + 1) rfl
    have r2 := brs 2 7 rfl
    have r3 := brs 3 7 rfl
    have r4 := brs 4 4 rfl
    have r5 := brs 5 8 rfl
    have r6 := brs 6 4 rfl
    have lr : rs.length = 7 := lrs
    refine q_asgLS (els_digits (ss := List.replicate m ((m : Int) + 1)) (ev_var rfl) (ex_l e1 ha) hn (by decide) (by decide) (by rw [← rep_map]; exact el_rep (el_lst (ea_cons (ev_op (ev_var rfl) ev_c rv_I0) ea_nil) (by show 1 ≤ 100000; decide)) (ev_var rfl) (by omega) (by omega) (by rw [Int.toNat_natCast]; show 1 * m ≤ 100000; omega)) (by rw [List.length_replicate]; omega) (fun x hx => by rw [List.eq_of_mem_replicate hx]; omega)) fun _ d H2 ⟨ds, eds, lds, bds⟩ nd e2 hd => ?_
    subst eds
    rw [List.length_replicate] at lds
    have dB : ∀ i, i < m → 0 ≤ ds.getD i 0 ∧ ds.getD i 0 < (m : Int) + 1 := fun i hi => bds i _ (by rw [List.getElem?_replicate, if_pos hi])
    have hr2 := e2 _ _ hr
    have RX : ∀ (j : Nat), j < 7 → ∀ {H' : Hp} {σ : L2.St}, Ex H2 H' → σ[2]? = some (some (.ref r)) → Ev (tOp (rIxL K) (tVar 2) (tC (.int (j : Int)))) σ H' (.int (rs.getD j 0)) := fun j hj H' σ e' h2 => ev_op (ev_var h2) ev_c (rv_ixL (sq_of (e' _ _ hr2)) (at_ints (by omega)))
    have DX : ∀ (j : Nat), j < m → ∀ {H' : Hp} {σ : L2.St} {ti : TE}, Ex H2 H' → σ[3]? = some (some (.ref d)) → Ev ti σ H' (iV j) → Ev (tOp (rIxL K) (tVar 3) ti) σ H' (.int (ds.getD j 0)) := fun j hj H' σ ti e' h3 hi => ev_op (ev_var h3) hi (rv_ixL (sq_of (e' _ _ hd)) (at_ints (by omega)))
    have hdl : (ds.map V.int).length = m := by rw [List.length_map, lds]
    refine q_when (et_test (ev_op (RX 0 (by omega) (Ex.refl _) rfl) ev_c rv_I0)) (fun hb H3 e3 => ?_) fun hb H3 e3 => ?_
    · have L := elH_lcL (K := K) (tl := tVar 3) (te := tOp (rIxL K) (tLst (tCons (tVar 12) (tCons (tC V.non) tNil))) (tCB (fun xs H Q => (∃ i, xs = [V.int i] ∧ Q (V.int i) H) ∨ ∃ k, xs = [.bl k] ∧ Q (.int (if k = true then 1 else 0)) H) (tCons (tOp rEq (tVar 12) (tVar 1)) tNil))) (j := 12) (vs := [12]) (σ := [some (.ref a), some (iV m), some (.ref r), some (.ref d), none, none, none, none, none, none, none, none, none]) (H := H3) (R := fun i v _ => NxV m v) (ev_var rfl) (sq_of (e3 _ _ hd)) (by omega) (fun _ => rfl) (fun i v H H' k h => h) fun i x H4 e4 hi => by
        rw [List.getElem?_map] at hi
        cases e : ds[i]? with
        | none => rw [e] at hi; cases hi
        | some z =>
          rw [e] at hi
          cases hi
          have hil : i < m := by rw [← lds]; exact (List.getElem?_eq_some_iff.mp e).1
          have hz := dB i hil
          rw [getD_of e] at hz
          by_cases c : z = (m : Int)
          · refine evH_of (ev_ixLS (v := .non) (i := 1) (el_lst (ea_cons (ev_var rfl) (ea_cons ev_c ea_nil)) (by show 2 ≤ 100000; decide)) (ev_is (ev_cb (ea_cons (ev_op (ev_var rfl) (ev_var rfl) rv_eqI) ea_nil) rc_intB) (by rw [decide_eq_true c]; rfl)) at2_1) fun _ _ => nx_non
          · refine evH_of (ev_ixLS (v := .int z) (i := 0) (el_lst (ea_cons (ev_var rfl) (ea_cons ev_c ea_nil)) (by show 2 ≤ 100000; decide)) (ev_is (ev_cb (ea_cons (ev_op (ev_var rfl) (ev_var rfl) rv_eqI) ea_nil) rc_intB) (by rw [decide_eq_false c]; rfl)) at2_0) fun _ _ => nx_int hz.1 (by omega)
      rw [hdl] at L
      exact s_retLS (elS_ofH (R' := fun xs => TabL m xs ∧ xs.length = m) L fun xs H4 hl hx => ⟨fun x hx' => by obtain ⟨i, hi⟩ := List.getElem?_of_mem hx'; exact hx i x hi, hl⟩) fun xs p H4 ⟨t1, t2⟩ np e4 h4 => fin xs p H4 t1 t2 (fresh_back ((e1.trans e2).trans e3) np) (((e1.trans e2).trans e3).trans e4) h4
    have c0 : ¬ rs.getD 0 0 < 2 := of_decide_eq_false hb
    refine q_when (et_test (ev_op (RX 0 (by omega) e3 rfl) ev_c rv_eqI)) (fun hb2 H4 e4 => ?_) fun hb2 H4 e4 => ?_
    · have e34 := e3.trans e4
      have L := elH_lcR (ta := tCons (tVar 1) tNil) (te := tCall spAlike [] E0 (tCons (tVar 4) (tCons (tVar 1) (tCons (tOp (rI (fun x j => 0 < j) fun i j => .int (i % j)) (tCB (fun xs H Q => (∃ i, xs = [V.int i] ∧ Q (V.int i) H) ∨ ∃ k, xs = [.bl k] ∧ Q (.int (if k = true then 1 else 0)) H) (tCons (tOp (rIxL K) (tVar 2) (tC (.int 2))) tNil)) (tC (.int 5))) (tCons (tOp (rI (fun x j => 0 < j) fun i j => .int (i % j)) (tCB (fun xs H Q => (∃ i, xs = [V.int i] ∧ Q (V.int i) H) ∨ ∃ k, xs = [.bl k] ∧ Q (.int (if k = true then 1 else 0)) H) (tCons (tOp (rIxL K) (tVar 2) (tC (.int 1))) tNil)) (tVar 1)) tNil))))) (j := 4) (vs := [4]) (m := m) (σ := [some (.ref a), some (iV m), some (.ref r), some (.ref d), none, none, none, none, none, none, none, none, none]) (H := H4) (R := fun i v _ => NxV m v) (ea_cons (ev_var rfl) ea_nil) (by omega) (fun _ => rfl) (fun i v H H' k h => h) fun i H5 e5 hi => by
        have g0 := Int.emod_nonneg (rs.getD 1 0) (show (m : Int) ≠ 0 by omega)
        have g1 := Int.emod_lt_of_pos (rs.getD 1 0) (show (0 : Int) < m by omega)
        exact evH_call (vs := [iV i, iV m, .int (rs.getD 2 0 % 5), .int (rs.getD 1 0 % (m : Int))]) (ea_cons (ev_var rfl) (ea_cons (ev_var rfl) (ea_cons (ev_op (ev_cb (ea_cons (RX 2 (by omega) (e34.trans e5) rfl) ea_nil) rc_int1) ev_c (rv_I (by show (0 : Int) < 5; decide))) (ea_cons (ev_op (ev_cb (ea_cons (RX 1 (by omega) (e34.trans e5) rfl) ea_nil) rc_int1) (ev_var rfl) (rv_I (by omega))) ea_nil)))) fun H6 e6 Q6 q6 E6 => ⟨i, m, _, _, rfl, hi, g0, g1, fun v H7 hv e7 => q6 v H7 e7 hv⟩
      exact s_retLS (elS_ofH (R' := fun xs => TabL m xs ∧ xs.length = m) L fun xs H5 hl hx => ⟨fun x hx' => by obtain ⟨i, hi⟩ := List.getElem?_of_mem hx'; exact hx i x hi, hl⟩) fun xs p H5 ⟨t1, t2⟩ np e5 h5 => fin xs p H5 t1 t2 (fresh_back ((e1.trans e2).trans e34) np) (((e1.trans e2).trans e34).trans e5) h5
    have e34 := e3.trans e4
    have c1 : ¬ rs.getD 0 0 = 2 := of_decide_eq_false hb2
    -- cut
    refine q_asgS (S := fun v => ∃ n : Nat, v = iV n ∧ n ≤ m) (evS_ix (xs := [.int 0, .int 0, iV m, .int (rs.getD 1 0)]) (i := if (3 : Int) < rs.getD 0 0 - 3 then 3 else rs.getD 0 0 - 3) (el_lst (ea_cons ev_c (ea_cons ev_c (ea_cons (ev_var rfl) (ea_cons (RX 1 (by omega) e34 rfl) ea_nil)))) (by show 4 ≤ 100000; decide)) (ev_min (ev_op (RX 0 (by omega) e34 rfl) ev_c rv_I0) ev_c) (by split <;> omega) (by show _ < (4 : Int); split <;> omega) fun x hx => by
      rcases List.mem_cons.mp hx with rfl | hx
      · exact ⟨0, rfl, by omega⟩
      rcases List.mem_cons.mp hx with rfl | hx
      · exact ⟨0, rfl, by omega⟩
      rcases List.mem_cons.mp hx with rfl | hx
      · exact ⟨m, rfl, Nat.le_refl _⟩
      rw [List.mem_singleton.mp hx]
      exact ⟨(rs.getD 1 0).toNat, int_iV r1.1, by omega⟩) fun _ H5 ⟨cut, ec, hc⟩ e5 => ?_
    subst ec
    have e25 := e34.trans e5
    refine q_asgS (evS_minIx (hi := cut) (xs := [.int 0, .int 0, .int 0, .int 2]) (el_lst (ea_cons ev_c (ea_cons ev_c (ea_cons ev_c (ea_cons ev_c ea_nil)))) (by show 4 ≤ 100000; decide)) (RX 4 (by omega) e25 rfl) r4.1 r4.2 (fun x hx => by simp at hx; rcases hx with rfl | rfl <;> exact ⟨_, rfl, by decide⟩) (ev_var rfl) (by omega) (Int.le_refl _)) fun _ H6 ⟨one, e1', h1'⟩ e6 => ?_
    subst e1'
    have e26 := e25.trans e6
    refine q_asgS (evS_minIx (hi := m - cut) (b := (m : Int) - (cut : Int)) (xs := [.int 1, .int 1, .int 2, .int 2, .int 3, .int 4, .int 5, iV m]) (el_lst (ea_cons ev_c (ea_cons ev_c (ea_cons ev_c (ea_cons ev_c (ea_cons ev_c (ea_cons ev_c (ea_cons ev_c (ea_cons (ev_var rfl) ea_nil)))))))) (by show 8 ≤ 100000; decide)) (RX 5 (by omega) e26 rfl) r5.1 r5.2 (fun x hx => by simp at hx; rcases hx with rfl | rfl | rfl | rfl | rfl | rfl <;> exact ⟨_, rfl, by omega⟩) (ev_op (ev_var rfl) (ev_var rfl) rv_I0) (by omega) (by omega)) fun _ H7 ⟨two, e2', h2'⟩ e7 => ?_
    subst e2'
    have e27 := e26.trans e7
    -- table
    have L := elH_lcR (ta := tCons (tVar 5) tNil) (te := tCall spNext [] E0 (tCons (tVar 4) (tCons (tVar 6) (tCons (tOp (rIxL K) (tVar 2) (tC (.int 2))) (tCons (tOp (rIxL K) (tVar 3) (tVar 4)) tNil))))) (j := 4) (vs := [4]) (m := cut) (σ := [some (.ref a), some (iV m), some (.ref r), some (.ref d), none, some (iV cut), some (iV one), some (iV two), none, none, none, none, none]) (H := H7) (R := fun i v _ => NxV cut v) (ea_cons (ev_var rfl) ea_nil) (by omega) (fun _ => rfl) (fun i v H H' k h => h) fun i H8 e8 hi => by
      exact evH_call (vs := [iV i, iV one, .int (rs.getD 2 0), .int (ds.getD i 0)]) (ea_cons (ev_var rfl) (ea_cons (ev_var rfl) (ea_cons (RX 2 (by omega) (e27.trans e8) rfl) (ea_cons (DX i (by omega) (e27.trans e8) rfl (ev_var rfl)) ea_nil)))) fun H9 e9 Q9 q9 E9 => ⟨i, one, cut, _, _, rfl, hi, h1', fun v H7 hv e7 => q9 v H7 e7 hv⟩
    refine q_asgLS (elS_ofH (R' := fun xs => TabL m xs ∧ xs.length = cut) L fun xs H8 hl hx => ⟨fun x hx' => by obtain ⟨i, hi⟩ := List.getElem?_of_mem hx'; exact (hx i x hi).up hc, hl⟩) fun xs p H8 ⟨t1, t2⟩ np e8 h8 => ?_
    have npH : H p = none := fresh_back ((e1.trans e2).trans e27) np
    refine q_forR1 (n := (m : Int) - (cut : Int)) (ea_cons (ev_op (ev_var rfl) (ev_var rfl) rv_I0) ea_nil) ⟨by omega, by omega⟩ (fun i σ' H' => ∃ (y4 y9 : Option V) (xs : List V), σ' = [some (.ref a), some (iV m), some (.ref r), some (.ref d), y4, some (iV cut), some (iV one), some (iV two), some (.ref p), y9, none, none, none] ∧ Ex H7 H' ∧ H' p = some (.lst xs) ∧ TabL m xs ∧ xs.length = cut + i)
      (fun H9 e9 => ⟨_, _, xs, rfl, e8.trans e9, e9 _ _ h8, t1, t2⟩) (fun i σ' H' hi ⟨y4, y9, xs, hσ, e, hp, t1, t2⟩ => ?_) (fun σ' H' ⟨y4, y9, xs, hσ, e, hp, t1, t2⟩ => ?_)
    · subst hσ
      refine q_asgH (R := fun v _ => NxV (m - cut) v) (evH_call (vs := [iV i, iV two, .int (rs.getD 3 0), .int (ds.getD (cut + i) 0)]) (ea_cons (ev_var rfl) (ea_cons (ev_var rfl) (ea_cons (RX 3 (by omega) (e27.trans e) rfl) (ea_cons (DX (cut + i) (by omega) (e27.trans e) rfl (ev_is (ev_op (ev_var rfl) (ev_var rfl) rv_I0) rfl)) ea_nil)))) fun H9 e9 Q9 q9 E9 => ⟨i, two, m - cut, _, _, rfl, by omega, h2', fun v H7 hv e7 => q9 v H7 e7 hv⟩) fun v H9 e9 hv => ?_
      obtain ⟨o, rfl, ho⟩ := hv
      have hp9 := e9 _ _ hp
      have e79 := e.trans e9
      refine q_cut (M := fun σ' H' => ∃ v, NxV m v ∧ σ' = [some (.ref a), some (iV m), some (.ref r), some (.ref d), some (iV i), some (iV cut), some (iV one), some (iV two), some (.ref p), some v, none, none, none] ∧ Ex H9 H') ?_ fun σ2 H10 ⟨v, hv, hσ, e10⟩ => ?_
      · cases o with
        | none => exact s_when (b := false) (et_is (et_test (ev_notN (ev_var rfl))) rfl) (fun hb => by cases hb) fun _ H10 e10 => ⟨.non, nx_non, rfl, e10⟩
        | some j =>
          have hj := ho j rfl
          exact s_when (b := true) (et_is (et_test (ev_notN (ev_var rfl))) rfl) (fun hb H10 e10 => s_asg (v := .int ((cut : Int) + (j : Int))) (ev_op (ev_var rfl) (ev_var (v := iV j) rfl) rv_I0) fun H11 e11 => ⟨_, nx_int (by omega) (by omega), rfl, e10.trans e11⟩) fun hb => by cases hb
      · subst hσ
        exact s_app (e10 _ _ hp9) (ev_var rfl) (ev_var rfl) (by omega) fun H11 e11 => ⟨_, _, xs ++ [v], rfl, Ex.mut ((e79.trans e10).trans e11) np, upd_same, t1.snoc hv, by rw [List.length_append, t2]; rfl⟩
    · subst hσ
      have t2 : xs.length = m := by rw [t2]; omega
      have e2H := (e1.trans e2).trans e27
      refine q_when (et_test (ev_op (RX 6 (by omega) (e27.trans e) rfl) ev_c rv_eqI)) (fun hb3 H9 e9 => s_ret (ev_var rfl) fun H10 e10 => fin xs p H10 t1 t2 npH ((e2H.trans e).trans (e9.trans e10)) ((e9.trans e10) _ _ hp)) fun hb3 H9 e9 => ?_
      have SZ : EvL (tLc (iRng1 (tCons (tVar 1) tNil)) (gName 4) tYes (tOp (rI0 fun i j => V.int (i - j)) (tVar 1) (tVar 4)) [4]) [some (.ref a), some (iV m), some (.ref r), some (.ref d), y4, some (iV cut), some (iV one), some (iV two), some (.ref p), y9, none, none, none] H9 (((List.range m).map fun k : Nat => (m : Int) - (k : Int)).map V.int) := by
        have I := el_ofH (elH_lcR (ta := tCons (tVar 1) tNil) (te := tOp (rI0 fun i j => V.int (i - j)) (tVar 1) (tVar 4)) (j := 4) (vs := [4]) (m := m) (H := H9) (σ := [some (.ref a), some (iV m), some (.ref r), some (.ref d), y4, some (iV cut), some (iV one), some (iV two), some (.ref p), y9, none, none, none]) (R := fun k v _ => v = V.int ((m : Int) - (k : Int))) (ea_cons (ev_var rfl) ea_nil) (by omega) (fun _ => rfl) (fun i v H H' _ h => h) fun k H10 e10 hk => evH_of (ev_op (ev_var rfl) (ev_var rfl) rv_I0) fun _ _ => rfl)
        rw [List.map_map]
        exact I
      have e9H := (e2H.trans e).trans e9
      refine q_asgLS (R := fun xs => ∃ os : List Nat, xs = nvs os ∧ os.Perm (List.range m)) (elS_call (P := fun vs H1 => ∃ (p : Addr) (ds : List Int), vs = [.ref p] ∧ H1 p = some (.lst (ds.map V.int)) ∧ ds.length = m) (fun H10 e10 Q10 q10 => els_digits (ss := (List.range m).map fun k : Nat => (m : Int) - (k : Int)) (ev_var rfl) (ex_l e9H ha) hn (by decide) (by decide) SZ (by rw [List.length_map, List.length_range]; omega) (fun x hx => by
          obtain ⟨k, hk, rfl⟩ := List.mem_map.mp hx
          have := List.mem_range.mp hk
          omega) H10 e10 _ fun xs2 p2 H11 ⟨ds2, e2, l2, _⟩ np2 e11 h11 => q10 _ H11 ⟨p2, ds2, rfl, by rw [h11, e2], by rw [l2, List.length_map, List.length_range]⟩ e11) fun vs H10 e10 ⟨p2, ds2, ev, h2, l2⟩ => by
        subst ev
        exact fun Q11 q11 E11 => ⟨p2, ds2, rfl, sq_of h2, by omega, fun os p3 H12 hos np3 e12 h12 => q11 _ p3 H12 ⟨os, rfl, by rw [l2] at hos; exact hos⟩ np3 e12 h12⟩) fun _ o H10 ⟨os, eos, hos⟩ no e10 ho => ?_
      subst eos
      have los : os.length = m := by rw [hos.length_eq, List.length_range]
      have oB : ∀ i, i < m → os.getD i 0 < m := fun i hi => by
        have := (hos.mem_iff (a := os.getD i 0)).mp (by rw [getD_eq (by omega)]; exact List.getElem_mem _)
        exact List.mem_range.mp this
      have hp10 : H10 p = some (.lst xs) := e10 _ _ (e9 _ _ hp)
      refine q_asgL (xs := List.replicate m V.non) (by rw [← rep_non]; exact el_rep (el_lst (ea_cons ev_c ea_nil) (by show 1 ≤ 100000; decide)) (ev_var rfl) (by omega) (by omega) (by rw [Int.toNat_natCast]; show 1 * m ≤ 100000; omega)) fun md H11 nm e11 h11 => ?_
      have e10H := e9H.trans e10
      have nmH : H md = none := fresh_back e10H nm
      have hp11 := e11 _ _ hp10
      have ho11 := e11 _ _ ho
      obtain ⟨ts, rfl, lts, okt⟩ := t1.ok t2
      refine q_forR1 (n := (m : Int)) (ea_cons (ev_var rfl) ea_nil) ⟨by omega, by omega⟩ (fun i σ' H' => ∃ (y4 : Option V) (us : List V), σ' = [some (.ref a), some (iV m), some (.ref r), some (.ref d), y4, some (iV cut), some (iV one), some (iV two), some (.ref p), y9, some (.ref o), some (.ref md), none] ∧ Ex H10 H' ∧ H' md = some (.lst us) ∧ TabL m us ∧ us.length = m)
        (fun H12 e12 => ⟨_, _, rfl, e11.trans e12, e12 _ _ h11, fun x hx => by rw [List.eq_of_mem_replicate hx]; exact nx_non, List.length_replicate⟩) (fun i σ' H' hi ⟨y4, us, hσ, e', hmd, u1, u2⟩ => ?_) (fun σ' H' ⟨y4, us, hσ, e', hmd, u1, u2⟩ => ?_)
      · subst hσ
        have hk : i < m := by omega
        have hpx := e' _ _ hp10
        have hox := e' _ _ ho
        have TK : ∀ H2, Ex H' H2 → Ev (tOp (rIxL K) (tVar 8) (tVar 4)) [some (.ref a), some (iV m), some (.ref r), some (.ref d), some (iV i), some (iV cut), some (iV one), some (iV two), some (.ref p), y9, some (.ref o), some (.ref md), none] H2 (nV (ts.getD i none)) := fun H2 e2 => ev_op (ev_var rfl) (ev_var rfl) (rv_ixL (sq_of (e2 _ _ hpx)) (at_tab (by omega)))
        cases eo : ts.getD i none with
        | none =>
          rw [eo] at TK
          exact s_when (b := false) (et_is (et_test (ev_notN (TK H' (Ex.refl H')))) rfl) (fun hb => by cases hb) fun hb H3 e3 => ⟨_, us, rfl, e'.trans e3, e3 _ _ hmd, u1, u2⟩
        | some j =>
          rw [eo] at TK
          have hj := okt i j (getD_some eo)
          rw [lts] at hj
          have oi := oB i hk
          refine s_when (b := true) (et_is (et_test (ev_notN (TK H' (Ex.refl H')))) rfl) (fun hb H3 e3 => ?_) (fun hb => by cases hb)
          refine s_setL (j := os.getD i 0) (v := iV (os.getD j 0)) (e3 _ _ hmd) (ev_op (ev_var rfl) (TK H3 e3) (rv_ixL (sq_of (e3 _ _ hox)) (at_ints' (by omega)))) (ev_var rfl) (ev_op (ev_var rfl) (ev_var rfl) (rv_ixL (sq_of (e3 _ _ hox)) (at_ints' (by omega)))) (by omega) fun H4 e4 => ?_
          refine ⟨_, _, rfl, Ex.mut ((e'.trans e3).trans e4) nm, upd_same, u1.set ⟨some (os.getD j 0), rfl, fun k e => by cases e; exact oB j hj⟩, by rw [List.length_set, u2]⟩
      · subst hσ
        exact s_ret (ev_var rfl) fun H12 e12 => fin us md H12 u1 u2 nmH (e10H.trans (e'.trans e12)) (e12 _ _ hmd)
end

/-! the law -/
def spLaw (K : PySem.W.Frag) : Sp := fun vs H Q _ => ∃ (a : Addr) (ns : List Int), vs = [.ref a] ∧ SqL K H a (ns.map V.int) ∧ ns.length ≤ 63 ∧ ∀ H2, Q (.bl true) H2
/-- a list of rows, being changed -/
structure Rws (K : PySem.W.Frag) (H : Hp) (ps : List Addr) (rows : List (List Int)) : Prop where
  len : ps.length = rows.length
  at_ : ∀ (i : Nat) (p : Addr) (l : List Int), ps[i]? = some p → rows[i]? = some l → SqT K H p (zvs l)
theorem Rws.up {K : PySem.W.Frag} {H H' : Hp} {ps : List Addr} {rows : List (List Int)} (k : Kt H H') (h : Rws K H ps rows) : Rws K H' ps rows := ⟨h.len, fun i p l h1 h2 => by
  rcases h.at_ i p l h1 h2 with (q | ⟨u, q⟩) | q
  · exact .inl (.inl (k _ _ q (fun xs z => by cases z)))
  · exact .inl (.inr ⟨u, k _ _ q (fun xs z => by cases z)⟩)
  · exact .inr q⟩
theorem Rws.set {K : PySem.W.Frag} {H : Hp} {ps : List Addr} {rows : List (List Int)} {j : Nat} {p : Addr} {l : List Int} (h : Rws K H ps rows) (hp : SqT K H p (zvs l)) : Rws K H (ps.set j p) (rows.set j l) := ⟨by rw [List.length_set, List.length_set, h.len], fun i q r h1 h2 => by
  by_cases c : j = i
  · subst c
    rw [List.getElem?_set] at h1 h2
    rw [if_pos rfl] at h1 h2
    split at h1
    · split at h2
      · cases h1
        cases h2
        exact hp
      · cases h2
    · cases h1
  · rw [List.getElem?_set_ne c] at h1 h2
    exact h.at_ i q r h1 h2⟩
section
variable {K : PySem.W.Frag} {σ : L2.St} {H : Hp} {D : Ends} {te ta tb ti : TE}
theorem s_setLH {R : V → Hp → Prop} {l : Addr} {xs : List V} {j : Nat} (hl : H l = some (.lst xs)) (h : EvH te σ H R) (st : ∀ v H H', Ex H H' → R v H → R v H') (ho : Ev ta σ H (.ref l)) (hi : Ev tb σ H (.int (j : Int))) (hj : j < xs.length) (k : ∀ v H1, Ex H H1 → R v H1 → D.nx σ (upd H1 l (.lst (xs.set j v)))) :
    tAsg te (gSub ta tb rSetL) D σ H := h H (Ex.refl H) _ fun v H1 e1 r => ho H1 e1 _ fun H2 e2 => hi H2 (e1.trans e2) _ fun H3 e3 =>
  ⟨l, xs, (j : Int), j, rfl, rfl, ((e1.trans e2).trans e3) l _ hl, ixN_nat hj, k v H3 ((e1.trans e2).trans e3) (st _ _ _ (e2.trans e3) r)⟩
/-- _law_digits(_law_cell(script, e), sizes) -/
theorem els_digitsV {a : Addr} {ns : List Int} {k : Int} {tl : TE} {ss : List Int} (ha : Ev ta σ H (.ref a)) (hS : SqL K H a (ns.map V.int)) (hn : ns.length ≤ 63) (hk : Ev ti σ H (.int k)) (h0 : 0 ≤ k) (h1 : k < 1000) (hl : EvL tl σ H (zvs ss)) (hz : ss.length ≤ 40000) (hp : ∀ x ∈ ss, 0 < x) :
    EvLS (tCall (spDigits K) [] E0 (tCons (tCall (spCell K) [] E0 (tCons ta (tCons ti tNil))) (tCons tl tNil))) σ H (DigR ss) :=
  elS_call (P := fun vs H1 => ∃ (i : Int) (p : Addr), vs = [.int i, .ref p] ∧ H1 p = some (.lst (ss.map V.int))) (eaH_weak (eaH_cons (evS_call (S := fun v => ∃ i : Int, v = .int i) (ea_cons ha (ea_cons hk ea_nil)) (sp_cell hS hn h0 h1)) (eaH_consL hl (eaH_of (P := fun vs _ => vs = []) ea_nil fun _ _ => rfl))) fun vs H1 ⟨v, r, e1, ⟨i, ei⟩, p, r2, e2, hp, e3⟩ => ⟨i, p, by rw [e1, ei, e2, e3], hp⟩)
    fun vs H1 e1 ⟨i, p, ev, hq⟩ => by
      subst ev
      exact sp_digitsW (sq_of hq) hz hp
/-- _law_cell(script, e) -/
theorem evS_cell {a : Addr} {ns : List Int} {k : Int} (ha : Ev ta σ H (.ref a)) (hS : SqL K H a (ns.map V.int)) (hn : ns.length ≤ 63) (hk : Ev ti σ H (.int k)) (h0 : 0 ≤ k) (h1 : k < 1000) : EvS (tCall (spCell K) [] E0 (tCons ta (tCons ti tNil))) σ H IsZ := evS_call (ea_cons ha (ea_cons hk ea_nil)) (sp_cell hS hn h0 h1)
theorem evS_reach (h : EvS te σ H IsZ) : EvS (tCall spReach [] E0 (tCons te tNil)) σ H (fun v => ∃ i : Int, v = .int i ∧ 0 ≤ i) := fun H1 e Q q =>
  h H1 e _ fun v H2 ⟨z, ev⟩ e2 => ⟨z, by rw [ev]; rfl, fun i H3 i0 e3 => q _ H3 ⟨i, rfl, i0⟩ (e2.trans e3)⟩
theorem evH_ofS {S : V → Prop} (h : EvS te σ H S) : EvH te σ H (fun v _ => S v) := fun H1 e Q q => h H1 e Q fun v H2 s e2 => q v H2 e2 s
theorem evS_int (h : EvS te σ H IsZ) : EvS (tCB (fun xs H Q => (∃ i, xs = [V.int i] ∧ Q (V.int i) H) ∨ ∃ k, xs = [V.bl k] ∧ Q (V.int (if k = true then 1 else 0)) H) (tCons te tNil)) σ H IsZ := fun H1 e Q q =>
  h H1 e _ fun v H2 ⟨i, ev⟩ e2 => .inl ⟨i, by rw [ev], q _ H2 ⟨i, rfl⟩ e2⟩
end
theorem st_is {t : TS} {D : Ends} {σ σ' : L2.St} {H : Hp} (e : σ = σ') (h : t D σ' H) : t D σ H := by rw [e]; exact h
def nH1 (i : Int) : Int := ([0, 0, 0, 0, 1, 1, 2, 3, 0] : List Int).getD i.toNat 0
def nH2 (i : Int) : Int := ([0, 0, 1, 1, 1, 2, 2, 3, 0] : List Int).getD i.toNat 0
theorem nH1_ok : ∀ i : Int, 0 ≤ i → i < 9 → 0 ≤ nH1 i ∧ nH1 i ≤ 3 := fun i h0 h1 => by
  obtain ⟨j, rfl⟩ : ∃ j : Nat, i = (j : Int) := ⟨i.toNat, by omega⟩
  have : j < 9 := by omega
  unfold nH1
  rw [Int.toNat_natCast]
  match j, this with
  | 0, _ | 1, _ | 2, _ | 3, _ | 4, _ | 5, _ | 6, _ | 7, _ | 8, _ => exact ⟨by decide, by decide⟩
theorem nH2_ok : ∀ i : Int, 0 ≤ i → i < 9 → 0 ≤ nH2 i ∧ nH2 i ≤ 3 := fun i h0 h1 => by
  obtain ⟨j, rfl⟩ : ∃ j : Nat, i = (j : Int) := ⟨i.toNat, by omega⟩
  have : j < 9 := by omega
  unfold nH2
  rw [Int.toNat_natCast]
  match j, this with
  | 0, _ | 1, _ | 2, _ | 3, _ | 4, _ | 5, _ | 6, _ | 7, _ | 8, _ => exact ⟨by decide, by decide⟩
theorem atI_getD {l : List Int} {i : Int} (h0 : 0 ≤ i) (h1 : i < (l.length : Int)) : atI (l.map V.int) i = some (.int (l.getD i.toNat 0)) := by
  obtain ⟨j, rfl⟩ : ∃ j : Nat, i = (j : Int) := ⟨i.toNat, by omega⟩
  have hj : j < l.length := by omega
  rw [Int.toNat_natCast, List.getD_eq_getElem?_getD, List.getElem?_eq_getElem hj]
  exact at_map (List.getElem?_eq_getElem hj)
/-- rows of places as rows of numbers -/
def zrows (n : Nat) (rs : List (List Nat)) : List (List Int) := (List.range n).map fun k => (rs.getD k []).map fun m : Nat => (m : Int)
theorem zrows_at {ts : Tab} {rs : List (List Nat)} (ro : RowsOk ts rs) {k : Nat} (hk : k < ts.length) : RowAt (otab ts) (zrows ts.length rs) k := by
  show ((zrows ts.length rs).getD k []).Perm _
  unfold zrows rowZ
  rw [List.getD_eq_getElem?_getD, List.getElem?_map, List.getElem?_range hk, tabOf_otab]
  exact (ro.at_ k hk).map _
theorem zrows_get {n : Nat} {rs : List (List Nat)} {k : Nat} (hk : k < n) : (zrows n rs)[k]? = some ((rs.getD k []).map fun m : Nat => (m : Int)) := by
  unfold zrows
  rw [List.getElem?_map, List.getElem?_range hk]
  rfl
section
variable {w : World} {K : PySem.W.Frag} {mg : Str → Option Value} {base : Heap} {fa : Nat → Addr} {fd : Nat → FuncData} {cv : Nat → Value}
theorem ok_law (T : Txt w K mg fa fd cv) : FnOk PP w K mg base CX0 43 (fa 27) (fd 27) ["script"] (spLaw K) := by
  have G_law_cell := ok_cell (w := w) (base := base) T
  have G_law_digits := ok_digits (w := w) (base := base) T
  have G_law_many := ok_many (w := w) (base := base) T
  have G_law_table := ok_table (w := w) (base := base) T
  have G_law_back := ok_back (w := w) (base := base) T
  have G_law_rows := ok_rows (w := w) (base := base) T
  have G_law_reach := ok_reach (w := w) (base := base) T
  have G_law_any_nexts := ok_anexts (w := w) (base := base) T
  have G_law_any_rows := ok_arows (w := w) (base := base) T
  have G_law_harmed_next := ok_hnext (w := w) (base := base) T
  have G_law_harmed_row := ok_hrow (w := w) (base := base) T
  have G_law_whole := ok_whole (w := w) (base := base) T
  have G_law_due := ok_due (w := w) (base := base) T
  have G_law_told := ok_told2 (w := w) (base := base) T
  have G_law_class := ok_class (w := w) (base := base) T
  have G_law_fielded := ok_fielded (w := w) (base := base) T
  refine T.d_law.F.ok sc_law (fun vs H Q E h => ?_) (fun cdv A outer s H vs Q E hr h => ?_)
  · obtain ⟨a, ns, rfl, _⟩ := h
    rfl
  · obtain ⟨a, ns, rfl, ha, hn, q⟩ := h
    refine ⟨_, pss_cons (ps_set (i := 1) sc_law.nd rfl (Or.inl rfl) (pe_call G_law_many (by first | exact hr.mono (by decide) | exact hr.mono (by omega)) (by rfl) T.d_law_many.g T.d_law_many.k T.d_law_many.b .nil pass0 (pa_cons (pe_call G_law_digits (by first | exact hr.mono (by decide) | exact hr.mono (by omega)) (by rfl) T.d_law_digits.g T.d_law_digits.k T.d_law_digits.b .nil pass0 (pa_cons (pe_call G_law_cell (by first | exact hr.mono (by decide) | exact hr.mono (by omega)) (by rfl) T.d_law_cell.g T.d_law_cell.k T.d_law_cell.b .nil pass0 (pa_cons (pv 0) (pa_cons pe_int pa_nil))) (pa_cons (pe_lst (pa_cons pe_int (pa_cons pe_int (pa_cons pe_int (pa_cons pe_int (pa_cons pe_int pa_nil)))))) pa_nil))) pa_nil)))
      (pss_cons (ps_set (i := 2) sc_law.nd rfl (Or.inl rfl) (pe_call G_law_table (by first | exact hr.mono (by decide) | exact hr.mono (by omega)) (by rfl) T.d_law_table.g T.d_law_table.k T.d_law_table.b .nil pass0 (pa_cons (pv 0) (pa_cons (pv 1) pa_nil))))
      (pss_cons (ps_set (i := 3) sc_law.nd rfl (Or.inl rfl) (pe_call G_law_back (by first | exact hr.mono (by decide) | exact hr.mono (by omega)) (by rfl) T.d_law_back.g T.d_law_back.k T.d_law_back.b .nil pass0 (pa_cons (pv 2) pa_nil)))
      (pss_cons (ps_set (i := 4) sc_law.nd rfl (Or.inl rfl) (pe_call G_law_digits (by first | exact hr.mono (by decide) | exact hr.mono (by omega)) (by rfl) T.d_law_digits.g T.d_law_digits.k T.d_law_digits.b .nil pass0 (pa_cons (pe_call G_law_cell (by first | exact hr.mono (by decide) | exact hr.mono (by omega)) (by rfl) T.d_law_cell.g T.d_law_cell.k T.d_law_cell.b .nil pass0 (pa_cons (pv 0) (pa_cons pe_int pa_nil))) (pa_cons (pe_lst (pa_cons pe_int (pa_cons pe_int (pa_cons pe_int (pa_cons pe_int pa_nil))))) pa_nil))))
      (pss_cons (ps_set (i := 5) sc_law.nd rfl (Or.inl rfl) (pe_ix ix_list (pv 4) pe_int (fun _ _ => rfl)))
      (pss_cons (ps_set (i := 6) sc_law.nd rfl (Or.inl rfl) (pe_call G_law_rows (by first | exact hr.mono (by decide) | exact hr.mono (by omega)) (by rfl) T.d_law_rows.g T.d_law_rows.k T.d_law_rows.b .nil pass0 (pa_cons (pv 3) (pa_cons (pe_op op_add pe_int (pe_ix ix_list (pv 4) pe_int (fun _ _ => rfl))) (pa_cons (pe_call G_law_cell (by first | exact hr.mono (by decide) | exact hr.mono (by omega)) (by rfl) T.d_law_cell.g T.d_law_cell.k T.d_law_cell.b .nil pass0 (pa_cons (pv 0) (pa_cons pe_int pa_nil))) pa_nil)))))
      (pss_cons (ps_set (i := 7) sc_law.nd rfl (Or.inl rfl) (pe_callTy call_list_of (by rfl) T.b_list (by decide +kernel) (pa_cons (pv 2) pa_nil)))
      (pss_cut (ps_if (pt_cmpR op_eq (pe_ix ix_list (pv 4) pe_int (fun _ _ => rfl)) pe_int (nomark _)) (pss_cons (ps_set (i := 8) sc_law.nd rfl (Or.inl rfl) (pe_op op_add (pe_op op_add (pv 1) pe_int) (pe_call G_law_reach (by first | exact hr.mono (by decide) | exact hr.mono (by omega)) (by rfl) T.d_law_reach.g T.d_law_reach.k T.d_law_reach.b .nil pass0 (pa_cons (pe_call G_law_cell (by first | exact hr.mono (by decide) | exact hr.mono (by omega)) (by rfl) T.d_law_cell.g T.d_law_cell.k T.d_law_cell.b .nil pass0 (pa_cons (pv 0) (pa_cons pe_int pa_nil))) pa_nil))))
      (pss_one (ps_set (i := 7) sc_law.nd rfl (Or.inl rfl) (pe_call G_law_any_nexts (by first | exact hr.mono (by decide) | exact hr.mono (by omega)) (by rfl) T.d_law_any_nexts.g T.d_law_any_nexts.k T.d_law_any_nexts.b .nil pass0 (pa_cons (pe_call G_law_cell (by first | exact hr.mono (by decide) | exact hr.mono (by omega)) (by rfl) T.d_law_cell.g T.d_law_cell.k T.d_law_cell.b .nil pass0 (pa_cons (pv 0) (pa_cons pe_int pa_nil))) (pa_cons (pv 1) (pa_cons (pv 8) (pa_cons (pe_op op_mod (pe_callTy call_int1 (by rfl) T.b_int PyProof.Rows.boot_int (pa_cons (pe_call G_law_reach (by first | exact hr.mono (by decide) | exact hr.mono (by omega)) (by rfl) T.d_law_reach.g T.d_law_reach.k T.d_law_reach.b .nil pass0 (pa_cons (pe_call G_law_cell (by first | exact hr.mono (by decide) | exact hr.mono (by omega)) (by rfl) T.d_law_cell.g T.d_law_cell.k T.d_law_cell.b .nil pass0 (pa_cons (pv 0) (pa_cons pe_int pa_nil))) pa_nil)) pa_nil)) (pv 8)) pa_nil)))))))) (pss_nil))
      (pss_cons (ps_for (by exact PassesOwn.never) rfl (pi_range1 (by rfl) T.b_range (pa_cons (pe_ix ix_list (pe_lst (pa_cons pe_int (pa_cons pe_int (pa_cons pe_int (pa_cons pe_int (pa_cons pe_int (pa_cons pe_int (pa_cons pe_int (pa_cons pe_int (pa_cons pe_int pa_nil)))))))))) (pe_ix ix_list (pv 4) pe_int (fun _ _ => rfl)) (fun _ _ => rfl)) pa_nil)) (pg_name (i := 9) sc_law.nd rfl (Or.inl rfl)) (pss_cons (ps_set (i := 10) sc_law.nd rfl (Or.inl rfl) (pe_call G_law_digits (by first | exact hr.mono (by decide) | exact hr.mono (by omega)) (by rfl) T.d_law_digits.g T.d_law_digits.k T.d_law_digits.b .nil pass0 (pa_cons (pe_call G_law_cell (by first | exact hr.mono (by decide) | exact hr.mono (by omega)) (by rfl) T.d_law_cell.g T.d_law_cell.k T.d_law_cell.b .nil pass0 (pa_cons (pv 0) (pa_cons (pe_op op_add pe_int (pv 9)) pa_nil))) (pa_cons (pe_lst (pa_cons (pv 1) (pa_cons pe_int pa_nil))) pa_nil))))
      (pss_one (ps_asg (pe_call G_law_harmed_next (by first | exact hr.mono (by decide) | exact hr.mono (by omega)) (by rfl) T.d_law_harmed_next.g T.d_law_harmed_next.k T.d_law_harmed_next.b .nil pass0 (pa_cons (pe_ix ix_list (pv 10) pe_int (fun _ _ => rfl)) (pa_cons (pv 1) (pa_cons (pe_ix ix_list (pv 10) pe_int (fun _ _ => rfl)) (pa_cons (pe_callTy call_int1 (by rfl) T.b_int PyProof.Rows.boot_int (pa_cons (pe_call G_law_cell (by first | exact hr.mono (by decide) | exact hr.mono (by omega)) (by rfl) T.d_law_cell.g T.d_law_cell.k T.d_law_cell.b .nil pass0 (pa_cons (pv 0) (pa_cons (pe_op op_add pe_int (pv 9)) pa_nil))) pa_nil)) pa_nil))))) (pg_sub (pv 7) (pe_ix ix_list (pv 10) pe_int (fun _ _ => rfl)) set_list)))))
      (pss_cons (ps_set (i := 11) sc_law.nd rfl (Or.inl rfl) (pe_callTy call_list_of (by rfl) T.b_list (by decide +kernel) (pa_cons (pv 6) pa_nil)))
      (pss_cut (ps_if (pt_cmpR op_eq (pe_ix ix_list (pv 4) pe_int (fun _ _ => rfl)) pe_int (nomark _)) (pss_one (ps_set (i := 11) sc_law.nd rfl (Or.inl rfl) (pe_callTy call_list_of (by rfl) T.b_list (by decide +kernel) (pa_cons (pe_call G_law_any_rows (by first | exact hr.mono (by decide) | exact hr.mono (by omega)) (by rfl) T.d_law_any_rows.g T.d_law_any_rows.k T.d_law_any_rows.b .nil pass0 (pa_cons (pv 3) (pa_cons (pe_call G_law_cell (by first | exact hr.mono (by decide) | exact hr.mono (by omega)) (by rfl) T.d_law_cell.g T.d_law_cell.k T.d_law_cell.b .nil pass0 (pa_cons (pv 0) (pa_cons pe_int pa_nil))) (pa_cons (pe_call G_law_cell (by first | exact hr.mono (by decide) | exact hr.mono (by omega)) (by rfl) T.d_law_cell.g T.d_law_cell.k T.d_law_cell.b .nil pass0 (pa_cons (pv 0) (pa_cons pe_int pa_nil))) pa_nil)))) pa_nil)))) (pss_nil))
      (pss_cons (ps_for (by exact PassesOwn.never) rfl (pi_range1 (by rfl) T.b_range (pa_cons (pe_ix ix_list (pe_lst (pa_cons pe_int (pa_cons pe_int (pa_cons pe_int (pa_cons pe_int (pa_cons pe_int (pa_cons pe_int (pa_cons pe_int (pa_cons pe_int (pa_cons pe_int pa_nil)))))))))) (pe_ix ix_list (pv 4) pe_int (fun _ _ => rfl)) (fun _ _ => rfl)) pa_nil)) (pg_name (i := 9) sc_law.nd rfl (Or.inl rfl)) (pss_cons (ps_set (i := 10) sc_law.nd rfl (Or.inl rfl) (pe_call G_law_digits (by first | exact hr.mono (by decide) | exact hr.mono (by omega)) (by rfl) T.d_law_digits.g T.d_law_digits.k T.d_law_digits.b .nil pass0 (pa_cons (pe_call G_law_cell (by first | exact hr.mono (by decide) | exact hr.mono (by omega)) (by rfl) T.d_law_cell.g T.d_law_cell.k T.d_law_cell.b .nil pass0 (pa_cons (pv 0) (pa_cons (pe_op op_add pe_int (pv 9)) pa_nil))) (pa_cons (pe_lst (pa_cons (pv 1) (pa_cons pe_int (pa_cons pe_int pa_nil)))) pa_nil))))
      (pss_cons (ps_set (i := 12) sc_law.nd rfl (Or.inl rfl) (pe_ix ix_tup (pv 6) (pe_ix ix_list (pv 10) pe_int (fun _ _ => rfl)) (fun _ _ => rfl)))
      (pss_cons (ps_set (i := 13) sc_law.nd rfl (Or.inl rfl) (pe_ix ix_tup (pv 6) (pe_op op_mod (pe_op op_add (pe_ix ix_list (pv 10) pe_int (fun _ _ => rfl)) pe_int) (pv 1)) (fun _ _ => rfl)))
      (pss_one (ps_asg (pe_call G_law_harmed_row (by first | exact hr.mono (by decide) | exact hr.mono (by omega)) (by rfl) T.d_law_harmed_row.g T.d_law_harmed_row.k T.d_law_harmed_row.b .nil pass0 (pa_cons (pe_ix ix_list (pv 10) pe_int (fun _ _ => rfl)) (pa_cons (pv 12) (pa_cons (pv 13) (pa_cons (pe_op op_mod (pe_ix ix_list (pv 10) pe_int (fun _ _ => rfl)) (pe_callB call_len_seq (by rfl) T.b_len PySem.boot_len (pa_cons (pv 12) pa_nil))) (pa_cons (pe_callTy call_int1 (by rfl) T.b_int PyProof.Rows.boot_int (pa_cons (pe_call G_law_cell (by first | exact hr.mono (by decide) | exact hr.mono (by omega)) (by rfl) T.d_law_cell.g T.d_law_cell.k T.d_law_cell.b .nil pass0 (pa_cons (pv 0) (pa_cons (pe_op op_add pe_int (pv 9)) pa_nil))) pa_nil)) pa_nil)))))) (pg_sub (pv 11) (pe_ix ix_list (pv 10) pe_int (fun _ _ => rfl)) set_list)))))))
      (pss_cons (ps_set (i := 11) sc_law.nd rfl (Or.inl rfl) (pe_callTy (r := OwnG.rTupF K) (by exact OwnG.call_tupF) (by rfl) T.b_tuple (by decide +kernel) (pa_cons (pv 11) pa_nil)))
      (pss_cons (ps_set (i := 14) sc_law.nd rfl (Or.inl rfl) (pe_call G_law_due (by first | exact hr.mono (by decide) | exact hr.mono (by omega)) (by rfl) T.d_law_due.g T.d_law_due.k T.d_law_due.b .nil pass0 (pa_cons (pv 7) (pa_cons (pv 11) (pa_cons (pv 5) pa_nil)))))
      (pss_cons (ps_set (i := 15) sc_law.nd rfl (Or.inl rfl) (pe_call G_law_told (by first | exact hr.mono (by decide) | exact hr.mono (by omega)) (by rfl) T.d_law_told.g T.d_law_told.k T.d_law_told.b .nil pass0 (pa_cons (pv 7) (pa_cons (pv 11) (pa_cons (pv 5) pa_nil)))))
      (pss_cons (ps_if (PW.pt (pw_or (pt_cmpR (op_neD hr.units) (pv 15) (pv 14) (nomark _)) (pw_or (pt_not (pt_val (pe_call G_law_whole (by first | exact hr.mono (by decide) | exact hr.mono (by omega)) (by rfl) T.d_law_whole.g T.d_law_whole.k T.d_law_whole.b .nil pass0 (pa_cons (pe_ix ix_list (pv 15) pe_int (fun _ _ => rfl)) pa_nil)))) (pw_or1 (pt_cmpR op_ne (pe_call G_law_class (by first | exact hr.mono (by decide) | exact hr.mono (by omega)) (by rfl) T.d_law_class.g T.d_law_class.k T.d_law_class.b .nil pass0 (pa_cons (pv 7) (pa_cons (pv 11) (pa_cons (pv 5) pa_nil)))) (pe_ix ix_list (pv 14) pe_int (fun _ _ => rfl)) (nomark _)))))) (pss_one (ps_ret pe_bl)) (pss_nil))
      (pss_cons (ps_if (PW.pt (pw_or (pt_cmpR (op_neD hr.units) (pe_call G_law_told (by first | exact hr.mono (by decide) | exact hr.mono (by omega)) (by rfl) T.d_law_told.g T.d_law_told.k T.d_law_told.b .nil pass0 (pa_cons (pv 2) (pa_cons (pv 6) (pa_cons pe_int pa_nil)))) (pe_lst (pa_cons pe_int (pa_cons pe_int pa_nil))) (nomark _)) (pw_or (pt_cmpR (op_neD hr.units) (pe_call G_law_told (by first | exact hr.mono (by decide) | exact hr.mono (by omega)) (by rfl) T.d_law_told.g T.d_law_told.k T.d_law_told.b .nil pass0 (pa_cons (pv 2) (pa_cons (pv 6) (pa_cons pe_int pa_nil)))) (pe_lst (pa_cons pe_int (pa_cons pe_int pa_nil))) (nomark _)) (pw_or1 (pt_not (pt_val (pe_call G_law_fielded (by first | exact hr.mono (by decide) | exact hr.mono (by omega)) (by rfl) T.d_law_fielded.g T.d_law_fielded.k T.d_law_fielded.b .nil pass0 (pa_cons (pv 1) (pa_cons (pe_ix ix_list (pv 14) pe_int (fun _ _ => rfl)) pa_nil))))))))) (pss_one (ps_ret pe_bl)) (pss_nil))
      (pss_one (ps_ret (pe_cmpR (op_eqD hr.units) (pe_call G_law_told (by first | exact hr.mono (by decide) | exact hr.mono (by omega)) (by rfl) T.d_law_told.g T.d_law_told.k T.d_law_told.b .nil pass0 (pa_cons (pv 7) (pa_cons (pv 11) (pa_cons (pv 5) pa_nil)))) (pv 14) (nomark _)))))))))))))))))))), ?_⟩
    refine q_asgH (R := fun v _ => ∃ m : Nat, v = iV m ∧ 1 ≤ m ∧ m ≤ 1600) (evH_callH (P := fun vs H1 => ∃ (p : Addr) (r : List Int), vs = [.ref p] ∧ H1 p = some (.lst (r.map V.int)) ∧ r.length = 5 ∧ ∀ i s, ([200, 14, 90, 400, 1600] : List Int)[i]? = some s → 0 ≤ r.getD i 0 ∧ r.getD i 0 < s) (fun H1 e1 Q1 q1 => els_digits (ss := [200, 14, 90, 400, 1600]) (ev_var rfl) ha hn (by decide) (by decide) (el_lst (ea_cons ev_c (ea_cons ev_c (ea_cons ev_c (ea_cons ev_c (ea_cons ev_c ea_nil))))) (by show 5 ≤ 100000; decide)) (by show 5 ≤ 4000; decide) (fun x hx => by simp at hx; omega) H1 e1 _ fun xs p H2 ⟨r, er, lr, br⟩ np e2 h2 => q1 _ H2 ⟨p, r, rfl, by rw [h2, er], lr, br⟩ e2) fun vs H1 e1 ⟨p, r, ev, hp, lr, br⟩ => by
      subst ev
      exact fun H2 e2 Q2 q2 E2 => ⟨p, r, rfl, sq_of (e2 _ _ hp), lr, br 1 14 rfl, br 2 90 rfl, br 3 400 rfl, br 4 1600 rfl, fun m H3 h1 h2 e3 => q2 _ H3 e3 ⟨m, rfl, h1, h2⟩⟩) fun v H1 e1 ⟨m, ev, m1, m2⟩ => ?_
    subst ev
    have ha1 := ex_l e1 ha
    refine q_asgH (R := fun v H => ∃ (p : Addr) (ts : Tab), v = .ref p ∧ SqL K H p (ts.map nV) ∧ ts.length = m ∧ TabOk ts) (evH_call (ea_cons (ev_var rfl) (ea_cons (ev_var rfl) ea_nil)) fun H2 e2 Q2 q2 E2 => ⟨a, ns, m, rfl, ex_l e2 ha1, hn, m1, m2, fun ts p H3 l3 ok np e3 h3 => q2 _ H3 e3 ⟨p, ts, rfl, sq_of h3, l3, ok⟩⟩) fun v H2 e2 ⟨ta, ts, ev, ht, lts, ok⟩ => ?_
    subst ev
    have hm : ts.length ≤ 1600 := by omega
    refine q_asgH (R := fun v H => ∃ p, v = .ref p ∧ LLf K H p ts.length (bk ts)) (evH_call (ea_cons (ev_var rfl) ea_nil) fun H3 e3 Q3 q3 E3 => ⟨ta, ts, rfl, ex_l e3 ht, ok, hm, fun p H4 e4 h4 => q3 _ H4 e4 ⟨p, rfl, h4⟩⟩) fun v H3 e3 ⟨ba, ev, hb⟩ => ?_
    subst ev
    have ha3 := ex_l (e2.trans e3) ha1
    refine q_asgLS (els_digits (ss := [6, 8, 9, 9]) (ev_var rfl) ha3 hn (by decide) (by decide) (el_lst (ea_cons ev_c (ea_cons ev_c (ea_cons ev_c (ea_cons ev_c ea_nil)))) (by show 4 ≤ 100000; decide)) (by show 4 ≤ 4000; decide) (fun x hx => by simp at hx; omega)) fun _ wy H4 ⟨ws, ews, lws, bws⟩ nw e4 hw => ?_
    subst ews
    have lw : ws.length = 4 := lws
    have w0 := bws 0 6 rfl
    have w1 := bws 1 8 rfl
    have w2 := bws 2 9 rfl
    have w3 := bws 3 9 rfl
    have WX : ∀ (j : Nat), j < 4 → ∀ {H' : Hp} {σ : L2.St}, Ex H4 H' → σ[4]? = some (some (.ref wy)) → Ev (tOp (rIxL K) (tVar 4) (tC (.int (j : Int)))) σ H' (.int (ws.getD j 0)) := fun j hj H' σ e' h2 => ev_op (ev_var h2) ev_c (rv_ixL (sq_of (e' _ _ hw)) (at_ints (by omega)))
    refine q_asg (v := .int (ws.getD 0 0)) (WX 0 (by decide) (Ex.refl H4) rfl) fun H5 e5 => ?_
    have hb5 := hb.up (e4.trans e5)
    have ht5 := ex_l ((e3.trans e4).trans e5) ht
    have ha5 := ex_l (e4.trans e5) ha3
    refine q_asgH (R := fun v H1 => ∃ (p : Addr) (rs : List (List Nat)), v = .ref p ∧ TTf K H1 p ts.length (fun k => rs.getD k []) ∧ RowsOk ts rs) (evH_callH (P := fun vs H1 => ∃ c : Int, vs = [.ref ba, .int (2 + ws.getD 1 0), .int c]) (eaH_weak (eaHv (ev_var rfl) (eaHv (ev_op ev_c (WX 1 (by decide) e5 rfl) rv_I0) (eaH_cons (evS_call (S := fun v => ∃ i : Int, v = .int i) (ea_cons (ev_var rfl) (ea_cons ev_c ea_nil)) (sp_cell ha5 hn (by decide) (by decide))) eaHn))) fun vs H1 ⟨r, e1, r2, e2, v, r3, e3, ⟨i, ei⟩, e5⟩ => ⟨i, by rw [e1, e2, e3, e5, ei]⟩) fun vs H1 e1 ⟨c, ev⟩ => by
        subst ev
        exact fun H2 e2 Q2 q2 E2 => ⟨ba, ts, _, c, rfl, hb5.up (e1.trans e2), hm, by omega, fun rs p H3 e3 h1 h2 h3 => q2 _ H3 e3 ⟨p, rs, rfl, h1, h2⟩⟩) fun v H6 e6 ⟨ra, rs, ev, hrt, ro⟩ => ?_
    subst ev
    have hra : TZ K H6 ra (zrows ts.length rs) := TZ.of hrt
    have zl : (zrows ts.length rs).length = ts.length := by unfold zrows; rw [List.length_map, List.length_range]
    have ht6 : SqL K H6 ta ((otab ts).map oV) := by rw [otab_map]; exact ex_l e6 ht5
    have ha6 := ex_l e6 ha5
    have hb6 := hb5.up e6
    have hw6 := e6 _ _ (e5 _ _ hw)
    have WY : ∀ (j : Nat), j < 4 → ∀ {H' : Hp} {σ : L2.St}, Ex H6 H' → σ[4]? = some (some (.ref wy)) → Ev (tOp (rIxL K) (tVar 4) (tC (.int (j : Int)))) σ H' (.int (ws.getD j 0)) := fun j hj H' σ e' h2 => WX j hj ((e5.trans e6).trans e') h2
    have ol : (otab ts).length = ts.length := otab_len
    refine q_asgL (el_listL (evH_Lv (ev_var rfl) ht6)) fun c H7 nc e7 hc => ?_
    refine st_is (σ' := [some (.ref a), some (iV m), some (.ref ta), some (.ref ba), some (.ref wy), some (.int (ws.getD 0 0)), some (.ref ra), some (.ref c), none, none, none, none, none, none, none, none]) rfl ?_
    refine q_cut (M := fun σ' H' => ∃ (y8 : Option V) (c : Addr) (cs : Otab), σ' = [some (.ref a), some (iV m), some (.ref ta), some (.ref ba), some (.ref wy), some (.int (ws.getD 0 0)), some (.ref ra), some (.ref c), y8, none, none, none, none, none, none, none] ∧ Ex H6 H' ∧ H6 c = none ∧ cs.length = ts.length ∧ H' c = some (.lst (cs.map oV))) ?_ ?_
    · refine s_when (b := decide (ws.getD 2 0 = 8)) (et_test (ev_op (WY 2 (by decide) e7 rfl) ev_c rv_eqI)) (fun hb H8 e8 => ?_) (fun hb H8 e8 => ⟨_, c, otab ts, rfl, e7.trans e8, nc, ol, e8 _ _ hc⟩)
      have e68 := e7.trans e8
      refine q_asgH (R := fun v _ => ∃ wd : Int, v = .int wd ∧ 0 < wd) (evH_ofS (evS_op (S := fun v => v = .int ((m : Int) + 2)) (evS_of (ev_op (ev_var rfl) ev_c rv_I0) rfl) (evS_reach (evS_cell (ev_var rfl) (ex_l e68 ha6) hn ev_c (by decide) (by decide))) fun x y hx ⟨i, hy, i0⟩ => ⟨.int ((m : Int) + 2 + i), ⟨_, rfl, by omega⟩, by rw [hx, hy]; exact rv_I0⟩)) fun v H9 e9 ⟨wd, ev, wd0⟩ => ?_
      subst ev
      have e69 := e68.trans e9
      have AN : EvLS (tCall (spAnyNexts K) [] E0 (tCons (tCall (spCell K) [] E0 (tCons (tVar 0) (tCons (tC (.int 20)) tNil))) (tCons (tVar 1) (tCons (tVar 8) (tCons (tOp (rI (fun x j => 0 < j) fun i j => V.int (i % j)) (tCB (fun xs H Q => (∃ i, xs = [V.int i] ∧ Q (V.int i) H) ∨ ∃ k, xs = [V.bl k] ∧ Q (V.int (if k = true then 1 else 0)) H) (tCons (tCall spReach [] E0 (tCons (tCall (spCell K) [] E0 (tCons (tVar 0) (tCons (tC (.int 19)) tNil))) tNil)) tNil)) (tVar 8)) tNil))))) [some (.ref a), some (iV m), some (.ref ta), some (.ref ba), some (.ref wy), some (.int (ws.getD 0 0)), some (.ref ra), some (.ref c), some (.int wd), none, none, none, none, none, none, none] H9 (fun xs => ∃ cs : Otab, xs = cs.map oV ∧ cs.length = ts.length) :=
        elS_call (P := fun vs _ => ∃ z low : Int, vs = [.int z, iV m, .int wd, .int low]) (eaH_weak (eaH_cons (evS_cell (ev_var rfl) (ex_l e69 ha6) hn ev_c (by decide) (by decide)) (eaHv (ev_var rfl) (eaHv (ev_var rfl) (eaH_cons (evS_op (S := IsZ) (S' := fun v => v = .int wd) (S'' := IsZ) (evS_int (EvS.weak (evS_reach (evS_cell (ev_var rfl) (ex_l e69 ha6) hn ev_c (by decide) (by decide))) fun v ⟨i, ev, _⟩ => ⟨i, ev⟩)) (evS_of (ev_var rfl) rfl) fun x y ⟨i, hx⟩ hy => ⟨.int (i % wd), ⟨_, rfl⟩, by rw [hx, hy]; exact rv_I wd0⟩) eaHn)))) fun vs H1 ⟨v1, r1, h1, ⟨z, hz⟩, r2, h2, r3, h3, v4, r4, h4, ⟨lo, hlo⟩, h5⟩ => ⟨z, lo, by rw [h1, hz, h2, h3, h4, hlo, h5]⟩) fun vs H1 e1 ⟨z, low, ev⟩ => by
          subst ev
          exact fun Q2 q2 E2 => ⟨z, wd, low, m, rfl, m2, by omega, fun cs p H3 l3 np e3 h3 => q2 _ p H3 ⟨cs, rfl, by omega⟩ np e3 h3⟩
      exact s_asgLS AN fun xs p H10 ⟨cs, ex, lc⟩ np e10 hp => ⟨_, p, cs, rfl, e69.trans e10, fresh_back e69 np, lc, by rw [hp, ex]⟩
    rintro _ H8 ⟨y8, c, cs, rfl, e68, nc, lcs, hc⟩
    have N1 := nH1_ok _ w2.1 w2.2
    refine q_forR1 (n := nH1 (ws.getD 2 0)) (ea_cons (ev_ixLS (xs := zvs [0, 0, 0, 0, 1, 1, 2, 3, 0]) (el_lst (ea_cons ev_c (ea_cons ev_c (ea_cons ev_c (ea_cons ev_c (ea_cons ev_c (ea_cons ev_c (ea_cons ev_c (ea_cons ev_c (ea_cons ev_c ea_nil))))))))) (by show 9 ≤ 100000; decide)) (WY 2 (by decide) e68 rfl) (atI_getD w2.1 w2.2)) ea_nil) ⟨N1.1, by omega⟩ (fun i σ' H' => ∃ (y9 y10 : Option V) (cs : Otab), σ' = [some (.ref a), some (iV m), some (.ref ta), some (.ref ba), some (.ref wy), some (.int (ws.getD 0 0)), some (.ref ra), some (.ref c), y8, y9, y10, none, none, none, none, none] ∧ Ex H6 H' ∧ cs.length = ts.length ∧ H' c = some (.lst (cs.map oV)))
      (fun H9 e9 => ⟨_, _, cs, rfl, e68.trans e9, lcs, e9 _ _ hc⟩) (fun i σ' H' hi ⟨y9, y10, cs, hσ, e, lcs, hc⟩ => ?_) (fun σ' H' ⟨y9, y10, cs, hσ, e, lcs, hc⟩ => ?_)
    · subst hσ
      have i3 : (i : Int) < 3 := by omega
      refine st_is (σ' := [some (.ref a), some (iV m), some (.ref ta), some (.ref ba), some (.ref wy), some (.int (ws.getD 0 0)), some (.ref ra), some (.ref c), y8, some (iV i), y10, none, none, none, none, none]) rfl ?_
      refine q_asgLS (els_digitsV (ss := [(m : Int), 10]) (ev_var rfl) (ex_l e ha6) hn (ev_op ev_c (ev_var rfl) rv_I0) (by omega) (by omega) (el_lst (ea_cons (ev_var rfl) (ea_cons ev_c ea_nil)) (by show 2 ≤ 100000; decide)) (by show 2 ≤ 40000; decide) (fun x hx => by simp at hx; omega)) fun _ hy H9 ⟨hs, ehs, lhs, bhs⟩ nh e9 hh => ?_
      subst ehs
      have lh : hs.length = 2 := lhs
      have h0 := bhs 0 m rfl
      have h1 := bhs 1 10 rfl
      have e69 := e.trans e9
      refine st_is (σ' := [some (.ref a), some (iV m), some (.ref ta), some (.ref ba), some (.ref wy), some (.int (ws.getD 0 0)), some (.ref ra), some (.ref c), y8, some (iV i), some (.ref hy), none, none, none, none, none]) rfl ?_
      have HX : ∀ (j : Nat), j < 2 → ∀ {H' : Hp}, Ex H9 H' → Ev (tOp (rIxL K) (tVar 10) (tC (.int (j : Int)))) [some (.ref a), some (iV m), some (.ref ta), some (.ref ba), some (.ref wy), some (.int (ws.getD 0 0)), some (.ref ra), some (.ref c), y8, some (iV i), some (.ref hy), none, none, none, none, none] H' (.int (hs.getD j 0)) := fun j hj H' e' => ev_op (ev_var rfl) ev_c (rv_ixL (sq_of (e' _ _ hh)) (at_ints (by omega)))
      have HN : EvH (tCall spHarmedNext [] E0 (tCons (tOp (rIxL K) (tVar 10) (tC (.int 1))) (tCons (tVar 1) (tCons (tOp (rIxL K) (tVar 10) (tC (.int 0))) (tCons (tCB (fun xs H Q => (∃ i, xs = [V.int i] ∧ Q (V.int i) H) ∨ ∃ k, xs = [V.bl k] ∧ Q (V.int (if k = true then 1 else 0)) H) (tCons (tCall (spCell K) [] E0 (tCons (tVar 0) (tCons (tOp (rI0 fun i j => V.int (i + j)) (tC (V.int 9)) (tVar 9)) tNil))) tNil)) tNil))))) [some (.ref a), some (iV m), some (.ref ta), some (.ref ba), some (.ref wy), some (.int (ws.getD 0 0)), some (.ref ra), some (.ref c), y8, some (iV i), some (.ref hy), none, none, none, none, none] H9 (fun v _ => ∃ o, v = oV o) :=
        evH_callH (P := fun vs _ => ∃ z : Int, vs = [.int (hs.getD 1 0), iV m, .int (hs.getD 0 0), .int z]) (eaH_weak (eaHv (HX 1 (by decide) (Ex.refl H9)) (eaHv (ev_var rfl) (eaHv (HX 0 (by decide) (Ex.refl H9)) (eaH_cons (evS_int (evS_cell (ev_var rfl) (ex_l e69 ha6) hn (ev_op ev_c (ev_var rfl) rv_I0) (by omega) (by omega))) eaHn)))) fun vs H1 ⟨r1, h1, r2, h2, r3, h3, v4, r4, h4, ⟨z, hz⟩, h5⟩ => ⟨z, by rw [h1, h2, h3, h4, hz, h5]⟩) fun vs H1 e1 ⟨z, ev⟩ => by
          subst ev
          exact fun H2 e2 Q2 q2 E2 => ⟨_, _, _, z, rfl, h1.1, h1.2, fun o H3 e3 => q2 _ H3 e3 ⟨o, rfl⟩⟩
      obtain ⟨j, hj⟩ : ∃ j : Nat, hs.getD 0 0 = (j : Int) := ⟨(hs.getD 0 0).toNat, by omega⟩
      refine s_setLH (j := j) (e9 _ _ hc) HN (fun v H H' _ h => h) (ev_var rfl) (ev_is (HX 0 (by decide) (Ex.refl H9)) (by rw [hj])) (by rw [List.length_map]; omega) fun v H10 e10 ⟨o, ev⟩ => ?_
      subst ev
      exact ⟨_, _, cs.set j o, rfl, Ex.mut (e69.trans e10) nc, by rw [List.length_set, lcs], by rw [upd_same, List.map_set]⟩
    subst hσ
    refine q_asgH (R := fun v H1 => ∃ (d : Addr) (qs : List Addr), v = .ref d ∧ H' d = none ∧ H1 d = some (.lst (qs.map V.ref)) ∧ Rws K H1 qs (zrows ts.length rs)) (fun H9 e9 Q9 q9 => by
      obtain ⟨ps, hps, lps, hpa⟩ := (hra.up e).ex
      exact (el_listH (evH_Tv (ev_var rfl) hps) : EvL _ [some (.ref a), some (iV m), some (.ref ta), some (.ref ba), some (.ref wy), some (.int (ws.getD 0 0)), some (.ref ra), some (.ref c), y8, y9, y10, none, none, none, none, none] H' _) H9 e9 _ fun d H10 nd e10 hd => q9 _ H10 e10 ⟨d, ps, rfl, fresh_back e9 nd, hd, lps, fun i p l h1 h2 => ex_t (e9.trans e10) (hpa i p l h1 h2)⟩) fun v H9 e9 ⟨d, qs, ev, nd, hd, hq⟩ => ?_
    subst ev
    have e69 := e.trans e9
    refine st_is (σ' := [some (.ref a), some (iV m), some (.ref ta), some (.ref ba), some (.ref wy), some (.int (ws.getD 0 0)), some (.ref ra), some (.ref c), y8, y9, y10, some (.ref d), none, none, none, none]) rfl ?_
    refine q_cut (M := fun σ' H'' => ∃ (d : Addr) (qs : List Addr) (hrows : List (List Int)), σ' = [some (.ref a), some (iV m), some (.ref ta), some (.ref ba), some (.ref wy), some (.int (ws.getD 0 0)), some (.ref ra), some (.ref c), y8, y9, y10, some (.ref d), none, none, none, none] ∧ Ex H' H'' ∧ H' d = none ∧ H'' d = some (.lst (qs.map V.ref)) ∧ Rws K H'' qs hrows ∧ hrows.length = ts.length) ?_ ?_
    · refine s_when (b := decide (ws.getD 3 0 = 8)) (et_test (ev_op (WY 3 (by decide) e69 rfl) ev_c rv_eqI)) (fun hb H10 e10 => ?_) (fun hb H10 e10 => ⟨d, qs, _, rfl, e9.trans e10, nd, e10 _ _ hd, hq.up (Kt.of e10), zl⟩)
      have e610 := e69.trans e10
      have AR : EvH (tCall (spAnyRows K) [] E0 (tCons (tVar 3) (tCons (tCall (spCell K) [] E0 (tCons (tVar 0) (tCons (tC (.int 21)) tNil))) (tCons (tCall (spCell K) [] E0 (tCons (tVar 0) (tCons (tC (.int 22)) tNil))) tNil)))) [some (.ref a), some (iV m), some (.ref ta), some (.ref ba), some (.ref wy), some (.int (ws.getD 0 0)), some (.ref ra), some (.ref c), y8, y9, y10, some (.ref d), none, none, none, none] H10 (fun v H1 => ∃ (p : Addr) (rows : List (List Int)), v = .ref p ∧ rows.length = ts.length ∧ TZ K H1 p rows) :=
        evH_callH (P := fun vs _ => ∃ x y : Int, vs = [.ref ba, .int x, .int y]) (eaH_weak (eaHv (ev_var rfl) (eaH_cons (evS_cell (ev_var rfl) (ex_l e610 ha6) hn ev_c (by decide) (by decide)) (eaH_cons (evS_cell (ev_var rfl) (ex_l e610 ha6) hn ev_c (by decide) (by decide)) eaHn))) fun vs H1 ⟨r1, h1, v2, r2, h2, ⟨x, hx⟩, v3, r3, h3, ⟨y, hy⟩, h4⟩ => ⟨x, y, by rw [h1, h2, hx, h3, hy, h4]⟩) fun vs H1 e1 ⟨x, y, ev⟩ => by
          subst ev
          exact fun H2 e2 Q2 q2 E2 => ⟨ba, x, y, ts, rfl, hb6.up ((e610.trans e1).trans e2), hm, fun rows p H3 l3 e3 h3 => q2 _ H3 e3 ⟨p, rows, rfl, l3, h3⟩⟩
      exact AR H10 (Ex.refl H10) _ fun v H11 e11 ⟨p, rows, ev, lr, hp⟩ => by
        subst ev
        obtain ⟨ps, hps, lps, hpa⟩ := hp.ex
        exact ⟨p, _, rfl, .inr hps, fun d2 nd2 => ⟨d2, ps, rows, rfl, ((e9.trans e10).trans e11).trans (Ex.new nd2), fresh_back ((e9.trans e10).trans e11) nd2, upd_same, ⟨lps, fun i p l h1 h2 => ex_t (Ex.new nd2) (hpa i p l h1 h2)⟩, lr⟩⟩
    rintro _ H10 ⟨d, qs, hrows, rfl, e10, nd, hd, hq, lhr⟩
    have e610 := e.trans e10
    have N2 := nH2_ok _ w3.1 w3.2
    refine q_forR1 (n := nH2 (ws.getD 3 0)) (ea_cons (ev_ixLS (xs := zvs [0, 0, 1, 1, 1, 2, 2, 3, 0]) (el_lst (ea_cons ev_c (ea_cons ev_c (ea_cons ev_c (ea_cons ev_c (ea_cons ev_c (ea_cons ev_c (ea_cons ev_c (ea_cons ev_c (ea_cons ev_c ea_nil))))))))) (by show 9 ≤ 100000; decide)) (WY 3 (by decide) e610 rfl) (atI_getD w3.1 w3.2)) ea_nil) ⟨N2.1, by omega⟩ (fun i σ' H'' => ∃ (y9 y10 y12 y13 : Option V) (qs : List Addr) (hrows : List (List Int)), σ' = [some (.ref a), some (iV m), some (.ref ta), some (.ref ba), some (.ref wy), some (.int (ws.getD 0 0)), some (.ref ra), some (.ref c), y8, y9, y10, some (.ref d), y12, y13, none, none] ∧ Ex H' H'' ∧ H'' d = some (.lst (qs.map V.ref)) ∧ Rws K H'' qs hrows ∧ hrows.length = ts.length)
      (fun H11 e11 => ⟨_, _, _, _, qs, hrows, rfl, e10.trans e11, e11 _ _ hd, hq.up (Kt.of e11), lhr⟩) (fun i σ' H11 hi ⟨y9, y10, y12, y13, qs, hrows, hσ, e11, hd, hq, lhr⟩ => ?_) (fun σ' H11 ⟨y9, y10, y12, y13, qs, hrows, hσ, e11, hd, hq, lhr⟩ => ?_)
    · subst hσ
      have i3 : (i : Int) < 3 := by omega
      have e611 := e.trans e11
      refine st_is (σ' := [some (.ref a), some (iV m), some (.ref ta), some (.ref ba), some (.ref wy), some (.int (ws.getD 0 0)), some (.ref ra), some (.ref c), y8, some (iV i), y10, some (.ref d), y12, y13, none, none]) rfl ?_
      refine q_asgLS (els_digitsV (ss := [(m : Int), 14, 1600]) (ev_var rfl) (ex_l e611 ha6) hn (ev_op ev_c (ev_var rfl) rv_I0) (by omega) (by omega) (el_lst (ea_cons (ev_var rfl) (ea_cons ev_c (ea_cons ev_c ea_nil))) (by show 3 ≤ 100000; decide)) (by show 3 ≤ 40000; decide) (fun x hx => by simp at hx; omega)) fun _ hy H12 ⟨hs, ehs, lhs, bhs⟩ nh e12 hh => ?_
      subst ehs
      have lh : hs.length = 3 := lhs
      have h0 := bhs 0 m rfl
      have h1 := bhs 1 14 rfl
      have h2 := bhs 2 1600 rfl
      have e612 := e611.trans e12
      have HX : ∀ (j : Nat), j < 3 → ∀ {H' : Hp} {σ : L2.St}, Ex H12 H' → σ[10]? = some (some (.ref hy)) → Ev (tOp (rIxL K) (tVar 10) (tC (.int (j : Int)))) σ H' (.int (hs.getD j 0)) := fun j hj H' σ e' hσ => ev_op (ev_var hσ) ev_c (rv_ixL (sq_of (e' _ _ hh)) (at_ints (by omega)))
      obtain ⟨j, hj⟩ : ∃ j : Nat, hs.getD 0 0 = (j : Int) := ⟨(hs.getD 0 0).toNat, by omega⟩
      have hjm : j < ts.length := by omega
      have hj2 : (j + 1) % m < ts.length := by have := Nat.mod_lt (j + 1) (show 0 < m by omega); omega
      have RLen : ∀ k, k < ts.length → ((rs.getD k []).map fun m : Nat => (m : Int)).length = (bk ts k).length + 1 := fun k hk => by
        have z := (ro.at_ k hk).length_eq
        rw [List.length_map, z, List.length_range]
      have bl1 := bk_len ts j
      have bl2 := bk_len ts ((j + 1) % m)
      refine st_is (σ' := [some (.ref a), some (iV m), some (.ref ta), some (.ref ba), some (.ref wy), some (.int (ws.getD 0 0)), some (.ref ra), some (.ref c), y8, some (iV i), some (.ref hy), some (.ref d), y12, y13, none, none]) rfl ?_
      refine q_asgH (evH_TZ (l := (rs.getD j []).map fun m : Nat => (m : Int)) (hra.up e612) (ev_var rfl) (ev_is (HX 0 (by decide) (Ex.refl H12) rfl) (by rw [hj])) (zrows_get hjm)) fun v H13 e13 ⟨op, ev, hop⟩ => ?_
      subst ev
      refine st_is (σ' := [some (.ref a), some (iV m), some (.ref ta), some (.ref ba), some (.ref wy), some (.int (ws.getD 0 0)), some (.ref ra), some (.ref c), y8, some (iV i), some (.ref hy), some (.ref d), some (.ref op), y13, none, none]) rfl ?_
      refine q_asgH (evH_TZ (l := (rs.getD ((j + 1) % m) []).map fun m : Nat => (m : Int)) (k := (j + 1) % m) (hra.up (e612.trans e13)) (ev_var rfl) (ev_is (ev_op (ev_op (HX 0 (by decide) e13 rfl) ev_c rv_I0) (ev_var rfl) (rv_I (by omega))) (by rw [hj]; show V.int (((j : Int) + 1) % (m : Int)) = V.int (((j + 1) % m : Nat) : Int); rw [Int.natCast_emod]; rfl)) (zrows_get hj2)) fun v H14 e14 ⟨tp, ev, htp⟩ => ?_
      subst ev
      refine st_is (σ' := [some (.ref a), some (iV m), some (.ref ta), some (.ref ba), some (.ref wy), some (.int (ws.getD 0 0)), some (.ref ra), some (.ref c), y8, some (iV i), some (.ref hy), some (.ref d), some (.ref op), some (.ref tp), none, none]) rfl ?_
      have hop4 := ex_t e14 hop
      have lo1 := RLen j hjm
      have lo2 := RLen _ hj2
      have e24 := e13.trans e14
      have LN : ∀ H1, Ex H14 H1 → Ev (tCB (fun xs H Q => ∃ p ys, xs = [V.ref p] ∧ (SqL K H p ys ∨ SqT K H p ys) ∧ Q (.int ys.length) H) (tCons (tVar 12) tNil)) [some (.ref a), some (iV m), some (.ref ta), some (.ref ba), some (.ref wy), some (.int (ws.getD 0 0)), some (.ref ra), some (.ref c), y8, some (iV i), some (.ref hy), some (.ref d), some (.ref op), some (.ref tp), none, none] H1 (iV ((bk ts j).length + 1)) := fun H1 e1 => ev_is (ev_lenT (evH_Tv (ev_var rfl) (ex_t e1 hop4))) (by rw [List.length_map, lo1])
      have km0 := Int.emod_nonneg (hs.getD 2 0) (show (((bk ts j).length + 1 : Nat) : Int) ≠ 0 by omega)
      have km1 := Int.emod_lt_of_pos (hs.getD 2 0) (show (0 : Int) < (((bk ts j).length + 1 : Nat) : Int) by omega)
      have HN : EvH (tCall (spHarmedRow K) [] E0 (tCons (tOp (rIxL K) (tVar 10) (tC (.int 1))) (tCons (tVar 12) (tCons (tVar 13) (tCons (tOp (rI (fun x j => 0 < j) fun i j => V.int (i % j)) (tOp (rIxL K) (tVar 10) (tC (.int 2))) (tCB (fun xs H Q => ∃ p ys, xs = [V.ref p] ∧ (SqL K H p ys ∨ SqT K H p ys) ∧ Q (.int ys.length) H) (tCons (tVar 12) tNil))) (tCons (tCB (fun xs H Q => (∃ i, xs = [V.int i] ∧ Q (V.int i) H) ∨ ∃ k, xs = [V.bl k] ∧ Q (V.int (if k = true then 1 else 0)) H) (tCons (tCall (spCell K) [] E0 (tCons (tVar 0) (tCons (tOp (rI0 fun i j => V.int (i + j)) (tC (V.int 15)) (tVar 9)) tNil))) tNil)) tNil)))))) [some (.ref a), some (iV m), some (.ref ta), some (.ref ba), some (.ref wy), some (.int (ws.getD 0 0)), some (.ref ra), some (.ref c), y8, some (iV i), some (.ref hy), some (.ref d), some (.ref op), some (.ref tp), none, none] H14 (ZR K 40000) :=
        evH_callH (P := fun vs _ => ∃ z : Int, vs = [.int (hs.getD 1 0), .ref op, .ref tp, .int (hs.getD 2 0 % (((bk ts j).length + 1 : Nat) : Int)), .int z]) (eaH_weak (eaHv (HX 1 (by decide) e24 rfl) (eaHv (ev_var rfl) (eaHv (ev_var rfl) (eaHv (ev_op (HX 2 (by decide) e24 rfl) (LN H14 (Ex.refl H14)) (rv_I (by omega))) (eaH_cons (evS_int (evS_cell (ev_var rfl) (ex_l (e612.trans e24) ha6) hn (ev_op ev_c (ev_var rfl) rv_I0) (by omega) (by omega))) eaHn))))) fun vs H1 ⟨r1, h1, r2, h2, r3, h3, r4, h4, v5, r5, h5, ⟨z, hz⟩, h6⟩ => ⟨z, by rw [h1, h2, h3, h4, h5, hz, h6]⟩) fun vs H1 e1 ⟨z, ev⟩ => by
          subst ev
          exact fun H2 e2 Q2 q2 E2 => ⟨_, _, z, op, tp, _, _, rfl, ex_t (e1.trans e2) hop4, ex_t (e1.trans e2) htp, by omega, by omega, km0, by rw [lo1]; exact km1, h1.1, h1.2, fun v H3 e3 hv => q2 _ H3 e3 hv⟩
      have hd14 := e14 _ _ (e13 _ _ (e12 _ _ hd))
      refine s_setLH (j := j) hd14 HN (fun v H H' e h => h.ex e) (ev_var rfl) (ev_is (HX 0 (by decide) e24 rfl) (by rw [hj])) (by rw [List.length_map, hq.len, lhr]; exact hjm) fun v H15 e15 ⟨p, l, ev, hl, hp⟩ => ?_
      subst ev
      have hd15 := e15 _ _ hd14
      have k15 : Kt H11 (upd H15 d (.lst ((qs.map V.ref).set j (.ref p)))) := (Kt.of (e12.trans (e24.trans e15))).trans (Kt.upd hd15)
      refine ⟨_, _, _, _, qs.set j p, hrows.set j l, rfl, Ex.mut ((e11.trans e12).trans (e24.trans e15)) nd, by rw [upd_same, List.map_set], (hq.up k15).set ?_, by rw [List.length_set, lhr]⟩
      rcases hp with (z | ⟨u, z⟩) | z
      · exact .inl (.inl (by rw [upd_ne fun e => by rw [e, hd15] at z; cases z]; exact z))
      · exact .inl (.inr ⟨u, by rw [upd_ne fun e => by rw [e, hd15] at z; cases z]; exact z⟩)
      · exact .inr z
    subst hσ
    refine q_asgH (evH_tupTZ (ev_var rfl) (sq_of hd) hq.len hq.at_) fun v H12 e12 ⟨tu, ev, htu⟩ => ?_
    subst ev
    have e612 := (e.trans e11).trans e12
    have hc12 := e12 _ _ (e11 _ _ hc)
    refine st_is (σ' := [some (.ref a), some (iV m), some (.ref ta), some (.ref ba), some (.ref wy), some (.int (ws.getD 0 0)), some (.ref ra), some (.ref c), y8, y9, y10, some (.ref tu), y12, y13, none, none]) rfl ?_
    have lcs' : hrows.length = cs.length := by rw [lhr, lcs]
    have hcm : cs.length ≤ 1600 := by omega
    refine q_asgH (R := fun v H => ∃ (p : Addr) (b k : Nat), v = .ref p ∧ H p = some (.lst [iV b, iV k]) ∧ DueP cs (roW (ws.getD 0 0) hrows) b k) (evH_call (ea_cons (ev_var rfl) (ea_cons (ev_var rfl) (ea_cons (ev_var rfl) ea_nil))) fun H13 e13 Q13 q13 E13 => ⟨c, tu, cs, hrows, _, rfl, sq_of (e13 _ _ hc12), htu.up e13, lcs', hcm, fun b k p H14 du np e14 h14 => q13 _ H14 e14 ⟨p, b, k, rfl, h14, du⟩⟩) fun v H13 e13 ⟨du, db, dk, ev, hdu, DU⟩ => ?_
    subst ev
    refine st_is (σ' := [some (.ref a), some (iV m), some (.ref ta), some (.ref ba), some (.ref wy), some (.int (ws.getD 0 0)), some (.ref ra), some (.ref c), y8, y9, y10, some (.ref tu), y12, y13, some (.ref du), none]) rfl ?_
    have TD : ∀ {H'' : Hp} {σ : L2.St}, Ex H13 H'' → σ[7]? = some (some (.ref c)) → σ[11]? = some (some (.ref tu)) → σ[5]? = some (some (.int (ws.getD 0 0))) → EvH (tCall (spTold2 K) [] E0 (tCons (tVar 7) (tCons (tVar 11) (tCons (tVar 5) tNil)))) σ H'' (LsV K (zvs [(db : Int), (dk : Int)])) := fun e' s7 s11 s5 => evH_call (ea_cons (ev_var s7) (ea_cons (ev_var s11) (ea_cons (ev_var s5) ea_nil))) fun H14 e14 Q14 q14 E14 => ⟨c, tu, cs, hrows, _, rfl, sq_of (e14 _ _ (e' _ _ (e13 _ _ hc12))), htu.up ((e13.trans e').trans e14), lcs', hcm, w0.1, fun b k p H15 du2 np e15 h15 => q14 _ H15 e15 ⟨p, rfl, by
      obtain ⟨x1, x2⟩ := du2.uniq DU
      subst x1 x2
      exact sq_of h15⟩⟩
    refine q_asgH (TD (Ex.refl H13) rfl rfl rfl) fun v H14 e14 ⟨tl, ev, htl⟩ => ?_
    subst ev
    refine st_is (σ' := [some (.ref a), some (iV m), some (.ref ta), some (.ref ba), some (.ref wy), some (.int (ws.getD 0 0)), some (.ref ra), some (.ref c), y8, y9, y10, some (.ref tu), y12, y13, some (.ref du), some (.ref tl)]) rfl ?_
    have hdu14 : SqL K H14 du (zvs [(db : Int), (dk : Int)]) := sq_of (e14 _ _ hdu)
    have CL : Ev (tCall (spClass K) [] E0 (tCons (tVar 7) (tCons (tVar 11) (tCons (tVar 5) tNil)))) [some (.ref a), some (iV m), some (.ref ta), some (.ref ba), some (.ref wy), some (.int (ws.getD 0 0)), some (.ref ra), some (.ref c), y8, y9, y10, some (.ref tu), y12, y13, some (.ref du), some (.ref tl)] H14 (iV db) := ev_call (ea_cons (ev_var rfl) (ea_cons (ev_var rfl) (ea_cons (ev_var rfl) ea_nil))) fun H15 e15 Q15 q15 E15 => ⟨c, tu, cs, hrows, _, rfl, sq_of (e15 _ _ (e14 _ _ (e13 _ _ hc12))), htu.up ((e13.trans e14).trans e15), lcs', hcm, w0.1, fun b k H16 du2 e16 => by
      obtain ⟨x1, x2⟩ := du2.uniq DU
      subst x1 x2
      exact q15 H16 e16⟩
    refine q_when (b := false) (et_orF (et_is (et_test (ev_neLZ (evH_Lv (ev_var rfl) htl) (evH_Lv (ev_var rfl) hdu14))) (by rw [decide_eq_true rfl]; rfl)) (et_orF (et_is (et_not (et_B (ev_call (ea_cons (ev_op (ev_var rfl) ev_c (rv_ixL (v := iV dk) htl (atI_nat (j := 1) rfl))) ea_nil) sp_whole))) rfl) (et_is (et_test (ev_op CL (ev_op (ev_var rfl) ev_c (rv_ixL (v := iV db) hdu14 (atI_nat (j := 0) rfl))) rv_neI)) (by rw [decide_eq_true rfl]; rfl)))) (fun hb => by cases hb) fun _ H15 e15 => ?_
    have e615 := (e612.trans e13).trans (e14.trans e15)
    have okO := otab_ok ok
    have TF : ∀ (wy2 : Int), 0 ≤ wy2 → ∀ {H'' : Hp} {σ : L2.St}, Ex H15 H'' → σ[2]? = some (some (.ref ta)) → σ[6]? = some (some (.ref ra)) → EvH (tCall (spTold2 K) [] E0 (tCons (tVar 2) (tCons (tVar 6) (tCons (tC (.int wy2)) tNil)))) σ H'' (LsV K (zvs [0, 0])) := fun wy2 hy2 H'' σ e' s2 s6 => evH_call (ea_cons (ev_var s2) (ea_cons (ev_var s6) (ea_cons ev_c ea_nil))) fun H16 e16 Q16 q16 E16 => ⟨ta, ra, otab ts, zrows ts.length rs, wy2, rfl, ex_l ((e615.trans e').trans e16) ht6, hra.up ((e615.trans e').trans e16), by rw [zl, ol], by rw [ol]; exact hm, hy2, fun b k p H17 du2 np e17 h17 => q16 _ H17 e17 ⟨p, rfl, by
      obtain ⟨x1, x2⟩ := du2.uniq (.fine okO fun rows er k hk => by
        unfold roW at er
        split at er
        · cases er
          exact zrows_at ro (by rw [ol] at hk; exact hk)
        · cases er)
      subst x1 x2
      exact sq_of h17⟩⟩
    have Z2 : ∀ {H'' : Hp} {σ : L2.St}, EvH (tLst (tCons (tC (.int 0)) (tCons (tC (.int 0)) tNil))) σ H'' (LsV K (zvs [0, 0])) := fun {H'' σ} => evH_L (el_lst (ea_cons ev_c (ea_cons ev_c ea_nil)) (by show 2 ≤ 100000; decide))
    refine q_when (b := false) (et_orF (et_is (et_test (ev_neLZ (TF 2 (by decide) (Ex.refl H15) rfl rfl) Z2)) (by decide)) (et_orF (et_is (et_test (ev_neLZ (TF 0 (by decide) (Ex.refl H15) rfl rfl) Z2)) (by decide)) (et_is (et_not (et_B (ev_call (ea_cons (ev_var rfl) (ea_cons (ev_op (ev_var rfl) ev_c (rv_ixL (v := iV dk) (ex_l e15 hdu14) (atI_nat (j := 1) rfl))) ea_nil)) fun H16 e16 Q16 q16 E16 => ⟨_, _, rfl, q16⟩))) rfl))) (fun hb => by cases hb) fun _ H16 e16 => ?_
    exact s_ret (ev_is (ev_eqLZ' (TD ((e14.trans e15).trans e16) rfl rfl rfl) (evH_Lv (ev_var rfl) (ex_l (e15.trans e16) hdu14))) (by rw [decide_eq_true rfl])) fun H17 e17 => q H17
end

theorem lookup_in {α : Type} : ∀ {l : List (Str × α)} {z : Str} {v : α}, l.lookup z = some v → (z, v) ∈ l
  | (k, x) :: r, z, v, h => by
    rw [List.lookup_cons] at h
    by_cases e : z = k
    · subst e
      rw [beq_self_eq_true] at h
      cases h
      exact List.mem_cons_self
    · rw [beq_false_of_ne e] at h
      exact List.mem_cons_of_mem _ (lookup_in h)
theorem dct_of {K : PySem.W.Frag} {a : Addr} {kvs : List (Str × He.Dv)} {d : List (Str × V)} (hd : d = kvs.map fun q => (q.1, q.2.v K)) (h : He.valsB K a kvs = true) : ∀ z v, d.lookup z = some v → ∃ u, PySem.W.nsIn K a z = some (some u) ∧ RelV v u := fun z v hz => by
  subst hd
  obtain ⟨q, hq, e⟩ := List.mem_map.mp (lookup_in hz)
  cases e
  exact He.valsB_ok h hq
theorem fun_of {K : PySem.W.Frag} {x qual : Str} {st : Stmt} {kws : List (Str × V)} {f : Addr} {fd : FuncData} (F : FunD K x qual (defArgs st) (defBody st) (defScope st) [] kws f fd) : Fun K x qual st f fd := by
  obtain ⟨oc, od, dV, kV, doc, pm, an, cdv, ct, osl, rfl, lk, hcd, hD, hK⟩ := F.ex
  rcases hD with ⟨_, rfl⟩ | ⟨e, _⟩
  · exact ⟨⟨oc, od, kV, doc, pm, an, cdv, ct, osl, rfl, lk, hcd⟩, F.kp⟩
  · exact absurd rfl e
def hfn : List He.DefD := ([⟨("_wall", none), "_wall", "_wall", defArgs s_wall, defBody s_wall, defScope s_wall, [], []⟩, ⟨("_told", none), "_told", "_told", defArgs s_told, defBody s_told, defScope s_told, [], []⟩, ⟨("_nodes_before", none), "_nodes_before", "_nodes_before", defArgs s_nodes_before, defBody s_nodes_before, defScope s_nodes_before, [], []⟩, ⟨("Graph", some "__init__"), "__init__", "Graph.__init__", defArgs s_Graph___init__, defBody s_Graph___init__, defScope s_Graph___init__, [.non], []⟩, ⟨("Graph", some "nodes_before"), "nodes_before", "Graph.nodes_before", defArgs s_Graph_nodes_before, defBody s_Graph_nodes_before, defScope s_Graph_nodes_before, [], []⟩, ⟨("_law_whole", none), "_law_whole", "_law_whole", defArgs s_law_whole, defBody s_law_whole, defScope s_law_whole, [], []⟩, ⟨("_law_numbers", none), "_law_numbers", "_law_numbers", defArgs s_law_numbers, defBody s_law_numbers, defScope s_law_numbers, [], []⟩, ⟨("_law_cell", none), "_law_cell", "_law_cell", defArgs s_law_cell, defBody s_law_cell, defScope s_law_cell, [], []⟩, ⟨("_law_digits", none), "_law_digits", "_law_digits", defArgs s_law_digits, defBody s_law_digits, defScope s_law_digits, [], []⟩, ⟨("_law_many", none), "_law_many", "_law_many", defArgs s_law_many, defBody s_law_many, defScope s_law_many, [], []⟩, ⟨("_law_next", none), "_law_next", "_law_next", defArgs s_law_next, defBody s_law_next, defScope s_law_next, [], []⟩, ⟨("_law_alike", none), "_law_alike", "_law_alike", defArgs s_law_alike, defBody s_law_alike, defScope s_law_alike, [], []⟩] : List He.DefD) ++ ([⟨("_law_order", none), "_law_order", "_law_order", defArgs s_law_order, defBody s_law_order, defScope s_law_order, [], []⟩, ⟨("_law_table", none), "_law_table", "_law_table", defArgs s_law_table, defBody s_law_table, defScope s_law_table, [], []⟩, ⟨("_law_back", none), "_law_back", "_law_back", defArgs s_law_back, defBody s_law_back, defScope s_law_back, [], []⟩, ⟨("_law_rows", none), "_law_rows", "_law_rows", defArgs s_law_rows, defBody s_law_rows, defScope s_law_rows, [], []⟩, ⟨("_law_graph", none), "_law_graph", "_law_graph", defArgs s_law_graph, defBody s_law_graph, defScope s_law_graph, [], []⟩, ⟨("_law_fields", none), "_law_fields", "_law_fields", defArgs s_law_fields, defBody s_law_fields, defScope s_law_fields, [], []⟩, ⟨("_law_harmed_next", none), "_law_harmed_next", "_law_harmed_next", defArgs s_law_harmed_next, defBody s_law_harmed_next, defScope s_law_harmed_next, [], []⟩, ⟨("_law_harmed_row", none), "_law_harmed_row", "_law_harmed_row", defArgs s_law_harmed_row, defBody s_law_harmed_row, defScope s_law_harmed_row, [], []⟩, ⟨("_law_reach", none), "_law_reach", "_law_reach", defArgs s_law_reach, defBody s_law_reach, defScope s_law_reach, [], []⟩, ⟨("_law_any_nexts", none), "_law_any_nexts", "_law_any_nexts", defArgs s_law_any_nexts, defBody s_law_any_nexts, defScope s_law_any_nexts, [], []⟩, ⟨("_law_any_rows", none), "_law_any_rows", "_law_any_rows", defArgs s_law_any_rows, defBody s_law_any_rows, defScope s_law_any_rows, [], []⟩, ⟨("_law_due", none), "_law_due", "_law_due", defArgs s_law_due, defBody s_law_due, defScope s_law_due, [], []⟩] : List He.DefD) ++ ([⟨("_law_told", none), "_law_told", "_law_told", defArgs s_law_told, defBody s_law_told, defScope s_law_told, [], []⟩, ⟨("_law_class", none), "_law_class", "_law_class", defArgs s_law_class, defBody s_law_class, defScope s_law_class, [], []⟩, ⟨("_law_fielded", none), "_law_fielded", "_law_fielded", defArgs s_law_fielded, defBody s_law_fielded, defScope s_law_fielded, [], []⟩, ⟨("law", none), "law", "law", defArgs s_law, defBody s_law, defScope s_law, [], []⟩] : List He.DefD)
def hfa : List He.Fa := ([.free "ValueError", .free "all", .free "bool", .free "enumerate", .free "int", .free "isinstance", .free "len", .free "list", .free "max", .free "min", .free "range", .free "sorted"] : List He.Fa) ++ ([.free "tuple", .int "VERY_LARGE" (1000000000000000000), .glo "_wall", .glo "_told", .glo "_nodes_before", .meth "Graph" "__init__", .meth "Graph" "nodes_before", .glo "_law_whole", .glo "_law_numbers", .glo "_law_cell", .glo "_law_digits", .glo "_law_many"] : List He.Fa) ++ ([.glo "_law_next", .glo "_law_alike", .glo "_law_order", .glo "_law_table", .glo "_law_back", .glo "_law_rows", .glo "_law_graph", .glo "_law_fields", .glo "_law_harmed_next", .glo "_law_harmed_row", .glo "_law_reach", .glo "_law_any_nexts"] : List He.Fa) ++ ([.glo "_law_any_rows", .glo "_law_due", .glo "_law_told", .glo "_law_class", .glo "_law_fielded", .glo "law", .cls "Graph", .glo "Graph", .mkr "Graph", .noat "Graph" "_before", .noat "Graph" "nexts", .noat "Graph" "rotation"] : List He.Fa) ++ ([.free "super", .glo "RoomError", .glo "BadText", .noat "BadText" "at", .glo "BadLine", .noat "BadLine" "line", .glo "BadLibrary", .noat "BadLibrary" "program", .noat "BadLibrary" "rule", .glo "ProcedureCycle", .noat "ProcedureCycle" "names", .noat "ProcedureCycle" "program"] : List He.Fa) ++ ([.glo "UnknownProgram", .noat "UnknownProgram" "name", .glo "BadCode", .noat "BadCode" "line", .glo "BadGraph", .noat "BadGraph" "node", .glo "BadRotation", .noat "BadRotation" "at", .glo "BadBook", .noat "BadBook" "rule", .glo "TooLarge", .noat "TooLarge" "size"] : List He.Fa) ++ ([.glo "BadSnapshot", .noat "BadSnapshot" "at"] : List He.Fa)
def hts : List He.Tab := []
def hex (K : PySem.W.Frag) : Bool := OwnHd.skB K && (OwnHd.errB K "RoomError" && (OwnHd.errB K "BadText" && (OwnHd.ErD.ok PP.main.file K ⟨"BadText", "BadText.__init__", defArgs s_BadText___init__, defBody s_BadText___init__, defScope s_BadText___init__⟩ && (OwnHd.errB K "BadLine" && (OwnHd.ErD.ok PP.main.file K ⟨"BadLine", "BadLine.__init__", defArgs s_BadLine___init__, defBody s_BadLine___init__, defScope s_BadLine___init__⟩ && (OwnHd.errB K "BadLibrary" && (OwnHd.ErD.ok PP.main.file K ⟨"BadLibrary", "BadLibrary.__init__", defArgs s_BadLibrary___init__, defBody s_BadLibrary___init__, defScope s_BadLibrary___init__⟩ && (OwnHd.errB K "ProcedureCycle" && (OwnHd.ErD.ok PP.main.file K ⟨"ProcedureCycle", "ProcedureCycle.__init__", defArgs s_ProcedureCycle___init__, defBody s_ProcedureCycle___init__, defScope s_ProcedureCycle___init__⟩ && (OwnHd.errB K "UnknownProgram" && (OwnHd.ErD.ok PP.main.file K ⟨"UnknownProgram", "UnknownProgram.__init__", defArgs s_UnknownProgram___init__, defBody s_UnknownProgram___init__, defScope s_UnknownProgram___init__⟩ && (OwnHd.errB K "BadCode" && (OwnHd.ErD.ok PP.main.file K ⟨"BadCode", "BadCode.__init__", defArgs s_BadCode___init__, defBody s_BadCode___init__, defScope s_BadCode___init__⟩ && (OwnHd.errB K "BadGraph" && (OwnHd.ErD.ok PP.main.file K ⟨"BadGraph", "BadGraph.__init__", defArgs s_BadGraph___init__, defBody s_BadGraph___init__, defScope s_BadGraph___init__⟩ && (OwnHd.errB K "BadRotation" && (OwnHd.ErD.ok PP.main.file K ⟨"BadRotation", "BadRotation.__init__", defArgs s_BadRotation___init__, defBody s_BadRotation___init__, defScope s_BadRotation___init__⟩ && (OwnHd.errB K "BadBook" && (OwnHd.ErD.ok PP.main.file K ⟨"BadBook", "BadBook.__init__", defArgs s_BadBook___init__, defBody s_BadBook___init__, defScope s_BadBook___init__⟩ && (OwnHd.errB K "TooLarge" && (OwnHd.ErD.ok PP.main.file K ⟨"TooLarge", "TooLarge.__init__", defArgs s_TooLarge___init__, defBody s_TooLarge___init__, defScope s_TooLarge___init__⟩ && (OwnHd.errB K "BadSnapshot" && (OwnHd.ErD.ok PP.main.file K ⟨"BadSnapshot", "BadSnapshot.__init__", defArgs s_BadSnapshot___init__, defBody s_BadSnapshot___init__, defScope s_BadSnapshot___init__⟩ && (OwnHd.kndB K ["RoomError", "BadText", "BadLine", "BadLibrary", "ProcedureCycle", "UnknownProgram", "BadCode", "BadGraph", "BadRotation", "BadBook", "TooLarge", "BadSnapshot"] "RoomError" && (true)))))))))))))))))))))))))
abbrev HR : PySem.W.OpenRow := PySem.W.OpenLaw.row PySem.Challenge.rw_sameroom_k23_bad_graphs
def hes : List OwnHd.ErD := ([⟨"BadText", "BadText.__init__", defArgs s_BadText___init__, defBody s_BadText___init__, defScope s_BadText___init__⟩, ⟨"BadLine", "BadLine.__init__", defArgs s_BadLine___init__, defBody s_BadLine___init__, defScope s_BadLine___init__⟩, ⟨"BadLibrary", "BadLibrary.__init__", defArgs s_BadLibrary___init__, defBody s_BadLibrary___init__, defScope s_BadLibrary___init__⟩, ⟨"ProcedureCycle", "ProcedureCycle.__init__", defArgs s_ProcedureCycle___init__, defBody s_ProcedureCycle___init__, defScope s_ProcedureCycle___init__⟩, ⟨"UnknownProgram", "UnknownProgram.__init__", defArgs s_UnknownProgram___init__, defBody s_UnknownProgram___init__, defScope s_UnknownProgram___init__⟩, ⟨"BadCode", "BadCode.__init__", defArgs s_BadCode___init__, defBody s_BadCode___init__, defScope s_BadCode___init__⟩, ⟨"BadGraph", "BadGraph.__init__", defArgs s_BadGraph___init__, defBody s_BadGraph___init__, defScope s_BadGraph___init__⟩, ⟨"BadRotation", "BadRotation.__init__", defArgs s_BadRotation___init__, defBody s_BadRotation___init__, defScope s_BadRotation___init__⟩, ⟨"BadBook", "BadBook.__init__", defArgs s_BadBook___init__, defBody s_BadBook___init__, defScope s_BadBook___init__⟩, ⟨"TooLarge", "TooLarge.__init__", defArgs s_TooLarge___init__, defBody s_TooLarge___init__, defScope s_TooLarge___init__⟩, ⟨"BadSnapshot", "BadSnapshot.__init__", defArgs s_BadSnapshot___init__, defBody s_BadSnapshot___init__, defScope s_BadSnapshot___init__⟩] : List OwnHd.ErD)
abbrev hkX : PySem.W.Hook := OwnHd.hookY 5 hfa hfn hts hes hex
def hloose : List Str := (["_wall", "VERY_LARGE", "_told", "RoomError", "BadText", "BadLine", "BadLibrary", "ProcedureCycle", "UnknownProgram", "BadCode", "BadGraph", "BadRotation"] : List Str) ++ (["BadBook", "TooLarge", "BadSnapshot", "_nodes_before", "Graph", "_law_whole", "_law_numbers", "_law_cell", "_law_digits", "_law_many", "_law_next", "_law_alike"] : List Str) ++ (["_law_order", "_law_table", "_law_back", "_law_rows", "_law_graph", "_law_fields", "_law_harmed_next", "_law_harmed_row", "_law_reach", "_law_any_nexts", "_law_any_rows", "_law_due"] : List Str) ++ (["_law_told", "_law_class", "_law_fielded"] : List Str)
def hob (s : PySem.W.SharedT) : OwnHd.AlY := OwnHd.obsY 5 hfa hfn hts hes hex (HandSHeadRun.getT s)
theorem hob_eq (s : PySem.W.SharedT) : hob s = hkX.obs s.abs := OwnHd.obsY_eq (HandSHeadRun.getT_eq s)
theorem hrun_f (w : World) : HandSHeadRun.RunEq HR (PySem.W.view HR.prog [42]) hkX hob 6000 hloose (w.withFollow "special-get-raises" false) := by
  intro os
  kernel_rfl
theorem hrun_t (w : World) : HandSHeadRun.RunEq HR (PySem.W.view HR.prog [42]) hkX hob 6000 hloose (w.withFollow "special-get-raises" true) := by
  intro os
  kernel_rfl
theorem hrun (w : World) : HandSHeadRun.RunEq HR (PySem.W.view HR.prog [42]) hkX hob 6000 hloose w := PySem.W.byRow2 "special-get-raises" (P := fun w => HandSHeadRun.RunEq HR (PySem.W.view HR.prog [42]) hkX hob 6000 hloose w) hrun_f hrun_t w
theorem facts {w : World} {K : PySem.W.Frag} {h : Heap} {mg : Str → Option Value} {f : Addr} (X : K.In h) (G : h.Ns mainGlobals mg) (hfl : mg ("law" : Str) = some (.ref f)) (c : OwnHd.SaysY hfa hfn hts hes hex w K) :
    ∃ fd : FuncData, (∀ (s : Shared) (v : Value), BindsTo s fd ⟨[v], []⟩ [("script", v)]) ∧ ∀ base : Heap, K.In base → base.Ns mainGlobals mg → FnOk PP w K mg base CX0 43 f fd ["script"] (spLaw K) := by
  have e := hfl.symm.trans (He.glo_ok X G (c.t.d.fact 41 (f := .glo "law") rfl))
  cases e
  obtain ⟨ex0, x1⟩ := He.ba c.more
  obtain ⟨ex1, x2⟩ := He.ba x1
  obtain ⟨ex2, x3⟩ := He.ba x2
  obtain ⟨ex3, x4⟩ := He.ba x3
  obtain ⟨ex4, x5⟩ := He.ba x4
  obtain ⟨ex5, x6⟩ := He.ba x5
  obtain ⟨ex6, x7⟩ := He.ba x6
  obtain ⟨ex7, x8⟩ := He.ba x7
  obtain ⟨ex8, x9⟩ := He.ba x8
  obtain ⟨ex9, x10⟩ := He.ba x9
  obtain ⟨ex10, x11⟩ := He.ba x10
  obtain ⟨ex11, x12⟩ := He.ba x11
  obtain ⟨ex12, x13⟩ := He.ba x12
  obtain ⟨ex13, x14⟩ := He.ba x13
  obtain ⟨ex14, x15⟩ := He.ba x14
  obtain ⟨ex15, x16⟩ := He.ba x15
  obtain ⟨ex16, x17⟩ := He.ba x16
  obtain ⟨ex17, x18⟩ := He.ba x17
  obtain ⟨ex18, x19⟩ := He.ba x18
  obtain ⟨ex19, x20⟩ := He.ba x19
  obtain ⟨ex20, x21⟩ := He.ba x20
  obtain ⟨ex21, x22⟩ := He.ba x21
  obtain ⟨ex22, x23⟩ := He.ba x22
  obtain ⟨ex23, x24⟩ := He.ba x23
  obtain ⟨ex24, x25⟩ := He.ba x24
  obtain ⟨t0, g0⟩ := He.int_ok X G (c.t.d.fact 13 rfl)
  obtain ⟨fd0, E0⟩ := c.t.d.def_ 0 rfl
  have F0 := fun_of (st := s_wall) E0
  have b0 := F0.binds (ps := ["k"]) fun _ _ _ _ _ _ us hl => match us, hl with | [_], _ => rfl
  obtain ⟨fd1, E1⟩ := c.t.d.def_ 1 rfl
  have F1 := fun_of (st := s_told) E1
  have b1 := F1.binds (ps := ["number"]) fun _ _ _ _ _ _ us hl => match us, hl with | [_], _ => rfl
  obtain ⟨fd2, E2⟩ := c.t.d.def_ 2 rfl
  have F2 := fun_of (st := s_nodes_before) E2
  have b2 := F2.binds (ps := ["nexts"]) fun _ _ _ _ _ _ us hl => match us, hl with | [_], _ => rfl
  obtain ⟨fd3, E3⟩ := c.t.d.def_ 3 rfl
  have b3 := FunD.binds1 E3 2 0 (by show _ ≠ []; exact List.cons_ne_nil _ _) rfl (ps := ["self", "nexts", "rotation"]) fun _ _ _ _ _ _ _ us its h1 h2 => match us, its, h1, h2 with | [_, _], [_], _, _ => ⟨_, rfl, rfl⟩
  obtain ⟨dz3, vz3, bz3⟩ := FunD.binds1 E3 3 1 (by show _ ≠ []; exact List.cons_ne_nil _ _) rfl (ps := ["self", "nexts", "rotation"]) fun _ _ _ _ _ _ _ us its h1 h2 => match us, its, h1, h2 with | [_, _, _], [_], _, _ => ⟨_, rfl, rfl⟩
  cases vz3
  obtain ⟨fd4, E4⟩ := c.t.d.def_ 4 rfl
  have F4 := fun_of (st := s_Graph_nodes_before) E4
  have b4 := F4.binds (ps := ["self", "node"]) fun _ _ _ _ _ _ us hl => match us, hl with | [_, _], _ => rfl
  obtain ⟨fd5, E5⟩ := c.t.d.def_ 5 rfl
  have F5 := fun_of (st := s_law_whole) E5
  have b5 := F5.binds (ps := ["value"]) fun _ _ _ _ _ _ us hl => match us, hl with | [_], _ => rfl
  obtain ⟨fd6, E6⟩ := c.t.d.def_ 6 rfl
  have F6 := fun_of (st := s_law_numbers) E6
  have b6 := F6.binds (ps := ["value"]) fun _ _ _ _ _ _ us hl => match us, hl with | [_], _ => rfl
  obtain ⟨fd7, E7⟩ := c.t.d.def_ 7 rfl
  have F7 := fun_of (st := s_law_cell) E7
  have b7 := F7.binds (ps := ["script", "k"]) fun _ _ _ _ _ _ us hl => match us, hl with | [_, _], _ => rfl
  obtain ⟨fd8, E8⟩ := c.t.d.def_ 8 rfl
  have F8 := fun_of (st := s_law_digits) E8
  have b8 := F8.binds (ps := ["cell", "sizes"]) fun _ _ _ _ _ _ us hl => match us, hl with | [_, _], _ => rfl
  obtain ⟨fd9, E9⟩ := c.t.d.def_ 9 rfl
  have F9 := fun_of (st := s_law_many) E9
  have b9 := F9.binds (ps := ["row"]) fun _ _ _ _ _ _ us hl => match us, hl with | [_], _ => rfl
  obtain ⟨fd10, E10⟩ := c.t.d.def_ 10 rfl
  have F10 := fun_of (st := s_law_next) E10
  have b10 := F10.binds (ps := ["k", "ring", "hang", "digit"]) fun _ _ _ _ _ _ us hl => match us, hl with | [_, _, _, _], _ => rfl
  obtain ⟨fd11, E11⟩ := c.t.d.def_ 11 rfl
  have F11 := fun_of (st := s_law_alike) E11
  have b11 := F11.binds (ps := ["k", "many", "kind", "hub"]) fun _ _ _ _ _ _ us hl => match us, hl with | [_, _, _, _], _ => rfl
  obtain ⟨fd12, E12⟩ := c.t.d.def_ 12 rfl
  have F12 := fun_of (st := s_law_order) E12
  have b12 := F12.binds (ps := ["digits"]) fun _ _ _ _ _ _ us hl => match us, hl with | [_], _ => rfl
  obtain ⟨fd13, E13⟩ := c.t.d.def_ 13 rfl
  have F13 := fun_of (st := s_law_table) E13
  have b13 := F13.binds (ps := ["script", "many"]) fun _ _ _ _ _ _ us hl => match us, hl with | [_, _], _ => rfl
  obtain ⟨fd14, E14⟩ := c.t.d.def_ 14 rfl
  have F14 := fun_of (st := s_law_back) E14
  have b14 := F14.binds (ps := ["table"]) fun _ _ _ _ _ _ us hl => match us, hl with | [_], _ => rfl
  obtain ⟨fd15, E15⟩ := c.t.d.def_ 15 rfl
  have F15 := fun_of (st := s_law_rows) E15
  have b15 := F15.binds (ps := ["back", "way", "cell"]) fun _ _ _ _ _ _ us hl => match us, hl with | [_, _, _], _ => rfl
  obtain ⟨fd16, E16⟩ := c.t.d.def_ 16 rfl
  have F16 := fun_of (st := s_law_graph) E16
  have b16 := F16.binds (ps := ["table", "rows", "way"]) fun _ _ _ _ _ _ us hl => match us, hl with | [_, _, _], _ => rfl
  obtain ⟨fd17, E17⟩ := c.t.d.def_ 17 rfl
  have F17 := fun_of (st := s_law_fields) E17
  have b17 := F17.binds (ps := ["graph", "table", "rows"]) fun _ _ _ _ _ _ us hl => match us, hl with | [_, _, _], _ => rfl
  obtain ⟨fd18, E18⟩ := c.t.d.def_ 18 rfl
  have F18 := fun_of (st := s_law_harmed_next) E18
  have b18 := F18.binds (ps := ["kind", "many", "spot", "raw"]) fun _ _ _ _ _ _ us hl => match us, hl with | [_, _, _, _], _ => rfl
  obtain ⟨fd19, E19⟩ := c.t.d.def_ 19 rfl
  have F19 := fun_of (st := s_law_harmed_row) E19
  have b19 := F19.binds (ps := ["kind", "row", "other", "k", "raw"]) fun _ _ _ _ _ _ us hl => match us, hl with | [_, _, _, _, _], _ => rfl
  obtain ⟨fd20, E20⟩ := c.t.d.def_ 20 rfl
  have F20 := fun_of (st := s_law_reach) E20
  have b20 := F20.binds (ps := ["cell"]) fun _ _ _ _ _ _ us hl => match us, hl with | [_], _ => rfl
  obtain ⟨fd21, E21⟩ := c.t.d.def_ 21 rfl
  have F21 := fun_of (st := s_law_any_nexts) E21
  have b21 := F21.binds (ps := ["cell", "many", "wide", "low"]) fun _ _ _ _ _ _ us hl => match us, hl with | [_, _, _, _], _ => rfl
  obtain ⟨fd22, E22⟩ := c.t.d.def_ 22 rfl
  have F22 := fun_of (st := s_law_any_rows) E22
  have b22 := F22.binds (ps := ["back", "cell", "more"]) fun _ _ _ _ _ _ us hl => match us, hl with | [_, _, _], _ => rfl
  obtain ⟨fd23, E23⟩ := c.t.d.def_ 23 rfl
  have F23 := fun_of (st := s_law_due) E23
  have b23 := F23.binds (ps := ["table", "rows", "way"]) fun _ _ _ _ _ _ us hl => match us, hl with | [_, _, _], _ => rfl
  obtain ⟨fd24, E24⟩ := c.t.d.def_ 24 rfl
  have F24 := fun_of (st := s_law_told) E24
  have b24 := F24.binds (ps := ["table", "rows", "way"]) fun _ _ _ _ _ _ us hl => match us, hl with | [_, _, _], _ => rfl
  obtain ⟨fd25, E25⟩ := c.t.d.def_ 25 rfl
  have F25 := fun_of (st := s_law_class) E25
  have b25 := F25.binds (ps := ["table", "rows", "way"]) fun _ _ _ _ _ _ us hl => match us, hl with | [_, _, _], _ => rfl
  obtain ⟨fd26, E26⟩ := c.t.d.def_ 26 rfl
  have F26 := fun_of (st := s_law_fielded) E26
  have b26 := F26.binds (ps := ["one", "two"]) fun _ _ _ _ _ _ us hl => match us, hl with | [_, _], _ => rfl
  obtain ⟨fd27, E27⟩ := c.t.d.def_ 27 rfl
  have F27 := fun_of (st := s_law) E27
  have b27 := F27.binds (ps := ["script"]) fun _ _ _ _ _ _ us hl => match us, hl with | [_], _ => rfl
  obtain ⟨fde1, IX1⟩ := c.err (P := PP) (file := PP.main.file) 0 (d := ⟨"BadText", "BadText.__init__", defArgs s_BadText___init__, defBody s_BadText___init__, defScope s_BadText___init__⟩) rfl rfl ex3
  obtain ⟨fde2, IX2⟩ := c.err (P := PP) (file := PP.main.file) 1 (d := ⟨"BadLine", "BadLine.__init__", defArgs s_BadLine___init__, defBody s_BadLine___init__, defScope s_BadLine___init__⟩) rfl rfl ex5
  obtain ⟨fde3, IX3⟩ := c.err (P := PP) (file := PP.main.file) 2 (d := ⟨"BadLibrary", "BadLibrary.__init__", defArgs s_BadLibrary___init__, defBody s_BadLibrary___init__, defScope s_BadLibrary___init__⟩) rfl rfl ex7
  obtain ⟨fde4, IX4⟩ := c.err (P := PP) (file := PP.main.file) 3 (d := ⟨"ProcedureCycle", "ProcedureCycle.__init__", defArgs s_ProcedureCycle___init__, defBody s_ProcedureCycle___init__, defScope s_ProcedureCycle___init__⟩) rfl rfl ex9
  obtain ⟨fde5, IX5⟩ := c.err (P := PP) (file := PP.main.file) 4 (d := ⟨"UnknownProgram", "UnknownProgram.__init__", defArgs s_UnknownProgram___init__, defBody s_UnknownProgram___init__, defScope s_UnknownProgram___init__⟩) rfl rfl ex11
  obtain ⟨fde6, IX6⟩ := c.err (P := PP) (file := PP.main.file) 5 (d := ⟨"BadCode", "BadCode.__init__", defArgs s_BadCode___init__, defBody s_BadCode___init__, defScope s_BadCode___init__⟩) rfl rfl ex13
  obtain ⟨fde7, IX7⟩ := c.err (P := PP) (file := PP.main.file) 6 (d := ⟨"BadGraph", "BadGraph.__init__", defArgs s_BadGraph___init__, defBody s_BadGraph___init__, defScope s_BadGraph___init__⟩) rfl rfl ex15
  obtain ⟨fde8, IX8⟩ := c.err (P := PP) (file := PP.main.file) 7 (d := ⟨"BadRotation", "BadRotation.__init__", defArgs s_BadRotation___init__, defBody s_BadRotation___init__, defScope s_BadRotation___init__⟩) rfl rfl ex17
  obtain ⟨fde9, IX9⟩ := c.err (P := PP) (file := PP.main.file) 8 (d := ⟨"BadBook", "BadBook.__init__", defArgs s_BadBook___init__, defBody s_BadBook___init__, defScope s_BadBook___init__⟩) rfl rfl ex19
  obtain ⟨fde10, IX10⟩ := c.err (P := PP) (file := PP.main.file) 9 (d := ⟨"TooLarge", "TooLarge.__init__", defArgs s_TooLarge___init__, defBody s_TooLarge___init__, defScope s_TooLarge___init__⟩) rfl rfl ex21
  obtain ⟨fde11, IX11⟩ := c.err (P := PP) (file := PP.main.file) 10 (d := ⟨"BadSnapshot", "BadSnapshot.__init__", defArgs s_BadSnapshot___init__, defBody s_BadSnapshot___init__, defScope s_BadSnapshot___init__⟩) rfl rfl ex23
  have T : Txt w K mg (fun n => if n < 100 then ([He.fAd K ("_wall", none), He.fAd K ("_told", none), He.fAd K ("_nodes_before", none), He.fAd K ("Graph", some "__init__"), He.fAd K ("Graph", some "nodes_before"), He.fAd K ("_law_whole", none), He.fAd K ("_law_numbers", none), He.fAd K ("_law_cell", none), He.fAd K ("_law_digits", none), He.fAd K ("_law_many", none), He.fAd K ("_law_next", none), He.fAd K ("_law_alike", none), He.fAd K ("_law_order", none), He.fAd K ("_law_table", none), He.fAd K ("_law_back", none), He.fAd K ("_law_rows", none), He.fAd K ("_law_graph", none), He.fAd K ("_law_fields", none), He.fAd K ("_law_harmed_next", none), He.fAd K ("_law_harmed_row", none), He.fAd K ("_law_reach", none), He.fAd K ("_law_any_nexts", none), He.fAd K ("_law_any_rows", none), He.fAd K ("_law_due", none), He.fAd K ("_law_told", none), He.fAd K ("_law_class", none), He.fAd K ("_law_fielded", none), He.fAd K ("law", none)] : List Addr).getD n 0 else if n < 200 then ([0] : List Addr).getD (n - 100) 0 else if n < 300 then ([He.ga K "Graph"] : List Addr).getD (n - 200) 0 else if n < 400 then He.ga K ((["RoomError", "BadText", "BadLine", "BadLibrary", "ProcedureCycle", "UnknownProgram", "BadCode", "BadGraph", "BadRotation", "BadBook", "TooLarge", "BadSnapshot"] : List Str).getD (n - 300) "") else OwnHd.ia K ((["RoomError", "BadText", "BadLine", "BadLibrary", "ProcedureCycle", "UnknownProgram", "BadCode", "BadGraph", "BadRotation", "BadBook", "TooLarge", "BadSnapshot"] : List Str).getD (n - 400) "")) (fun n => if n < 400 then ([fd0, fd1, fd2, fd3, fd4, fd5, fd6, fd7, fd8, fd9, fd10, fd11, fd12, fd13, fd14, fd15, fd16, fd17, fd18, fd19, fd20, fd21, fd22, fd23, fd24, fd25, fd26, fd27] : List FuncData).getD n fd27 else ([fd27, fde1, fde2, fde3, fde4, fde5, fde6, fde7, fde8, fde9, fde10, fde11] : List FuncData).getD (n - 400) fd27) (fun n => ([.int (1000000000000000000) t0] : List Value).getD n .none) :=
    { b_ValueError := He.free_ok X G (c.t.d.fact 0 rfl),
      b_all := He.free_ok X G (c.t.d.fact 1 rfl),
      b_bool := He.free_ok X G (c.t.d.fact 2 rfl),
      b_enumerate := He.free_ok X G (c.t.d.fact 3 rfl),
      b_int := He.free_ok X G (c.t.d.fact 4 rfl),
      b_isinstance := He.free_ok X G (c.t.d.fact 5 rfl),
      b_len := He.free_ok X G (c.t.d.fact 6 rfl),
      b_list := He.free_ok X G (c.t.d.fact 7 rfl),
      b_max := He.free_ok X G (c.t.d.fact 8 rfl),
      b_min := He.free_ok X G (c.t.d.fact 9 rfl),
      b_range := He.free_ok X G (c.t.d.fact 10 rfl),
      b_sorted := He.free_ok X G (c.t.d.fact 11 rfl),
      b_tuple := He.free_ok X G (c.t.d.fact 12 rfl),
      c_VERY_LARGE := g0,
      r_VERY_LARGE := ⟨t0, rfl⟩,
      d_wall := ⟨F0, He.glo_ok X G (c.t.d.fact 14 rfl), F0.kp, b0⟩,
      d_told := ⟨F1, He.glo_ok X G (c.t.d.fact 15 rfl), F1.kp, b1⟩,
      d_nodes_before := ⟨F2, He.glo_ok X G (c.t.d.fact 16 rfl), F2.kp, b2⟩,
      d_Graph___init__ := ⟨E3, bz3, b3⟩,
      m_Graph___init__ := He.meth_ok (c.t.d.fact 17 rfl),
      d_Graph_nodes_before := ⟨F4, b4⟩,
      m_Graph_nodes_before := He.meth_ok (c.t.d.fact 18 rfl),
      d_law_whole := ⟨F5, He.glo_ok X G (c.t.d.fact 19 rfl), F5.kp, b5⟩,
      d_law_numbers := ⟨F6, He.glo_ok X G (c.t.d.fact 20 rfl), F6.kp, b6⟩,
      d_law_cell := ⟨F7, He.glo_ok X G (c.t.d.fact 21 rfl), F7.kp, b7⟩,
      d_law_digits := ⟨F8, He.glo_ok X G (c.t.d.fact 22 rfl), F8.kp, b8⟩,
      d_law_many := ⟨F9, He.glo_ok X G (c.t.d.fact 23 rfl), F9.kp, b9⟩,
      d_law_next := ⟨F10, He.glo_ok X G (c.t.d.fact 24 rfl), F10.kp, b10⟩,
      d_law_alike := ⟨F11, He.glo_ok X G (c.t.d.fact 25 rfl), F11.kp, b11⟩,
      d_law_order := ⟨F12, He.glo_ok X G (c.t.d.fact 26 rfl), F12.kp, b12⟩,
      d_law_table := ⟨F13, He.glo_ok X G (c.t.d.fact 27 rfl), F13.kp, b13⟩,
      d_law_back := ⟨F14, He.glo_ok X G (c.t.d.fact 28 rfl), F14.kp, b14⟩,
      d_law_rows := ⟨F15, He.glo_ok X G (c.t.d.fact 29 rfl), F15.kp, b15⟩,
      d_law_graph := ⟨F16, He.glo_ok X G (c.t.d.fact 30 rfl), F16.kp, b16⟩,
      d_law_fields := ⟨F17, He.glo_ok X G (c.t.d.fact 31 rfl), F17.kp, b17⟩,
      d_law_harmed_next := ⟨F18, He.glo_ok X G (c.t.d.fact 32 rfl), F18.kp, b18⟩,
      d_law_harmed_row := ⟨F19, He.glo_ok X G (c.t.d.fact 33 rfl), F19.kp, b19⟩,
      d_law_reach := ⟨F20, He.glo_ok X G (c.t.d.fact 34 rfl), F20.kp, b20⟩,
      d_law_any_nexts := ⟨F21, He.glo_ok X G (c.t.d.fact 35 rfl), F21.kp, b21⟩,
      d_law_any_rows := ⟨F22, He.glo_ok X G (c.t.d.fact 36 rfl), F22.kp, b22⟩,
      d_law_due := ⟨F23, He.glo_ok X G (c.t.d.fact 37 rfl), F23.kp, b23⟩,
      d_law_told := ⟨F24, He.glo_ok X G (c.t.d.fact 38 rfl), F24.kp, b24⟩,
      d_law_class := ⟨F25, He.glo_ok X G (c.t.d.fact 39 rfl), F25.kp, b25⟩,
      d_law_fielded := ⟨F26, He.glo_ok X G (c.t.d.fact 40 rfl), F26.kp, b26⟩,
      d_law := ⟨F27, He.glo_ok X G (c.t.d.fact 41 rfl), F27.kp, b27⟩,
      cl_Graph := He.cls_ok (c.t.d.fact 42 rfl),
      g_Graph := He.glo_ok X G (c.t.d.fact 43 rfl),
      mk_Graph := He.mkr_ok (c.t.d.fact 44 rfl),
      n_Graph__before := He.noat_ok (c.t.d.fact 45 rfl),
      n_Graph_nexts := He.noat_ok (c.t.d.fact 46 rfl),
      n_Graph_rotation := He.noat_ok (c.t.d.fact 47 rfl),
      sk := OwnHd.skB_ok ex0,
      b_super := He.free_ok X G (c.t.d.fact 48 rfl),
      x_RoomError := OwnHd.errB_ok ex1,
      gx_RoomError := He.glo_ok X G (c.t.d.fact 49 rfl),
      x_BadText := OwnHd.errB_ok ex2,
      gx_BadText := He.glo_ok X G (c.t.d.fact 50 rfl),
      nx_BadText_at := He.noat_ok (c.t.d.fact 51 rfl),
      ix_BadText := IX1,
      bx_BadText := IX1.binds (ps := ["self", "at"]) fun _ _ _ _ _ _ _ us hl => match us, hl with | [_, _], _ => rfl,
      x_BadLine := OwnHd.errB_ok ex4,
      gx_BadLine := He.glo_ok X G (c.t.d.fact 52 rfl),
      nx_BadLine_line := He.noat_ok (c.t.d.fact 53 rfl),
      ix_BadLine := IX2,
      bx_BadLine := IX2.binds (ps := ["self", "line"]) fun _ _ _ _ _ _ _ us hl => match us, hl with | [_, _], _ => rfl,
      x_BadLibrary := OwnHd.errB_ok ex6,
      gx_BadLibrary := He.glo_ok X G (c.t.d.fact 54 rfl),
      nx_BadLibrary_program := He.noat_ok (c.t.d.fact 55 rfl),
      nx_BadLibrary_rule := He.noat_ok (c.t.d.fact 56 rfl),
      ix_BadLibrary := IX3,
      bx_BadLibrary := IX3.binds (ps := ["self", "program", "rule"]) fun _ _ _ _ _ _ _ us hl => match us, hl with | [_, _, _], _ => rfl,
      x_ProcedureCycle := OwnHd.errB_ok ex8,
      gx_ProcedureCycle := He.glo_ok X G (c.t.d.fact 57 rfl),
      nx_ProcedureCycle_names := He.noat_ok (c.t.d.fact 58 rfl),
      nx_ProcedureCycle_program := He.noat_ok (c.t.d.fact 59 rfl),
      ix_ProcedureCycle := IX4,
      bx_ProcedureCycle := IX4.binds (ps := ["self", "program", "names"]) fun _ _ _ _ _ _ _ us hl => match us, hl with | [_, _, _], _ => rfl,
      x_UnknownProgram := OwnHd.errB_ok ex10,
      gx_UnknownProgram := He.glo_ok X G (c.t.d.fact 60 rfl),
      nx_UnknownProgram_name := He.noat_ok (c.t.d.fact 61 rfl),
      ix_UnknownProgram := IX5,
      bx_UnknownProgram := IX5.binds (ps := ["self", "name"]) fun _ _ _ _ _ _ _ us hl => match us, hl with | [_, _], _ => rfl,
      x_BadCode := OwnHd.errB_ok ex12,
      gx_BadCode := He.glo_ok X G (c.t.d.fact 62 rfl),
      nx_BadCode_line := He.noat_ok (c.t.d.fact 63 rfl),
      ix_BadCode := IX6,
      bx_BadCode := IX6.binds (ps := ["self", "line"]) fun _ _ _ _ _ _ _ us hl => match us, hl with | [_, _], _ => rfl,
      x_BadGraph := OwnHd.errB_ok ex14,
      gx_BadGraph := He.glo_ok X G (c.t.d.fact 64 rfl),
      nx_BadGraph_node := He.noat_ok (c.t.d.fact 65 rfl),
      ix_BadGraph := IX7,
      bx_BadGraph := IX7.binds (ps := ["self", "node"]) fun _ _ _ _ _ _ _ us hl => match us, hl with | [_, _], _ => rfl,
      x_BadRotation := OwnHd.errB_ok ex16,
      gx_BadRotation := He.glo_ok X G (c.t.d.fact 66 rfl),
      nx_BadRotation_at := He.noat_ok (c.t.d.fact 67 rfl),
      ix_BadRotation := IX8,
      bx_BadRotation := IX8.binds (ps := ["self", "at"]) fun _ _ _ _ _ _ _ us hl => match us, hl with | [_, _], _ => rfl,
      x_BadBook := OwnHd.errB_ok ex18,
      gx_BadBook := He.glo_ok X G (c.t.d.fact 68 rfl),
      nx_BadBook_rule := He.noat_ok (c.t.d.fact 69 rfl),
      ix_BadBook := IX9,
      bx_BadBook := IX9.binds (ps := ["self", "rule"]) fun _ _ _ _ _ _ _ us hl => match us, hl with | [_, _], _ => rfl,
      x_TooLarge := OwnHd.errB_ok ex20,
      gx_TooLarge := He.glo_ok X G (c.t.d.fact 70 rfl),
      nx_TooLarge_size := He.noat_ok (c.t.d.fact 71 rfl),
      ix_TooLarge := IX10,
      bx_TooLarge := IX10.binds (ps := ["self", "size"]) fun _ _ _ _ _ _ _ us hl => match us, hl with | [_, _], _ => rfl,
      x_BadSnapshot := OwnHd.errB_ok ex22,
      gx_BadSnapshot := He.glo_ok X G (c.t.d.fact 72 rfl),
      nx_BadSnapshot_at := He.noat_ok (c.t.d.fact 73 rfl),
      ix_BadSnapshot := IX11,
      bx_BadSnapshot := IX11.binds (ps := ["self", "at"]) fun _ _ _ _ _ _ _ us hl => match us, hl with | [_, _], _ => rfl,
      kx := OwnHd.kndB_ok (fun i x hx => by
        have hi : i < 12 := (List.getElem?_eq_some_iff.mp hx).1
        show (if 300 + i < 100 then _ else if 300 + i < 200 then _ else if 300 + i < 300 then _ else if 300 + i < 400 then He.ga K ((["RoomError", "BadText", "BadLine", "BadLibrary", "ProcedureCycle", "UnknownProgram", "BadCode", "BadGraph", "BadRotation", "BadBook", "TooLarge", "BadSnapshot"] : List Str).getD (300 + i - 300) "") else _) = He.ga K x
        rw [if_neg (by omega), if_neg (by omega), if_neg (by omega), if_pos (by omega), Nat.add_sub_cancel_left, List.getD_eq_getElem?_getD, hx]
        rfl) ex24 }
  have b := FunD.bindsA (ps := ["script"]) E27 fun _ _ _ _ _ _ us hl => match us, hl with | [_], _ => rfl
  exact ⟨fd27, fun s v => b s [v] rfl, fun base _ _ => ok_law T⟩
end K23
open PySem PySem.W PySem.Calls PyProof.Rows
set_option maxRecDepth 100000 in
set_option maxHeartbeats 0 in
theorem PySem.Challenge.cw_sameroom_k23_bad_graphs_holds : PySem.Challenge.rw_sameroom_k23_bad_graphs.Holds := by
  w_on; o_law
  refine HandSHeadRun.head_any (r := OpenLaw.row PySem.Challenge.rw_sameroom_k23_bad_graphs) (q := view (OpenLaw.row PySem.Challenge.rw_sameroom_k23_bad_graphs).prog [42]) (H := K23.hkX) (ob := K23.hob) (M := 6000) (loose := K23.hloose) (d := HandSHeadRun.topDef (OpenLaw.row PySem.Challenge.rw_sameroom_k23_bad_graphs).prog 42) (kwd := []) K23.hob_eq
    (by kernel_rfl) (fun s => by kernel_rfl) K23.hrun (by kernel_rfl) (by kernel_rfl) (by kernel_rfl) (by rfl) (by first | assumption | decide +kernel) (by decide +kernel) ⟨rfl, rfl, rfl, rfl, rfl, by decide +kernel⟩ ?hw ?hc
  case hw => w_witness2
  case hc =>
    refine L2.walk_ofE (l := PySem.Challenge.rw_sameroom_k23_bad_graphs) (n := 63) (k := 43) (x := "script") (CX := L2.CX0) rfl (by decide) (by kernel_rfl) ⟨rfl, by decide, by decide⟩ ?F (fun _ _ _ _ z => z)
    intro w mg fa h Y G hmg0
    obtain ⟨K, KX, c⟩ := Y
    have hmg : mg ("law" : PySem.Str) = some (.ref fa) := by
      have e : (HandSHeadRun.topDef (OpenLaw.row PySem.Challenge.rw_sameroom_k23_bad_graphs).prog 42).name = ("law" : PySem.Str) := by kernel_rfl
      rw [← e]
      exact hmg0
    obtain ⟨fd, hb, hF⟩ := K23.facts (w := w) KX G hmg c
    exact ⟨K, fd, K23.spLaw K, KX, hb, fun H a ns hl _ hS => ⟨a, ns, rfl, hS, hl, fun _ => rfl⟩, hF⟩
