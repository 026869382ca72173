import PyProof.Rows.All
import Wide.All
import OpenK.AllK
import Wide.FinOn
import PyProof.EqAt
import PyProof.EqKinds
import PyProof.TupleCall
import Open.SpecLaws
import KE.OsHead
import KE.OsGo
import KE.KSortTupAny
import PySem.Challenge.RW_fundswings_s01_answers
import KE.KLam
import PyProof.TupleIter
import PyProof.ZipIter
import KE.KSortTupG
import KE.KNestM
import PyProof.ListRange
section
/-! The mathematics over the specification alone: rounding, costs, monotone covering, the found swing. -/
set_option maxRecDepth 100000
namespace Fs
open Vbfuaf
/-! ### 1. rounding up -/
theorem upTo_pos {a b : Nat} (hb : 0 < b) : upTo a b = (a + b - 1) / b := by
  unfold upTo
  rw [if_neg (by omega)]
theorem upTo_mono {a a' b : Nat} (h : a ≤ a') : upTo a b ≤ upTo a' b := by
  unfold upTo
  split
  · exact Nat.le_refl _
  · exact Nat.div_le_div_right (by omega)
/-- a rounded up is at most n just if a is at most n times b -/
theorem upTo_le {a b n : Nat} (hb : 0 < b) : upTo a b ≤ n ↔ a ≤ n * b := by
  rw [upTo_pos hb]
  constructor
  · intro h
    have h1 : (a + b - 1) / b < n + 1 := by omega
    rw [Nat.div_lt_iff_lt_mul hb] at h1
    rw [Nat.add_mul, Nat.one_mul] at h1
    omega
  · intro h
    have h1 : (a + b - 1) / b < n + 1 := by
      rw [Nat.div_lt_iff_lt_mul hb, Nat.add_mul, Nat.one_mul]
      omega
    omega
theorem upTo_ge {a b : Nat} (hb : 0 < b) : a ≤ upTo a b * b := (upTo_le hb).mp (Nat.le_refl _)
theorem upTo_anti {a b b' : Nat} (hb : 0 < b) (h : b ≤ b') : upTo a b' ≤ upTo a b := by
  rw [upTo_le (by omega)]
  exact Nat.le_trans (upTo_ge hb) (Nat.mul_le_mul_left _ h)
/-- Python's way: the sign turned twice -/
theorem up_neg {a b : Nat} (hb : 0 < b) : -((-(a : Int)) / (b : Int)) = (upTo a b : Nat) := by
  have e := upTo_ge (a := a) hb
  have h2 : upTo a b = 0 ∨ ∃ k, upTo a b = k + 1 := by
    cases upTo a b with
    | zero => exact .inl rfl
    | succ k => exact .inr ⟨k, rfl⟩
  have hb' : (0 : Int) < (b : Int) := by omega
  have key : (-(a : Int)) / (b : Int) = -((upTo a b : Nat) : Int) := by
    have e' : (a : Int) ≤ ((upTo a b : Nat) : Int) * (b : Int) := by exact_mod_cast e
    apply Int.le_antisymm
    · -- < -n + 1
      have hlt : (-(a : Int)) / (b : Int) < -((upTo a b : Nat) : Int) + 1 := by
        rw [Int.ediv_lt_iff_lt_mul hb']
        rcases h2 with h | ⟨k, h⟩
        · rw [h]
          simp only [Int.ofNat_zero, Int.neg_zero, Int.zero_add, Int.one_mul]
          omega
        · have h3 : ¬ upTo a b ≤ k := by omega
          rw [upTo_le hb] at h3
          have h4 : k * b < a := by omega
          have h5 : (k : Int) * (b : Int) < (a : Int) := by exact_mod_cast h4
          rw [h]
          have : -((k + 1 : Nat) : Int) + 1 = -(k : Int) := by omega
          rw [this, Int.neg_mul]
          omega
      omega
    · rw [Int.le_ediv_iff_mul_le hb', Int.neg_mul]
      omega
  rw [key, Int.neg_neg]
/-! ### 2. what trading costs -/
/-- tiers as they may stand -/
structure TW (t : List (Nat × Nat)) : Prop where
  len : t.length ≤ 6
  all : ∀ p ∈ t, p.1 ≤ 1000000000000 ∧ p.2 ≤ 1000000
  rise : tiersRise t = true
theorem rise_tail {a : Nat × Nat} : ∀ {l : List (Nat × Nat)}, tiersRise (a :: l) = true → tiersRise l = true
  | [], _ => rfl
  | b :: l, h => by
    unfold tiersRise at h
    simp only [Bool.and_eq_true] at h
    exact h.2.2
theorem rise_head {a b : Nat × Nat} {l : List (Nat × Nat)} (h : tiersRise (a :: b :: l) = true) : a.1 < b.1 := by
  unfold tiersRise at h
  simp only [Bool.and_eq_true, decide_eq_true_eq] at h
  exact h.1
theorem exact_low (x : Nat) : ∀ {l : List (Nat × Nat)}, tiersRise l = true → (∀ a r, l = a :: r → x ≤ a.1) → exactCost x l = 0
  | [], _, _ => rfl
  | [t], _, h => by
    have := h t [] rfl
    unfold exactCost
    rw [Nat.sub_eq_zero_of_le this, Nat.mul_zero]
  | t :: u :: l, hr, h => by
    have h1 := h t (u :: l) rfl
    have h2 := rise_head hr
    unfold exactCost
    rw [exact_low x (rise_tail hr) (fun a r e => by cases e; omega), Nat.sub_eq_zero_of_le (by omega), Nat.mul_zero]
theorem exact_mono {x y : Nat} (h : x ≤ y) : ∀ (l : List (Nat × Nat)), exactCost x l ≤ exactCost y l
  | [] => Nat.le_refl _
  | [t] => by
    unfold exactCost
    exact Nat.mul_le_mul_left _ (by omega)
  | t :: u :: l => by
    unfold exactCost
    exact Nat.add_le_add (Nat.mul_le_mul_left _ (by omega)) (exact_mono h (u :: l))
theorem exact_step (x : Nat) : ∀ {l : List (Nat × Nat)}, tiersRise l = true → (∀ p ∈ l, p.2 ≤ 1000000) → exactCost (x + 1) l ≤ exactCost x l + 1000000
  | [], _, _ => by simp [exactCost]
  | [t], _, h => by
    have := h t (by simp)
    unfold exactCost
    have h1 : t.2 * (x + 1 - t.1) ≤ t.2 * (x - t.1 + 1) := Nat.mul_le_mul_left _ (by omega)
    rw [Nat.mul_add, Nat.mul_one] at h1
    omega
  | t :: u :: l, hr, h => by
    have ht := h t (by simp)
    have h2 := rise_head hr
    unfold exactCost
    by_cases hx : x + 1 ≤ u.1
    · rw [exact_low (x + 1) (rise_tail hr) (fun a r e => by cases e; omega)]
      have h1 : t.2 * (min (x + 1) u.1 - t.1) ≤ t.2 * (min x u.1 - t.1 + 1) := Nat.mul_le_mul_left _ (by omega)
      rw [Nat.mul_add, Nat.mul_one] at h1
      omega
    · have ih := exact_step x (rise_tail hr) (fun p hp => h p (List.mem_cons_of_mem _ hp))
      have e1 : min (x + 1) u.1 = min x u.1 := by omega
      rw [e1]
      omega
theorem lip_ar {A B C d : Nat} (h1 : A ≤ B + 1000000 * d) (h2 : C ≤ A + 1000000) : C ≤ B + 1000000 * (d + 1) :=
  Nat.le_trans h2 (Nat.le_trans (Nat.add_le_add_right h1 1000000) (Nat.le_of_eq (Nat.add_assoc B (1000000 * d) 1000000)))
theorem exact_lip {l : List (Nat × Nat)} (hr : tiersRise l = true) (h : ∀ p ∈ l, p.2 ≤ 1000000) (x : Nat) : ∀ d : Nat, exactCost (x + d) l ≤ exactCost x l + 1000000 * d
  | 0 => by simp
  | d + 1 => by
    have h1 := exact_lip hr h x d
    have h2 := exact_step (x + d) hr h
    exact lip_ar h1 h2
theorem cost_mono {x y : Nat} (l : List (Nat × Nat)) (h : x ≤ y) : costOf l x ≤ costOf l y := upTo_mono (exact_mono h l)
theorem cost_lip {l : List (Nat × Nat)} (t : TW l) (x d : Nat) : costOf l (x + d) ≤ costOf l x + d := by
  unfold costOf
  rw [upTo_le (by decide)]
  have h1 := exact_lip t.rise (fun p hp => (t.all p hp).2) x d
  have h2 := upTo_ge (a := exactCost x l) (b := MILLION) (by decide)
  have e : MILLION = 1000000 := rfl
  rw [e] at h2 ⊢
  rw [Nat.add_mul]
  omega
theorem exact_le {l : List (Nat × Nat)} (t : TW l) (x : Nat) : exactCost x l ≤ 1000000 * x := by
  have h := exact_lip t.rise (fun p hp => (t.all p hp).2) 0 x
  have e : exactCost 0 l = 0 := exact_low 0 t.rise (fun _ _ _ => Nat.zero_le _)
  rw [e, Nat.zero_add, Nat.zero_add] at h
  exact h
/-- trading never costs more than what is traded -/
theorem cost_le {l : List (Nat × Nat)} (t : TW l) (x : Nat) : costOf l x ≤ x := by
  unfold costOf
  rw [upTo_le (by decide)]
  have := exact_le t x
  have e : MILLION = 1000000 := rfl
  rw [e]
  omega
/-! ### 3. a state as it may stand -/
structure WP (p : Policy) : Prop where
  mode : p.mode ≤ 3
  fin : p.fixedIn ≤ 2000
  fout : p.fixedOut ≤ 2000
  fac : p.factor ≤ 1000000
  thr : p.threshold ≤ 1000000
  most : p.most ≤ 2000
structure WO (o : Order) : Prop where
  kind : o.kind ≤ 3
  lo : 1 ≤ o.amount
  hi : o.amount ≤ 1000000000000
structure WF (s : State) : Prop where
  v1 : 1 ≤ s.value
  v2 : s.value ≤ 1000000000000
  u1 : 1 ≤ s.units
  u2 : s.units ≤ 1000000000000000000
  buys : TW s.buys
  sells : TW s.sells
  pol : WP s.policy
  ord : ∀ o ∈ s.orders, WO o
  olen : s.orders.length ≤ 40
  rlen : s.results.length ≤ 40
  nxt : 1 ≤ s.next
end Fs
end
section
/-! Covering is monotone in the swing; the found swing by halving. -/
set_option maxRecDepth 100000
namespace Fs
open Vbfuaf
theorem isum_map_le {α : Type} {f g : α → Int} : ∀ {l : List α}, (∀ a ∈ l, f a ≤ g a) → isum (l.map f) ≤ isum (l.map g)
  | [], _ => Int.le_refl _
  | a :: l, h => by
    have h1 := h a (by simp)
    have h2 := isum_map_le (l := l) (fun b hb => h b (List.mem_cons_of_mem _ hb))
    show f a + isum (l.map f) ≤ g a + isum (l.map g)
    omega
/-- an order at a higher swing in: no less money, no more units -/
theorem done_in {s : State} (W : WF s) {w w' : Nat} (h : w ≤ w') (l : Nat) (o : Order) :
    (done s w 0 l o).money ≤ (done s w' 0 l o).money ∧ (done s w' 0 l o).units ≤ (done s w 0 l o).units := by
  have hv := W.v1
  unfold done
  dsimp only
  split
  · refine ⟨Int.le_refl _, ?_⟩
    dsimp only
    apply Int.ofNat_le.mpr
    exact Nat.div_le_div_left (Nat.mul_le_mul_left _ (Nat.add_le_add_left h _)) (Nat.mul_pos (by omega) (Nat.lt_of_lt_of_le (by decide) (Nat.le_add_right TEN w)))
  · refine ⟨?_, Int.le_refl _⟩
    dsimp only
    apply Int.ofNat_le.mpr
    exact Nat.add_le_add_right (upTo_mono (Nat.mul_le_mul_left _ (Nat.add_le_add_left h _))) _
  · exact ⟨Int.le_refl _, Int.le_refl _⟩
  · exact ⟨Int.le_refl _, Int.le_refl _⟩
/-- an order at a higher swing out: no less money, no more units -/
theorem done_out {s : State} (W : WF s) {w w' : Nat} (h : w ≤ w') (h2 : w' ≤ 2000) (l : Nat) (o : Order) :
    (done s 0 w l o).money ≤ (done s 0 w' l o).money ∧ (done s 0 w' l o).units ≤ (done s 0 w l o).units := by
  have hv := W.v1
  have e : TEN = 10000 := rfl
  unfold done
  dsimp only
  split
  · exact ⟨Int.le_refl _, Int.le_refl _⟩
  · exact ⟨Int.le_refl _, Int.le_refl _⟩
  · refine ⟨?_, Int.le_refl _⟩
    dsimp only
    apply Int.neg_le_neg
    apply Int.ofNat_le.mpr
    exact Nat.sub_le_sub_right (Nat.div_le_div_right (Nat.mul_le_mul_left _ (Nat.sub_le_sub_left h _))) _
  · refine ⟨Int.le_refl _, ?_⟩
    dsimp only
    apply Int.neg_le_neg
    apply Int.ofNat_le.mpr
    exact upTo_anti (Nat.mul_pos (by omega) (by rw [e]; omega)) (Nat.mul_le_mul_left _ (Nat.sub_le_sub_left h _))
theorem mono_arith {F U c c' d : Nat} {k k' : Int} (hF : F ≤ 1000000) (hc : c' ≤ c + d) (hk : k + (U : Int) * (d : Int) ≤ k') (h : ((F * U * c : Nat) : Int) ≤ 1000000 * k) : ((F * U * c' : Nat) : Int) ≤ 1000000 * k' := by
  have h1 : F * U * c' ≤ F * U * c + F * U * d := by
    rw [← Nat.mul_add]
    exact Nat.mul_le_mul_left _ hc
  have h2 : F * U * d ≤ 1000000 * (U * d) := by
    rw [Nat.mul_assoc]
    exact Nat.mul_le_mul_right _ hF
  have h3 : ((F * U * c' : Nat) : Int) ≤ ((F * U * c : Nat) : Int) + 1000000 * ((U : Int) * (d : Int)) := by
    have : F * U * c' ≤ F * U * c + 1000000 * (U * d) := Nat.le_trans h1 (Nat.add_le_add_left h2 _)
    have q := Int.ofNat_le.mpr this
    rw [Int.natCast_add] at q
    refine Int.le_trans q (Int.le_of_eq ?_)
    rw [Int.natCast_mul 1000000 (U * d), Int.natCast_mul U d]
    rfl
  generalize (U : Int) * (d : Int) = z at hk h3
  generalize ((F * U * c' : Nat) : Int) = A at h3 ⊢
  generalize ((F * U * c : Nat) : Int) = B at h3 h
  omega
theorem covers_mono {s : State} (W : WF s) {w w' : Nat} (h : w ≤ w') (h2 : w' ≤ 2000) (c : covers s w = true) : covers s w' = true := by
  unfold covers at c ⊢
  dsimp only at c ⊢
  rw [decide_eq_true_eq] at c ⊢
  have eM : (MILLION : Int) = 1000000 := rfl
  rw [eM] at c ⊢
  -- flows and units at the two swings
  have hm : flowOf (swung s w) ≤ flowOf (swung s w') ∧ unitsOf (swung s w') ≤ unitsOf (swung s w) := by
    unfold swung flowOf unitsOf
    rw [List.map_map, List.map_map, List.map_map, List.map_map]
    by_cases h1 : sideOf s = 1
    · simp only [if_pos h1, if_neg (show ¬ sideOf s = 2 by omega)]
      exact ⟨isum_map_le fun o _ => (done_in W h 0 o).1, isum_map_le fun o _ => (done_in W h 0 o).2⟩
    · by_cases h3 : sideOf s = 2
      · simp only [if_neg h1, if_pos h3]
        exact ⟨isum_map_le fun o _ => (done_out W h h2 0 o).1, isum_map_le fun o _ => (done_out W h h2 0 o).2⟩
      · simp only [if_neg h1, if_neg h3]
        exact ⟨Int.le_refl _, Int.le_refl _⟩
  have hU := W.u1
  have hk : kept s (swung s w) + (s.units : Int) * ((flowOf (swung s w') - flowOf (swung s w)).toNat : Int) ≤ kept s (swung s w') := by
    unfold kept
    rw [Int.toNat_of_nonneg (by omega)]
    have h5 : (s.value : Int) * unitsOf (swung s w') ≤ (s.value : Int) * unitsOf (swung s w) := Int.mul_le_mul_of_nonneg_left hm.2 (by omega)
    rw [Int.mul_sub]
    generalize (s.value : Int) * unitsOf (swung s w') = a at *
    generalize (s.value : Int) * unitsOf (swung s w) = b at *
    generalize (s.units : Int) * flowOf (swung s w') = c' at *
    generalize (s.units : Int) * flowOf (swung s w) = d' at *
    omega
  refine mono_arith W.pol.fac ?_ hk c
  unfold costWith costAt
  generalize flowOf (swung s w) = f at hm ⊢
  generalize flowOf (swung s w') = f' at hm ⊢
  split
  · refine Nat.le_trans ?_ (cost_lip W.buys f.toNat (f' - f).toNat)
    exact cost_mono _ (by omega)
  · split
    · refine Nat.le_trans (cost_mono _ ?_) (Nat.le_add_right _ _)
      omega
    · omega
/-! ### the found swing -/
theorem least_eq {s : State} {r : Nat} : ∀ {n w : Nat}, w ≤ r → (∀ v, w ≤ v → v < r → covers s v = false) → (r = w + n ∨ (r < w + n ∧ covers s r = true)) → leastFrom s n w = r
  | 0, w, h0, _, h => by
    unfold leastFrom
    omega
  | n + 1, w, h0, hn, h => by
    unfold leastFrom
    by_cases e : w = r
    · subst e
      have hc : covers s w = true := by
        rcases h with h | h
        · omega
        · exact h.2
      rw [if_pos hc]
    · rw [if_neg (by rw [hn w (Nat.le_refl _) (by omega)]; exact Bool.false_ne_true)]
      refine least_eq (by omega) (fun v h1 h2 => hn v (by omega) h2) ?_
      rcases h with h | h
      · left; omega
      · right; exact ⟨by omega, h.2⟩
theorem found_le (s : State) : foundSwing s ≤ s.policy.most := by
  unfold foundSwing
  have : ∀ n w, leastFrom s n w ≤ w + n := by
    intro n
    induction n with
    | zero => intro w; unfold leastFrom; omega
    | succ n ih =>
      intro w
      unfold leastFrom
      split
      · omega
      · have := ih (w + 1); omega
  have := this s.policy.most 0
  omega
/-- what holds between two halvings -/
structure Halv (s : State) (lo hi : Nat) : Prop where
  le : lo ≤ hi
  top : hi ≤ s.policy.most
  below : ∀ v, v < lo → covers s v = false
  above : hi = s.policy.most ∨ covers s hi = true
theorem Halv.start (s : State) : Halv s 0 s.policy.most := ⟨Nat.zero_le _, Nat.le_refl _, fun _ h => absurd h (Nat.not_lt_zero _), .inl rfl⟩
theorem Halv.down {s : State} {lo hi m : Nat} (h : Halv s lo hi) (h1 : lo ≤ m) (h2 : m < hi) (c : covers s m = true) : Halv s lo m := ⟨h1, by have := h.top; omega, h.below, .inr c⟩
theorem Halv.up {s : State} (W : WF s) {lo hi m : Nat} (h : Halv s lo hi) (h1 : lo ≤ m) (h2 : m < hi) (c : covers s m = false) : Halv s (m + 1) hi :=
  ⟨h2, h.top, fun v hv => (by
    cases e : covers s v with
    | false => rfl
    | true =>
      have q := covers_mono W (show v ≤ m by omega) (by have := h.top; have := W.pol.most; omega) e
      rw [q] at c
      cases c), h.above⟩
theorem Halv.done {s : State} {lo hi : Nat} (h : Halv s lo hi) (e : ¬ lo < hi) : foundSwing s = lo := by
  have el : lo = hi := by have := h.le; omega
  subst el
  unfold foundSwing
  refine least_eq (Nat.zero_le _) (fun v _ hv => h.below v hv) ?_
  have := h.top
  rcases h.above with h1 | h1
  · left; omega
  · by_cases q : lo = s.policy.most
    · left; omega
    · right; exact ⟨by omega, h1⟩
end Fs
end
section
/-! Coins shared out by weights: ranks by sorting; what trading costs, tier by tier; tiers read from a row. -/
set_option maxRecDepth 100000
namespace Fs
open Vbfuaf
/-! ### 1. a place's rank -/
theorem rank_len {α : Type} {R : α → α → Bool} {l : List α} (pw : l.Pairwise (fun a b => R a b = true)) (asym : ∀ a b, R a b = true → R b a = false) (irr : ∀ a, R a a = false) {k : Nat} {a : α} (h : l[k]? = some a) :
    (l.filter (fun b => R b a)).length = k := by
  obtain ⟨hk, e⟩ := List.getElem?_eq_some_iff.mp h
  have hs : l = l.take k ++ a :: l.drop (k + 1) := by
    rw [← e, List.getElem_cons_drop, List.take_append_drop]
  have pw' := pw
  rw [hs, List.pairwise_append] at pw'
  obtain ⟨_, p2, p3⟩ := pw'
  rw [List.pairwise_cons] at p2
  rw [hs, List.filter_append, List.filter_cons, irr, if_neg Bool.false_ne_true]
  have f1 : (l.take k).filter (fun b => R b a) = l.take k := List.filter_eq_self.mpr fun b hb => p3 b hb a (by simp)
  have f2 : (l.drop (k + 1)).filter (fun b => R b a) = [] := List.filter_eq_nil_iff.mpr fun b hb => by
    rw [asym a b (p2.1 b hb)]
    exact Bool.false_ne_true
  rw [f1, f2, List.append_nil, List.length_take]
  omega
/-- j stands ahead of i, by the remainders -/
def ahead (rem : List Nat) (j i : Nat) : Bool := decide (rem.getD i 0 < rem.getD j 0) || (rem.getD i 0 == rem.getD j 0 && decide (j < i))
theorem ahead_irr (rem : List Nat) (i : Nat) : ahead rem i i = false := by
  unfold ahead
  simp
theorem ahead_asym (rem : List Nat) (i j : Nat) (h : ahead rem i j = true) : ahead rem j i = false := by
  unfold ahead at h ⊢
  simp only [Bool.or_eq_true, Bool.and_eq_true, decide_eq_true_eq, beq_iff_eq] at h
  simp only [Bool.or_eq_false_iff, Bool.and_eq_false_iff, decide_eq_false_iff_not, beq_eq_false_iff_ne]
  rcases h with h | ⟨h1, h2⟩
  · exact ⟨by omega, .inl (by omega)⟩
  · exact ⟨by omega, .inr (by omega)⟩
theorem zip_range_map {α : Type} (l : List α) (d : α) : (List.range l.length).zip l = (List.range l.length).map fun j => (j, l.getD j d) := by
  apply List.ext_getElem
  · simp
  · intro i h1 h2
    have hi : i < l.length := by simpa using h1
    simp [hi, List.getD]
/-- how many stand ahead of i is i's place in the ranking -/
theorem ahead_count {rem ranked : List Nat} (perm : ranked.Perm (List.range rem.length)) (pw : ranked.Pairwise fun a b => ahead rem a b = true) {k i : Nat} (h : ranked[k]? = some i) :
    (((List.range rem.length).zip rem).filter fun y => decide (rem.getD i 0 < y.2) || (rem.getD i 0 == y.2 && decide (y.1 < i))).length = k := by
  rw [zip_range_map rem 0, List.filter_map, List.length_map]
  have e := (perm.filter (fun b => ahead rem b i)).length_eq
  have r := rank_len pw (ahead_asym rem) (ahead_irr rem) h
  rw [e] at r
  exact r
/-! ### 2. shares -/
theorem mul_sum (a : Nat) : ∀ l : List Nat, a * sum l = sum (l.map fun w => a * w)
  | [] => rfl
  | x :: l => by
    show a * (x + sum l) = a * x + sum (l.map fun w => a * w)
    rw [Nat.mul_add, mul_sum a l]
theorem sum_le {f g : Nat → Nat} : ∀ {l : List Nat}, (∀ x ∈ l, f x ≤ g x) → sum (l.map f) ≤ sum (l.map g)
  | [], _ => Nat.le_refl _
  | x :: l, h => Nat.add_le_add (h x (by simp)) (sum_le fun y hy => h y (List.mem_cons_of_mem _ hy))
theorem sum_mul (a : Nat) : ∀ l : List Nat, sum (l.map fun w => w * a) = sum l * a
  | [] => (Nat.zero_mul a).symm
  | x :: l => by
    show x * a + sum (l.map fun w => w * a) = (x + sum l) * a
    rw [Nat.add_mul, sum_mul a l]
/-- the shares rounded down never pass the coins -/
theorem shares_le (a : Nat) (ws : List Nat) : sum (ws.map fun w => a * w / sum ws) ≤ a := by
  rcases Nat.eq_zero_or_pos (sum ws) with h | h
  · have : ∀ l : List Nat, sum (l.map fun w => a * w / sum ws) = 0 := by
      intro l
      induction l with
      | nil => rfl
      | cons x l ih =>
        show a * x / sum ws + sum (l.map fun w => a * w / sum ws) = 0
        rw [ih, h, Nat.div_zero]
    rw [this]
    exact Nat.zero_le _
  · have h1 : sum (ws.map fun w => a * w / sum ws) * sum ws ≤ a * sum ws := by
      rw [← sum_mul (sum ws), mul_sum a ws, List.map_map]
      exact sum_le fun x _ => Nat.div_mul_le_self _ _
    exact Nat.le_of_mul_le_mul_right h1 h
/-- the loop's end is the specification's parts -/
theorem parts_eq {a : Nat} {ws ranked : List Nat} {sh : List Int} (perm : ranked.Perm (List.range ws.length)) (pw : ranked.Pairwise fun x y => ahead (ws.map fun w => a * w % sum ws) x y = true)
    (hl : sh.length = ws.length)
    (h : ∀ j, j < ws.length → sh[j]? = some (((a * ws.getD j 0 / sum ws : Nat) : Int) + if j ∈ ranked.take (a - sum (ws.map fun w => a * w / sum ws)) then 1 else 0)) :
    sh = (parts a ws).map fun n : Nat => (n : Int) := by
  have elen : (ws.map fun w => a * w % sum ws).length = ws.length := List.length_map ..
  have key : parts a ws = (List.range ws.length).map fun j => a * ws.getD j 0 / sum ws + (if j ∈ ranked.take (a - sum (ws.map fun w => a * w / sum ws)) then 1 else 0) := by
    unfold parts
    dsimp only
    apply List.ext_getElem
    · simp
    · intro i h1 h2
      have hi : i < ws.length := by simpa using h2
      rw [List.getElem_map, List.getElem_map, List.getElem_zip, List.getElem_zip, List.getElem_range, List.getElem_map]
      dsimp only
      have eg : ws.getD i 0 = ws[i] := by simp [List.getD, hi]
      rw [eg]
      -- i's place
      have hmem : i ∈ ranked := perm.mem_iff.mpr (List.mem_range.mpr hi)
      obtain ⟨k, hk⟩ := List.getElem?_of_mem hmem
      have perm' : ranked.Perm (List.range (ws.map fun w => a * w % sum ws).length) := by rw [elen]; exact perm
      have c := ahead_count perm' pw hk
      have er : (ws.map fun w => a * w % sum ws).getD i 0 = a * ws[i] % sum ws := by simp [List.getD, hi]
      rw [er, elen] at c
      have eif : (((List.range ws.length).zip (ws.map fun w => a * w % sum ws)).filter fun y => decide (a * ws[i] % sum ws < y.2) || (a * ws[i] % sum ws == y.2 && decide (y.1 < i))).length = k := c
      rw [eif]
      congr 1
      have nd : ranked.Nodup := perm.nodup_iff.mpr List.nodup_range
      by_cases hlt : k < a - sum (ws.map fun w => a * w / sum ws)
      · rw [if_pos hlt, if_pos]
        exact List.mem_of_getElem? (i := k) (by rw [List.getElem?_take, if_pos hlt]; exact hk)
      · rw [if_neg hlt, if_neg]
        intro hm
        obtain ⟨k', hk'⟩ := List.getElem?_of_mem hm
        rw [List.getElem?_take] at hk'
        split at hk'
        · obtain ⟨q1, e1⟩ := List.getElem?_eq_some_iff.mp hk
          obtain ⟨q2, e2⟩ := List.getElem?_eq_some_iff.mp hk'
          have := (List.getElem_inj nd).mp (e1.trans e2.symm)
          omega
        · cases hk'
  rw [key, List.map_map]
  apply List.ext_getElem?
  intro j
  by_cases hj : j < ws.length
  · rw [h j hj, List.getElem?_map, List.getElem?_range hj]
    simp only [Option.map_some, Function.comp, Int.natCast_add]
    congr 2
    split <;> rfl
  · rw [List.getElem?_eq_none (by omega), List.getElem?_eq_none (by simp; omega)]
/-! ### 3. what trading costs, tier by tier -/
/-- max(0, z), as the program's max reckons it -/
def posP (z : Int) : Int := if z > 0 then z else 0
theorem posP_toNat (z : Int) : posP z = (z.toNat : Int) := by
  unfold posP
  split <;> omega
/-- where a tier's part ends -/
def tierEnd (x : Int) (next : Option (Nat × Nat)) : Int := match next with
  | some u => if (u.1 : Int) < x then (u.1 : Int) else x
  | none => x
/-- one tier's part, as the program reckons it -/
def tierPart (x : Int) (t : Nat × Nat) (next : Option (Nat × Nat)) : Int := posP (tierEnd x next - (t.1 : Int)) * (t.2 : Int)
theorem exact_cons (x : Nat) (t : Nat × Nat) (l : List (Nat × Nat)) : (exactCost x (t :: l) : Int) = tierPart x t l.head? + (exactCost x l : Int) := by
  unfold tierPart
  rw [posP_toNat]
  cases l with
  | nil =>
    rw [show exactCost x [t] = t.2 * (x - t.1) from rfl, show exactCost x [] = 0 from rfl, show tierEnd x ([] : List (Nat × Nat)).head? = x from rfl, Int.natCast_mul, Int.mul_comm]
    rw [show ((x : Int) - (t.1 : Int)).toNat = x - t.1 by omega]
    simp
  | cons u l =>
    rw [show exactCost x (t :: u :: l) = t.2 * (min x u.1 - t.1) + exactCost x (u :: l) from rfl]
    rw [show tierEnd x (u :: l).head? = (if (u.1 : Int) < x then (u.1 : Int) else x) from rfl]
    rw [Int.natCast_add, Int.natCast_mul, Int.mul_comm (t.2 : Int)]
    have e : ((if (u.1 : Int) < (x : Int) then (u.1 : Int) else (x : Int)) - (t.1 : Int)).toNat = min x u.1 - t.1 := by
      split <;> omega
    rw [e]
/-- a prefix of the tiers gone through: what is there and what is to come is all -/
theorem exact_drop {x : Nat} {ts : List (Nat × Nat)} {i : Nat} {t : Nat × Nat} (h : ts[i]? = some t) : (exactCost x (ts.drop i) : Int) = tierPart x t ts[i + 1]? + (exactCost x (ts.drop (i + 1)) : Int) := by
  obtain ⟨hi, e⟩ := List.getElem?_eq_some_iff.mp h
  have e1 : ts.drop i = t :: ts.drop (i + 1) := by rw [← e, List.getElem_cons_drop]
  rw [e1, exact_cons, List.head?_drop]
/-! ### 4. tiers read from a row -/
/-- a row by twos -/
def pairs : List Int → List (Int × Int)
  | a :: b :: l => (a, b) :: pairs l
  | _ => []
def okP (p : Int × Int) : Bool := inside p.1 0 1000000000000 && inside p.2 0 1000000
def folP (p q : Int × Int) : Bool := decide (p.1 < q.1) && decide (p.2 ≤ q.2)
def natP (p : Int × Int) : Nat × Nat := (p.1.toNat, p.2.toNat)
theorem pairs_len : ∀ l : List Int, (pairs l).length = l.length / 2
  | [] => rfl
  | [_] => by simp [pairs]
  | _ :: _ :: l => by
    show (pairs l).length + 1 = (l.length + 1 + 1) / 2
    rw [pairs_len l]
    omega
theorem pairs_get : ∀ (l : List Int) (i : Nat) (p : Int × Int), (pairs l)[i]? = some p → l[2 * i]? = some p.1 ∧ l[2 * i + 1]? = some p.2
  | [], _, _, h => by simp [pairs] at h
  | [_], _, _, h => by simp [pairs] at h
  | a :: b :: l, 0, p, h => by
    have e : (a, b) = p := by simpa [pairs] using h
    subst e
    exact ⟨rfl, rfl⟩
  | a :: b :: l, i + 1, p, h => by
    have := pairs_get l i p (by simpa [pairs] using h)
    exact this
theorem tiersOf_eq : ∀ l : List Int, tiersOf l = if l.length % 2 = 0 ∧ (pairs l).all okP = true then some ((pairs l).map natP) else none
  | [] => by simp [tiersOf, pairs]
  | [_] => by simp [tiersOf]
  | a :: b :: l => by
    unfold tiersOf
    rw [tiersOf_eq l]
    have el : (a :: b :: l).length % 2 = l.length % 2 := by
      show (l.length + 1 + 1) % 2 = _
      omega
    rw [el, show pairs (a :: b :: l) = (a, b) :: pairs l from rfl, List.all_cons]
    by_cases h1 : inside a 0 1000000000000 = true ∧ inside b 0 1000000 = true
    · rw [if_pos h1]
      have ho : okP (a, b) = true := by
        unfold okP
        rw [h1.1, h1.2]
        rfl
      rw [ho, Bool.true_and]
      split <;> rfl
    · rw [if_neg h1]
      have ho : okP (a, b) = false := by
        unfold okP
        rw [← Bool.not_eq_true, Bool.and_eq_true]
        exact h1
      rw [ho, Bool.false_and, if_neg (by simp)]
/-- the program's look at the pairs: each in its range, each behind the one before -/
def goodP (l : List (Int × Int)) : Prop := ∀ i p, l[i]? = some p → okP p = true ∧ ∀ q, 0 < i → l[i - 1]? = some q → folP q p = true
theorem goodP_cons {a : Int × Int} {l : List (Int × Int)} : goodP (a :: l) ↔ okP a = true ∧ (∀ b, l.head? = some b → folP a b = true) ∧ goodP l := by
  constructor
  · intro h
    refine ⟨(h 0 a rfl).1, fun b hb => ?_, fun i p hp => ⟨(h (i + 1) p (by simpa using hp)).1, fun q hi hq => ?_⟩⟩
    · refine (h 1 b ?_).2 a (by omega) rfl
      rw [List.head?_eq_getElem?] at hb
      simpa using hb
    · refine (h (i + 1) p (by simpa using hp)).2 q (by omega) ?_
      obtain ⟨k, rfl⟩ : ∃ k, i = k + 1 := ⟨i - 1, by omega⟩
      simpa using hq
  · rintro ⟨h1, h2, h3⟩ i p hp
    cases i with
    | zero =>
      have e : a = p := by simpa using hp
      subst e
      exact ⟨h1, fun q hi => absurd hi (by omega)⟩
    | succ i =>
      have hp' : l[i]? = some p := by simpa using hp
      refine ⟨(h3 i p hp').1, fun q _ hq => ?_⟩
      cases i with
      | zero =>
        have e : a = q := by simpa using hq
        subst e
        exact h2 p (by rw [List.head?_eq_getElem?]; exact hp')
      | succ i => exact (h3 (i + 1) p hp').2 q (by omega) (by simpa using hq)
theorem fol_nat {p q : Int × Int} (hp : okP p = true) (hq : okP q = true) : (decide ((natP p).1 < (natP q).1) && decide ((natP p).2 ≤ (natP q).2)) = folP p q := by
  unfold okP inside at hp hq
  simp only [Bool.and_eq_true, decide_eq_true_eq] at hp hq
  unfold folP natP
  dsimp only
  congr 1
  · exact decide_eq_decide.mpr (by omega)
  · exact decide_eq_decide.mpr (by omega)
theorem goodP_iff : ∀ l : List (Int × Int), goodP l ↔ l.all okP = true ∧ tiersRise (l.map natP) = true
  | [] => by
    constructor
    · intro _; exact ⟨rfl, rfl⟩
    · intro _ i p hp; simp at hp
  | [a] => by
    rw [goodP_cons, goodP_iff []]
    simp [tiersRise]
  | a :: b :: l => by
    rw [goodP_cons, goodP_iff (b :: l), show (a :: b :: l).all okP = (okP a && (b :: l).all okP) from rfl]
    rw [show tiersRise ((a :: b :: l).map natP) = (decide ((natP a).1 < (natP b).1) && (decide ((natP a).2 ≤ (natP b).2) && tiersRise ((b :: l).map natP))) from rfl]
    rw [← Bool.and_assoc]
    constructor
    · rintro ⟨h1, h2, h3, h4⟩
      have hb : okP b = true := by
        rw [List.all_cons, Bool.and_eq_true] at h3
        exact h3.1
      rw [fol_nat h1 hb, h2 b rfl, h1, h3, h4]
      exact ⟨rfl, rfl⟩
    · rintro ⟨h1, h2⟩
      rw [Bool.and_eq_true] at h1 h2
      have hb : okP b = true := by
        have := h1.2
        rw [List.all_cons, Bool.and_eq_true] at this
        exact this.1
      rw [fol_nat h1.1 hb] at h2
      refine ⟨h1.1, fun c hc => ?_, h1.2, h2.2⟩
      have e : b = c := by simpa using hc
      subst e
      exact h2.1
theorem goodTiers_some {l : List Int} (h1 : l.length % 2 = 0) (h2 : l.length ≤ 12) (h : goodP (pairs l)) : goodTiers l = some ((pairs l).map natP) := by
  obtain ⟨ha, hr⟩ := (goodP_iff _).mp h
  unfold goodTiers
  rw [tiersOf_eq, if_pos ⟨h1, ha⟩]
  dsimp only
  rw [if_pos ⟨by rw [List.length_map, pairs_len]; omega, hr⟩]
theorem goodTiers_none {l : List Int} (h : ¬ (l.length % 2 = 0 ∧ l.length ≤ 12 ∧ goodP (pairs l))) : goodTiers l = none := by
  unfold goodTiers
  rw [tiersOf_eq]
  by_cases h1 : l.length % 2 = 0 ∧ (pairs l).all okP = true
  · rw [if_pos h1]
    dsimp only
    rw [if_neg]
    rintro ⟨h2, h3⟩
    refine h ⟨h1.1, ?_, (goodP_iff _).mpr ⟨h1.2, h3⟩⟩
    rw [List.length_map, pairs_len] at h2
    omega
  · rw [if_neg h1]
theorem goodTiers_tw {l : List Int} {t : List (Nat × Nat)} (h : goodTiers l = some t) : TW t := by
  unfold goodTiers at h
  rw [tiersOf_eq] at h
  split at h
  · cases h
  · rename_i t' e
    split at h
    · rename_i h2
      cases h
      split at e
      · rename_i h1
        cases e
        refine ⟨h2.1, fun p hp => ?_, h2.2⟩
        obtain ⟨q, hq, rfl⟩ := List.mem_map.mp hp
        have := List.all_eq_true.mp h1.2 q hq
        unfold okP inside at this
        simp only [Bool.and_eq_true, decide_eq_true_eq] at this
        unfold natP
        dsimp only
        omega
      · cases e
    · cases h
end Fs
end
section
/-! A line's calls one behind another; a state stays as it may stand. -/
set_option maxRecDepth 100000
namespace Fs
open Vbfuaf
/-! ### 1. a state stays as it may stand -/
theorem wp_no : WP noPolicy := ⟨by decide, by decide, by decide, by decide, by decide, by decide⟩
theorem tw_nil : TW [] := ⟨by decide, fun _ h => absurd h (List.not_mem_nil), rfl⟩
theorem wf_new {v u : Nat} (h1 : 1 ≤ v) (h2 : v ≤ 1000000000000) (h3 : 1 ≤ u) (h4 : u ≤ 1000000000000000000) : WF (newFund v u) :=
  ⟨h1, h2, h3, h4, tw_nil, tw_nil, wp_no, fun _ h => absurd h (List.not_mem_nil), Nat.zero_le _, Nat.zero_le _, Nat.le_refl _⟩
theorem wf_start : WF start := wf_new (by decide) (by decide) (by decide) (by decide)
theorem inside_iff {n lo hi : Int} : inside n lo hi = true ↔ lo ≤ n ∧ n ≤ hi := by
  unfold inside
  rw [Bool.and_eq_true, decide_eq_true_eq, decide_eq_true_eq]
theorem parts_len (a : Nat) (ws : List Nat) : (parts a ws).length = ws.length := by
  unfold parts
  simp
theorem levies_len (s : State) : (levies s).length = s.orders.length := by
  unfold levies
  split
  · rw [parts_len, List.length_map]
  · rw [List.length_map]
theorem dealt_len (s : State) : (dealt s).1.length = s.orders.length := by
  unfold dealt
  split
  · dsimp only
    rw [List.length_map, List.length_zip, levies_len, Nat.min_self]
  · dsimp only
    unfold swung
    rw [List.length_map]
theorem wf_step {s : State} (W : WF s) (c : Call) : WF (step s c).1 := by
  cases c with
  | begin v u =>
    unfold step
    dsimp only
    split
    · exact W
    · rename_i h
      rw [not_or, Bool.not_eq_false, Bool.not_eq_false, inside_iff, inside_iff] at h
      exact wf_new (by omega) (by omega) (by omega) (by omega)
  | buys l =>
    unfold step
    dsimp only
    split
    · exact W
    · rename_i t e
      exact { W with buys := goodTiers_tw e }
  | sells l =>
    unfold step
    dsimp only
    split
    · exact W
    · rename_i t e
      exact { W with sells := goodTiers_tw e }
  | policy m a b f t w =>
    unfold step
    dsimp only
    split
    · exact W
    · rename_i h
      rw [Bool.not_eq_false] at h
      unfold isPolicy at h
      simp only [Bool.and_eq_true, inside_iff] at h
      refine { W with pol := ⟨?_, ?_, ?_, ?_, ?_, ?_⟩ } <;> dsimp only [yes] <;> omega
  | order k a =>
    unfold step
    dsimp only
    split
    · exact W
    · rename_i h
      split
      · exact W
      · rename_i h2
        rw [not_or, Bool.not_eq_false, Bool.not_eq_false, inside_iff, inside_iff] at h
        have eM : MOSTORDERS = 40 := rfl
        rw [eM] at h2
        refine { W with ord := fun o ho => ?_, olen := ?_, nxt := ?_ }
        · rcases List.mem_append.mp ho with ho | ho
          · exact W.ord o ho
          · rw [List.mem_singleton] at ho
            subst ho
            refine ⟨?_, ?_, ?_⟩ <;> dsimp only <;> omega
        · dsimp only [yes]
          rw [List.length_append, List.length_singleton]
          omega
        · dsimp only [yes]
          omega
  | withdraw n =>
    unfold step
    dsimp only
    split
    · exact W
    · split
      · exact W
      · refine { W with ord := fun o ho => W.ord o (List.mem_filter.mp ho).1, olen := ?_ }
        exact Nat.le_trans (List.length_filter_le _ _) W.olen
  | result d =>
    unfold step
    dsimp only
    split
    · exact W
    · split
      · exact W
      · split
        · exact W
        · rename_i h1 h2 h3
          have eG : (GREAT : Int) = 1000000000000 := rfl
          rw [eG] at h3
          refine { W with v1 := ?_, v2 := ?_ } <;> dsimp only [yes] <;> omega
  | point =>
    unfold step doPoint
    dsimp only
    split
    · exact W
    · split
      · exact W
      · split
        · exact W
        · rename_i h1 h2 h3
          have eG : (GREAT : Int) = 1000000000000 := rfl
          have eM : (MANY : Int) = 1000000000000000000 := rfl
          rw [eG, eM] at h3
          refine { W with v1 := ?_, v2 := ?_, u1 := ?_, u2 := ?_, ord := fun o ho => absurd ho List.not_mem_nil, olen := Nat.zero_le _, rlen := ?_ }
          · dsimp only; omega
          · dsimp only; omega
          · dsimp only; omega
          · dsimp only; omega
          · dsimp only
            rw [dealt_len]
            exact W.olen
  | try_ w =>
    unfold step
    dsimp only
    split
    · exact W
    · exact W
  | found => exact W
  | cost a x =>
    unfold step
    dsimp only
    split
    · exact W
    · exact W
  | outcome n =>
    unfold step
    dsimp only
    split
    · exact W
    · split
      · exact W
      · exact W
  | orders => exact W
  | fund => exact W
  | flow => exact W
  | weights => exact W
theorem wf_stepN {s : State} (W : WF s) (c : List (List Int)) : WF (VbfuafNeutral.step s c).1 := by
  unfold VbfuafNeutral.step
  split
  · exact W
  · exact wf_step W _
/-! ### 2. how long an answer is -/
theorem flatMap_len {α : Type} {f : α → List Int} {k : Nat} : ∀ {l : List α}, (∀ a, (f a).length = k) → (l.flatMap f).length = k * l.length
  | [], _ => by simp
  | a :: l, h => by
    rw [List.flatMap_cons, List.length_append, h a, flatMap_len (l := l) h, List.length_cons, Nat.mul_succ, Nat.add_comm]
theorem ans_len {s : State} (W : WF s) (c : Call) : (step s c).2.length ≤ 121 := by
  have ho := W.olen
  cases c with
  | orders =>
    show ((s.orders.length : Int) :: s.orders.flatMap _).length ≤ 121
    rw [List.length_cons, flatMap_len (k := 3) (fun _ => rfl)]
    omega
  | weights =>
    show ((s.orders.length : Int) :: (s.orders.zip (levies s)).flatMap _).length ≤ 121
    rw [List.length_cons, flatMap_len (k := 2) (fun _ => rfl), List.length_zip, levies_len, Nat.min_self]
    omega
  | point =>
    unfold step doPoint no
    dsimp only
    split
    · show 1 ≤ 121; decide
    · split
      · show 1 ≤ 121; decide
      · split
        · show 1 ≤ 121; decide
        · show 6 ≤ 121; decide
  | found => show 4 ≤ 121; decide
  | fund => show 2 ≤ 121; decide
  | flow => show 3 ≤ 121; decide
  | begin _ _ | buys _ | sells _ | policy _ _ _ _ _ _ | order _ _ | withdraw _ | result _ | try_ _ | cost _ _ | outcome _ =>
    unfold step no yes
    dsimp only
    repeat' split
    all_goals (simp only [List.length_cons, List.length_nil]; omega)
theorem ans_lenN {s : State} (W : WF s) (c : List (List Int)) : (VbfuafNeutral.step s c).2.length ≤ 121 := by
  unfold VbfuafNeutral.step
  split
  · exact Nat.zero_le _
  · exact ans_len W _
/-! ### 3. the line, call by call -/
theorem whole_id (c : List (List Int)) : PyVbfuaf.whole c = c := by
  unfold PyVbfuaf.whole
  split <;> rfl
/-- what holds between two calls: l is the line, p the place, s the state, told what was answered -/
structure Line (l : List Int) (p : Nat) (s : State) (told : List Int) : Prop where
  wf : WF s
  ple : p ≤ l.length
  ex : ∃ (f : Nat) (cs : List (List (List Int))), PyFlat.calls PyVbfuaf.shape f (l.drop p) = some cs ∧ cs.all VbfuafNeutral.asked1 = true ∧
    PyVbfuaf.answers l = told ++ PyFlat.told (PyFlat.played VbfuafNeutral.step s cs) ∧ told.length + 122 * cs.length ≤ 48800
theorem Line.start {l : List Int} (h : PyVbfuaf.answers_asked l = true) : Line l 0 VbfuafNeutral.start [] := by
  unfold PyVbfuaf.answers_asked PyVbfuaf.calls at h
  refine ⟨wf_start, Nat.zero_le _, ?_⟩
  cases e : PyFlat.calls PyVbfuaf.shape l.length l with
  | none => rw [e] at h; cases h
  | some cs =>
    rw [e] at h
    have ew : cs.map PyVbfuaf.whole = cs := by
      rw [List.map_congr_left fun c _ => whole_id c, List.map_id']
    have h2 : (PyFlat.atMost 400 (cs.map PyVbfuaf.whole) && VbfuafNeutral.asked (cs.map PyVbfuaf.whole)) = true := h
    rw [ew, Bool.and_eq_true] at h2
    unfold PyFlat.atMost VbfuafNeutral.asked at h2
    simp only [Bool.and_eq_true, decide_eq_true_eq] at h2
    refine ⟨l.length, cs, by rw [List.drop_zero]; exact e, h2.2.1, ?_, ?_⟩
    · unfold PyVbfuaf.answers PyVbfuaf.calls
      rw [e]
      dsimp only
      rw [ew, List.nil_append]
    · rw [List.length_nil]
      omega
theorem Line.done {l : List Int} {p : Nat} {s : State} {told : List Int} (L : Line l p s told) (h : ¬ p < l.length) : PyVbfuaf.answers l = told := by
  obtain ⟨f, cs, e, _, ea, _⟩ := L.ex
  rw [List.drop_eq_nil_of_le (by omega)] at e
  have ec : cs = [] := by
    cases f <;> exact (Option.some.inj (show some [] = some cs from e)).symm
  subst ec
  rw [ea]
  simp [PyFlat.played, PyFlat.told]
/-- the number of a call is one of sixteen -/
theorem shape_cases {c : Int} {nk : Nat × Nat} (h : PyVbfuaf.shape c = some nk) :
    (c = 0 ∧ nk = (2, 0)) ∨ (c = 1 ∧ nk = (0, 1)) ∨ (c = 2 ∧ nk = (0, 1)) ∨ (c = 3 ∧ nk = (6, 0)) ∨ (c = 4 ∧ nk = (2, 0)) ∨ (c = 5 ∧ nk = (1, 0)) ∨ (c = 6 ∧ nk = (1, 0)) ∨ (c = 7 ∧ nk = (0, 0)) ∨ (c = 8 ∧ nk = (1, 0)) ∨ (c = 9 ∧ nk = (0, 0)) ∨ (c = 10 ∧ nk = (2, 0)) ∨ (c = 11 ∧ nk = (1, 0)) ∨ (c = 12 ∧ nk = (0, 0)) ∨ (c = 13 ∧ nk = (0, 0)) ∨ (c = 14 ∧ nk = (0, 0)) ∨ (c = 15 ∧ nk = (0, 0)) := by
  unfold PyVbfuaf.shape at h
  by_cases h0 : c = 0
  · rw [if_pos h0] at h
    exact .inl ⟨h0, (Option.some.inj h).symm⟩
  rw [if_neg h0] at h
  by_cases h1 : c = 1
  · rw [if_pos h1] at h
    exact (.inr (.inl ⟨h1, (Option.some.inj h).symm⟩))
  rw [if_neg h1] at h
  by_cases h2 : c = 2
  · rw [if_pos h2] at h
    exact (.inr (.inr (.inl ⟨h2, (Option.some.inj h).symm⟩)))
  rw [if_neg h2] at h
  by_cases h3 : c = 3
  · rw [if_pos h3] at h
    exact (.inr (.inr (.inr (.inl ⟨h3, (Option.some.inj h).symm⟩))))
  rw [if_neg h3] at h
  by_cases h4 : c = 4
  · rw [if_pos h4] at h
    exact (.inr (.inr (.inr (.inr (.inl ⟨h4, (Option.some.inj h).symm⟩)))))
  rw [if_neg h4] at h
  by_cases h5 : c = 5
  · rw [if_pos h5] at h
    exact (.inr (.inr (.inr (.inr (.inr (.inl ⟨h5, (Option.some.inj h).symm⟩))))))
  rw [if_neg h5] at h
  by_cases h6 : c = 6
  · rw [if_pos h6] at h
    exact (.inr (.inr (.inr (.inr (.inr (.inr (.inl ⟨h6, (Option.some.inj h).symm⟩)))))))
  rw [if_neg h6] at h
  by_cases h7 : c = 7
  · rw [if_pos h7] at h
    exact (.inr (.inr (.inr (.inr (.inr (.inr (.inr (.inl ⟨h7, (Option.some.inj h).symm⟩))))))))
  rw [if_neg h7] at h
  by_cases h8 : c = 8
  · rw [if_pos h8] at h
    exact (.inr (.inr (.inr (.inr (.inr (.inr (.inr (.inr (.inl ⟨h8, (Option.some.inj h).symm⟩)))))))))
  rw [if_neg h8] at h
  by_cases h9 : c = 9
  · rw [if_pos h9] at h
    exact (.inr (.inr (.inr (.inr (.inr (.inr (.inr (.inr (.inr (.inl ⟨h9, (Option.some.inj h).symm⟩))))))))))
  rw [if_neg h9] at h
  by_cases h10 : c = 10
  · rw [if_pos h10] at h
    exact (.inr (.inr (.inr (.inr (.inr (.inr (.inr (.inr (.inr (.inr (.inl ⟨h10, (Option.some.inj h).symm⟩)))))))))))
  rw [if_neg h10] at h
  by_cases h11 : c = 11
  · rw [if_pos h11] at h
    exact (.inr (.inr (.inr (.inr (.inr (.inr (.inr (.inr (.inr (.inr (.inr (.inl ⟨h11, (Option.some.inj h).symm⟩))))))))))))
  rw [if_neg h11] at h
  by_cases h12 : c = 12
  · rw [if_pos h12] at h
    exact (.inr (.inr (.inr (.inr (.inr (.inr (.inr (.inr (.inr (.inr (.inr (.inr (.inl ⟨h12, (Option.some.inj h).symm⟩)))))))))))))
  rw [if_neg h12] at h
  by_cases h13 : c = 13
  · rw [if_pos h13] at h
    exact (.inr (.inr (.inr (.inr (.inr (.inr (.inr (.inr (.inr (.inr (.inr (.inr (.inr (.inl ⟨h13, (Option.some.inj h).symm⟩))))))))))))))
  rw [if_neg h13] at h
  by_cases h14 : c = 14
  · rw [if_pos h14] at h
    exact (.inr (.inr (.inr (.inr (.inr (.inr (.inr (.inr (.inr (.inr (.inr (.inr (.inr (.inr (.inl ⟨h14, (Option.some.inj h).symm⟩)))))))))))))))
  rw [if_neg h14] at h
  by_cases h15 : c = 15
  · rw [if_pos h15] at h
    exact (.inr (.inr (.inr (.inr (.inr (.inr (.inr (.inr (.inr (.inr (.inr (.inr (.inr (.inr (.inr ⟨h15, (Option.some.inj h).symm⟩)))))))))))))))
  rw [if_neg h15] at h
  cases h
theorem shape_rows {c : Int} {n k : Nat} (h : PyVbfuaf.shape c = some (n, k)) : (k = 0 ∧ c ≠ 1 ∧ c ≠ 2) ∨ (k = 1 ∧ n = 0 ∧ (c = 1 ∨ c = 2)) := by
  have q := shape_cases h
  simp only [Prod.mk.injEq] at q
  omega
/-- the call at a place, read -/
theorem Line.turn {l : List Int} {p : Nat} {s : State} {told : List Int} {c : Int} (L : Line l p s told) (h : l[p]? = some c) :
    (∃ n, PyVbfuaf.shape c = some (n, 0) ∧ c ≠ 1 ∧ c ≠ 2 ∧ p + 1 + n ≤ l.length ∧ VbfuafNeutral.asked1 [c :: (l.drop (p + 1)).take n] = true ∧ told.length + 122 ≤ 48800 ∧
      Line l (p + 1 + n) (VbfuafNeutral.step s [c :: (l.drop (p + 1)).take n]).1 (told ++ (((VbfuafNeutral.step s [c :: (l.drop (p + 1)).take n]).2.length : Int) :: (VbfuafNeutral.step s [c :: (l.drop (p + 1)).take n]).2))) ∨
    ((c = 1 ∨ c = 2) ∧ ∃ m : Nat, l[p + 1]? = some (m : Int) ∧ p + 2 + m ≤ l.length ∧ VbfuafNeutral.asked1 [[c], (l.drop (p + 2)).take m] = true ∧ told.length + 122 ≤ 48800 ∧
      Line l (p + 2 + m) (VbfuafNeutral.step s [[c], (l.drop (p + 2)).take m]).1 (told ++ (((VbfuafNeutral.step s [[c], (l.drop (p + 2)).take m]).2.length : Int) :: (VbfuafNeutral.step s [[c], (l.drop (p + 2)).take m]).2))) := by
  obtain ⟨f, cs, e, ha, ea, hl⟩ := L.ex
  obtain ⟨hp, ep⟩ := List.getElem?_eq_some_iff.mp h
  have ed : l.drop p = c :: l.drop (p + 1) := by rw [← ep, List.getElem_cons_drop]
  rw [ed] at e
  cases f with
  | zero => cases e
  | succ f =>
    have e2 : (match PyFlat.call PyVbfuaf.shape (c :: l.drop (p + 1)) with
      | none => none
      | some (d, t) => match PyFlat.calls PyVbfuaf.shape f t with
        | none => none
        | some ds => some (d :: ds)) = some cs := e
    cases e3 : PyFlat.call PyVbfuaf.shape (c :: l.drop (p + 1)) with
    | none => rw [e3] at e2; cases e2
    | some q =>
      obtain ⟨d, t⟩ := q
      rw [e3] at e2
      dsimp only at e2
      cases e4 : PyFlat.calls PyVbfuaf.shape f t with
      | none => rw [e4] at e2; cases e2
      | some ds =>
        rw [e4] at e2
        dsimp only at e2
        have ecs : d :: ds = cs := Option.some.inj e2
        subst ecs
        rw [List.all_cons, Bool.and_eq_true] at ha
        rw [List.length_cons] at hl
        -- what stands behind the call
        have next : ∀ p', t = l.drop p' → p' ≤ l.length → Line l p' (VbfuafNeutral.step s d).1 (told ++ (((VbfuafNeutral.step s d).2.length : Int) :: (VbfuafNeutral.step s d).2)) := by
          intro p' et hp'
          refine ⟨wf_stepN L.wf d, hp', f, ds, by rw [← et]; exact e4, ha.2, ?_, ?_⟩
          · rw [ea]
            simp only [PyFlat.played, PyFlat.told, List.flatMap_cons, List.append_assoc]
          · rw [List.length_append, List.length_cons]
            have := ans_lenN L.wf d
            omega
        have e5 : (match PyVbfuaf.shape c with
          | none => none
          | some (n, k) => if (l.drop (p + 1)).length < n then none else match PyFlat.rows k ((l.drop (p + 1)).drop n) with
            | none => none
            | some (xs, t) => some ((c :: (l.drop (p + 1)).take n) :: xs, t)) = some (d, t) := e3
        cases e6 : PyVbfuaf.shape c with
        | none => rw [e6] at e5; cases e5
        | some nk =>
          obtain ⟨n, k⟩ := nk
          rw [e6] at e5
          dsimp only at e5
          by_cases hn : (l.drop (p + 1)).length < n
          · rw [if_pos hn] at e5; cases e5
          · rw [if_neg hn] at e5
            rw [List.length_drop] at hn
            rcases shape_rows e6 with ⟨rfl, c1, c2⟩ | ⟨rfl, rfl, c12⟩
            · have e7 : some ((c :: (l.drop (p + 1)).take n) :: [], (l.drop (p + 1)).drop n) = some (d, t) := e5
              obtain ⟨rfl, rfl⟩ := Prod.mk.inj (Option.some.inj e7)
              exact .inl ⟨n, rfl, c1, c2, by omega, ha.1, by omega, next (p + 1 + n) (by rw [List.drop_drop]) (by omega)⟩
            · refine .inr ⟨c12, ?_⟩
              rw [List.drop_zero, List.take_zero] at e5
              have e7 : (match PyFlat.rows 1 (l.drop (p + 1)) with
                | none => none
                | some (xs, t) => some ([c] :: xs, t)) = some (d, t) := e5
              cases hr : l.drop (p + 1) with
              | nil => rw [hr] at e7; cases e7
              | cons m r =>
                rw [hr] at e7
                have hp1 : p + 1 < l.length := by
                  have := congrArg List.length hr
                  rw [List.length_drop, List.length_cons] at this
                  omega
                have em : l[p + 1]? = some m := by
                  have := List.getElem?_drop (xs := l) (i := p + 1) (j := 0)
                  rw [hr] at this
                  exact this.symm
                have er : r = l.drop (p + 2) := by
                  have := congrArg (List.drop 1) hr
                  rw [List.drop_drop] at this
                  exact this.symm
                have e8 : (match (match (if 0 ≤ m ∧ m.toNat ≤ r.length then some (r.take m.toNat, r.drop m.toNat) else none) with
                    | none => none
                    | some (x, s) => match (some (([] : List (List Int)), s) : Option (List (List Int) × List Int)) with
                      | none => none
                      | some (xs, t) => some (x :: xs, t)) with
                  | none => none
                  | some (xs, t) => some ([c] :: xs, t)) = some (d, t) := e7
                by_cases hm : 0 ≤ m ∧ m.toNat ≤ r.length
                · rw [if_pos hm] at e8
                  have e9 : some ([c] :: r.take m.toNat :: [], r.drop m.toNat) = some (d, t) := e8
                  obtain ⟨rfl, rfl⟩ := Prod.mk.inj (Option.some.inj e9)
                  rw [er, List.length_drop] at hm
                  rw [er] at ha next
                  refine ⟨m.toNat, ?_, by omega, ha.1, by omega, next (p + 2 + m.toNat) (by rw [List.drop_drop]) (by omega)⟩
                  rw [em, Int.toNat_of_nonneg hm.1]
                · rw [if_neg hm] at e8
                  cases e8
end Fs
end
section
/-! What the program reckons is what the specification reckons; how great its numbers get. -/
set_option maxRecDepth 100000
namespace Fs
open Vbfuaf
theorem ten_eq : TEN = 10000 := rfl
/-! ### 1. an order done, kind by kind -/
theorem dn0 (a l U V w : Nat) : posP ((a : Int) - (l : Int)) * ((U : Int) * 10000) / ((V : Int) * (10000 + (w : Int))) = (((a - l) * U * TEN / (V * (TEN + w)) : Nat) : Int) := by
  rw [ten_eq, posP_toNat, show ((a : Int) - (l : Int)).toNat = a - l by omega, Int.natCast_ediv]
  congr 1
  rw [Int.natCast_mul, Int.natCast_mul, Int.mul_assoc]
  rfl
theorem dn1 (a l U V w : Nat) (hU : 1 ≤ U) : -(-((a : Int) * ((V : Int) * (10000 + (w : Int)))) / ((U : Int) * 10000)) + (l : Int) = ((upTo (a * V * (TEN + w)) (U * TEN) + l : Nat) : Int) := by
  rw [ten_eq, Int.natCast_add, ← up_neg (show 0 < U * 10000 by omega)]
  congr 3
  rw [Int.natCast_mul, Int.natCast_mul, Int.natCast_add, Int.mul_assoc]
  rfl
theorem dn2 (a l U V w : Nat) (hw : w ≤ 2000) : -posP ((a : Int) * ((V : Int) * (10000 - (w : Int))) / ((U : Int) * 10000) - (l : Int)) = -((a * V * (TEN - w) / (U * TEN) - l : Nat) : Int) := by
  rw [ten_eq, posP_toNat]
  congr 2
  have e : (a : Int) * ((V : Int) * (10000 - (w : Int))) / ((U : Int) * 10000) = ((a * V * (10000 - w) / (U * 10000) : Nat) : Int) := by
    rw [Int.natCast_ediv]
    congr 1
    rw [Int.natCast_mul, Int.natCast_mul, Int.ofNat_sub (by omega), Int.mul_assoc]
    rfl
  rw [e]
  omega
theorem dn3 (a l U V w : Nat) (hV : 1 ≤ V) (hw : w ≤ 2000) : -(-(-(((a : Int) + (l : Int)) * ((U : Int) * 10000)) / ((V : Int) * (10000 - (w : Int))))) = -((upTo ((a + l) * U * TEN) (V * (TEN - w)) : Nat) : Int) := by
  rw [ten_eq, ← up_neg (show 0 < V * (10000 - w) from Nat.mul_pos (by omega) (by omega))]
  congr 4
  · rw [Int.natCast_mul, Int.natCast_mul, Int.natCast_add, Int.mul_assoc]
    rfl
  · rw [Int.natCast_mul, Int.ofNat_sub (by omega)]
    rfl
/-! ### 2. how great the numbers get -/
theorem mul_le3 {a b c A B C : Nat} (h1 : a ≤ A) (h2 : b ≤ B) (h3 : c ≤ C) : a * b * c ≤ A * B * C := Nat.mul_le_mul (Nat.mul_le_mul h1 h2) h3
theorem upTo_self (a : Nat) {b : Nat} (hb : 0 < b) : upTo a b ≤ a := (upTo_le hb).mpr (Nat.le_mul_of_pos_right _ hb)
theorem done_bd {s : State} (W : WF s) {o : Order} (O : WO o) {a b l : Nat} (ha : a ≤ 2000) (_hb : b ≤ 2000) :
    (done s a b l o).money.natAbs ≤ 12000000000000000000000000000 + l ∧ (done s a b l o).units.natAbs ≤ (1000000000000 + l) * 1000000000000000000 * 10000 := by
  have hv2 := W.v2
  have hu1 := W.u1
  have hu2 := W.u2
  have ho := O.hi
  have hv1 := W.v1
  unfold done
  dsimp only
  rw [ten_eq]
  split
  · constructor
    · dsimp only
      omega
    · dsimp only
      rw [Int.natAbs_natCast]
      exact Nat.le_trans (Nat.div_le_self _ _) (mul_le3 (by omega) hu2 (Nat.le_refl _))
  · constructor
    · dsimp only
      rw [Int.natAbs_natCast]
      have h1 := upTo_self (o.amount * s.value * (10000 + a)) (show 0 < s.units * 10000 by omega)
      have h2 : o.amount * s.value * (10000 + a) ≤ 1000000000000 * 1000000000000 * 12000 := mul_le3 ho hv2 (by omega)
      omega
    · dsimp only
      rw [Int.natAbs_natCast]
      omega
  · constructor
    · dsimp only
      rw [Int.natAbs_neg, Int.natAbs_natCast]
      have h1 := Nat.div_le_self (o.amount * s.value * (10000 - b)) (s.units * 10000)
      have h2 : o.amount * s.value * (10000 - b) ≤ 1000000000000 * 1000000000000 * 12000 := mul_le3 ho hv2 (by omega)
      omega
    · dsimp only
      omega
  · constructor
    · dsimp only
      omega
    · dsimp only
      rw [Int.natAbs_neg, Int.natAbs_natCast]
      exact Nat.le_trans (upTo_self _ (Nat.mul_pos (by omega) (by omega))) (mul_le3 (by omega) hu2 (Nat.le_refl _))
theorem isum_bd {α : Type} {f : α → Int} {B : Nat} : ∀ {l : List α}, (∀ x ∈ l, (f x).natAbs ≤ B) → (isum (l.map f)).natAbs ≤ l.length * B
  | [], _ => Nat.zero_le _
  | x :: l, h => by
    have h1 := h x (by simp)
    have h2 := isum_bd (l := l) fun y hy => h y (List.mem_cons_of_mem _ hy)
    show (f x + isum (l.map f)).natAbs ≤ (l.length + 1) * B
    rw [Nat.add_mul, Nat.one_mul]
    have := Int.natAbs_add_le (f x) (isum (l.map f))
    omega
theorem swung_flow_bd {s : State} (W : WF s) {a b : Nat} (ha : a ≤ 2000) (hb : b ≤ 2000) : (flowOf (s.orders.map (done s a b 0))).natAbs ≤ 480000000000000000000000000000 := by
  unfold flowOf
  rw [List.map_map]
  have h := isum_bd (l := s.orders) (f := (fun r : Result => r.money) ∘ done s a b 0) (B := 12000000000000000000000000000) fun o ho => (done_bd W (W.ord o ho) ha hb).1
  have := W.olen
  refine Nat.le_trans h (Nat.le_trans (Nat.mul_le_mul_right _ this) (by decide))
theorem cost_bd {s : State} (W : WF s) (side : Nat) (f : Int) : costAt s side f ≤ f.natAbs := by
  unfold costAt
  split
  · exact Nat.le_trans (cost_le W.buys _) (by omega)
  · split
    · exact Nat.le_trans (cost_le W.sells _) (by omega)
    · exact Nat.zero_le _
theorem mem_le_sum : ∀ {l : List Nat} {x : Nat}, x ∈ l → x ≤ sum l
  | y :: l, x, h => by
    show x ≤ y + sum l
    rcases List.mem_cons.mp h with rfl | h
    · omega
    · have := mem_le_sum h
      omega
theorem parts_bd {a : Nat} {ws : List Nat} {x : Nat} (h : x ∈ parts a ws) : x ≤ a + 1 := by
  unfold parts at h
  dsimp only at h
  obtain ⟨y, hy, rfl⟩ := List.mem_map.mp h
  have hm : y.2.1 ∈ ws := (List.of_mem_zip (List.of_mem_zip (show (y.1, y.2) ∈ _ from hy)).2).1
  have h1 := mem_le_sum hm
  have h2 : a * y.2.1 / sum ws ≤ a := by
    rcases Nat.eq_zero_or_pos (sum ws) with e | e
    · rw [e, Nat.div_zero]
      exact Nat.zero_le _
    · exact Nat.div_le_of_le_mul (by rw [Nat.mul_comm (sum ws)]; exact Nat.mul_le_mul_left _ h1)
  split <;> omega
end Fs
end
section
/-! Sums, weights, levies: as the program adds them up. -/
set_option maxRecDepth 100000
namespace Fs
open Vbfuaf
theorem isum_sum : ∀ l : List Int, l.sum = isum l
  | [] => rfl
  | x :: l => by
    rw [List.sum_cons, isum_sum l]
    rfl
theorem take_snoc {α : Type} {l : List α} {i : Nat} {x : α} (h : l[i]? = some x) : l.take (i + 1) = l.take i ++ [x] := by
  rw [List.take_add_one, h]
  rfl
/-- the side, as a number -/
theorem side_le (s : State) : sideOf s ≤ 2 := by
  unfold sideOf
  dsimp only
  split
  · omega
  · split <;> omega
/-- an order done, by its kind -/
theorem done0 {s : State} {a b l : Nat} {o : Order} (e : o.kind = 0) : done s a b l o = { num := o.num, money := o.amount, units := ((o.amount - l) * s.units * TEN / (s.value * (TEN + a)) : Nat), levy := l } := by
  unfold done
  simp only [e]
theorem done1 {s : State} {a b l : Nat} {o : Order} (e : o.kind = 1) : done s a b l o = { num := o.num, money := (upTo (o.amount * s.value * (TEN + a)) (s.units * TEN) + l : Nat), units := o.amount, levy := l } := by
  unfold done
  simp only [e]
theorem done2 {s : State} {a b l : Nat} {o : Order} (e : o.kind = 2) : done s a b l o = { num := o.num, money := -((o.amount * s.value * (TEN - b) / (s.units * TEN) - l : Nat) : Int), units := -(o.amount : Int), levy := l } := by
  unfold done
  simp only [e]
theorem done3 {s : State} {a b l : Nat} {o : Order} (e : o.kind = 3) : done s a b l o = { num := o.num, money := -(o.amount : Int), units := -((upTo ((o.amount + l) * s.units * TEN) (s.value * (TEN - b)) : Nat) : Int), levy := l } := by
  unfold done
  simp only [e]
/-- abs, as the program's abs reckons it -/
theorem abs_eq (z : Int) : (if z < 0 then -z else z) = (z.natAbs : Int) := by
  split <;> omega
/-- where it weighs enough there is a side, and a weight -/
theorem heavy_flow {s : State} (h : heavy s = true) : flowOf (plain s) ≠ 0 := by
  unfold heavy at h
  rw [decide_eq_true_eq] at h
  intro e
  rw [e] at h
  simp at h
theorem plain_in {s : State} {o : Order} (h : isIn o = true) : 0 ≤ (done s 0 0 0 o).money := by
  unfold isIn at h
  rw [decide_eq_true_eq] at h
  unfold done
  dsimp only
  split
  · dsimp only
    omega
  · dsimp only
    omega
  · rename_i e
    omega
  · rename_i e0 e1 e2
    exfalso
    have : o.kind = 0 ∨ o.kind = 1 := by omega
    rcases this with q | q
    · exact e0 q
    · exact e1 q
theorem plain_out {s : State} {o : Order} (h : isIn o = false) : (done s 0 0 0 o).money ≤ 0 := by
  unfold isIn at h
  rw [decide_eq_false_iff_not] at h
  unfold done
  dsimp only
  split
  · rename_i e
    omega
  · rename_i e
    omega
  · dsimp only
    omega
  · dsimp only
    omega
theorem weights_pos {s : State} (h : heavy s = true) : 0 < sum (s.orders.map (weightOf s)) := by
  have hf := heavy_flow h
  have key : ∀ l : List Order, (isum (l.map fun o => (done s 0 0 0 o).money)).natAbs ≤ sum (l.map (weightOf s)) ∨
      (sideOf s = 1 ∧ isum (l.map fun o => (done s 0 0 0 o).money) ≤ (sum (l.map (weightOf s)) : Int)) ∨ (sideOf s = 2 ∧ -(sum (l.map (weightOf s)) : Int) ≤ isum (l.map fun o => (done s 0 0 0 o).money)) ∨ sideOf s = 0 := by
    intro l
    by_cases s1 : sideOf s = 1
    · refine .inr (.inl ⟨s1, ?_⟩)
      induction l with
      | nil => exact Int.le_refl _
      | cons o l ih =>
        show (done s 0 0 0 o).money + isum (l.map fun o => (done s 0 0 0 o).money) ≤ ((weightOf s o + sum (l.map (weightOf s)) : Nat) : Int)
        have hw : (done s 0 0 0 o).money ≤ (weightOf s o : Int) := by
          unfold weightOf
          cases q : isIn o with
          | true =>
            rw [if_pos (.inl ⟨s1, rfl⟩)]
            omega
          | false =>
            have := plain_out (s := s) q
            split <;> omega
        omega
    · by_cases s2 : sideOf s = 2
      · refine .inr (.inr (.inl ⟨s2, ?_⟩))
        induction l with
        | nil => exact Int.le_refl _
        | cons o l ih =>
          show -((weightOf s o + sum (l.map (weightOf s)) : Nat) : Int) ≤ (done s 0 0 0 o).money + isum (l.map fun o => (done s 0 0 0 o).money)
          have hw : -(weightOf s o : Int) ≤ (done s 0 0 0 o).money := by
            unfold weightOf
            cases q : isIn o with
            | false =>
              rw [if_pos (.inr ⟨s2, rfl⟩)]
              omega
            | true =>
              have := plain_in (s := s) q
              split <;> omega
          omega
      · exact .inr (.inr (.inr (by have := side_le s; omega)))
  have e : flowOf (plain s) = isum (s.orders.map fun o => (done s 0 0 0 o).money) := by
    unfold flowOf plain
    rw [List.map_map]
    rfl
  have sd : sideOf s = (if 0 < flowOf (plain s) then 1 else if flowOf (plain s) < 0 then 2 else 0) := rfl
  have k := key s.orders
  rw [← e] at k
  generalize flowOf (plain s) = f at *
  generalize sum (s.orders.map (weightOf s)) = W at *
  rw [sd] at k
  split at k
  · omega
  · split at k
    · omega
    · omega
end Fs
end
section
/-! Bounds of outcomes; sides and costs as the program reckons them. -/
set_option maxRecDepth 100000
namespace Fs
open Vbfuaf
/-- outcomes of a bounded size -/
structure RB (rs : List Result) : Prop where
  len : rs.length ≤ 40
  all : ∀ r ∈ rs, r.money.natAbs ≤ 10 ^ 33 ∧ r.units.natAbs ≤ 10 ^ 55
theorem RB.flow {rs : List Result} (h : RB rs) : (flowOf rs).natAbs ≤ 10 ^ 35 := by
  unfold flowOf
  have := isum_bd (l := rs) (f := fun r => r.money) (B := 10 ^ 33) fun r hr => (h.all r hr).1
  refine Nat.le_trans this (Nat.le_trans (Nat.mul_le_mul_right _ h.len) (by decide))
theorem RB.units {rs : List Result} (h : RB rs) : (unitsOf rs).natAbs ≤ 10 ^ 57 := by
  unfold unitsOf
  have := isum_bd (l := rs) (f := fun r => r.units) (B := 10 ^ 55) fun r hr => (h.all r hr).2
  refine Nat.le_trans this (Nat.le_trans (Nat.mul_le_mul_right _ h.len) (by decide))
theorem done_rb {s : State} (W : WF s) {o : Order} (O : WO o) {a b l : Nat} (ha : a ≤ 2000) (hb : b ≤ 2000) (hl : l ≤ 10 ^ 32) : (done s a b l o).money.natAbs ≤ 10 ^ 33 ∧ (done s a b l o).units.natAbs ≤ 10 ^ 55 := by
  obtain ⟨h1, h2⟩ := done_bd W O ha hb (l := l)
  refine ⟨by omega, Nat.le_trans h2 ?_⟩
  refine Nat.le_trans (mul_le3 (A := 1000000000000 + 10 ^ 32) (by omega) (Nat.le_refl _) (Nat.le_refl _)) (by decide)
theorem rb_map {s : State} (W : WF s) {a b : Nat} (ha : a ≤ 2000) (hb : b ≤ 2000) : RB (s.orders.map (done s a b 0)) := by
  refine ⟨by rw [List.length_map]; exact W.olen, fun r hr => ?_⟩
  obtain ⟨o, ho, rfl⟩ := List.mem_map.mp hr
  exact done_rb W (W.ord o ho) ha hb (Nat.zero_le _)
theorem rb_plain {s : State} (W : WF s) : RB (plain s) := rb_map W (Nat.zero_le _) (Nat.zero_le _)
theorem rb_swung {s : State} (W : WF s) {w : Nat} (hw : w ≤ 2000) : RB (swung s w) := rb_map W (by split <;> omega) (by split <;> omega)
theorem cost_big {s : State} (W : WF s) {rs : List Result} (h : RB rs) (side : Nat) : costAt s side (flowOf rs) ≤ 10 ^ 35 := Nat.le_trans (cost_bd W side _) h.flow
theorem plain_flow_bd {s : State} (W : WF s) : (flowOf (plain s)).natAbs ≤ 480000000000000000000000000000 := swung_flow_bd W (Nat.zero_le _) (Nat.zero_le _)
theorem plain_cost_bd {s : State} (W : WF s) : costWith s (plain s) ≤ 480000000000000000000000000000 := Nat.le_trans (cost_bd W _ _) (plain_flow_bd W)
theorem levy_bd {s : State} (W : WF s) {l : Nat} (h : l ∈ levies s) : l ≤ 10 ^ 32 := by
  unfold levies at h
  split at h
  · have := parts_bd h
    have := plain_cost_bd W
    omega
  · obtain ⟨_, _, rfl⟩ := List.mem_map.mp h
    exact Nat.zero_le _
theorem rb_levied {s : State} (W : WF s) : RB ((s.orders.zip (levies s)).map fun x => done s 0 0 x.2 x.1) := by
  refine ⟨by rw [List.length_map, List.length_zip, levies_len, Nat.min_self]; exact W.olen, fun r hr => ?_⟩
  obtain ⟨⟨o, l⟩, ho, rfl⟩ := List.mem_map.mp hr
  obtain ⟨h1, h2⟩ := List.of_mem_zip ho
  exact done_rb W (W.ord o h1) (Nat.zero_le _) (Nat.zero_le _) (levy_bd W h2)
/-- the side of a flow -/
def sideN (z : Int) : Nat := if 0 < z then 1 else if z < 0 then 2 else 0
/-- whether a flow weighs enough -/
theorem heavy_dec (s : State) (z : Int) (h : z = flowOf (plain s)) : decide (((s.policy.threshold : Int) * (s.value : Int)) < ((z.natAbs : Int) * 1000000)) = heavy s := by
  unfold heavy
  subst h
  apply decide_eq_decide.mpr
  have e : MILLION = 1000000 := rfl
  rw [e]
  rw [← Int.natCast_mul]
  generalize s.policy.threshold * s.value = x
  omega
theorem covers_dec (s : State) (w : Nat) : decide (((s.policy.factor : Int) * (s.units : Int)) * ((costWith s (swung s w) : Nat) : Int) ≤ 1000000 * kept s (swung s w)) = covers s w := by
  unfold covers
  dsimp only
  apply decide_eq_decide.mpr
  rw [Int.natCast_mul, Int.natCast_mul]
  exact Iff.rfl
theorem kept_bd {s : State} (W : WF s) {rs : List Result} (h : RB rs) : (kept s rs).natAbs ≤ 10 ^ 75 := by
  unfold kept
  have h1 := h.flow
  have h2 := h.units
  have a1 : ((s.units : Int) * flowOf rs).natAbs ≤ 10 ^ 18 * 10 ^ 35 := by
    rw [Int.natAbs_mul]
    exact Nat.mul_le_mul (by have := W.u2; omega) h1
  have a2 : ((s.value : Int) * unitsOf rs).natAbs ≤ 10 ^ 12 * 10 ^ 57 := by
    rw [Int.natAbs_mul]
    exact Nat.mul_le_mul (by have := W.v2; omega) h2
  omega
end Fs
end
section
set_option Elab.async false
set_option linter.all false
set_option maxRecDepth 100000
/-! THE HAND LAYER, for ints, bools, texts, own classes, lists, tuples, dicts, comprehensions, walks over dicts, enumerate, zip, reversed, texts, calls, loops. Paste it whole ahead of your own text; what your proof does not reach may be deleted. -/
namespace L2
open PySem PySem.Spec PyProof.Rows
/-- a key: an int or a str -/
abbrev Key := Sum Int Str
def keyIs : Key → Value → Bool
  | .inl k, v => Value.isInt k v
  | .inr x, v => Value.isStrOf x v
def keyH (w : World) : Key → Int
  | .inl k => hashInt k
  | .inr x => hashStr w x
theorem keyIs_shape : ∀ {k : Key} {v : Value}, keyIs k v = true → (∃ i t, k = Sum.inl i ∧ v = Value.int i t) ∨ (∃ x t, k = Sum.inr x ∧ v = Value.str x t)
  | .inl i, v, h => by
    obtain ⟨t, e⟩ := Value.isInt_shape (k := i) (v := v) h
    exact .inl ⟨i, t, rfl, e⟩
  | .inr x, v, h => by
    obtain ⟨t, e⟩ := Value.isStrOf_shape (x := x) (v := v) h
    exact .inr ⟨x, t, rfl, e⟩
theorem keyIs_int (i : Int) (t : Tok) : keyIs (.inl i) (.int i t) = true := by simp [keyIs, Value.isInt]
theorem keyIs_str (x : Str) (t : Tok) : keyIs (.inr x) (.str x t) = true := by simp [keyIs, Value.isStrOf]
theorem key_ll (a b : Int) : decide ((Sum.inl a : Key) = Sum.inl b) = (a == b) := by
  by_cases e : a = b
  · subst e; simp
  · have h : ¬ (Sum.inl a : Key) = Sum.inl b := fun q => e (Sum.inl.inj q)
    rw [decide_eq_false h]
    exact (beq_eq_false_iff_ne.mpr e).symm
theorem key_rr (a b : Str) : decide ((Sum.inr a : Key) = Sum.inr b) = decide (a = b) := by
  by_cases e : a = b
  · subst e; simp
  · have h : ¬ (Sum.inr a : Key) = Sum.inr b := fun q => e (Sum.inr.inj q)
    rw [decide_eq_false h, decide_eq_false e]
theorem key_lr (a : Int) (b : Str) : decide ((Sum.inl a : Key) = Sum.inr b) = false := decide_eq_false (fun q => nomatch q)
theorem key_rl (a : Str) (b : Int) : decide ((Sum.inr a : Key) = Sum.inl b) = false := decide_eq_false (fun q => nomatch q)
def mixKind (prog : Program) (w : World) : PySem.KeyKind prog w Key where
  is := keyIs
  hash := keyH w
  inj := fun v a b ha hb => by
    rcases keyIs_shape ha with ⟨i, t, rfl, rfl⟩ | ⟨x, t, rfl, rfl⟩
    · rcases keyIs_shape hb with ⟨j, u, rfl, e⟩ | ⟨y, u, rfl, e⟩
      · injection e with e1 _; rw [e1]
      · exact nomatch e
    · rcases keyIs_shape hb with ⟨j, u, rfl, e⟩ | ⟨y, u, rfl, e⟩
      · exact nomatch e
      · injection e with e1 _; rw [e1]
  byValue := fun k v h => by
    rcases keyIs_shape h with ⟨i, t, rfl, rfl⟩ | ⟨x, t, rfl, rfl⟩ <;> rfl
  pyHash := fun hv h => by
    rcases keyIs_shape hv with ⟨i, t, rfl, rfl⟩ | ⟨x, t, rfl, rfl⟩
    · exact wpAny_pyHash_int h
    · exact wpAny_pyHash_str h
  eqBool := fun hu hv h => by
    rcases keyIs_shape hu with ⟨i, t, rfl, rfl⟩ | ⟨x, t, rfl, rfl⟩
    · rcases keyIs_shape hv with ⟨j, u, rfl, rfl⟩ | ⟨y, u, rfl, rfl⟩
      · rw [key_ll] at h; exact wpAny_eqBool_int h
      · rw [key_lr] at h; exact SeqAt.EqAt.int_str i t y u _ _ _ _ h
    · rcases keyIs_shape hv with ⟨j, u, rfl, rfl⟩ | ⟨y, u, rfl, rfl⟩
      · rw [key_rl] at h; exact SeqAt.EqAt.str_int x t j u _ _ _ _ h
      · rw [key_rr] at h; exact wpAny_eqBool_str h
  «strs» := fun k x t v h => by
    rcases keyIs_shape h with ⟨i, u, rfl, e⟩ | ⟨y, u, rfl, e⟩
    · exact nomatch e
    · injection e with e1 _
      subst e1
      cases v <;> rfl
theorem mixKind_int (prog : Program) (w : World) (i : Int) (t : Tok) : (mixKind prog w).is (.inl i) (.int i t) = true := keyIs_int i t
theorem mixKind_str (prog : Program) (w : World) (x : Str) (t : Tok) : (mixKind prog w).is (.inr x) (.str x t) = true := keyIs_str x t
end L2
namespace L2
open PySem PySem.Spec PyProof.Rows
/-- a value, without the heap -/
inductive V where
  | non | bl (b : Bool) | int (i : Int) | str (x : Str) | byt (b : Array UInt8) | flt (b : UInt64) | ref (a : Addr) | ty (n : String)
  deriving DecidableEq
def RelV : V → Value → Prop
  | .non, u => u = Value.none
  | .bl b, u => u = Value.bool b
  | .int i, u => ∃ t, u = Value.int i t
  | .str x, u => ∃ t, u = Value.str x t
  | .byt b, u => ∃ t, u = Value.bytes b t
  | .flt b, u => ∃ t, u = Value.float b t
  | .ref a, u => u = Value.ref a
  | .ty n, u => u = Value.type n
abbrev Vals : List V → List Value → Prop := Paired RelV
theorem Vals.length {xs : List V} {us : List Value} (r : Vals xs us) : xs.length = us.length := Paired.length r
theorem Vals.get : ∀ {xs : List V} {us : List Value} {i : Nat} {x : V}, Vals xs us → xs[i]? = some x → ∃ u, us[i]? = some u ∧ RelV x u
  | _, _, _, _, .nil, e => by simp at e
  | _, _, 0, _, .cons r _, e => by simp at e; subst e; exact ⟨_, rfl, r⟩
  | _, _, i + 1, x, .cons _ t, e => by
    obtain ⟨u, h1, h2⟩ := Vals.get (i := i) (x := x) t (by simpa using e)
    exact ⟨u, by simpa using h1, h2⟩
theorem Vals.set {x : V} {u : Value} (r : RelV x u) : ∀ {xs : List V} {us : List Value} (i : Nat), Vals xs us → Vals (xs.set i x) (us.set i u)
  | _, _, _, .nil => .nil
  | _, _, 0, .cons _ t => .cons r t
  | _, _, i + 1, .cons q t => .cons q (Vals.set r i t)
theorem Vals.append : ∀ {xs ys : List V} {us ws : List Value}, Vals xs us → Vals ys ws → Vals (xs ++ ys) (us ++ ws)
  | _, _, _, _, .nil, s => s
  | _, _, _, _, .cons r t, s => .cons r (Vals.append t s)
theorem Vals.take : ∀ {xs : List V} {us : List Value} (n : Nat), Vals xs us → Vals (xs.take n) (us.take n)
  | _, _, 0, _ => .nil
  | _, _, _ + 1, .nil => .nil
  | _, _, n + 1, .cons r t => .cons r (Vals.take n t)
theorem Vals.drop : ∀ {xs : List V} {us : List Value} (n : Nat), Vals xs us → Vals (xs.drop n) (us.drop n)
  | _, _, 0, r => r
  | _, _, _ + 1, .nil => .nil
  | _, _, n + 1, .cons _ t => Vals.drop n t
def RelO : Option V → Option Value → Prop
  | some v, some u => RelV v u
  | none, none => True
  | _, _ => False
def KV {κ : Type} : List (κ × V) → List (κ × Value) → Prop := Paired fun (p : κ × V) (q : κ × Value) => p.1 = q.1 ∧ RelV p.2 q.2
/-- a key of a dict (00_mix): an int or a text -/
def kV : Key → V
  | .inl i => .int i
  | .inr x => .str x
/-- what stands at a tracked address -/
inductive HO where
  /-- a list -/
  | lst (xs : List V)
  /-- a tuple (never changes) -/
  | tup (xs : List V)
  /-- a dict whose keys are ints and texts; one whose keys are tuples of ints and texts (the empty one is both) -/
  | dK (kvs : List (Key × V)) | dT (kvs : List (List Key × V))
  /-- a set of ints: its members, its size -/
  | set (S : Int → Bool) (n : Nat)
  /-- an instance of the class at C, its dict at dx, its attributes -/
  | ins (C dx : Addr) (fs : List (Str × V))
  /-- the dict of the instance at x -/
  | own (x : Addr)
  /-- the dict of an exception -/
  | xd (fs : List (Str × V))
  /-- a bound method, f of x -/
  | met (f x : Addr)
  /-- a range object lo, lo + 1, .. below hi -/
  | rng (lo hi : Int)
  /-- a thing that is known to the object (the script; a dict while a loop walks it): read, never written while it is so -/
  | frz (o : Obj) (u : HO)
  /-- a code object's table -/
  | tbl (ps : Array Value)
  /-- any other thing, by what is true of its one object (a def of one's own: SetO a S n := HO.ext fun h => ..) -/
  | ext (φ : Heap → Prop)
abbrev Hp := Addr → Option HO
def upd (H : Hp) (a : Addr) (o : HO) : Hp := fun b => if b = a then some o else H b
theorem upd_same {H : Hp} {a : Addr} {o : HO} : upd H a o a = some o := by unfold upd; rw [if_pos rfl]
theorem upd_ne {H : Hp} {a b : Addr} {o : HO} (h : b ≠ a) : upd H a o b = H b := by unfold upd; rw [if_neg h]
/-- two objects of different content stand apart -/
theorem ne_of {H : Hp} {a b : Addr} {o u : HO} (h : H a = some o) (h' : H b = some u) (d : o ≠ u) : a ≠ b := by
  intro e; subst e; rw [h] at h'; exact d (Option.some.inj h')
theorem ne_of_none {H : Hp} {a b : Addr} {o : HO} (h : H a = some o) (h' : H b = none) : a ≠ b := by
  intro e; subst e; rw [h] at h'; cases h'
section
variable (P : Program) (w : World)
def ObjOk (H : Hp) (h : Heap) (a : Addr) : HO → Prop
  | .lst xs => xs.length ≤ sizeLine ∧ ∃ (its : List Value) (n : Nat), Vals xs its ∧ h.get? a = some { cls := .type "list", data := .seq its.toArray n }
  | .tup xs => xs.length ≤ sizeLine ∧ ∃ its : List Value, Vals xs its ∧ IsTup h a its.toArray
  | .dK kvs => kvs.length ≤ sizeLine ∧ (a == sysModules) = false ∧ ∃ vs, KV kvs vs ∧ h.DictOf (mixKind P w) a vs
  | .dT kvs => kvs.length ≤ sizeLine ∧ (a == sysModules) = false ∧ ∃ xs : List (List Key × Addr × Value),
      Paired (fun (p : List Key × V) (q : List Key × Addr × Value) => p.1 = q.1 ∧ H q.2.1 = some (.tup (p.1.map kV)) ∧ RelV p.2 q.2.2) kvs xs ∧
      ∃ o es ep, h.get? a = some o ∧ o.ExactDict ∧ o.data = .dict es ep ∧ es.toList = xs.map (entryOfKey (tupleKind (mixKind P w))) ∧ (xs.map (·.1)).Nodup
  | .set S n => h.SetOf (intKind P w) a S n
  | .ins C dx fs => H dx = some (.own a) ∧ fs.length ≤ 1000 ∧ dx ≠ a ∧ h.get? a = some (PySem.W.instObj C dx) ∧
      ∃ mA, h.Ns1 dx mA ∧ (∀ f, RelO (fs.lookup f) (mA f)) ∧ PySem.Within mA (fs.map (·.1))
  | .own _ => ∃ o, h.get? a = some o
  | .xd fs => ∃ mA, h.Ns1 a mA ∧ ∀ f, RelO (fs.lookup f) (mA f)
  | .rng lo hi => ∃ t u v, h.get? a = some { cls := .type "range", data := .fields #[.int lo t, .int hi u, .int 1 v] }
  | .frz o u => h.get? a = some o ∧ ObjOk H h a u
  | .tbl ps => h.get? a = some { cls := .none, data := .fields ps }
  | .met f x => h.get? a = some (PySem.W.methodObj (.ref f) (.ref x))
  | .ext φ => φ h ∧ (∃ o, h.get? a = some o) ∧ ∀ h1 h2 : Heap, φ h1 → (∀ o, h1.get? a = some o → h2.get? a = some o) → φ h2
/-- the abstract heap is held -/
def HOk (H : Hp) (h : Heap) : Prop := ∀ a o, H a = some o → ObjOk P w H h a o
end
section
variable {P : Program} {w : World} {H H' : Hp} {h h' : Heap} {a : Addr} {o : HO}
theorem ObjOk.lt (x : ObjOk P w H h a o) : a < h.objs.size := by
  cases o with
  | lst xs => obtain ⟨_, _, _, _, e⟩ := x; exact Heap.lt_size e
  | tup xs => obtain ⟨_, _, _, p⟩ := x; exact p.lt
  | dK kvs => obtain ⟨_, _, _, _, o, _, _, e, _⟩ := x; exact Heap.lt_size e
  | dT kvs => obtain ⟨_, _, _, _, o, _, _, e, _⟩ := x; exact Heap.lt_size e
  | set S n => obtain ⟨o, _, _, _, e, _⟩ := x; exact Heap.lt_size e
  | ins C dx fs => obtain ⟨_, _, _, e, _⟩ := x; exact Heap.lt_size e
  | own y => obtain ⟨_, e⟩ := x; exact Heap.lt_size e
  | xd fs => obtain ⟨_, ⟨_, _, _, e, _⟩, _⟩ := x; exact Heap.lt_size e
  | rng lo hi => obtain ⟨_, _, _, e⟩ := x; exact Heap.lt_size e
  | frz ob u => obtain ⟨e, _⟩ := x; exact Heap.lt_size e
  | tbl ps => exact Heap.lt_size (show h.get? a = some _ from x)
  | met f y => exact Heap.lt_size (show h.get? a = some _ from x)
  | ext φ => obtain ⟨_, ⟨_, e⟩, _⟩ := x; exact Heap.lt_size e
theorem Paired.mapP {α β : Type} {F G : α → β → Prop} : ∀ {l₁ : List α} {l₂ : List β}, Paired F l₁ l₂ → (∀ a b, F a b → G a b) → Paired G l₁ l₂
  | _, _, .nil, _ => .nil
  | _, _, .cons r t, f => .cons (f _ _ r) (Paired.mapP t f)
/-- what an object's description leans on: its own object, its own dict, the tuples -/
theorem ObjOk.stay (x : ObjOk P w H h a o) (k : ∀ b u, (b = a ∨ H b = some (.own a)) → h.get? b = some u → h'.get? b = some u)
    (ho : ∀ b, H b = some (.own a) → H' b = some (.own a)) (ht : ∀ b xs, H b = some (.tup xs) → H' b = some (.tup xs)) : ObjOk P w H' h' a o := by
  induction o with
  | lst xs => obtain ⟨z, its, n, r, e⟩ := x; exact ⟨z, its, n, r, k _ _ (.inl rfl) e⟩
  | tup xs => obtain ⟨z, its, r, ob, e, c⟩ := x; exact ⟨z, its, r, ob, k _ _ (.inl rfl) e, c⟩
  | dK kvs => obtain ⟨z, y, vs, r, ob, es, ep, e, c⟩ := x; exact ⟨z, y, vs, r, ob, es, ep, k _ _ (.inl rfl) e, c⟩
  | dT kvs =>
    obtain ⟨z, y, xs, r, ob, es, ep, e, c⟩ := x
    exact ⟨z, y, xs, Paired.mapP r fun p q z => ⟨z.1, ht _ _ z.2.1, z.2.2⟩, ob, es, ep, k _ _ (.inl rfl) e, c⟩
  | set S n => obtain ⟨ob, es, ep, t, e, c⟩ := x; exact ⟨ob, es, ep, t, k _ _ (.inl rfl) e, c⟩
  | ins C dx fs =>
    obtain ⟨d, z, ne, e, mA, ⟨od, es, ep, e2, c⟩, r⟩ := x
    exact ⟨ho _ d, z, ne, k _ _ (.inl rfl) e, mA, ⟨od, es, ep, k _ _ (.inr d) e2, c⟩, r⟩
  | own y => obtain ⟨ob, e⟩ := x; exact ⟨ob, k _ _ (.inl rfl) e⟩
  | xd fs => obtain ⟨mA, ⟨od, es, ep, e, c⟩, r⟩ := x; exact ⟨mA, ⟨od, es, ep, k _ _ (.inl rfl) e, c⟩, r⟩
  | rng lo hi => obtain ⟨t, u, v, e⟩ := x; exact ⟨t, u, v, k _ _ (.inl rfl) e⟩
  | frz ob u ih => obtain ⟨e, q⟩ := x; exact ⟨k _ _ (.inl rfl) e, ih q⟩
  | tbl ps =>
    have e : h.get? a = some { cls := .none, data := .fields ps } := x
    show h'.get? a = some { cls := .none, data := .fields ps }
    exact k a _ (.inl rfl) e
  | met f y =>
    have e : h.get? a = some (PySem.W.methodObj (.ref f) (.ref y)) := x
    show h'.get? a = some (PySem.W.methodObj (.ref f) (.ref y))
    exact k a _ (.inl rfl) e
  | ext φ => obtain ⟨p, ⟨o, e⟩, st⟩ := x; exact ⟨st _ _ p fun o q => k _ _ (.inl rfl) q, ⟨o, k _ _ (.inl rfl) e⟩, st⟩
theorem HOk.lt (x : HOk P w H h) (e : H a = some o) : a < h.objs.size := (x a o e).lt
theorem HOk.fresh (x : HOk P w H h) (e : h.objs.size ≤ a) : H a = none := by
  cases q : H a with
  | none => rfl
  | some u => exact absurd (Nat.lt_of_lt_of_le (x.lt q) e) (Nat.lt_irrefl _)
/-- every object of the heap is kept -/
theorem HOk.kept (x : HOk P w H h) (k : ∀ b u, h.get? b = some u → h'.get? b = some u) : HOk P w H h' := fun a o e =>
  (x a o e).stay (fun b u _ q => k b u q) (fun _ q => q) fun _ _ q => q
/-- a new object is laid and tracked -/
theorem HOk.laid (x : HOk P w H h) (k : ∀ b u, h.get? b = some u → h'.get? b = some u) (hp : h.objs.size ≤ a) (new : ObjOk P w (upd H a o) h' a o) : HOk P w (upd H a o) h' := fun b u e => by
  have hn := x.fresh hp
  by_cases hb : b = a
  · subst hb; rw [upd_same] at e; cases e; exact new
  · rw [upd_ne hb] at e
    exact (x b u e).stay (fun c v _ q => k c v q) (fun c q => by rw [upd_ne (ne_of_none q hn)]; exact q) fun c xs q => by rw [upd_ne (ne_of_none q hn)]; exact q
end
/-- what may be read as u: it is u, or a known u -/
def Rd (H : Hp) (a : Addr) (u : HO) : Prop := H a = some u ∨ ∃ o, H a = some (.frz o u)
theorem Rd.ok {P : Program} {w : World} {H : Hp} {h : Heap} {a : Addr} {u : HO} (r : Rd H a u) (x : HOk P w H h) : ObjOk P w H h a u := by
  rcases r with r | ⟨o, r⟩
  · exact x a u r
  · obtain ⟨_, q⟩ := x a _ r
    exact q
/-- what may be written -/
def Mut : Option HO → Prop
  | some (.lst _) => True
  | some (.dK _) => True
  | some (.dT _) => True
  | some (.set _ _) => True
  | some (.ins _ _ _) => True
  | some (.ext _) => True
  | _ => False
section
variable {P : Program} {w : World} {H : Hp} {h h' : Heap} {x e : Addr} {o' : HO}
/-- the object at e is changed: x itself, or the dict of the instance x -/
theorem HOk.write (ok : HOk P w H h) (mu : Mut (H x)) (he : e = x ∨ H e = some (.own x)) (k : ∀ b u, b ≠ e → h.get? b = some u → h'.get? b = some u) (heo : ∃ u, h'.get? e = some u)
    (new : ObjOk P w (upd H x o') h' x o') : HOk P w (upd H x o') h' := fun b u q => by
  have nown : ∀ c y, H c = some (.own y) → c ≠ x := fun c y r z => by subst z; rw [r] at mu; exact mu
  have ntup : ∀ c xs, H c = some (.tup xs) → c ≠ x := fun c xs r z => by subst z; rw [r] at mu; exact mu
  by_cases hb : b = x
  · subst hb; rw [upd_same] at q; cases q; exact new
  · rw [upd_ne hb] at q
    by_cases hbe : b = e
    · have q' : H b = some (.own x) := by
        rcases he with z | z
        · exact absurd (hbe.trans z) hb
        · rw [hbe]; exact z
      rw [q] at q'; cases q'
      obtain ⟨v, hv⟩ := heo
      exact ⟨v, by rw [hbe]; exact hv⟩
    · refine (ok b u q).stay (fun c v hc r => k c v ?_ r) (fun c r => by rw [upd_ne (nown c b r)]; exact r) fun c xs r => by rw [upd_ne (ntup c xs r)]; exact r
      rcases hc with rfl | hc
      · exact hbe
      · rintro rfl
        rcases he with z | z
        · exact nown c b hc z
        · rw [hc] at z; cases z; exact hb rfl
end
/-! ### kept unless tracked; of the frames at fs (the callers') the slots may change (an exception that passes writes there); of the records at ex (iterators) nothing is said -/
structure Un (fs ex : List Addr) (H H' : Hp) (h h' : Heap) : Prop where
  keep : ∀ b o, h.get? b = some o → H b = none → b ∉ fs → b ∉ ex → h'.get? b = some o
  slot : ∀ b o, h.get? b = some o → H b = none → b ∈ fs → b ∉ ex → ∃ sl, h'.get? b = some { o with slots := sl }
  free : ∀ b o, h.get? b = some o → H b = none → b ∉ ex → H' b = none
  there : ∀ b o, h.get? b = some o → b ∉ ex → ∃ o', h'.get? b = some o'
  tups : ∀ b xs, H b = some (.tup xs) → H' b = some (.tup xs)
  frzs : ∀ b o u, H b = some (.frz o u) → H' b = some (.frz o u)
  tbls : ∀ b ps, H b = some (.tbl ps) → ∃ more, H' b = some (.tbl (ps ++ more))
section
variable {fs fs' ex ex' : List Addr} {H H1 H2 : Hp} {h h1 h2 h' : Heap} {a x e : Addr} {o : HO}
theorem Un.any (u : Un fs ex H H1 h h1) {b : Addr} {ob : Obj} (q : h.get? b = some ob) (n : H b = none) (hx : b ∉ ex) : ∃ sl, h1.get? b = some { ob with slots := sl } := by
  by_cases hb : b ∈ fs
  · exact u.slot b ob q n hb hx
  · exact ⟨ob.slots, u.keep b ob q n hb hx⟩
theorem Un.kept (k : ∀ b u, h.get? b = some u → h'.get? b = some u) : Un fs ex H H h h' :=
  ⟨fun b ob q _ _ _ => k b ob q, fun b ob q _ _ _ => ⟨ob.slots, k b ob q⟩, fun _ _ _ n _ => n, fun b ob q _ => ⟨ob, k b ob q⟩, fun _ _ q => q, fun _ _ _ q => q, fun _ ps q => ⟨#[], by rw [q]; simp⟩⟩
theorem Un.refl : Un fs ex H H h h := Un.kept fun _ _ q => q
theorem Un.laid (k : ∀ b u, h.get? b = some u → h'.get? b = some u) (hp : h.objs.size ≤ a) (hn : H a = none) : Un fs ex H (upd H a o) h h' where
  keep := fun b u q _ _ _ => k b u q
  slot := fun b u q _ _ _ => ⟨u.slots, k b u q⟩
  free := fun b u q n _ => by rw [upd_ne (Nat.ne_of_lt (Nat.lt_of_lt_of_le (Heap.lt_size q) hp))]; exact n
  there := fun b u q _ => ⟨u, k b u q⟩
  tups := fun b xs q => by rw [upd_ne (ne_of_none q hn)]; exact q
  frzs := fun b u xs q => by rw [upd_ne (ne_of_none q hn)]; exact q
  tbls := fun b ps q => ⟨#[], by rw [upd_ne (ne_of_none q hn), q]; simp⟩
theorem Un.write (mu : Mut (H x)) (he : e = x ∨ H e = some (.own x)) (k : ∀ b u, b ≠ e → h.get? b = some u → h'.get? b = some u) (heo : ∃ u, h'.get? e = some u) : Un fs ex H (upd H x o) h h' := by
  have hx : ∀ b, H b = none → b ≠ x := fun b n z => by subst z; rw [n] at mu; exact mu
  have hb : ∀ b, H b = none → b ≠ e := fun b n z => by
    subst z
    rcases he with r | r
    · exact hx b n r
    · rw [n] at r; cases r
  have hm : ∀ b u, H b = some u → ¬ Mut (some u) → b ≠ x := fun b u q nm z => by subst z; rw [q] at mu; exact nm mu
  refine ⟨fun b u q n _ _ => k b u (hb b n) q, fun b u q n _ _ => ⟨u.slots, k b u (hb b n) q⟩, fun b u q n _ => by rw [upd_ne (hx b n)]; exact n, fun b u q _ => ?_,
    fun b xs q => by rw [upd_ne (hm b _ q fun z => z)]; exact q, fun b u xs q => by rw [upd_ne (hm b _ q fun z => z)]; exact q, fun b ps q => ⟨#[], by rw [upd_ne (hm b _ q fun z => z), q]; simp⟩⟩
  by_cases hbe : b = e
  · subst hbe; exact heo
  · exact ⟨u, k b u hbe q⟩
end
/-! ### the heap without what is tracked -/
def trk (h : Heap) (H : Hp) : List Addr := (List.range h.objs.size).filter fun a => (H a).isSome
def hidT (h : Heap) (H : Hp) : Heap := PySem.W.hideAll h (trk h H)
theorem hidT_size (h : Heap) (H : Hp) : (hidT h H).objs.size = h.objs.size := PySem.W.hideAll_size _ _
theorem hidT_get {h : Heap} {H : Hp} {b : Addr} {o : Obj} (e : h.get? b = some o) (n : H b = none) : (hidT h H).get? b = some o :=
  PySem.W.hideAll_get _ e fun hm => by
    have q : (H b).isSome = true := (List.mem_filter.mp hm).2
    rw [n] at q; simp at q
theorem of_hidT {h : Heap} {H : Hp} {b : Addr} {o : Obj} (e : (hidT h H).get? b = some o) : h.get? b = some o ∧ H b = none := by
  have e' : h.get? b = some o := PySem.W.of_hideAll (trk h H) e
  refine ⟨e', ?_⟩
  cases q : H b with
  | none => rfl
  | some x =>
    have hm : b ∈ trk h H := List.mem_filter.mpr ⟨List.mem_range.mpr (Heap.lt_size e'), by simp [q]⟩
    have z : (hidT h H).get? b = none := PySem.W.hideAll_none (trk h H) hm
    rw [z] at e; cases e
/-! ### OpenK's ledger, filled with every new object but one -/
end L2
namespace L2
open PySem PySem.Spec PyProof.Rows
/-- the module's facts, over the base: the heap at the law's entry without what is tracked there -/
structure Mod (K : PySem.W.Frag) (mg : Str → Option Value) (base : Heap) : Prop where
  kin : K.In base
  glob : base.Ns mainGlobals mg
  blt : ∃ mb, base.Ns builtinsNs mb ∧ ∀ x : Str, x ≠ "__name__" → mb x = bootBuiltins x
  nolimit : base.NoLimit
/-- the context: a def's body (or a comprehension's block) running. base: fixed through the whole law; s₀, H₀: the entry; outer: the frames whose slots others may change (a def's callers); stack: all frames that run;
   ex: iterators that were made ahead of the entry and are walked here (a comprehension's); fn: the names whose cells were made at the entry (a def: all; a comprehension's block: its own); calm: not within an except suite; pn: pins that every state bears; xe: what is wanted of an exception that leaves the code -/
structure Cx where
  prog : Program
  w : World
  K : PySem.W.Frag
  mg : Str → Option Value
  base : Heap
  A : Around
  N : List Str
  s_0 : Shared
  H_0 : Hp
  env : Env
  outer : List Env
  stack : List Env
  ex : List Addr
  fn : Str → Bool
  calm : Bool
  pn : List (Addr × Obj)
  xe : Value → Shared → Prop
/-- the callers' frames -/
def frs (l : List Env) : List Addr := l.filterMap (·.frame)
abbrev Cx.fs (X : Cx) : List Addr := frs X.outer
def Vis (sc : Scope) (x : Str) : Prop := sc.names.lookup x = some .local ∨ sc.names.lookup x = some .cell ∨ sc.names.lookup x = some .free
def Loc (sc : Scope) (x : Str) : Prop := sc.names.lookup x = some .local ∨ sc.names.lookup x = some .cell
def Look (env : Env) (h : Heap) (m : Str → Option Value) (x : Str) (u : Value) : Prop :=
  (env.kindOf x = some .local ∧ m x = some u) ∨ ((env.kindOf x = some .cell ∨ env.kindOf x = some .free) ∧ ∃ c, env.cells.lookup x = some c ∧ h.IsCell c (some u))
structure Cx.Ok (X : Cx) : Prop where
  mod : Mod X.K X.mg X.base
  kind : X.env.scope.kind = .function
  glob : X.env.globals = mainGlobals
  blt : X.env.builtins = builtinsNs
  above : X.s_0.heap.objs.size ≤ X.env.locals
  inj : ∀ x y c, X.env.cells.lookup x = some c → X.env.cells.lookup y = some c → x = y
  has : ∀ x, (X.env.kindOf x = some .cell ∨ X.env.kindOf x = some .free) → ∃ c, X.env.cells.lookup x = some c
  cab : ∀ x c, X.fn x = true → X.env.cells.lookup x = some c → X.s_0.heap.objs.size ≤ c
  hd : X.calm = true → X.A.handled = none
  frames : X.A.frames = some X.stack
  stk : X.stack = X.outer ∨ (X.stack = X.env :: X.outer ∧ X.env.frame = some X.env.locals)
  exf : ∀ b ∈ X.ex, b ≠ X.env.locals ∧ ∀ x c, X.env.cells.lookup x = some c → c ≠ b
  bs : ∀ b o, X.base.get? b = some o → X.s_0.heap.get? b = some o ∧ X.H_0 b = none
  bsz : X.base.objs.size ≤ X.s_0.heap.objs.size
  noex : ∀ b o, X.base.get? b = some o → b ∉ X.ex
  exfs : ∀ b ∈ X.ex, b ∉ X.fs
  funs : X.s_0.heap.FunFrames X.base X.outer
  frf : ∀ b ∈ X.fs, X.H_0 b = none
structure Inv (X : Cx) (pins : List (Addr × Obj)) (σ : List (Option V)) (H : Hp) (s : Shared) : Prop where
  ok : X.Ok
  os : s.os = X.s_0.os
  bare : AllBare s.gens
  base : Un X.fs X.ex X.H_0 H X.s_0.heap s.heap
  loc : ∃ m, s.heap.Ns X.env.locals m ∧ ∀ (i : Nat) (x : Str) (v : V), X.N[i]? = some x → σ[i]? = some (some v) → Vis X.env.scope x → ∃ u, RelV v u ∧ Look X.env s.heap m x u
  cell : ∀ x c, X.env.cells.lookup x = some c → ∃ v, s.heap.IsCell c v
  free : H X.env.locals = none
  freeC : ∀ x c, X.env.cells.lookup x = some c → H c = none
  pin : ∀ p ∈ X.pn ++ pins, s.heap.get? p.1 = some p.2 ∧ H p.1 = none ∧ p.1 ≠ X.env.locals ∧ p.1 ∉ X.fs ∧ ∀ v, p.2.data ≠ .cell v
  hok : HOk X.prog X.w H s.heap
  len : σ.length = X.N.length
section
variable {X : Cx} {pins : List (Addr × Obj)} {σ : List (Option V)} {H H' : Hp} {s : Shared} {h' : Heap}
theorem Cx.Ok.nofr (ok : X.Ok) {b : Addr} {o : Obj} (e : X.base.get? b = some o) : b ∉ X.fs := fun hb => by
  have := (ok.funs.mem hb).1
  rw [e] at this; cases this
theorem Inv.bs (I : Inv X pins σ H s) : ∀ b o, X.base.get? b = some o → s.heap.get? b = some o ∧ H b = none := fun b o e =>
  ⟨I.base.keep b o (I.ok.bs b o e).1 (I.ok.bs b o e).2 (I.ok.nofr e) (I.ok.noex b o e), I.base.free b o (I.ok.bs b o e).1 (I.ok.bs b o e).2 (I.ok.noex b o e)⟩
theorem Inv.bk (I : Inv X pins σ H s) : ∀ b o, X.base.get? b = some o → s.heap.get? b = some o := fun b o e => (I.bs b o e).1
theorem Inv.mod (I : Inv X pins σ H s) : Mod X.K X.mg X.base := I.ok.mod
theorem Inv.kIn (I : Inv X pins σ H s) : X.K.In s.heap := I.ok.mod.kin.keeps I.bk
theorem Inv.nolimit (I : Inv X pins σ H s) : s.heap.NoLimit := I.ok.mod.nolimit.keeps I.bk
theorem Inv.lt (I : Inv X pins σ H s) : X.env.locals < s.heap.objs.size := let ⟨_, hn, _⟩ := I.loc; hn.lt
theorem Inv.sz (I : Inv X pins σ H s) : X.s_0.heap.objs.size ≤ s.heap.objs.size := Nat.le_trans I.ok.above (Nat.le_of_lt I.lt)
theorem Inv.nofs (I : Inv X pins σ H s) {a : Addr} (h : s.heap.objs.size ≤ a) : a ∉ X.fs := fun hb => by
  obtain ⟨_, o, ho, _⟩ := I.ok.funs.mem hb
  exact absurd (Nat.lt_of_lt_of_le (Heap.lt_size ho) (Nat.le_trans I.sz h)) (Nat.lt_irrefl _)
theorem Inv.cne (I : Inv X pins σ H s) : ∀ x c, X.env.cells.lookup x = some c → c ≠ X.env.locals := fun x c e z => by
  obtain ⟨v, o, ho, hd⟩ := I.cell x c e
  obtain ⟨m, ⟨o', es, ep, ho', hd', _⟩, _⟩ := I.loc
  rw [z, ho'] at ho; cases ho; rw [hd'] at hd; cases hd
theorem Inv.funs (I : Inv X pins σ H s) : s.heap.FunFrames X.base X.outer := by
  have all : ∀ (l : List Env), (∀ b ∈ frs l, b ∈ X.fs) → X.s_0.heap.FunFrames X.base l → s.heap.FunFrames X.base l := by
    intro l
    induction l with
    | nil => intro _ _; trivial
    | cons env r ih =>
      intro hs hl
      obtain ⟨hk, ⟨L, o, hf, hn, ho, hd⟩, hr⟩ := hl
      have hL : L ∈ X.fs := hs L (by unfold frs; rw [List.filterMap_cons, hf]; exact List.mem_cons_self)
      obtain ⟨sl, e⟩ := I.base.slot L o ho (I.ok.frf L hL) hL fun z => I.ok.exfs L z hL
      exact ⟨hk, ⟨L, _, hf, hn, e, hd⟩, ih (fun b hb => hs b (by unfold frs; rw [List.filterMap_cons, hf]; exact List.mem_cons_of_mem _ hb)) hr⟩
  exact all X.outer (fun _ hb => hb) I.ok.funs
/-- the frames that run, for a call -/
theorem Inv.stack (I : Inv X pins σ H s) : s.heap.FunFrames X.base X.stack := by
  rcases I.ok.stk with e | ⟨e, hf⟩
  · rw [e]; exact I.funs
  · rw [e]
    obtain ⟨m, hn, _⟩ := I.loc
    refine .cons (by rw [I.ok.kind]; decide) hf hn ?_ I.funs
    exact Heap.get?_none_of_le (Nat.le_trans I.ok.bsz I.ok.above)
theorem Inv.stkSub (I : Inv X pins σ H s) : ∀ b ∈ frs X.stack, b ∈ X.env.locals :: X.fs := fun b hb => by
  rcases I.ok.stk with e | ⟨e, hf⟩
  · rw [e] at hb; exact List.mem_cons_of_mem _ hb
  · rw [e] at hb
    unfold frs at hb
    rw [List.filterMap_cons, hf] at hb
    exact hb
theorem Inv.stkFree (I : Inv X pins σ H s) : ∀ b ∈ frs X.stack, H b = none := fun b hb => by
  rcases List.mem_cons.mp (I.stkSub b hb) with e | hb
  · rw [e]; exact I.free
  · obtain ⟨_, o, ho, _⟩ := I.ok.funs.mem hb
    exact I.base.free b o ho (I.ok.frf b hb) fun z => I.ok.exfs b z hb
/-- THE STEP: the untracked objects but the frame and the records at ch are kept (the callers' frames up to slots), the frame's map is kept, the new abstract heap is held -/
theorem Inv.step {g' : Array GenState} {t' : Nat} {d' : Drawn} {ch : List Addr} (I : Inv X pins σ H s)
    (hch : ∀ b ∈ ch, (b ∈ X.ex ∨ X.s_0.heap.objs.size ≤ b) ∧ b ≠ X.env.locals ∧ (∀ x c, X.env.cells.lookup x = some c → c ≠ b) ∧ ∀ p ∈ X.pn ++ pins, p.1 ≠ b)
    (keep : ∀ b o, b ≠ X.env.locals → b ∉ X.fs → b ∉ ch → s.heap.get? b = some o → H b = none → h'.get? b = some o)
    (slot : ∀ b o, b ≠ X.env.locals → b ∈ X.fs → b ∉ ch → s.heap.get? b = some o → H b = none → ∃ sl, h'.get? b = some { o with slots := sl }) (free : ∀ b o, b ∉ ch → s.heap.get? b = some o → H b = none → H' b = none)
    (there : ∀ b o, b ∉ ch → s.heap.get? b = some o → ∃ o', h'.get? b = some o')
    (tups : ∀ b xs, H b = some (.tup xs) → H' b = some (.tup xs)) (frzs : ∀ b o u, H b = some (.frz o u) → H' b = some (.frz o u)) (tbls : ∀ b ps, H b = some (.tbl ps) → ∃ more, H' b = some (.tbl (ps ++ more)))
    (ns : ∀ m, s.heap.Ns X.env.locals m → h'.Ns X.env.locals m) (hok : HOk X.prog X.w H' h') (hg : AllBare g') :
    Inv X pins σ H' { s with heap := h', gens := g', drawn := d', toks := t' } := by
  have neL : ∀ b o, X.s_0.heap.get? b = some o → b ≠ X.env.locals := fun b o e => Nat.ne_of_lt (Nat.lt_of_lt_of_le (Heap.lt_size e) I.ok.above)
  have neC : ∀ b o, X.s_0.heap.get? b = some o → b ∉ X.ex → b ∉ ch := fun b o e hx hb => by
    rcases (hch b hb).1 with z | z
    · exact hx z
    · exact absurd (Nat.lt_of_lt_of_le (Heap.lt_size e) z) (Nat.lt_irrefl _)
  have cellK : ∀ x c, X.env.cells.lookup x = some c → ∀ v, s.heap.IsCell c v → h'.IsCell c v := fun x c e v ⟨o, ho, hd⟩ => by
    have nch : c ∉ ch := fun z => (hch c z).2.2.1 x c e rfl
    by_cases hc : c ∈ X.fs
    · obtain ⟨sl, q⟩ := slot c o (I.cne x c e) hc nch ho (I.freeC x c e)
      exact ⟨_, q, hd⟩
    · exact ⟨o, keep c o (I.cne x c e) hc nch ho (I.freeC x c e), hd⟩
  refine ⟨I.ok, I.os, hg, ⟨fun b o e n hb hx => ?_, fun b o e n hb hx => ?_, fun b o e n hx => ?_, fun b o e hx => ?_, fun b xs e => tups b xs (I.base.tups b xs e), fun b o xs e => frzs b o xs (I.base.frzs b o xs e), fun b ps e => ?_⟩, ?_, fun x c e => ?_, ?_, fun x c e => ?_, fun p hp => ?_, hok, I.len⟩
  · exact keep b o (neL b o e) hb (neC b o e hx) (I.base.keep b o e n hb hx) (I.base.free b o e n hx)
  · obtain ⟨sl, e1⟩ := I.base.slot b o e n hb hx
    obtain ⟨sl', e2⟩ := slot b _ (neL b o e) hb (neC b o e hx) e1 (I.base.free b o e n hx)
    exact ⟨sl', e2⟩
  · obtain ⟨o', e1⟩ := I.base.there b o e hx
    exact free b o' (neC b o e hx) e1 (I.base.free b o e n hx)
  · obtain ⟨o', e1⟩ := I.base.there b o e hx
    exact there b o' (neC b o e hx) e1
  · obtain ⟨m1, e1⟩ := I.base.tbls b ps e
    obtain ⟨m2, e2⟩ := tbls b _ e1
    exact ⟨m1 ++ m2, by rw [e2, Array.append_assoc]⟩
  · obtain ⟨m, hn, hl⟩ := I.loc
    refine ⟨m, ns m hn, fun i x v e1 e2 e3 => ?_⟩
    obtain ⟨u, r, l⟩ := hl i x v e1 e2 e3
    refine ⟨u, r, ?_⟩
    rcases l with l | ⟨k, c, e, z⟩
    · exact .inl l
    · exact .inr ⟨k, c, e, cellK x c e _ z⟩
  · obtain ⟨v, z⟩ := I.cell x c e
    exact ⟨v, cellK x c e v z⟩
  · obtain ⟨m, ⟨o, _, _, ho, _⟩, _⟩ := I.loc
    exact free _ o (fun z => (hch _ z).2.1 rfl) ho I.free
  · obtain ⟨v, o, ho, hd⟩ := I.cell x c e
    exact free c o (fun z => (hch c z).2.2.1 x c e rfl) ho (I.freeC x c e)
  · obtain ⟨e, n, ne, nf, d⟩ := I.pin p hp
    have nch : p.1 ∉ ch := fun z => (hch p.1 z).2.2.2 p hp rfl
    exact ⟨keep p.1 p.2 ne nf nch e n, free p.1 p.2 nch e n, ne, nf, d⟩
/-- .. where the frame's own object is kept too -/
theorem Inv.un {t' : Nat} (I : Inv X pins σ H s) (u : Un X.fs [] H H' s.heap h') (hok : HOk X.prog X.w H' h') : Inv X pins σ H' { s with heap := h', toks := t' } := by
  obtain ⟨m, ⟨o, es, ep, ho, r⟩, _⟩ := id I.loc
  obtain ⟨sl, hL⟩ := u.any ho I.free (by simp)
  exact I.step (g' := s.gens) (d' := s.drawn) (ch := []) (fun _ z => nomatch z) (fun b o _ hb _ e n => u.keep b o e n hb (by simp)) (fun b o _ hb _ e n => u.slot b o e n hb (by simp)) (fun b o _ e n => u.free b o e n (by simp)) (fun b o _ e => u.there b o e (by simp)) u.tups u.frzs u.tbls (fun m' hm => by
    obtain ⟨o', es', ep', ho', r'⟩ := hm
    rw [ho] at ho'; cases ho'
    exact ⟨_, es', ep', hL, r'⟩) hok I.bare
/-- behind a call (or a comprehension's block): the slots of this frame may have changed too, the records at ch may have turned -/
theorem Inv.call {g' : Array GenState} {t' : Nat} {d' : Drawn} {ch : List Addr} (I : Inv X pins σ H s) (u : Un (frs X.stack) ch H H' s.heap h') (hok : HOk X.prog X.w H' h') (hg : AllBare g')
    (hch : ∀ b ∈ ch, (b ∈ X.ex ∨ X.s_0.heap.objs.size ≤ b) ∧ b ≠ X.env.locals ∧ (∀ x c, X.env.cells.lookup x = some c → c ≠ b) ∧ ∀ p ∈ X.pn ++ pins, p.1 ≠ b) :
    Inv X pins σ H' { s with heap := h', gens := g', drawn := d', toks := t' } := by
  obtain ⟨m, ⟨o, es, ep, ho, r⟩, _⟩ := id I.loc
  obtain ⟨sl, hL⟩ := u.any ho I.free fun z => (hch _ z).2.1 rfl
  exact I.step (ch := ch) hch (fun b o hL hb hc e n => u.keep b o e n (fun z => (List.mem_cons.mp (I.stkSub b z)).elim hL hb) hc) (fun b o _ _ hc e n => u.any e n hc) (fun b o hc e n => u.free b o e n hc) (fun b o hc e => u.there b o e hc) u.tups u.frzs u.tbls (fun m' hm => by
    obtain ⟨o', es', ep', ho', r'⟩ := hm
    rw [ho] at ho'; cases ho'
    exact ⟨_, es', ep', hL, r'⟩) hok hg
/-- an untracked record of ours (an iterator) has turned -/
theorem Inv.turned {t' : Nat} {it : Addr} (I : Inv X pins σ H s) (k : ∀ b o, b ≠ it → s.heap.get? b = some o → h'.get? b = some o) (hn : H it = none) (hL : it ≠ X.env.locals)
    (h1 : it ∈ X.ex ∨ X.s_0.heap.objs.size ≤ it) (h2 : ∀ x c, X.env.cells.lookup x = some c → c ≠ it) (h3 : ∀ p ∈ X.pn ++ pins, p.1 ≠ it) : Inv X pins σ H { s with heap := h', toks := t' } := by
  have nit : ∀ b u, H b = some u → b ≠ it := fun b u e z => by rw [z, hn] at e; cases e
  refine I.step (g' := s.gens) (d' := s.drawn) (ch := [it]) (fun b hb => ?_) (fun b o _ _ hc e _ => k b o (fun z => hc (by simp [z])) e) (fun b o _ _ hc e _ => ⟨o.slots, k b o (fun z => hc (by simp [z])) e⟩) (fun _ _ _ _ n => n)
    (fun b o hc e => ⟨o, k b o (fun z => hc (by simp [z])) e⟩) (fun _ _ e => e) (fun _ _ _ e => e) (fun b ps e => ⟨#[], by rw [e]; simp⟩) (fun m hm => ?_) (fun b u e => ?_) I.bare
  · have e : b = it := by simpa using hb
    subst e
    exact ⟨h1, hL, h2, h3⟩
  · obtain ⟨o, es, ep, ho, r⟩ := hm
    exact ⟨o, es, ep, k _ o (Ne.symm hL) ho, r⟩
  · refine (I.hok b u e).stay (fun c v hc q => k c v ?_ q) (fun _ q => q) fun _ _ q => q
    rcases hc with z | z
    · rw [z]; exact nit b u e
    · exact nit c _ z
theorem Inv.tok (I : Inv X pins σ H s) (t : Nat) : Inv X pins σ H { s with toks := t } := I.un (h' := s.heap) (t' := t) Un.refl I.hok
/-- all objects kept -/
theorem Inv.kept {t' : Nat} (I : Inv X pins σ H s) (k : ∀ b u, s.heap.get? b = some u → h'.get? b = some u) : Inv X pins σ H { s with heap := h', toks := t' } := I.un (Un.kept k) (I.hok.kept k)
/-- a new object laid and tracked -/
theorem Inv.laid {a : Addr} {o : HO} {t' : Nat} (I : Inv X pins σ H s) (k : ∀ b u, s.heap.get? b = some u → h'.get? b = some u) (hp : s.heap.objs.size ≤ a) (new : ObjOk X.prog X.w (upd H a o) h' a o) :
    Inv X pins σ (upd H a o) { s with heap := h', toks := t' } := I.un (Un.laid k hp (I.hok.fresh hp)) (I.hok.laid k hp new)
/-- an object written -/
theorem Inv.write {x e : Addr} {o : HO} {t' : Nat} (I : Inv X pins σ H s) (mu : Mut (H x)) (he : e = x ∨ H e = some (.own x)) (k : ∀ b u, b ≠ e → s.heap.get? b = some u → h'.get? b = some u) (heo : ∃ u, h'.get? e = some u)
    (new : ObjOk X.prog X.w (upd H x o) h' x o) : Inv X pins σ (upd H x o) { s with heap := h', toks := t' } := I.un (Un.write mu he k heo) (I.hok.write mu he k heo new)
/-- forgetting slots, pins -/
theorem Inv.weak {σ' : List (Option V)} (I : Inv X pins σ H s) (hl : σ'.length = σ.length) (w : ∀ (i : Nat) v, σ'[i]? = some (some v) → σ[i]? = some (some v)) : Inv X pins σ' H s :=
  ⟨I.ok, I.os, I.bare, I.base, let ⟨m, hn, hl'⟩ := I.loc; ⟨m, hn, fun i x v e1 e2 e3 => hl' i x v e1 (w i v e2) e3⟩, I.cell, I.free, I.freeC, I.pin, I.hok, hl.trans I.len⟩
theorem Inv.pins_of {pins' : List (Addr × Obj)} (I : Inv X pins σ H s) (h : ∀ p ∈ pins', s.heap.get? p.1 = some p.2 ∧ H p.1 = none ∧ p.1 ≠ X.env.locals ∧ p.1 ∉ X.fs ∧ ∀ v, p.2.data ≠ .cell v) : Inv X pins' σ H s :=
  ⟨I.ok, I.os, I.bare, I.base, I.loc, I.cell, I.free, I.freeC, fun p hp => (List.mem_append.mp hp).elim (fun z => I.pin p (List.mem_append_left _ z)) (h p), I.hok, I.len⟩
theorem nodup_ix {N : List Str} (hN : N.Nodup) {i j : Nat} {x : Str} (a : N[i]? = some x) (b : N[j]? = some x) : i = j := by
  obtain ⟨h1, e1⟩ := List.getElem?_eq_some_iff.mp a
  obtain ⟨h2, e2⟩ := List.getElem?_eq_some_iff.mp b
  exact (List.getElem_inj hN).mp (e1.trans e2.symm)
/-- a name is stored; what changed -/
theorem store_ok2 {M : Model} {A : Around} {E : Value → Shared → Prop} {i : Nat} {x : Str} {v : V} {u : Value} {Q : Unit → Shared → Prop} (I : Inv X pins σ H s) (hN : X.N.Nodup) (hi : X.N[i]? = some x) (hx : Loc X.env.scope x) (r : RelV v u)
    (h : ∀ s', Inv X pins (σ.set i (some v)) H s' → (∃ a, Heap.SameBut a s.heap s'.heap ∧ (a = X.env.locals ∨ X.env.cells.lookup x = some a)) → Q () s') (hf : X.fn x = true ∨ X.env.scope.names.lookup x = some .local := by first | exact .inl rfl | exact .inr rfl | assumption) : wpAny M A (storeName X.env x u) Q E s := by
  obtain ⟨m, hn, hl⟩ := id I.loc
  have hcls : (X.env.scope.kind == .class || (X.env.scope.kind == .module && X.env.locals != X.env.globals)) = false := by rw [I.ok.kind]; rfl
  have hiσ : i < σ.length := by rw [I.len]; exact (List.getElem?_eq_some_iff.mp hi).1
  have cne := I.cne
  have tracked : ∀ {a : Addr} {h' : Heap}, (∃ o, s.heap.get? a = some o ∧ H a = none) → Heap.SameBut a s.heap h' → HOk X.prog X.w H h' := fun {a h'} ha hs b ob e => by
    obtain ⟨_, _, hfree⟩ := ha
    refine (I.hok b ob e).stay (fun c w' hc q => (hs.2 c ?_).trans q) (fun _ q => q) fun _ _ q => q
    rintro rfl
    rcases hc with rfl | hc
    · rw [hfree] at e; cases e
    · rw [hfree] at hc; cases hc
  rcases hx with hk | hk
  · refine wpAny_storeName_local hk hn (fun h' hn' hs => ?_) hcls
    obtain ⟨oL, _, _, hoL, _⟩ := id hn
    refine h _ ⟨I.ok, I.os, I.bare, ⟨fun b o e n hb hx => ?_, fun b o e n hb hx => ?_, I.base.free, fun b o e hx => ?_, I.base.tups, I.base.frzs, I.base.tbls⟩, ⟨_, hn', fun j y v' e1 e2 e3 => ?_⟩, fun y c e => ?_, I.free, I.freeC, fun p hp => ?_, tracked ⟨oL, hoL, I.free⟩ hs, by simpa using I.len⟩ ⟨_, hs, .inl rfl⟩
    · exact (hs.2 b (Nat.ne_of_lt (Nat.lt_of_lt_of_le (Heap.lt_size e) I.ok.above))).trans (I.base.keep b o e n hb hx)
    · obtain ⟨sl, e1⟩ := I.base.slot b o e n hb hx
      exact ⟨sl, (hs.2 b (Nat.ne_of_lt (Nat.lt_of_lt_of_le (Heap.lt_size e) I.ok.above))).trans e1⟩
    · obtain ⟨o', e1⟩ := I.base.there b o e hx
      exact ⟨o', (hs.2 b (Nat.ne_of_lt (Nat.lt_of_lt_of_le (Heap.lt_size e) I.ok.above))).trans e1⟩
    · by_cases hj : j = i
      · subst hj
        rw [hi] at e1; cases e1
        rw [List.getElem?_set_self hiσ] at e2
        cases e2
        exact ⟨u, r, .inl ⟨hk, by simp⟩⟩
      · rw [List.getElem?_set_ne (Ne.symm hj)] at e2
        obtain ⟨u', r', q⟩ := hl j y v' e1 e2 e3
        refine ⟨u', r', ?_⟩
        rcases q with ⟨k, e⟩ | ⟨k, c, e, z⟩
        · refine .inl ⟨k, ?_⟩
          have : y ≠ x := fun e => hj (nodup_ix hN e1 (e ▸ hi))
          simp [this, e]
        · exact .inr ⟨k, c, e, z.sameBut hs (cne y c e)⟩
    · obtain ⟨w', z⟩ := I.cell y c e
      exact ⟨w', z.sameBut hs (cne y c e)⟩
    · obtain ⟨e, n, ne, nf, d⟩ := I.pin p hp
      exact ⟨(hs.2 p.1 ne).trans e, n, ne, nf, d⟩
  · have hfn : X.fn x = true := by
      rcases hf with z | z
      · exact z
      · rw [z] at hk; cases hk
    obtain ⟨c, hc⟩ := I.ok.has x (.inl hk)
    obtain ⟨w', z⟩ := I.cell x c hc
    refine wpAny_storeName_cell I.ok.kind hk hc z (fun h' hc' hs => ?_)
    obtain ⟨oc, hoc, hocd⟩ := id z
    refine h { s with heap := h' } ⟨I.ok, I.os, I.bare, ⟨fun b o e n hb hx => ?_, fun b o e n hb hx => ?_, I.base.free, fun b o e hx => ?_, I.base.tups, I.base.frzs, I.base.tbls⟩, ⟨m, hn.sameBut hs (Ne.symm (cne x c hc)), fun j y v' e1 e2 e3 => ?_⟩, fun y c' e => ?_, I.free, I.freeC, fun p hp => ?_, tracked ⟨oc, hoc, I.freeC x c hc⟩ hs, by simpa using I.len⟩ ⟨c, hs, .inr hc⟩
    · exact (hs.2 b (Nat.ne_of_lt (Nat.lt_of_lt_of_le (Heap.lt_size e) (I.ok.cab x c hfn hc)))).trans (I.base.keep b o e n hb hx)
    · obtain ⟨sl, e1⟩ := I.base.slot b o e n hb hx
      exact ⟨sl, (hs.2 b (Nat.ne_of_lt (Nat.lt_of_lt_of_le (Heap.lt_size e) (I.ok.cab x c hfn hc)))).trans e1⟩
    · obtain ⟨o', e1⟩ := I.base.there b o e hx
      exact ⟨o', (hs.2 b (Nat.ne_of_lt (Nat.lt_of_lt_of_le (Heap.lt_size e) (I.ok.cab x c hfn hc)))).trans e1⟩
    · by_cases hj : j = i
      · subst hj
        rw [hi] at e1; cases e1
        rw [List.getElem?_set_self hiσ] at e2
        cases e2
        exact ⟨u, r, .inr ⟨.inl hk, c, hc, hc'⟩⟩
      · rw [List.getElem?_set_ne (Ne.symm hj)] at e2
        obtain ⟨u', r', q⟩ := hl j y v' e1 e2 e3
        refine ⟨u', r', ?_⟩
        rcases q with q | ⟨k, c', e, z'⟩
        · exact .inl q
        · refine .inr ⟨k, c', e, z'.sameBut hs ?_⟩
          rintro rfl
          exact hj (nodup_ix hN e1 (I.ok.inj _ _ _ e hc ▸ hi))
    · by_cases hcc : c' = c
      · subst hcc; exact ⟨_, hc'⟩
      · obtain ⟨w2, z2⟩ := I.cell y c' e
        exact ⟨w2, z2.sameBut hs hcc⟩
    · obtain ⟨e, n, ne, nf, d⟩ := I.pin p hp
      refine ⟨(hs.2 p.1 ?_).trans e, n, ne, nf, d⟩
      intro q
      rw [q, hoc] at e
      have q' : oc = p.2 := Option.some.inj e
      exact d w' (by rw [← q']; exact hocd)
theorem store_ok {M : Model} {A : Around} {E : Value → Shared → Prop} {i : Nat} {x : Str} {v : V} {u : Value} {Q : Unit → Shared → Prop} (I : Inv X pins σ H s) (hN : X.N.Nodup) (hi : X.N[i]? = some x) (hx : Loc X.env.scope x) (r : RelV v u)
    (h : ∀ s', Inv X pins (σ.set i (some v)) H s' → Q () s') (hf : X.fn x = true ∨ X.env.scope.names.lookup x = some .local := by first | exact .inl rfl | exact .inr rfl | assumption) : wpAny M A (storeName X.env x u) Q E s :=
  store_ok2 I hN hi hx r (fun s' I' _ => h s' I') hf
/-- behind a call or a block, the state as it is -/
theorem Inv.call' {s' : Shared} {ch : List Addr} (I : Inv X pins σ H s) (ho : s'.os = s.os) (u : Un (frs X.stack) ch H H' s.heap s'.heap) (hok : HOk X.prog X.w H' s'.heap) (hg : AllBare s'.gens)
    (hch : ∀ b ∈ ch, (b ∈ X.ex ∨ X.s_0.heap.objs.size ≤ b) ∧ b ≠ X.env.locals ∧ (∀ x c, X.env.cells.lookup x = some c → c ≠ b) ∧ ∀ p ∈ X.pn ++ pins, p.1 ≠ b) : Inv X pins σ H' s' := by
  obtain ⟨h', g', d', t', o'⟩ := s'
  have e : o' = s.os := ho
  subst e
  exact I.call (g' := g') (t' := t') (d' := d') u hok hg hch
end
/-! ### the judgements -/
/-- an exception: its class, its own dict's address (where it has one), the abstract heap behind it -/
abbrev XK := Value → Option Addr → Hp → Prop
abbrev St := List (Option V)
abbrev VK := V → Hp → Prop
/-- an expression's reading; a test's; an argument list's -/
abbrev TE := St → Hp → VK → Prop
abbrev TT := St → Hp → (Bool → Hp → Prop) → Prop
abbrev TA := St → Hp → (List V → Hp → Prop) → Prop
/-- what is wanted behind a statement -/
structure Ends where
  nx : St → Hp → Prop
  rt : VK
  bk : St → Hp → Prop := fun _ _ => False
  ct : St → Hp → Prop := fun _ _ => False
abbrev TS := Ends → St → Hp → Prop
def EP (X : Cx) (pins : List (Addr × Obj)) (σ : St) (Q : VK) (u : Value) (s' : Shared) : Prop := ∃ v H', Inv X pins σ H' s' ∧ RelV v u ∧ Q v H'
def TP (X : Cx) (pins : List (Addr × Obj)) (σ : St) (Q : Bool → Hp → Prop) (b : Bool) (s' : Shared) : Prop := ∃ H', Inv X pins σ H' s' ∧ Q b H'
def AP (X : Cx) (pins : List (Addr × Obj)) (σ : St) (Q : List V → Hp → Prop) (us : List Value) (s' : Shared) : Prop := ∃ vs H', Inv X pins σ H' s' ∧ Vals vs us ∧ Q vs H'
def SP (X : Cx) (pins : List (Addr × Obj)) (D : Ends) (f : Flow) (s' : Shared) : Prop :=
  match f with
  | .next => ∃ σ' H', Inv X pins σ' H' s' ∧ D.nx σ' H'
  | .brk => ∃ σ' H', Inv X pins σ' H' s' ∧ D.bk σ' H'
  | .cont => ∃ σ' H', Inv X pins σ' H' s' ∧ D.ct σ' H'
  | .ret u => ∃ v σ' H', Inv X pins σ' H' s' ∧ RelV v u ∧ D.rt v H'
def PE (X : Cx) (e : Expr) (t : TE) : Prop :=
  ∀ (pins : List (Addr × Obj)) (s : Shared) (σ : St) (H : Hp) (Q : VK), Inv X pins σ H s → t σ H Q → wpAny (model X.prog X.w) X.A (eval e X.env) (EP X pins σ Q) X.xe s
def PT (X : Cx) (e : Expr) (t : TT) : Prop :=
  ∀ (pins : List (Addr × Obj)) (s : Shared) (σ : St) (H : Hp) (Q : Bool → Hp → Prop), Inv X pins σ H s → t σ H Q → wpAny (model X.prog X.w) X.A (isTrue e X.env (eval e X.env)) (TP X pins σ Q) X.xe s
/-- a test whatever its 'whole' is (and, or) -/
def PW (X : Cx) (e : Expr) (t : TT) : Prop :=
  ∀ (whole : Sem Value) (pins : List (Addr × Obj)) (s : Shared) (σ : St) (H : Hp) (Q : Bool → Hp → Prop), Inv X pins σ H s → t σ H Q → wpAny (model X.prog X.w) X.A (isTrue e X.env whole) (TP X pins σ Q) X.xe s
theorem PW.pt {X : Cx} {e : Expr} {t : TT} (h : PW X e t) : PT X e t := h _
/-- an argument list (no star), from the left -/
def PA (X : Cx) (es : List Expr) (t : TA) : Prop :=
  ∀ (pos : Pos) (pins : List (Addr × Obj)) (s : Shared) (σ : St) (H : Hp) (Q : List V → Hp → Prop), Inv X pins σ H s → t σ H Q → wpAny (model X.prog X.w) X.A (spliced (backTo pos (starEach es X.env))) (AP X pins σ Q) X.xe s
def PS (X : Cx) (st : Stmt) (t : TS) : Prop :=
  ∀ (pins : List (Addr × Obj)) (s : Shared) (σ : St) (H : Hp) (D : Ends), Inv X pins σ H s → t D σ H → wpAny (model X.prog X.w) X.A (exec st X.env) (SP X pins D) X.xe s
def PSs (X : Cx) (st : List Stmt) (t : TS) : Prop :=
  ∀ (pins : List (Addr × Obj)) (s : Shared) (σ : St) (H : Hp) (D : Ends), Inv X pins σ H s → t D σ H → wpAny (model X.prog X.w) X.A (execs st X.env) (SP X pins D) X.xe s
/-- weaken the end -/
theorem thn {α : Type} {t : Sem α} {Q Q' : α → Shared → Prop} {M : Model} {A : Around} {E : Value → Shared → Prop} {s : Shared} (h : wpAny M A t Q E s) (hQ : ∀ a s, Q a s → Q' a s) : wpAny M A t Q' E s := wpAny_mono h hQ fun _ _ x => x
end L2
namespace L2
open PySem PySem.Spec PyProof.Rows
section
variable {X : Cx}
/-! ### names and constants -/
def tVar (i : Nat) : TE := fun σ H Q => ∃ v, σ[i]? = some (some v) ∧ Q v H
def tC (v : V) : TE := fun _ H Q => Q v H
theorem pe_var {i : Nat} {x : Str} {pos : Pos} (hN : X.N[i]? = some x) (hv : Vis X.env.scope x) (hd : (x == ("__debug__" : Str)) = false := by decide) (hcd : (x == ("__classdict__" : Str)) = false := by decide) : PE X (.Name x pos) (tVar i) := by
  intro pins s σ H Q I h
  obtain ⟨v, e, h⟩ := h
  obtain ⟨m, hn, hl⟩ := I.loc
  obtain ⟨u, r, l⟩ := hl i x v hN e hv
  have fin : EP X pins σ Q u s := ⟨v, H, I, r, h⟩
  rcases l with ⟨hk, hm⟩ | ⟨hk, c, hc, hcell⟩
  · exact wpAny_Name (wpAny_loadName_local I.ok.kind hk hn hm fin) hd
  · rcases hk with hk | hk
    · exact wpAny_Name (wpAny_loadName_cell I.ok.kind hk hc hcell fin) hd
    · exact wpAny_Name (wpAny_loadName_free I.ok.kind hk hc hcell fin hcd) hd
theorem pe_int {i j pos} : PE X (.Constant (.int i) j pos) (tC (.int i)) := fun _ _ _ H _ I h => wpAny_Constant_int ⟨.int i, H, I.tok _, ⟨_, rfl⟩, h⟩
theorem pe_bl {b j pos} : PE X (.Constant (.bool b) j pos) (tC (.bl b)) := fun _ _ _ H _ I h => Constant_bool ⟨.bl b, H, I, rfl, h⟩
theorem pe_non {j pos} : PE X (.Constant .none j pos) (tC .non) := fun _ _ _ H _ I h => Constant_none ⟨.non, H, I, rfl, h⟩
/-- a global name of the def -/
def Gl (X : Cx) (x : Str) : Prop := X.env.kindOf x = some .globalImplicit
theorem ld_glob {E : Value → Shared → Prop} {pins : List (Addr × Obj)} {s : Shared} {σ : St} {H : Hp} {x : Str} {u : Value} {pos : Pos} {Q : Value → Shared → Prop} (I : Inv X pins σ H s) (hg : Gl X x) (hm : X.mg x = some u) (h : Q u s)
    (hd : (x == ("__debug__" : Str)) = false := by decide) : wpAny (model X.prog X.w) X.A (eval (.Name x pos) X.env) Q E s :=
  Calls.Name_function_global I.ok.kind hg (Calls.loadGlobal_global (by rw [I.ok.glob]; exact I.mod.glob.keeps I.bk) hm h) hd
theorem ld_blt {E : Value → Shared → Prop} {pins : List (Addr × Obj)} {s : Shared} {σ : St} {H : Hp} {x : Str} {u : Value} {pos : Pos} {Q : Value → Shared → Prop} (I : Inv X pins σ H s) (hg : Gl X x) (hm : X.mg x = none) (hv : bootBuiltins x = some u) (h : Q u s)
    (hn : x ≠ "__name__" := by decide) (hd : (x == ("__debug__" : Str)) = false := by decide) : wpAny (model X.prog X.w) X.A (eval (.Name x pos) X.env) Q E s := by
  obtain ⟨mb, h1, h2⟩ := I.mod.blt
  exact Calls.Name_function_global I.ok.kind hg (Calls.loadGlobal_builtin (by rw [I.ok.glob]; exact I.mod.glob.keeps I.bk) hm (by rw [I.ok.blt]; exact h1.keeps I.bk) ((h2 x hn).trans hv) h) hd
/-- a module's constant, a class, a function, as a value -/
theorem pe_glob {x : Str} {v : V} {u : Value} {pos : Pos} (hg : Gl X x) (hm : X.mg x = some u) (r : RelV v u) (hd : (x == ("__debug__" : Str)) = false := by decide) : PE X (.Name x pos) (tC v) :=
  fun _ _ _ H _ I h => ld_glob I hg hm ⟨v, H, I, r, h⟩ hd
/-! ### arithmetic -/
variable {a b : Expr} {ta tb : TE} {pos : Pos}
/-! ### comparisons -/
/-- a comparison as a value, as a test -/
def tB (t : TE) : TT := fun σ H Q => t σ H fun x H1 => ∃ c, x = .bl c ∧ Q c H1
/-- an expression whose value is a bool, as a test -/
theorem pt_val {e : Expr} {t : TE} (h : PE X e t) (he : ∀ whole, isTrue e X.env whole = (do let v ← whole; standAt e.pos; holding [v] (truthy v)) := by intro _; rfl) : PT X e (tB t) := by
  intro pins s σ H Q I hw
  refine isTrue_plain (thn (h pins s σ H _ I hw) fun v s1 ⟨x, H1, I1, r1, q1⟩ => ?_) (he _)
  obtain ⟨d, rfl, q⟩ := q1
  cases r1
  exact wpAny_truthy_bool ⟨H1, I1, q⟩
/-! ### and, or, not -/
variable {tA tB' : TT} {rest : List Expr}
def tAnd (t u : TT) : TT := fun σ H Q => t σ H fun c H1 => if c = true then u σ H1 Q else Q false H1
def tOr (t u : TT) : TT := fun σ H Q => t σ H fun c H1 => if c = true then Q true H1 else u σ H1 Q
def tNot (t : TT) : TT := fun σ H Q => t σ H fun c H1 => Q (!c) H1
theorem pw_and1 (ha : PT X a tA) : PW X (.BoolOp .And [a] pos) tA := by
  intro wh pins s σ H Q I h
  refine isTrue_and (thn (ha pins s σ H Q I h) fun c s1 e => ?_)
  cases c with
  | true => exact isTrue_and_nil e
  | false => exact e
theorem pw_or1 (ha : PT X a tA) : PW X (.BoolOp .Or [a] pos) tA := by
  intro wh pins s σ H Q I h
  refine isTrue_or (thn (ha pins s σ H Q I h) fun c s1 e => ?_)
  cases c with
  | false => exact isTrue_or_nil e
  | true => exact e
theorem pw_and (ha : PT X a tA) (hb : PW X (.BoolOp .And (b :: rest) pos) tB') : PW X (.BoolOp .And (a :: b :: rest) pos) (tAnd tA tB') := by
  intro wh pins s σ H Q I h
  refine isTrue_and (thn (ha pins s σ H _ I h) fun c s1 ⟨H1, I1, q1⟩ => ?_)
  cases c with
  | true => exact hb wh pins s1 σ H1 Q I1 q1
  | false => exact ⟨H1, I1, q1⟩
theorem pw_or (ha : PT X a tA) (hb : PW X (.BoolOp .Or (b :: rest) pos) tB') : PW X (.BoolOp .Or (a :: b :: rest) pos) (tOr tA tB') := by
  intro wh pins s σ H Q I h
  refine isTrue_or (thn (ha pins s σ H _ I h) fun c s1 ⟨H1, I1, q1⟩ => ?_)
  cases c with
  | true => exact ⟨H1, I1, q1⟩
  | false => exact hb wh pins s1 σ H1 Q I1 q1
theorem pt_not (ha : PT X a tA) : PT X (.UnaryOp .Not a pos) (tNot tA) := by
  intro pins s σ H Q I h
  exact isTrue_not (ha pins s σ H (fun c H1 => Q (!c) H1) I h)
/-- .. as values (bools) -/
def tAndV (ta tb : TE) : TE := fun σ H Q => ta σ H fun x H1 => ∃ c, x = .bl c ∧ if c = true then tb σ H1 Q else Q (.bl false) H1
theorem pe_one {op} {t : TE} (h : PE X a t) : PE X (.BoolOp op [a] pos) t := fun pins s σ H Q I hw => BoolOp_one (h pins s σ H Q I hw)
theorem pe_and (ha : PE X a ta) (hb : PE X (.BoolOp .And (b :: rest) pos) tb) : PE X (.BoolOp .And (a :: b :: rest) pos) (tAndV ta tb) := by
  intro pins s σ H Q I h
  refine BoolOp_and (thn (ha pins s σ H _ I h) fun v s1 ⟨x, H1, I1, r1, q1⟩ => ?_)
  obtain ⟨c, rfl, q1⟩ := q1
  cases r1
  refine wpAny_truthy_bool ?_
  cases c with
  | true => exact hb pins s1 σ H1 Q I1 q1
  | false => exact ⟨.bl false, H1, I1, rfl, q1⟩
/-- a if t else b -/
def tIf (t : TT) (ta tb : TE) : TE := fun σ H Q => t σ H fun c H1 => if c = true then ta σ H1 Q else tb σ H1 Q
theorem pe_ifExp {c : Expr} (hc : PT X c tA) (ha : PE X a ta) (hb : PE X b tb) : PE X (.IfExp c a b pos) (tIf tA ta tb) := by
  intro pins s σ H Q I h
  refine wpAny_IfExp (thn (hc pins s σ H _ I h) fun d s1 ⟨H1, I1, q1⟩ => ?_)
  cases d with
  | true => exact ha pins s1 σ H1 Q I1 q1
  | false => exact hb pins s1 σ H1 Q I1 q1
end
end L2
namespace L2
open PySem PySem.Spec PyProof.Rows
/-! ### a list, a tuple that is read: tracked, frozen, or an object of the module -/
def SqL (K : PySem.W.Frag) (H : Hp) (a : Addr) (xs : List V) : Prop :=
  Rd H a (.lst xs) ∨
    ∃ (o : Obj) (its : Array Value) (n : Nat), K.lookup a = some o ∧ o.cls = .type "list" ∧ o.dict = none ∧ o.data = .seq its n ∧ its.size ≤ sizeLine ∧ Vals xs its.toList
def SqT (K : PySem.W.Frag) (H : Hp) (a : Addr) (xs : List V) : Prop :=
  Rd H a (.tup xs) ∨
    ∃ (o : Obj) (its : Array Value) (n : Nat), K.lookup a = some o ∧ o.cls = .type "tuple" ∧ o.data = .seq its n ∧ its.size ≤ sizeLine ∧ Vals xs its.toList
def absV : Value → Option V
  | .none => some .non
  | .bool b => some (.bl b)
  | .int i _ => some (.int i)
  | .str x _ => some (.str x)
  | .bytes b _ => some (.byt b)
  | .float b _ => some (.flt b)
  | .ref a => some (.ref a)
  | .type n => some (.ty n)
  | _ => none
theorem RelV.abs {x : V} {u : Value} (r : RelV x u) : absV u = some x := by
  cases x with
  | non => cases r; rfl
  | bl _ => cases r; rfl
  | int _ => obtain ⟨t, rfl⟩ := r; rfl
  | str _ => obtain ⟨t, rfl⟩ := r; rfl
  | byt _ => obtain ⟨t, rfl⟩ := r; rfl
  | flt _ => obtain ⟨t, rfl⟩ := r; rfl
  | ref _ => cases r; rfl
  | ty _ => cases r; rfl
theorem RelV.inj {x y : V} {u : Value} (r : RelV x u) (q : RelV y u) : x = y := Option.some.inj (r.abs.symm.trans q.abs)
theorem Vals.inj : ∀ {xs ys : List V} {us : List Value}, Vals xs us → Vals ys us → xs = ys
  | _, _, _, .nil, .nil => rfl
  | _, _, _, .cons r t, .cons r' t' => by rw [r.inj r', Vals.inj t t']
section
variable {X : Cx} {pins : List (Addr × Obj)} {σ : St} {H : Hp} {s : Shared} {a : Addr} {xs ys : List V}
theorem SqL.of {K : PySem.W.Frag} (h : H a = some (.lst xs)) : SqL K H a xs := .inl (.inl h)
theorem SqT.of {K : PySem.W.Frag} (h : H a = some (.tup xs)) : SqT K H a xs := .inl (.inl h)
theorem Inv.list (I : Inv X pins σ H s) (h : SqL X.K H a xs) : ∃ its : List Value, Vals xs its ∧ PlainL s.heap a its.toArray ∧ xs.length ≤ sizeLine := by
  rcases h with h | ⟨o, its, n, hk, hc, hd, hs, hz, r⟩
  · obtain ⟨z, its, n, r, e⟩ := h.ok I.hok
    exact ⟨its, r, ⟨_, n, e, rfl, rfl, rfl⟩, z⟩
  · refine ⟨its.toList, r, ⟨o, n, I.kIn a o hk, hc, hd, by simpa using hs⟩, ?_⟩
    have e := r.length
    simp only [Array.length_toList] at e
    omega
theorem Inv.tuple (I : Inv X pins σ H s) (h : SqT X.K H a xs) : ∃ its : List Value, Vals xs its ∧ IsTup s.heap a its.toArray ∧ xs.length ≤ sizeLine := by
  rcases h with h | ⟨o, its, n, hk, hc, hs, hz, r⟩
  · obtain ⟨z, its, r, p⟩ := h.ok I.hok
    exact ⟨its, r, p, z⟩
  · refine ⟨its.toList, r, ⟨o, I.kIn a o hk, hc, n, by simpa using hs⟩, ?_⟩
    have e := r.length
    simp only [Array.length_toList] at e
    omega
theorem Inv.list_inj (I : Inv X pins σ H s) (h : SqL X.K H a xs) (h' : SqL X.K H a ys) : xs = ys := by
  obtain ⟨its, r, ⟨o, n, e, _, _, d⟩, _⟩ := I.list h
  obtain ⟨its', r', ⟨o', n', e', _, _, d'⟩, _⟩ := I.list h'
  rw [e] at e'; cases e'
  rw [d] at d'
  injection d' with d1 _
  have : its = its' := by simpa using congrArg Array.toList d1
  subst this
  exact r.inj r'
theorem Inv.tuple_inj (I : Inv X pins σ H s) (h : SqT X.K H a xs) (h' : SqT X.K H a ys) : xs = ys := by
  obtain ⟨its, r, ⟨o, e, _, n, d⟩, _⟩ := I.tuple h
  obtain ⟨its', r', ⟨o', e', _, n', d'⟩, _⟩ := I.tuple h'
  rw [e] at e'; cases e'
  rw [d] at d'
  injection d' with d1 _
  have : its = its' := by simpa using congrArg Array.toList d1
  subst this
  exact r.inj r'
end
/-! ### another wish about exceptions -/
abbrev Cx.wish (X : Cx) (E : Value → Shared → Prop) : Cx := { X with xe := E }
/-- no exception leaves -/
abbrev Cx.nox (X : Cx) : Cx := X.wish fun _ _ => False
theorem Cx.Ok.wish {X : Cx} (ok : X.Ok) (E : Value → Shared → Prop) : (X.wish E).Ok :=
  ⟨ok.mod, ok.kind, ok.glob, ok.blt, ok.above, ok.inj, ok.has, ok.cab, ok.hd, ok.frames, ok.stk, ok.exf, ok.bs, ok.bsz, ok.noex, ok.exfs, ok.funs, ok.frf⟩
theorem Cx.Ok.unwish {X : Cx} {E : Value → Shared → Prop} (ok : (X.wish E).Ok) : X.Ok :=
  ⟨ok.mod, ok.kind, ok.glob, ok.blt, ok.above, ok.inj, ok.has, ok.cab, ok.hd, ok.frames, ok.stk, ok.exf, ok.bs, ok.bsz, ok.noex, ok.exfs, ok.funs, ok.frf⟩
section
variable {X : Cx} {pins : List (Addr × Obj)} {σ : St} {H : Hp} {s : Shared} {E : Value → Shared → Prop}
theorem Inv.wish (I : Inv X pins σ H s) (E : Value → Shared → Prop) : Inv (X.wish E) pins σ H s := ⟨I.ok.wish E, I.os, I.bare, I.base, I.loc, I.cell, I.free, I.freeC, I.pin, I.hok, I.len⟩
theorem Inv.unwish (I : Inv (X.wish E) pins σ H s) : Inv X pins σ H s := ⟨I.ok.unwish, I.os, I.bare, I.base, I.loc, I.cell, I.free, I.freeC, I.pin, I.hok, I.len⟩
theorem SP.unwish {D : Ends} {f : Flow} {s' : Shared} (h : SP (X.wish E) pins D f s') : SP X pins D f s' := by
  cases f with
  | next => obtain ⟨σ', H', I, q⟩ := h; exact ⟨σ', H', I.unwish, q⟩
  | brk => obtain ⟨σ', H', I, q⟩ := h; exact ⟨σ', H', I.unwish, q⟩
  | cont => obtain ⟨σ', H', I, q⟩ := h; exact ⟨σ', H', I.unwish, q⟩
  | ret u => obtain ⟨v, σ', H', I, r, q⟩ := h; exact ⟨v, σ', H', I.unwish, r, q⟩
theorem PSs.nox {st : List Stmt} {t : TS} (h : PSs X.nox st t) : PSs X st t := fun pins s σ H D I hw =>
  wpAny_mono (h pins s σ H D (I.wish _) hw) (fun _ _ q => q.unwish) fun _ _ z => False.elim z
end
/-! ### blocks and small statements -/
section
variable {X : Cx} {st : Stmt} {rest : List Stmt} {t u : TS} {e : Expr} {te : TE} {pos : Pos}
def tNext : TS := fun D σ H => D.nx σ H
def tSeq (t u : TS) : TS := fun D σ H => t { D with nx := u D } σ H
theorem pss_nil : PSs X [] tNext := fun _ _ σ H _ I h => wpAny_execs_nil ⟨σ, H, I, h⟩
theorem pss_cons (h1 : PS X st t) (h2 : PSs X rest u) : PSs X (st :: rest) (tSeq t u) := by
  intro pins s σ H D I h
  refine wpAny_execs_cons (thn (h1 pins s σ H { D with nx := u D } I h) fun f s1 q => ?_)
  cases f with
  | next =>
    obtain ⟨σ', H', I', q⟩ := q
    exact h2 pins s1 σ' H' D I' q
  | ret v => exact q
  | brk => exact q
  | cont => exact q
theorem pss_one (h1 : PS X st t) : PSs X [st] t := by
  intro pins s σ H D I h
  refine wpAny_execs_cons (thn (h1 pins s σ H D I h) fun f s1 q => ?_)
  cases f with
  | next => exact wpAny_execs_nil q
  | ret v => exact q
  | brk => exact q
  | cont => exact q
/-- in a def's body nothing is shown -/
theorem Inv.quiet {pins : List (Addr × Obj)} {σ : St} {H : Hp} {s : Shared} (I : Inv X pins σ H s) : interactive X.env = false := by simp [interactive, I.ok.kind]
/-- an expression whose value is dropped -/
def tDrop (te : TE) : TS := fun D σ H => te σ H fun _ H1 => D.nx σ H1
theorem ps_expr (he : PE X e te) (hs : swapsWith e none pos.line X.env = pure false := by rfl) : PS X (.Expr e pos) (tDrop te) := by
  intro pins s σ H D I h
  exact wpAny_Expr_any (thn (he pins s σ H _ I h) fun v s1 ⟨x, H1, I1, r1, q1⟩ => ⟨σ, H1, I1, q1⟩) I.quiet hs
def tRet (te : TE) : TS := fun D σ H => te σ H D.rt
theorem ps_ret (he : PE X e te) : PS X (.Return (some e) pos) (tRet te) := by
  intro pins s σ H D I h
  exact wpAny_Return_some (thn (he pins s σ H _ I h) fun v s1 ⟨x, H1, I1, r1, q1⟩ => ⟨x, σ, H1, I1, r1, q1⟩)
def tIfS (c : TT) (t u : TS) : TS := fun D σ H => c σ H fun b H1 => if b = true then t D σ H1 else u D σ H1
theorem ps_if {c : Expr} {a b : List Stmt} {tc : TT} (hc : PT X c tc) (ha : PSs X a t) (hb : PSs X b u) : PS X (.If c a b pos) (tIfS tc t u) := by
  intro pins s σ H D I h
  refine wpAny_If (thn (hc pins s σ H _ I h) fun d s1 ⟨H1, I1, q1⟩ => ?_)
  cases d with
  | true => exact ha pins s1 σ H1 D I1 q1
  | false => exact hb pins s1 σ H1 D I1 q1
end
/-! ### targets -/
abbrev TG := V → St → Hp → (St → Hp → Prop) → Prop
abbrev TGs := List V → St → Hp → (St → Hp → Prop) → Prop
def PG (X : Cx) (target : Expr) (t : TG) : Prop :=
  ∀ (pins : List (Addr × Obj)) (s : Shared) (σ : St) (H : Hp) (v : V) (u : Value) (Q : St → Hp → Prop), Inv X pins σ H s → RelV v u → t v σ H Q →
    wpAny (model X.prog X.w) X.A (assign target X.env u) (fun _ s' => ∃ σ' H', Inv X pins σ' H' s' ∧ Q σ' H') X.xe s
/-- several targets, one after another -/
def PGs (X : Cx) (ts : List Expr) (t : TGs) : Prop :=
  ∀ (pins : List (Addr × Obj)) (s : Shared) (σ : St) (H : Hp) (vs : List V) (us : List Value) (Q : St → Hp → Prop), Inv X pins σ H s → Vals vs us → t vs σ H Q →
    wpAny (model X.prog X.w) X.A (assignInOrder ((assignEach ts X.env).map (·.2)) us) (fun _ s' => ∃ σ' H', Inv X pins σ' H' s' ∧ Q σ' H') X.xe s
/-- o[i] = v, by values -/
abbrev TSet := V → V → V → Hp → (Hp → Prop) → Prop
def PSet (X : Cx) (t : TSet) : Prop :=
  ∀ (pins : List (Addr × Obj)) (s : Shared) (σ : St) (H : Hp) (o i v : V) (ov iv u : Value) (Q : Hp → Prop), Inv X pins σ H s → RelV o ov → RelV i iv → RelV v u → t o i v H Q →
    wpAny (model X.prog X.w) X.A (setItem ov iv u) (fun _ s' => ∃ H', Inv X pins σ H' s' ∧ Q H') X.xe s
section
variable {X : Cx} {pos : Pos}
def gName (i : Nat) : TG := fun v σ H Q => Q (σ.set i (some v)) H
theorem pg_name {i : Nat} {x : Str} (hN : X.N.Nodup) (hi : X.N[i]? = some x) (hx : Loc X.env.scope x) (hf : X.fn x = true ∨ X.env.scope.names.lookup x = some .local := by first | exact .inl rfl | exact .inr rfl | assumption) : PG X (.Name x pos) (gName i) := by
  intro pins s σ H v u Q I r h
  exact wpAny_assign_Name (store_ok I hN hi hx r (fun s' I' => ⟨_, H, I', h⟩) hf)
def gNil : TGs := fun vs σ H Q => vs = [] ∧ Q σ H
def gCons (t : TG) (u : TGs) : TGs := fun vs σ H Q => ∃ v r, vs = v :: r ∧ t v σ H fun σ' H' => u r σ' H' Q
theorem pgs_nil : PGs X [] gNil := by
  intro pins s σ H vs us Q I r h
  obtain ⟨e, h⟩ := h
  subst e
  cases r
  exact assignInOrder_nil ⟨σ, H, I, h⟩
theorem pgs_cons {e : Expr} {es : List Expr} {t : TG} {u : TGs} (h1 : PG X e t) (h2 : PGs X es u)
    (hs : (assignEach (e :: es) X.env).map (·.2) = assign e X.env :: (assignEach es X.env).map (·.2) := by rfl) : PGs X (e :: es) (gCons t u) := by
  intro pins s σ H vs us Q I r h
  obtain ⟨v, vr, e1, h⟩ := h
  subst e1
  cases r with
  | cons r rr =>
    rw [hs]
    refine assignInOrder_cons (thn (h1 pins s σ H _ _ _ I r h) fun _ s1 ⟨σ1, H1, I1, q1⟩ => ?_)
    exact h2 pins s1 σ1 H1 _ _ Q I1 rr q1
/-- (a, b, ..) = a tuple of that length -/
def gTup (K : PySem.W.Frag) (n : Nat) (t : TGs) : TG := fun v σ H Q => ∃ a xs, v = .ref a ∧ SqT K H a xs ∧ xs.length = n ∧ t xs σ H Q
theorem pg_tup {es : List Expr} {k : Nat} {t : TGs} {n : Nat} (hc : X.calm = true) (h : PGs X es t)
    (hn : (assignEach es X.env).length = n := by rfl) (hst : (assignEach es X.env).findIdx? (·.1) = none := by rfl) : PG X (.Tuple es k pos) (gTup X.K n t) := by
  intro pins s σ H v u Q I r hw
  obtain ⟨a, xs, e1, hq, hl, hw⟩ := hw
  subst e1
  cases r
  obtain ⟨its, rv, ht, hz⟩ := I.tuple hq
  refine assign_Tuple_tuple (I.ok.hd hc) ht (by simp [hn, ← hl, rv.length]) hst fun h' hx => ?_
  have I1 : Inv X pins σ H { s with heap := h' } := I.kept (t' := s.toks) fun b o e => hx b o (Nat.ne_of_lt (Heap.lt_size e)) e
  exact h pins _ σ H xs _ Q I1 (by simpa using rv) hw
/-- o[i] = .. -/
def gSub (to ti : TE) (t : TSet) : TG := fun v σ H Q => to σ H fun o H1 => ti σ H1 fun i H2 => t o i v H2 fun H3 => Q σ H3
theorem pg_sub {o i : Expr} {to ti : TE} {t : TSet} (ho : PE X o to) (hi : PE X i ti) (hs : PSet X t)
    (ha : ∀ v, assign (.Subscript o i pos) X.env v = (do
      let ov ← holding [v] (eval o X.env)
      let iv ← holding [v, ov] (eval i X.env)
      standAt pos
      holding [v, ov, iv] (setItem ov iv v)
      release [v, ov, iv] []) := by intro _; rfl) : PG X (.Subscript o i pos) (gSub to ti t) := by
  intro pins s σ H v u Q I r h
  rw [ha]
  refine wpAny_bind (wpAny_holding (thn (ho pins s σ H _ I h) fun ov s1 ⟨x, H1, I1, r1, q1⟩ => ?_))
  refine wpAny_bind (wpAny_holding (thn (hi pins s1 σ H1 _ I1 q1) fun iv s2 ⟨y, H2, I2, r2, q2⟩ => ?_))
  refine wpAny_bind (wpAny_standAt (wpAny_bind (wpAny_holding (thn (hs pins s2 σ H2 x y v ov iv u _ I2 r1 r2 r q2) fun _ s3 ⟨H3, I3, q3⟩ => ?_))))
  exact wpAny_release ⟨σ, H3, I3, q3⟩
/-- target = value -/
def tAsg (te : TE) (g : TG) : TS := fun D σ H => te σ H fun x H1 => g x σ H1 D.nx
theorem ps_asg {tg e : Expr} {te : TE} {g : TG} (he : PE X e te) (hg : PG X tg g) (hs : swapsWithSole [tg] e pos.line X.env = pure false := by rfl) (hw : swappedStores [tg] e X.env = pure none := by rfl)
    (h1 : (assignEach [tg] X.env).map (·.2) = [assign tg X.env] := by rfl) : PS X (.Assign [tg] e pos) (tAsg te g) := by
  intro pins s σ H D I h
  refine wpAny_Assign_stores (thn (he pins s σ H _ I h) fun v s1 ⟨x, H1, I1, r1, q1⟩ => ?_) hs hw
  rw [h1]
  exact thn (hg pins s1 σ H1 x v _ I1 r1 q1) fun _ s2 q => q
/-- name = value -/
theorem ps_set {i : Nat} {x : Str} {e : Expr} {te : TE} {pos' : Pos} (hN : X.N.Nodup) (hi : X.N[i]? = some x) (hx : Loc X.env.scope x) (he : PE X e te) (hs : swapsWith e (some (.Name x pos')) pos.line X.env = pure false := by rfl) (hf : X.fn x = true ∨ X.env.scope.names.lookup x = some .local := by first | exact .inl rfl | exact .inr rfl | assumption) :
    PS X (.Assign [.Name x pos'] e pos) (tAsg te (gName i)) := by
  intro pins s σ H D I h
  refine wpAny_Assign_Name (thn (he pins s σ H _ I h) fun v s1 ⟨y, H1, I1, r1, q1⟩ => ?_) hs
  exact store_ok I1 hN hi hx r1 (fun s2 I2 => ⟨_, H1, I2, q1⟩) hf
end
/-! ### while -/
section
variable {X : Cx} {pos : Pos}
/-- the invariant W with its measure -/
def tWhile (c : TT) (tb : TS) : TS := fun D σ H => ∃ W : Nat → St → Hp → Prop, (∃ m, W m σ H) ∧ ∀ m σ H, W m σ H →
  c σ H fun b H1 => if b = true then ∃ N : St → Hp → Prop, (∀ σ' H', N σ' H' → ∃ m', m' < m ∧ W m' σ' H') ∧ tb { D with nx := N, ct := N, bk := D.nx } σ H1 else D.nx σ H1
theorem ps_while {c : Expr} {body : List Stmt} {tc : TT} {tb : TS} (hp : PassesOwn (model X.prog X.w) X.A X.env X.xe) (hc : PT X c tc) (hb : PSs X body tb) : PS X (.While c body [] pos) (tWhile tc tb) := by
  intro pins s σ H D I h
  obtain ⟨W, ⟨m0, w0⟩, turn⟩ := h
  refine wpAny_While (codeAny_whileLoop (fun n s' => ∃ σ' H', Inv X pins σ' H' s' ∧ W n σ' H') ?_ m0 ⟨σ, H, I, w0⟩)
  rintro n s1 ⟨σ1, H1, I1, w1⟩
  refine wpAny_passesOwn hp (thn (hc pins s1 σ1 H1 _ I1 (turn n σ1 H1 w1)) fun b s2 ⟨H2, I2, q2⟩ => ?_)
  cases b with
  | true =>
    obtain ⟨N, hN, q2⟩ := q2
    rw [if_pos rfl]
    refine wpAny_passesOwn hp (thn (hb pins s2 σ1 H2 _ I2 q2) fun f s3 q3 => ?_)
    cases f with
    | next =>
      obtain ⟨σ3, H3, I3, n3⟩ := q3
      obtain ⟨m', hm, w3⟩ := hN σ3 H3 n3
      exact ⟨m', hm, σ3, H3, I3, w3⟩
    | cont =>
      obtain ⟨σ3, H3, I3, n3⟩ := q3
      obtain ⟨m', hm, w3⟩ := hN σ3 H3 n3
      exact ⟨m', hm, σ3, H3, I3, w3⟩
    | brk => exact q3
    | ret v => exact q3
  | false =>
    rw [if_neg Bool.false_ne_true]
    exact wpAny_execs_nil ⟨σ1, H2, I2, q2⟩
end
/-! ### what a loop or a comprehension walks -/
/-- at turn i: it yields x (the heap may grow), or it stops -/
structure It where
  go : Nat → Hp → Prop
  yld : Nat → Hp → V → Hp → Prop
  stop : Nat → Hp → Prop
/-- the iterator's own objects may turn: they are not the frame's, not pinned, younger than the entry (or a comprehension's own) -/
def FpOk (X : Cx) (pins : List (Addr × Obj)) (H : Hp) (b : Addr) : Prop :=
  H b = none ∧ b ≠ X.env.locals ∧ b ∉ X.fs ∧ (b ∈ X.ex ∨ X.s_0.heap.objs.size ≤ b) ∧ (∀ x c, X.env.cells.lookup x = some c → c ≠ b) ∧ ∀ p ∈ X.pn ++ pins, p.1 ≠ b
theorem Inv.fpOk {X : Cx} {pins : List (Addr × Obj)} {σ : St} {H H' : Hp} {s : Shared} {b : Addr} (I : Inv X pins σ H s) (hb : s.heap.objs.size ≤ b) (hn : H' b = none) : FpOk X pins H' b := by
  refine ⟨hn, Nat.ne_of_gt (Nat.lt_of_lt_of_le I.lt hb), I.nofs hb, .inr (Nat.le_trans I.sz hb), fun x c e z => ?_, fun p hp z => ?_⟩
  · obtain ⟨v, q⟩ := I.cell x c e
    exact absurd (Nat.lt_of_lt_of_le q.lt (by rw [z]; exact hb)) (Nat.lt_irrefl _)
  · exact absurd (Nat.lt_of_lt_of_le (Heap.lt_size (I.pin p hp).1) (by rw [z]; exact hb)) (Nat.lt_irrefl _)
structure Turn (P : Program) (w : World) (K : PySem.W.Frag) (tg : Expr) (J : It) (fp : List Addr) (it : Addr) (tn : Nat → Heap → Prop) : Prop where
  mem : it ∈ fp
  obj : ∀ i h, tn i h → ∀ b ∈ fp, ∃ o, h.get? b = some o ∧ ∀ v, o.data ≠ .cell v
  keep : ∀ i h h', tn i h → (∀ b ∈ fp, ∀ o, h.get? b = some o → h'.get? b = some o) → tn i h'
  item : ∀ (X : Cx), X.prog = P → X.w = w → X.K = K → X.calm = true → ∀ (i : Nat) (pins : List (Addr × Obj)) (s : Shared) (σ : St) (H : Hp) (E : Value → Shared → Prop), Inv X pins σ H s → (∀ b ∈ fp, FpOk X pins H b) → tn i s.heap → J.go i H →
    wpAny (model P w) X.A (pyNext (.ref it)) (fun r s1 => ∃ u, r = some u ∧
      wpAny (model P w) X.A (letOwnedTupleGo tg (.ref it) u) (fun _ s2 => ∃ x H', Inv X pins σ H' s2 ∧ RelV x u ∧ J.yld i H x H' ∧ tn (i + 1) s2.heap ∧ ∀ b ∈ fp, H' b = none) E s1) E s
  done : ∀ (X : Cx), X.prog = P → X.w = w → X.K = K → X.calm = true → ∀ (i : Nat) (pins : List (Addr × Obj)) (s : Shared) (σ : St) (H : Hp) (E : Value → Shared → Prop), Inv X pins σ H s → (∀ b ∈ fp, FpOk X pins H b) → tn i s.heap → J.stop i H →
    wpAny (model P w) X.A (pyNext (.ref it)) (fun r s1 => r = none ∧ Inv X pins σ H s1) E s
  self : ∀ (A : Around) (i : Nat) (s : Shared) (Q : Value → Shared → Prop) (E : Value → Shared → Prop), tn i s.heap → Q (.ref it) s → wpAny (model P w) A (pyIter (.ref it)) Q E s
abbrev TI := St → Hp → (It → Hp → Prop) → Prop
/-- an iterator has come -/
def PIE (X : Cx) (pins : List (Addr × Obj)) (σ : St) (tg : Expr) (R : It → Hp → Prop) (itv : Value) (s2 : Shared) : Prop :=
  ∃ (it : Addr) (fp : List Addr) (tn : Nat → Heap → Prop) (J : It) (H' : Hp), itv = .ref it ∧ Inv X pins σ H' s2 ∧ Turn X.prog X.w X.K tg J fp it tn ∧ tn 0 s2.heap ∧ (∀ b ∈ fp, FpOk X pins H' b) ∧ R J H'
def PI (X : Cx) (tg iter : Expr) (wi : TI) : Prop :=
  ∀ (pins : List (Addr × Obj)) (s : Shared) (σ : St) (H : Hp) (R : It → Hp → Prop), Inv X pins σ H s → wi σ H R →
    wpAny (model X.prog X.w) X.A (eval iter X.env) (fun v s1 => wpAny (model X.prog X.w) X.A (pyIter v) (PIE X pins σ tg R) X.xe s1) X.xe s
/-- the step ahead of the store is nothing for an iterator that keeps no tuple -/
theorem go_of {M : Model} {A : Around} {E : Value → Shared → Prop} {s : Shared} {tg : Expr} {it : Addr} {u : Value} {o : Obj} {n : String} {vs : Array Value} {Q : Unit → Shared → Prop} (ho : s.heap.get? it = some o) (hc : o.cls = .type n) (hd : o.data = .fields vs)
    (hn : ["enumerate", "zip", "dict_itemiterator", "dict_reverseitemiterator", "odict_iterator", "itertools.zip_longest", "itertools.pairwise"].contains n = false) (hQ : Q () s) : wpAny M A (letOwnedTupleGo tg (.ref it) u) Q E s := by
  unfold letOwnedTupleGo
  cases tg <;> first
    | exact wpAny_pure hQ
    | (cases u <;> first
        | exact wpAny_pure hQ
        | (refine wpAny_bind (wpAny_load ho ?_)
           rw [hc, hd]
           show wpAny M A (if (["enumerate", "zip", "dict_itemiterator", "dict_reverseitemiterator", "odict_iterator", "itertools.zip_longest", "itertools.pairwise"].contains n && vs[0]? == some (rawInt _)) = true then _ else _) Q E s
           rw [if_neg (by intro h; rw [hn, Bool.false_and] at h; cases h)]
           exact wpAny_pure hQ))
/-- the list at a, as it stands at each turn (a loop may append to it) -/
def Itl (K : PySem.W.Frag) (a : Addr) : It :=
  ⟨fun i H => ∃ xs x, SqL K H a xs ∧ xs[i]? = some x, fun i H x H' => H' = H ∧ ∀ xs, SqL K H a xs → xs[i]? = some x, fun i H => ∃ xs, SqL K H a xs ∧ xs.length ≤ i⟩
theorem turn_list {P : Program} {w : World} {K : PySem.W.Frag} {tg : Expr} (a it : Addr) : Turn P w K tg (Itl K a) [it] it (fun i h => h.IsListIter it a i) where
  mem := by simp
  obj := fun i h st b hb => by
    have e : b = it := by simpa using hb
    subst e
    obtain ⟨o, e, c, d⟩ := st
    exact ⟨o, e, fun v z => by rw [d] at z; cases z⟩
  keep := fun i h h' st k => st.at fun o e => k it (by simp) o e
  item := by
    intro X hP hw hK hc i pins s σ H E I hf st hg
    subst hP hw hK
    obtain ⟨xs, x, hq, hx⟩ := hg
    obtain ⟨its, rv, p, hz⟩ := I.list hq
    obtain ⟨u, hu, ru⟩ := rv.get hx
    obtain ⟨f0, f1, f2, f3, f4, f5⟩ := hf it (by simp)
    refine wpAny_pyNext_list_item st p.isList (x := u) (by simpa using hu) fun h' st' sb => ?_
    have I1 : Inv X pins σ H { s with heap := h' } := I.turned (t' := s.toks) (fun b o hb e => (sb.2 b hb).trans e) f0 f1 f3 f4 f5
    obtain ⟨o, e, c, d⟩ := id st'
    exact ⟨u, rfl, go_of (s := { s with heap := h' }) e c d (by decide) ⟨x, H, I1, ru, ⟨rfl, fun ys hy => by rw [I.list_inj hy hq]; exact hx⟩, st', fun b hb => (hf b hb).1⟩⟩
  done := by
    intro X hP hw hK hc i pins s σ H E I hf st hg
    subst hP hw hK
    obtain ⟨xs, hq, hx⟩ := hg
    obtain ⟨its, rv, p, hz⟩ := I.list hq
    obtain ⟨f0, f1, f2, f3, f4, f5⟩ := hf it (by simp)
    have hl := rv.length
    exact wpAny_pyNext_list_end (I.ok.hd hc) st p.isList (by simp; omega) fun h' eb => ⟨rfl, I.turned (t' := s.toks) (fun b o hb e => eb b o hb e) f0 f1 f3 f4 f5⟩
  self := fun _ _ _ _ _ st h => wpAny_pyIter_listiter st h
end L2
namespace L2
open PySem PySem.Spec PyProof.Rows
section
variable {X : Cx} {tg : Expr}
def iList (K : PySem.W.Frag) (tl : TE) : TI := fun σ H R => tl σ H fun x H1 => ∃ a, x = .ref a ∧ (∃ xs, SqL K H1 a xs) ∧ R (Itl K a) H1
theorem pi_list {l : Expr} {tl : TE} (hl : PE X l tl) : PI X tg l (iList X.K tl) := by
  intro pins s σ H R I h
  refine thn (hl pins s σ H _ I h) fun v s1 ⟨x, H1, I1, r1, q1⟩ => ?_
  obtain ⟨a, e, ⟨xs, hq⟩, q⟩ := q1
  subst e
  cases r1
  obtain ⟨its, rv, p, hz⟩ := I1.list hq
  refine wpAny_pyIter_list p.isList ?_
  refine ⟨s1.heap.objs.size, [s1.heap.objs.size], _, _, H1, rfl, I1.kept (t' := s1.toks) fun b o e => Heap.get?_push_of_some _ e, turn_list a _, ⟨_, Heap.get?_push_size _ rfl, rfl, rfl⟩, fun b hb => ?_, q⟩
  have e : b = s1.heap.objs.size := by simpa using hb
  subst e
  exact I1.fpOk (Nat.le_refl _) (I1.hok.fresh (Nat.le_refl _))
/-! ### for -/
/-- W: the invariant by the turn and a measure; N: what the body is to reach -/
def tFor (wi : TI) (g : TG) (tb : TS) : TS := fun D σ H => wi σ H fun J H1 => ∃ W : Nat → Nat → St → Hp → Prop, (∃ m, W 0 m σ H1) ∧ ∀ i m σ H, W i m σ H →
  (J.stop i H ∧ D.nx σ H) ∨ (J.go i H ∧ ∃ N : St → Hp → Prop, (∀ σ' H', N σ' H' → ∃ m', m' < m ∧ W (i + 1) m' σ' H') ∧ ∀ x H', J.yld i H x H' → g x σ H' fun σ2 H2 => tb { D with nx := N, ct := N, bk := D.nx } σ2 H2)
/-- the records at fp as they stand -/
def pinsAt (fp : List Addr) (h : Heap) : List (Addr × Obj) := fp.filterMap fun b => (h.get? b).map fun o => (b, o)
theorem mem_pinsAt {fp : List Addr} {h : Heap} {b : Addr} {o : Obj} (hb : b ∈ fp) (e : h.get? b = some o) : (b, o) ∈ pinsAt fp h := List.mem_filterMap.mpr ⟨b, hb, by rw [e]; rfl⟩
theorem of_pinsAt {fp : List Addr} {h : Heap} {p : Addr × Obj} (hp : p ∈ pinsAt fp h) : p.1 ∈ fp ∧ h.get? p.1 = some p.2 := by
  obtain ⟨b, hb, e⟩ := List.mem_filterMap.mp hp
  cases q : h.get? b with
  | none => rw [q] at e; cases e
  | some o =>
    rw [q] at e
    have e' : (b, o) = p := Option.some.inj e
    subst e'
    exact ⟨hb, q⟩
theorem Inv.pinned {pins : List (Addr × Obj)} {σ : St} {H : Hp} {s : Shared} {fp : List Addr} (I : Inv X pins σ H s) (hf : ∀ b ∈ fp, FpOk X pins H b) (ho : ∀ b ∈ fp, ∃ o, s.heap.get? b = some o ∧ ∀ v, o.data ≠ .cell v) : Inv X (pins ++ pinsAt fp s.heap) σ H s :=
  I.pins_of fun p hp => (List.mem_append.mp hp).elim (fun z => I.pin p (List.mem_append_right _ z)) fun z => by
    obtain ⟨hb, e⟩ := of_pinsAt z
    obtain ⟨f0, f1, f2, _⟩ := hf p.1 hb
    obtain ⟨o, e', d⟩ := ho p.1 hb
    rw [e] at e'; cases e'
    exact ⟨e, f0, f1, f2, d⟩
theorem Inv.unpinned {pins pl : List (Addr × Obj)} {σ : St} {H : Hp} {s : Shared} (I : Inv X (pins ++ pl) σ H s) : Inv X pins σ H s := I.pins_of fun p hp => I.pin p (List.mem_append_right _ (List.mem_append_left _ hp))
theorem ps_for {iter : Expr} {body : List Stmt} {wi : TI} {g : TG} {tb : TS} {pos : Pos} (hp : PassesOwn (model X.prog X.w) X.A X.env X.xe) (hc : X.calm = true) (hi : PI X tg iter wi) (hg : PG X tg g) (hb : PSs X body tb)
    (hs : ∀ x, foldedSetIterable iter X.env x = pure x := by intro _; rfl) : PS X (.For tg iter body [] pos) (tFor wi g tb) := by
  intro pins s σ H D I h
  refine wpAny_For (thn (hi pins s σ H _ I h) fun v s1 h1 => thn h1 fun itv s2 h2 => ?_) hs
  obtain ⟨it, fp, tn, J, H2, e, I2, T, st2, f2, W, ⟨m0, w0⟩, turn⟩ := h2
  subst e
  -- what stays true of the iterator's objects through the loop
  have stat : ∀ {H' : Hp}, (∀ b ∈ fp, H' b = none) → ∀ b ∈ fp, FpOk X pins H' b := fun hn b hb => ⟨hn b hb, (f2 b hb).2⟩
  refine codeAny_forLoop_any (fun n s' => ∃ i σ' H', Inv X pins σ' H' s' ∧ tn i s'.heap ∧ (∀ b ∈ fp, H' b = none) ∧ W i n σ' H') ?_ m0 ⟨0, σ, H2, I2, st2, fun b hb => (f2 b hb).1, w0⟩
  rintro n s3 ⟨i, σ3, H3, I3, st3, fr3, w3⟩
  rcases turn i n σ3 H3 w3 with ⟨stop, qn⟩ | ⟨go, N, hN, step⟩
  · refine wpAny_passesOwn hp (thn (T.done X rfl rfl rfl hc i pins s3 σ3 H3 X.xe I3 (stat fr3) st3 stop) fun r s4 ⟨hr, I4⟩ => ?_)
    subst hr
    exact wpAny_execs_nil ⟨σ3, H3, I4, qn⟩
  · refine wpAny_passesOwn hp (thn (T.item X rfl rfl rfl hc i pins s3 σ3 H3 X.xe I3 (stat fr3) st3 go) fun r s4 ⟨u, hr, h4⟩ => ?_)
    subst hr
    refine wpAny_passesOwn hp (thn h4 fun _ s5 ⟨x, H5, I5, r5, y5, st5, fr5⟩ => ?_)
    have I5' := I5.pinned (stat fr5) (T.obj _ _ st5)
    refine wpAny_passesOwn hp (thn (hg _ s5 σ3 H5 x u _ I5' r5 (step x H5 y5)) fun _ s6 ⟨σ6, H6, I6, q6⟩ => ?_)
    refine wpAny_passesOwn hp (thn (hb _ s6 σ6 H6 _ I6 q6) fun f s7 q7 => ?_)
    have again : ∀ {σ7 : St} {H7 : Hp}, Inv X (pins ++ pinsAt fp s5.heap) σ7 H7 s7 → N σ7 H7 → ∃ m, m < n ∧ ∃ i σ' H', Inv X pins σ' H' s7 ∧ tn i s7.heap ∧ (∀ b ∈ fp, H' b = none) ∧ W i m σ' H' := fun {σ7 H7} I7 n7 => by
      obtain ⟨m', hm, w7⟩ := hN σ7 H7 n7
      refine ⟨m', hm, i + 1, σ7, H7, I7.unpinned, T.keep _ _ _ st5 fun b hb o e => (I7.pin (b, o) (List.mem_append_right _ (List.mem_append_right _ (mem_pinsAt hb e)))).1, fun b hb => ?_, w7⟩
      obtain ⟨o, e, d⟩ := T.obj _ _ st5 b hb
      exact (I7.pin (b, o) (List.mem_append_right _ (List.mem_append_right _ (mem_pinsAt hb e)))).2.1
    cases f with
    | next => obtain ⟨σ7, H7, I7, n7⟩ := q7; exact again I7 n7
    | cont => obtain ⟨σ7, H7, I7, n7⟩ := q7; exact again I7 n7
    | brk => obtain ⟨σ7, H7, I7, q7⟩ := q7; exact ⟨σ7, H7, I7.unpinned, q7⟩
    | ret v => obtain ⟨x7, σ7, H7, I7, r7, q7⟩ := q7; exact ⟨x7, σ7, H7, I7.unpinned, r7, q7⟩
end
/-! ### the forms one uses -/
/-- over a list that the body leaves as it is -/
theorem for_list {K : PySem.W.Frag} {a : Addr} {xs : List V} {g : TG} {tb : TS} {D : Ends} {σ : St} {H : Hp} (Pv : Nat → St → Hp → Prop) (h0 : Pv 0 σ H) (hl : ∀ i σ H, i ≤ xs.length → Pv i σ H → SqL K H a xs)
    (hs : ∀ i x σ H, xs[i]? = some x → Pv i σ H → g x σ H fun σ2 H2 => tb { D with nx := Pv (i + 1), ct := Pv (i + 1), bk := D.nx } σ2 H2) (hd : ∀ σ H, Pv xs.length σ H → D.nx σ H) :
    ∃ W : Nat → Nat → St → Hp → Prop, (∃ m, W 0 m σ H) ∧ ∀ i m σ H, W i m σ H →
      ((Itl K a).stop i H ∧ D.nx σ H) ∨ ((Itl K a).go i H ∧ ∃ N : St → Hp → Prop, (∀ σ' H', N σ' H' → ∃ m', m' < m ∧ W (i + 1) m' σ' H') ∧ ∀ x H', (Itl K a).yld i H x H' → g x σ H' fun σ2 H2 => tb { D with nx := N, ct := N, bk := D.nx } σ2 H2) := by
  refine ⟨fun i m σ H => m = xs.length - i ∧ i ≤ xs.length ∧ Pv i σ H, ⟨xs.length, by simp, Nat.zero_le _, h0⟩, ?_⟩
  rintro i m σ H ⟨rfl, hi, p⟩
  have q := hl i σ H hi p
  by_cases hlt : i < xs.length
  · refine .inr ⟨⟨xs, xs[i], q, by simp [hlt]⟩, Pv (i + 1), fun σ' H' p' => ⟨xs.length - (i + 1), by omega, rfl, hlt, p'⟩, fun x H' y => ?_⟩
    obtain ⟨e, y⟩ := y
    subst e
    exact hs i x σ _ (y xs q) p
  · have e : i = xs.length := by omega
    subst e
    exact .inl ⟨⟨xs, q, Nat.le_refl _⟩, hd σ H p⟩
/-- while, by a word and a measure of the state -/
theorem while_by {c : TT} {tb : TS} {D : Ends} {σ : St} {H : Hp} (Pv : St → Hp → Prop) (μ : St → Hp → Nat) (h0 : Pv σ H)
    (hs : ∀ σ H, Pv σ H → c σ H fun b H1 => if b = true then tb { D with nx := fun σ' H' => Pv σ' H' ∧ μ σ' H' < μ σ H, ct := fun σ' H' => Pv σ' H' ∧ μ σ' H' < μ σ H, bk := D.nx } σ H1 else D.nx σ H1)
    (mono : ∀ σ H Q Q', (∀ b H1, Q b H1 → Q' b H1) → c σ H Q → c σ H Q') : tWhile c tb D σ H := by
  refine ⟨fun m σ H => m = μ σ H ∧ Pv σ H, ⟨_, rfl, h0⟩, ?_⟩
  rintro m σ H ⟨rfl, p⟩
  refine mono σ H _ _ (fun b H1 q => ?_) (hs σ H p)
  cases b with
  | true => exact ⟨_, fun σ' H' ⟨p', l⟩ => ⟨_, l, rfl, p'⟩, q⟩
  | false => exact q
end L2
namespace L2
open PySem PySem.Spec PyProof.Rows
abbrev R2 := V → V → Hp → VK → Prop
/-- a two-place operation on values: f is binaryOp op, inplaceOp op or compareOp op -/
def OpR (X : Cx) (f : Value → Value → Sem Value) (r : R2) : Prop :=
  ∀ (pins : List (Addr × Obj)) (s : Shared) (σ : St) (H : Hp) (x y : V) (v u : Value) (Q : VK), Inv X pins σ H s → RelV x v → RelV y u → r x y H Q →
    wpAny (model X.prog X.w) X.A (f v u) (EP X pins σ Q) X.xe s
/-- a one-place operation -/
def UnR (X : Cx) (f : Value → Sem Value) (r : V → Hp → VK → Prop) : Prop :=
  ∀ (pins : List (Addr × Obj)) (s : Shared) (σ : St) (H : Hp) (x : V) (v : Value) (Q : VK), Inv X pins σ H s → RelV x v → r x H Q →
    wpAny (model X.prog X.w) X.A (f v) (EP X pins σ Q) X.xe s
/-- a call of a value that is known (a builtin, a type) with values -/
def CallR (X : Cx) (f : Value) (r : List V → Hp → VK → Prop) : Prop :=
  ∀ (pins : List (Addr × Obj)) (s : Shared) (σ : St) (H : Hp) (xs : List V) (us : List Value) (Q : VK), Inv X pins σ H s → Vals xs us → r xs H Q →
    wpAny (model X.prog X.w) X.A (call f us) (EP X pins σ Q) X.xe s
def tOp (r : R2) (ta tb : TE) : TE := fun σ H Q => ta σ H fun x H1 => tb σ H1 fun y H2 => r x y H2 Q
def tUn (r : V → Hp → VK → Prop) (ta : TE) : TE := fun σ H Q => ta σ H fun x H1 => r x H1 Q
/-- ints in, under C, and a value out -/
def rI (C : Int → Int → Prop) (g : Int → Int → V) : R2 := fun x y H Q => ∃ i j, x = .int i ∧ y = .int j ∧ C i j ∧ Q (g i j) H
def rI0 (g : Int → Int → V) : R2 := fun x y H Q => ∃ i j, x = .int i ∧ y = .int j ∧ Q (g i j) H
def rU (g : Int → V) : V → Hp → VK → Prop := fun x H Q => ∃ i, x = .int i ∧ Q (g i) H
section
variable {X : Cx} {a b c : Expr} {ta tb tc : TE} {pos : Pos}
theorem binT (ha : PE X a ta) (hb : PE X b tb) {pins : List (Addr × Obj)} {s : Shared} {σ : St} {H : Hp} {R : V → V → Hp → Prop} (I : Inv X pins σ H s)
    (h : ta σ H fun x H1 => tb σ H1 fun y H2 => R x y H2) {Q : Value → Shared → Prop} {f : Value → Value → Sem Value}
    (hf : ∀ v u s2 x y H2, Inv X pins σ H2 s2 → RelV x v → RelV y u → R x y H2 → wpAny (model X.prog X.w) X.A (f v u) Q X.xe s2) :
    wpAny (model X.prog X.w) X.A (eval a X.env) (fun v s₁ => wpAny (model X.prog X.w) X.A (eval b X.env) (fun u s₂ => wpAny (model X.prog X.w) X.A (f v u) Q X.xe s₂) X.xe s₁) X.xe s := by
  refine thn (ha pins s σ H _ I h) fun v s1 ⟨x, H1, I1, r1, q1⟩ => ?_
  refine thn (hb pins s1 σ H1 _ I1 q1) fun u s2 ⟨y, H2, I2, r2, q2⟩ => ?_
  exact hf v u s2 x y H2 I2 r1 r2 q2
theorem pe_op {op : Operator} {r : R2} (ho : OpR X (binaryOp op) r) (ha : PE X a ta) (hb : PE X b tb) : PE X (.BinOp a op b pos) (tOp r ta tb) := by
  intro pins s σ H Q I h
  exact wpAny_BinOp (binT ha hb I h fun v u s2 x y H2 I2 rx ry q => ho pins s2 σ H2 x y v u Q I2 rx ry q)
theorem pe_un {op : UnaryOp} {r : V → Hp → VK → Prop} (ho : UnR X (unaryOp op) r) (ha : PE X a ta) : PE X (.UnaryOp op a pos) (tUn r ta) := by
  intro pins s σ H Q I h
  exact UnaryOp_ (thn (ha pins s σ H _ I h) fun v s1 ⟨x, H1, I1, r1, q1⟩ => ho pins s1 σ H1 x v Q I1 r1 q1)
/-! ### ints -/
theorem opI {f : Value → Value → Sem Value} {C : Int → Int → Prop} {g : Int → Int → Int}
    (rule : ∀ (i j : Int) (t u : Tok) (s : Shared) (Q : Value → Shared → Prop) (E : Value → Shared → Prop), C i j → Q (.int (g i j) s.toks) { s with toks := s.toks + 1 } → wpAny (model X.prog X.w) X.A (f (.int i t) (.int j u)) Q E s) :
    OpR X f (rI C fun i j => .int (g i j)) := by
  intro pins s σ H x y v u Q I rx ry h
  obtain ⟨i, j, rfl, rfl, hc, q⟩ := h
  obtain ⟨t, rfl⟩ := rx
  obtain ⟨t', rfl⟩ := ry
  exact rule i j t t' s _ _ hc ⟨.int (g i j), H, I.tok _, ⟨_, rfl⟩, q⟩
theorem opI0 {f : Value → Value → Sem Value} {g : Int → Int → Int}
    (rule : ∀ (i j : Int) (t u : Tok) (s : Shared) (Q : Value → Shared → Prop) (E : Value → Shared → Prop), Q (.int (g i j) s.toks) { s with toks := s.toks + 1 } → wpAny (model X.prog X.w) X.A (f (.int i t) (.int j u)) Q E s) :
    OpR X f (rI0 fun i j => .int (g i j)) := by
  intro pins s σ H x y v u Q I rx ry h
  obtain ⟨i, j, rfl, rfl, q⟩ := h
  obtain ⟨t, rfl⟩ := rx
  obtain ⟨t', rfl⟩ := ry
  exact rule i j t t' s _ _ ⟨.int (g i j), H, I.tok _, ⟨_, rfl⟩, q⟩
theorem opB0 {f : Value → Value → Sem Value} {g : Int → Int → Bool}
    (rule : ∀ (i j : Int) (t u : Tok) (s : Shared) (Q : Value → Shared → Prop) (E : Value → Shared → Prop), Q (.bool (g i j)) s → wpAny (model X.prog X.w) X.A (f (.int i t) (.int j u)) Q E s) :
    OpR X f (rI0 fun i j => .bl (g i j)) := by
  intro pins s σ H x y v u Q I rx ry h
  obtain ⟨i, j, rfl, rfl, q⟩ := h
  obtain ⟨t, rfl⟩ := rx
  obtain ⟨t', rfl⟩ := ry
  exact rule i j t t' s _ _ ⟨.bl (g i j), H, I, rfl, q⟩
theorem op_add : OpR X (binaryOp .Add) (rI0 fun i j => .int (i + j)) := opI0 fun _ _ _ _ _ _ _ q => add_int q
theorem op_sub : OpR X (binaryOp .Sub) (rI0 fun i j => .int (i - j)) := opI0 fun _ _ _ _ _ _ _ q => sub_int q
/-- % by a positive divisor of any size -/
theorem op_mod : OpR X (binaryOp .Mod) (rI (fun _ j => 0 < j) fun i j => .int (i % j)) := opI fun i j _ _ _ _ _ hc q => by
  have h1 : (0 : Int) < j := hc
  exact mod_int' (by omega) (by rw [Int.fmod_eq_emod_of_nonneg i (by omega)]; exact q)
theorem unI {f : Value → Sem Value} {g : Int → Int}
    (rule : ∀ (i : Int) (t : Tok) (s : Shared) (Q : Value → Shared → Prop) (E : Value → Shared → Prop), Q (.int (g i) s.toks) { s with toks := s.toks + 1 } → wpAny (model X.prog X.w) X.A (f (.int i t)) Q E s) :
    UnR X f (rU fun i => .int (g i)) := by
  intro pins s σ H x v Q I rx h
  obtain ⟨i, rfl, q⟩ := h
  obtain ⟨t, rfl⟩ := rx
  exact rule i t s _ _ ⟨.int (g i), H, I.tok _, ⟨_, rfl⟩, q⟩
theorem un_neg : UnR X (unaryOp .USub) (rU fun i => .int (-i)) := unI fun _ _ _ _ _ q => neg_int q
/-! ### bools among ints: n += (a < b) -/
end
/-! ### comparisons -/
/-- the scalars that == tells apart as data does -/
def scal : V → V → Bool
  | .non, .non => true | .non, .int _ => true | .int _, .non => true | .non, .bl _ => true | .bl _, .non => true | .non, .str _ => true | .str _, .non => true
  | .int _, .int _ => true | .bl _, .bl _ => true | .str _, .str _ => true | .byt _, .byt _ => true
  | .int _, .str _ => true | .str _, .int _ => true | .bl _, .str _ => true | .str _, .bl _ => true
  | _, _ => false
def rEq : R2 := fun x y H Q => scal x y = true ∧ Q (.bl (decide (x = y))) H
def rNe : R2 := fun x y H Q => scal x y = true ∧ Q (.bl (!decide (x = y))) H
theorem dec_int {i j : Int} : decide (V.int i = V.int j) = (i == j) := by
  rw [Bool.eq_iff_iff]
  simp
theorem dec_bl {i j : Bool} : decide (V.bl i = V.bl j) = (i == j) := by
  rw [Bool.eq_iff_iff]
  simp
theorem dec_str {i j : Str} : decide (V.str i = V.str j) = (i == j) := by
  rw [Bool.eq_iff_iff]
  simp
theorem dec_byt {i j : Array UInt8} : decide (V.byt i = V.byt j) = (i.toList == j.toList) := by
  rw [Bool.eq_iff_iff]
  cases i
  cases j
  simp
section
variable {X : Cx} {a b c : Expr} {ta tb tc : TE} {pos : Pos}
theorem fin_bl {pins : List (Addr × Obj)} {σ : St} {H : Hp} {s : Shared} {Q : VK} {k k' : Bool} (I : Inv X pins σ H s) (q : Q (.bl k) H) (e : k = k') : EP X pins σ Q (.bool k') s := by
  subst e
  exact ⟨.bl k, H, I, rfl, q⟩
theorem op_eq : OpR X (compareOp .Eq) rEq := by
  intro pins s σ H x y v u Q I rx ry h
  obtain ⟨hs, q⟩ := h
  cases x with
  | non =>
    cases rx
    cases y with
    | non => cases ry; exact PySem.EqNone.eq_none_none (fin_bl I q (by simp))
    | bl j => cases ry; exact PySem.EqNone.eq_none_bool (fin_bl I q (by simp))
    | int j => obtain ⟨t', rfl⟩ := ry; exact PySem.EqNone.eq_none_int (fin_bl I q (by simp))
    | str j => obtain ⟨t', rfl⟩ := ry; exact PySem.EqNone.eq_none_str (fin_bl I q (by simp))
    | _ => exact absurd (show false = true from hs) Bool.false_ne_true
  | bl i =>
    cases rx
    cases y with
    | non => cases ry; exact PySem.EqNone.eq_bool_none (fin_bl I q (by simp))
    | bl j => cases ry; exact eq_bool (fin_bl I q dec_bl)
    | str j => obtain ⟨t', rfl⟩ := ry; exact PySem.EqMixed.eq_bool_str (fin_bl I q (by simp))
    | _ => exact absurd (show false = true from hs) Bool.false_ne_true
  | int i =>
    obtain ⟨t, rfl⟩ := rx
    cases y with
    | non => cases ry; exact PySem.EqNone.eq_int_none (fin_bl I q (by simp))
    | int j => obtain ⟨t', rfl⟩ := ry; exact eq_int (fin_bl I q dec_int)
    | str j => obtain ⟨t', rfl⟩ := ry; exact PySem.EqMixed.eq_int_str (fin_bl I q (by simp))
    | _ => exact absurd (show false = true from hs) Bool.false_ne_true
  | str i =>
    obtain ⟨t, rfl⟩ := rx
    cases y with
    | non => cases ry; exact PySem.EqNone.eq_str_none (fin_bl I q (by simp))
    | bl j => cases ry; exact PySem.EqMixed.eq_str_bool (fin_bl I q (by simp))
    | int j => obtain ⟨t', rfl⟩ := ry; exact PySem.EqMixed.eq_str_int (fin_bl I q (by simp))
    | str j => obtain ⟨t', rfl⟩ := ry; exact eq_str (fin_bl I q dec_str)
    | _ => exact absurd (show false = true from hs) Bool.false_ne_true
  | byt i =>
    obtain ⟨t, rfl⟩ := rx
    cases y with
    | byt j => obtain ⟨t', rfl⟩ := ry; exact PySem.W.eq_bytes (fin_bl I q dec_byt)
    | _ => exact absurd (show false = true from hs) Bool.false_ne_true
  | _ => cases y <;> exact absurd (show false = true from hs) Bool.false_ne_true
theorem op_ne : OpR X (compareOp .NotEq) rNe := by
  intro pins s σ H x y v u Q I rx ry h
  obtain ⟨hs, q⟩ := h
  cases x with
  | non =>
    cases rx
    cases y with
    | non => cases ry; exact PySem.EqNone.ne_none_none (fin_bl I q (by simp))
    | bl j => cases ry; exact PySem.EqNone.ne_none_bool (fin_bl I q (by simp))
    | int j => obtain ⟨t', rfl⟩ := ry; exact PySem.EqNone.ne_none_int (fin_bl I q (by simp))
    | str j => obtain ⟨t', rfl⟩ := ry; exact PySem.EqNone.ne_none_str (fin_bl I q (by simp))
    | _ => exact absurd (show false = true from hs) Bool.false_ne_true
  | bl i =>
    cases rx
    cases y with
    | non => cases ry; exact PySem.EqNone.ne_bool_none (fin_bl I q (by simp))
    | bl j => cases ry; exact ne_bool (fin_bl I q (congrArg not dec_bl))
    | str j => obtain ⟨t', rfl⟩ := ry; exact PySem.EqMixed.ne_bool_str (fin_bl I q (by simp))
    | _ => exact absurd (show false = true from hs) Bool.false_ne_true
  | int i =>
    obtain ⟨t, rfl⟩ := rx
    cases y with
    | non => cases ry; exact PySem.EqNone.ne_int_none (fin_bl I q (by simp))
    | int j => obtain ⟨t', rfl⟩ := ry; exact ne_int (fin_bl I q (congrArg not dec_int))
    | str j => obtain ⟨t', rfl⟩ := ry; exact PySem.EqMixed.ne_int_str (fin_bl I q (by simp))
    | _ => exact absurd (show false = true from hs) Bool.false_ne_true
  | str i =>
    obtain ⟨t, rfl⟩ := rx
    cases y with
    | non => cases ry; exact PySem.EqNone.ne_str_none (fin_bl I q (by simp))
    | bl j => cases ry; exact PySem.EqMixed.ne_str_bool (fin_bl I q (by simp))
    | int j => obtain ⟨t', rfl⟩ := ry; exact PySem.EqMixed.ne_str_int (fin_bl I q (by simp))
    | str j => obtain ⟨t', rfl⟩ := ry; exact ne_str (fin_bl I q (congrArg not dec_str))
    | _ => exact absurd (show false = true from hs) Bool.false_ne_true
  | byt i =>
    obtain ⟨t, rfl⟩ := rx
    cases y with
    | byt j => obtain ⟨t', rfl⟩ := ry; exact PySem.W.ne_bytes (fin_bl I q (congrArg not dec_byt))
    | _ => exact absurd (show false = true from hs) Bool.false_ne_true
  | _ => cases y <;> exact absurd (show false = true from hs) Bool.false_ne_true
theorem op_lt : OpR X (compareOp .Lt) (rI0 fun i j => .bl (decide (i < j))) := opB0 fun _ _ _ _ _ _ _ q => lt_int q
theorem op_le : OpR X (compareOp .LtE) (rI0 fun i j => .bl (decide (i ≤ j))) := opB0 fun _ _ _ _ _ _ _ q => le_int q
theorem op_gt : OpR X (compareOp .Gt) (rI0 fun i j => .bl (decide (j < i))) := opB0 fun _ _ _ _ _ _ _ q => gt_int q
theorem op_ge : OpR X (compareOp .GtE) (rI0 fun i j => .bl (decide (j ≤ i))) := opB0 fun _ _ _ _ _ _ _ q => ge_int q
/-- is None, is not None: the right side a value none -/
theorem op_isN : OpR X (compareOp .Is) (fun x y H Q => y = .non ∧ Q (.bl (decide (x = .non))) H) := by
  intro pins s σ H x y v u Q I rx ry h
  obtain ⟨rfl, q⟩ := h
  cases ry
  refine is_none_gen (fin_bl I q ?_)
  cases x <;> first
    | (cases rx; rfl)
    | (obtain ⟨t, rfl⟩ := rx; rfl)
theorem nomark (b : Expr) {op : CmpOp} (h : op ≠ .In := by decide) (h2 : op ≠ .NotIn := by decide) : behindInMarks op b = false := by
  have e1 : (op == CmpOp.In) = false := by cases op <;> first | rfl | exact absurd rfl h
  have e2 : (op == CmpOp.NotIn) = false := by cases op <;> first | rfl | exact absurd rfl h2
  cases b <;> simp [behindInMarks, e1, e2]
/-- a comparison as a value; hm: nomark b, or (for in, not in) by with_unfolding_all rfl -/
theorem pe_cmpR {op : CmpOp} {r : R2} (ho : OpR X (compareOp op) r) (ha : PE X a ta) (hb : PE X b tb) (hm : behindInMarks op b = false) : PE X (.Compare a [op] [b] pos) (tOp r ta tb) := by
  intro pins s σ H Q I h
  exact wpAny_Compare1 (binT ha hb I h fun v u s2 x y H2 I2 rx ry q => ho pins s2 σ H2 x y v u Q I2 rx ry q) hm
/-- a reading of a value as a test -/
def tTest (t : TE) : TT := fun σ H Q => t σ H fun x H' => ∃ k, x = .bl k ∧ Q k H'
theorem pt_cmpR {op : CmpOp} {r : R2} (ho : OpR X (compareOp op) r) (ha : PE X a ta) (hb : PE X b tb) (hm : behindInMarks op b = false) : PT X (.Compare a [op] [b] pos) (tTest (tOp r ta tb)) := by
  intro pins s σ H Q I h
  refine wpAny_isTrue_Compare1 (thn (ha pins s σ H _ I h) fun v s1 ⟨x, H1, I1, r1, q1⟩ => thn (hb pins s1 σ H1 _ I1 q1) fun u s2 ⟨y, H2, I2, r2, q2⟩ =>
    thn (ho pins s2 σ H2 x y v u _ I2 r1 r2 q2) fun c s3 ⟨z, H3, I3, r3, k, e, q3⟩ => ?_) hm
  subst e
  cases r3
  exact wpAny_truthy_bool ⟨H3, I3, q3⟩
/-- a op1 b op2 c -/
def tChain (r r' : R2) (ta tb tc : TE) : TE := fun σ H Q => ta σ H fun x H1 => tb σ H1 fun y H2 => r x y H2 fun z H3 => ∃ k, z = .bl k ∧
  (if k = true then tc σ H3 fun w' H4 => r' y w' H4 Q else Q (.bl false) H3)
theorem pe_chain {op op' : CmpOp} {r r' : R2} (ho : OpR X (compareOp op) r) (ho' : OpR X (compareOp op') r') (ha : PE X a ta) (hb : PE X b tb) (hc : PE X c tc)
    (hm : lastMarks [op, op'] [b, c] = false := by with_unfolding_all rfl) : PE X (.Compare a [op, op'] [b, c] pos) (tChain r r' ta tb tc) := by
  intro pins s σ H Q I h
  refine Compare_chain (thn (ha pins s σ H _ I h) fun v s1 ⟨x, H1, I1, r1, q1⟩ => chain_link (thn (hb pins s1 σ H1 _ I1 q1) fun u s2 ⟨y, H2, I2, r2, q2⟩ =>
    thn (ho pins s2 σ H2 x y v u _ I2 r1 r2 q2) fun d s3 ⟨z, H3, I3, r3, k, e, q3⟩ => ?_)) hm
  subst e
  cases r3
  refine wpAny_truthy_bool ?_
  cases k with
  | false => exact ite_ff ⟨.bl false, H3, I3, rfl, q3⟩
  | true => exact ite_tt (chain_last (thn (hc pins s3 σ H3 _ I3 q3) fun w' s4 ⟨z', H4, I4, r4, q4⟩ => ho' pins s4 σ H4 y z' u w' Q I4 r2 r4 q4))
/-! ### truth -/
theorem line63 : (sizeLine : Nat) < 2 ^ 63 := by rw [sizeLine_eq]; decide
/-! ### strs and bytes -/
/-! ### scalar builtins, by CallR -/
theorem vals1 {x : V} {us : List Value} (r : Vals [x] us) : ∃ u, us = [u] ∧ RelV x u := by
  cases r with
  | cons r1 r2 => cases r2; exact ⟨_, rfl, r1⟩
theorem vals2 {x y : V} {us : List Value} (r : Vals [x, y] us) : ∃ u w', us = [u, w'] ∧ RelV x u ∧ RelV y w' := by
  cases r with
  | cons r1 r2 =>
    cases r2 with
    | cons r3 r4 => cases r4; exact ⟨_, _, rfl, r1, r3⟩
theorem call_abs : CallR X (.builtin "abs") (fun xs H Q => ∃ i, xs = [.int i] ∧ Q (.int (if i < 0 then -i else i)) H) := by
  intro pins s σ H xs us Q I r h
  obtain ⟨i, rfl, q⟩ := h
  obtain ⟨u, rfl, t, rfl⟩ := vals1 r
  exact call_abs_int fun u tk => ⟨.int (if i < 0 then -i else i), H, I.tok _, ⟨_, rfl⟩, q⟩
theorem call_max2 (hc : X.calm = true) : CallR X (.builtin "max") (fun xs H Q => ∃ i j, xs = [.int i, .int j] ∧ Q (.int (if j > i then j else i)) H) := by
  intro pins s σ H xs us Q I r h
  obtain ⟨i, j, rfl, q⟩ := h
  obtain ⟨u, w', rfl, ⟨t, rfl⟩, ⟨t', rfl⟩⟩ := vals2 r
  refine max_two_ints (I.ok.hd hc) fun h' tk k => ⟨_, H, I.kept k, ?_, q⟩
  by_cases hj : j > i
  · rw [if_pos hj, if_pos hj]; exact ⟨_, rfl⟩
  · rw [if_neg hj, if_neg hj]; exact ⟨_, rfl⟩
theorem call_min2 (hc : X.calm = true) : CallR X (.builtin "min") (fun xs H Q => ∃ i j, xs = [.int i, .int j] ∧ Q (.int (if j < i then j else i)) H) := by
  intro pins s σ H xs us Q I r h
  obtain ⟨i, j, rfl, q⟩ := h
  obtain ⟨u, w', rfl, ⟨t, rfl⟩, ⟨t', rfl⟩⟩ := vals2 r
  refine min_two_ints (I.ok.hd hc) fun h' tk k => ⟨_, H, I.kept k, ?_, q⟩
  by_cases hj : j < i
  · rw [if_pos hj, if_pos hj]; exact ⟨_, rfl⟩
  · rw [if_neg hj, if_neg hj]; exact ⟨_, rfl⟩
end
end L2
namespace L2
open PySem PySem.Spec PyProof.Rows
/-! ### an instance, its attributes a map -/
structure ObjM (h : Heap) (x dx C : Addr) (mA : Str → Option Value) : Prop where
  obj : h.get? x = some (PySem.W.instObj C dx)
  ns : h.Ns1 dx mA
  ne : dx ≠ x
theorem lookIn_ns {h : Heap} {dx : Addr} {mA : Str → Option Value} (n : h.Ns1 dx mA) : ∃ od, h.get? dx = some od ∧ ∀ name, PySem.W.lookIn name od = some (mA name) := by
  obtain ⟨o, es, ep, ho, hd, hk, _, hm⟩ := n
  refine ⟨o, ho, fun name => ?_⟩
  have e := hm name
  unfold nsFind findBy at e
  rw [← Array.find?_toList] at e
  unfold PySem.W.lookIn
  rw [hd]
  dsimp only
  split
  · rename_i y q
    rw [q] at e
    exact congrArg some e
  · rename_i q
    rw [q] at e
    have a : es.toList.any (·.refKey) = false := by
      rw [List.any_eq_false]
      intro y hy
      obtain ⟨z, t, hkey⟩ := hk y (Array.mem_toList_iff.mp hy)
      simp [DictEntry.refKey, hkey]
    have a' : ¬ es.toList.any (·.refKey) = true := by rw [a]; exact Bool.false_ne_true
    rw [if_neg a']
    exact congrArg some e
theorem ObjM.look {h : Heap} {x dx C : Addr} {mA : Str → Option Value} (I : ObjM h x dx C mA) : ∃ od, PySem.W.InstAt h x (PySem.W.instObj C dx) C (some od) ∧ ∀ name, PySem.W.lookIn name od = some (mA name) :=
  let ⟨od, ho, hl⟩ := lookIn_ns I.ns
  ⟨od, ⟨I.obj, rfl, rfl, ho⟩, hl⟩
section
variable {prog : Program} {w : World} {A : Around} {E : Value → Shared → Prop} {s : Shared} {K : PySem.W.Frag} {x dx C f : Addr} {mA : Str → Option Value} {name : Str} {v : Value}
theorem get_map {expr : Bool} {Q : Value → Shared → Prop} (X : K.In s.heap) (I : ObjM s.heap x dx C mA) (hg : PySem.W.plainGet K C name = true) (hh : PySem.W.hasDictIn K C = true)
    (ha : PySem.W.findIn K (.ref C) name = some none) (hv : mA name = some v) (hv' : PySem.W.handedIn v = true) (h : Q v { s with toks := s.toks + 1 }) :
    wpAny (model prog w) A (getAttr (.ref x) name expr) Q E s := by
  obtain ⟨od, J, hl⟩ := I.look
  exact PySem.W.get_value X J (PySem.W.plainGet_of hg).1 (PySem.W.findObj_own hh ha rfl (by rw [hl, hv])) hv' h
theorem get_meth {pl : Sem Bool} {Q : Value × List Value → Shared → Prop} (X : K.In s.heap) (I : ObjM s.heap x dx C mA) (hg : PySem.W.plainGet K C name = true)
    (hf : PySem.W.findIn K (.ref C) name = some (some (.ref f))) (ht : PySem.W.isFn K (.ref f) = true) (hv : mA name = none) (h : Q (.ref f, [.ref x]) s) :
    wpAny (model prog w) A (getMethod (.ref x) name pl) Q E s := by
  obtain ⟨od, J, hl⟩ := I.look
  exact PySem.W.method_fn X J (PySem.W.plainGet_of hg).1 (PySem.W.plainGet_of hg).2 hf (beq_iff_eq.mp ht) (by show (PySem.W.lookIn name od).map (·.isSome) = some false; rw [hl, hv]; rfl) h
theorem set_map {ns : List Str} {Q : Unit → Shared → Prop} (X : K.In s.heap) (I : ObjM s.heap x dx C mA)
    (hs : PySem.W.findIn K (.ref C) "__setattr__" = some (some (.builtin "object.__setattr__"))) (hp : PySem.W.plainOver K C = true) (ht : PySem.W.takerIn K C name = some none) (hh : PySem.W.hasDictIn K C = true)
    (hw : PySem.Within mA ns) (hsz : ns.length ≤ sizeLine)
    (h : ∀ h', ObjM h' x dx C (fun y => if y = name then some v else mA y) → Heap.SameBut dx s.heap h' → Q () { s with heap := h', toks := s.toks + 2 }) :
    wpAny (model prog w) A (setAttr (.ref x) name v) Q E s := by
  obtain ⟨od, J, hl⟩ := I.look
  refine PySem.W.set_plain X J hs (PySem.W.osa_open (s := { s with toks := s.toks + 1 }) (r := none) X J hp ht fun b => ?_)
  obtain ⟨cd, hc, hd'⟩ := PySem.W.any_some hh
  have hx : s.heap.get? x = some ⟨.ref C, some dx, .plain, #[]⟩ := I.obj
  refine wpAny_bind (wpAny_pure (wpAny_bind (wpAny_bind (wpAny_loadPart hx (wpAny_bind (PySem.W.Looks.here (s := { s with toks := s.toks + 1 }) (PySem.W.looks_clsIn X hc) ?_))))))
  rw [hd']
  refine wpAny_pure (a := some dx) (wpAny_bind (wpAny_pure (wpAny_bind ?_)))
  refine wpAny_nsSet1 (s := { s with toks := s.toks + 1 }) I.ns fun h' hn2 hs2 => ?_
  obtain ⟨oD, esD, epD, hoD, hdD, hcD⟩ := hn2.count (PySem.Within.cons name v hw)
  refine wpAny_bind (wpAny_lookBehind hoD (by rw [hdD]; exact pastItsLine_dict (Nat.le_trans hcD (by rw [List.length_cons]; omega))) ?_)
  exact wpAny_pure (h _ ⟨(hs2.2 _ (Ne.symm I.ne)).trans I.obj, hn2, I.ne⟩ hs2)
/-- C(..): the dict at the heap's end, the instance behind it; then its __init__ -/
theorem make_map {R : Result → Shared → Prop} {vs : List Value} {kw : List (Str × Value)} (X : K.In s.heap) (hm : PySem.W.makesIn K C = true)
    (hi : PySem.W.findIn K (.ref C) "__init__" = some (some (.ref f))) (hf : PySem.W.typeIn K (.ref f) = some (.type "function"))
    (h : codeAny (model prog w) (A.under (.builtin "type.__call__" ⟨.ref C :: vs, kw⟩)) (.call (.ref f) ⟨.ref (s.heap.objs.size + 1) :: vs, kw⟩) (PySem.W.InitBack (s.heap.objs.size + 1) R)
      { s with heap := (s.heap.push PySem.W.emptyDict).push (PySem.W.instObj C s.heap.objs.size) }) :
    codeAny (model prog w) A (.call (.ref C) ⟨vs, kw⟩) R s := by
  obtain ⟨hh, g, d, t, os⟩ := s
  exact PySem.W.make_core (PySem.W.makes_of X hm) (PySem.W.looks_findIn X hi) (fun self => PySem.W.bind_fn X self hf) (.inl rfl) h
end
/-! ### the attributes as a list of pairs -/
def putF (f : Str) (v : V) : List (Str × V) → List (Str × V)
  | [] => [(f, v)]
  | (g, x) :: r => if g = f then (g, v) :: r else (g, x) :: putF f v r
theorem lookup_putF (f g : Str) (v : V) : ∀ fs : List (Str × V), (putF f v fs).lookup g = if g = f then some v else fs.lookup g
  | [] => by
    show List.lookup g [(f, v)] = _
    by_cases h : g = f
    · have hb : (g == f) = true := beq_iff_eq.mpr h
      simp only [List.lookup, hb, if_pos h]
    · have hb : (g == f) = false := beq_eq_false_iff_ne.mpr h
      simp only [List.lookup, hb, if_neg h]
  | (k, x) :: r => by
    have ih := lookup_putF f g v r
    rw [show putF f v ((k, x) :: r) = (if k = f then (k, v) :: r else (k, x) :: putF f v r) from rfl]
    by_cases hk : k = f
    · rw [if_pos hk]
      by_cases h : g = k
      · have hb : (g == k) = true := beq_iff_eq.mpr h
        simp only [List.lookup, hb, if_pos (h.trans hk)]
      · have hb : (g == k) = false := beq_eq_false_iff_ne.mpr h
        simp only [List.lookup, hb, if_neg (fun e : g = f => h (e.trans hk.symm))]
    · rw [if_neg hk]
      by_cases h : g = k
      · have hb : (g == k) = true := beq_iff_eq.mpr h
        simp only [List.lookup, hb, if_neg (fun e : g = f => hk (h.symm.trans e))]
      · have hb : (g == k) = false := beq_eq_false_iff_ne.mpr h
        simp only [List.lookup, hb]
        exact ih
theorem keys_putF (f : Str) (v : V) : ∀ fs : List (Str × V), f ∈ (putF f v fs).map (·.1) ∧ ∀ g, g ∈ fs.map (·.1) → g ∈ (putF f v fs).map (·.1)
  | [] => ⟨by simp [putF], fun g h => by simp at h⟩
  | (k, x) :: r => by
    obtain ⟨i1, i2⟩ := keys_putF f v r
    rw [show putF f v ((k, x) :: r) = (if k = f then (k, v) :: r else (k, x) :: putF f v r) from rfl]
    by_cases hk : k = f
    · rw [if_pos hk]
      subst hk
      exact ⟨by simp, fun g h => by simpa using h⟩
    · rw [if_neg hk]
      refine ⟨?_, fun g h => ?_⟩
      · rw [List.map_cons]
        exact List.mem_cons_of_mem _ i1
      · rw [List.map_cons] at h ⊢
        rcases List.mem_cons.mp h with e | e
        · exact List.mem_cons.mpr (.inl e)
        · exact List.mem_cons_of_mem _ (i2 g e)
theorem length_putF (f : Str) (v : V) : ∀ fs : List (Str × V), (putF f v fs).length ≤ fs.length + 1
  | [] => by simp [putF]
  | (k, x) :: r => by
    have ih := length_putF f v r
    rw [show putF f v ((k, x) :: r) = (if k = f then (k, v) :: r else (k, x) :: putF f v r) from rfl]
    by_cases hk : k = f
    · rw [if_pos hk, List.length_cons, List.length_cons]; omega
    · rw [if_neg hk, List.length_cons, List.length_cons]; omega
theorem RelO.some_of {v : V} {o : Option Value} (r : RelO (some v) o) : ∃ u, o = some u ∧ RelV v u := by
  cases o with
  | none => exact (show False from r).elim
  | some u => exact ⟨u, rfl, r⟩
theorem RelO.none_of {o : Option Value} (r : RelO none o) : o = none := by
  cases o with
  | none => rfl
  | some u => exact (show False from r).elim
theorem handed_of {v : V} {u : Value} (r : RelV v u) : PySem.W.handedIn u = true := by
  cases v with
  | non => cases (show u = Value.none from r); rfl
  | bl b => cases (show u = Value.bool b from r); rfl
  | int i => obtain ⟨t, e⟩ := (show ∃ t, u = Value.int i t from r); cases e; rfl
  | str x => obtain ⟨t, e⟩ := (show ∃ t, u = Value.str x t from r); cases e; rfl
  | byt b => obtain ⟨t, e⟩ := (show ∃ t, u = Value.bytes b t from r); cases e; rfl
  | flt b => obtain ⟨t, e⟩ := (show ∃ t, u = Value.float b t from r); cases e; rfl
  | ref a => cases (show u = Value.ref a from r); rfl
  | ty n => cases (show u = Value.type n from r); rfl
section
variable {P : Program} {w : World} {H H' : Hp} {h h' : Heap} {a C dx : Addr} {fs fs' : List (Str × V)}
theorem ins_get (hok : HOk P w H h) (e : H a = some (.ins C dx fs)) : ∃ mA, ObjM h a dx C mA ∧ (∀ f, RelO (fs.lookup f) (mA f)) ∧ PySem.Within mA (fs.map (·.1)) ∧ fs.length ≤ 1000 ∧ H dx = some (.own a) := by
  obtain ⟨d, z, ne, ob, mA, n, r, q⟩ := (show ObjOk P w H h a (.ins C dx fs) from hok a _ e)
  exact ⟨mA, ⟨ob, n, ne⟩, r, q, z, d⟩
end
/-! ### what of the text a class must have -/
structure Cls (K : PySem.W.Frag) (C : Addr) : Prop where
  pg : PySem.W.plainGet K C Str.empty = true
  hd : PySem.W.hasDictIn K C = true
  po : PySem.W.plainOver K C = true
  sa : PySem.W.findIn K (.ref C) "__setattr__" = some (some (.builtin "object.__setattr__"))
theorem Cls.get {K : PySem.W.Frag} {C : Addr} (c : Cls K C) (f : Str) : PySem.W.plainGet K C f = true := c.pg
/-- no class of it has the name -/
def NoAttr (K : PySem.W.Frag) (C : Addr) (f : Str) : Prop := PySem.W.findIn K (.ref C) f = some none
theorem NoAttr.taker {K : PySem.W.Frag} {C : Addr} {f : Str} (n : NoAttr K C f) : PySem.W.takerIn K C f = some none := by
  unfold PySem.W.takerIn
  rw [show PySem.W.findIn K (.ref C) f = some none from n]
  rfl
/-- a method: a plain def of the class or of one above it -/
structure Meth (K : PySem.W.Frag) (C : Addr) (m : Str) (f : Addr) : Prop where
  at_ : PySem.W.findIn K (.ref C) m = some (some (.ref f))
  fn : PySem.W.isFn K (.ref f) = true
  kp : PySem.W.keepIn K (.ref f) = true
section
variable {X : Cx} {pins : List (Addr × Obj)} {σ : St} {H : Hp} {s : Shared} {a C dx : Addr} {fs : List (Str × V)} {f : Str} {v : V} {A : Around} {E : Value → Shared → Prop}
theorem getattr_ok {b : Bool} {Q : Value → Shared → Prop} (I : Inv X pins σ H s) (e : H a = some (.ins C dx fs)) (c : Cls X.K C) (n : NoAttr X.K C f) (l : fs.lookup f = some v)
    (h : ∀ u s', Inv X pins σ H s' → RelV v u → Q u s') : wpAny (model X.prog X.w) A (getAttr (.ref a) f b) Q E s := by
  obtain ⟨mA, O, r, _, _, _⟩ := ins_get I.hok e
  obtain ⟨u, hu, ru⟩ := RelO.some_of (v := v) (o := mA f) (by rw [← l]; exact r f)
  exact get_map I.kIn O (c.get f) c.hd n hu (handed_of ru) (h u _ (I.tok _) ru)
theorem getmeth_ok {m : Str} {g : Addr} {pl : Sem Bool} {Q : Value × List Value → Shared → Prop} (I : Inv X pins σ H s) (e : H a = some (.ins C dx fs)) (c : Cls X.K C) (k : Meth X.K C m g) (l : fs.lookup m = none)
    (h : Q (.ref g, [.ref a]) s) : wpAny (model X.prog X.w) A (getMethod (.ref a) m pl) Q E s := by
  obtain ⟨mA, O, r, _, _, _⟩ := ins_get I.hok e
  have hn : mA m = none := RelO.none_of (by rw [← l]; exact r m)
  exact get_meth I.kIn O (c.get m) k.at_ k.fn hn h
theorem setattr_ok {y : V} {u : Value} {Q : Unit → Shared → Prop} (I : Inv X pins σ H s) (e : H a = some (.ins C dx fs)) (c : Cls X.K C) (n : NoAttr X.K C f) (hl : fs.length < 1000) (ry : RelV y u)
    (h : ∀ s', Inv X pins σ (upd H a (.ins C dx (putF f y fs))) s' → Q () s') : wpAny (model X.prog X.w) A (setAttr (.ref a) f u) Q E s := by
  obtain ⟨mA, O, r, wi, _, ho⟩ := ins_get I.hok e
  have hz : (fs.map (·.1)).length ≤ sizeLine := by rw [List.length_map, sizeLine_eq]; omega
  refine set_map I.kIn O c.sa c.po n.taker c.hd wi hz fun h' O' sb => h _ ?_
  have hd : ∃ o, h'.get? dx = some o := let ⟨o, _, _, e', _⟩ := O'.ns; ⟨o, e'⟩
  refine I.write (x := a) (e := dx) (by rw [e]; exact True.intro) (.inr ho) (fun b q hb z => (sb.2 b hb).trans z) hd ?_
  refine ⟨by rw [upd_ne O.ne]; exact ho, ?_, O.ne, O'.obj, _, O'.ns, fun g => ?_, fun g hg => ?_⟩
  · have := length_putF f y fs; omega
  · show RelO ((putF f y fs).lookup g) (if g = f then some u else mA g)
    rw [lookup_putF]
    by_cases q : g = f
    · rw [if_pos q, if_pos q]; exact ry
    · rw [if_neg q, if_neg q]; exact r g
  · by_cases q : g = f
    · rw [q]; exact (keys_putF f y fs).1
    · refine (keys_putF f y fs).2 g (wi g fun z => hg ?_)
      show (if g = f then some u else mA g) = none
      rw [if_neg q]; exact z
/-- a new instance, tracked, without attributes -/
theorem Inv.made (I : Inv X pins σ H s) : Inv X pins σ (upd (upd H s.heap.objs.size (.own (s.heap.objs.size + 1))) (s.heap.objs.size + 1) (.ins C s.heap.objs.size []))
    { s with heap := (s.heap.push PySem.W.emptyDict).push (PySem.W.instObj C s.heap.objs.size) } := by
  have e1 : (s.heap.push PySem.W.emptyDict).get? s.heap.objs.size = some PySem.W.emptyDict := Heap.get?_push_size s.heap rfl
  have e2 : ((s.heap.push PySem.W.emptyDict).push (PySem.W.instObj C s.heap.objs.size)).get? (s.heap.objs.size + 1) = some (PySem.W.instObj C s.heap.objs.size) := by
    have := Heap.get?_push_size (s.heap.push PySem.W.emptyDict) (o := PySem.W.instObj C s.heap.objs.size) rfl
    rwa [Heap.size_push] at this
  have e3 : (s.heap.push PySem.W.emptyDict).Ns s.heap.objs.size (fun _ => none) := ⟨PySem.W.emptyDict, #[], _, e1, rfl, (fun e he => absurd he (by simp)), fun _ => rfl⟩
  have I1 := I.laid (a := s.heap.objs.size) (o := .own (s.heap.objs.size + 1)) (h' := s.heap.push PySem.W.emptyDict) (t' := s.toks) (fun b u q => Heap.get?_push_of_some _ q) (Nat.le_refl _) ⟨_, e1⟩
  refine I1.laid (a := s.heap.objs.size + 1) (o := .ins C s.heap.objs.size []) (t' := s.toks) (fun b u q => Heap.get?_push_of_some _ q) (Nat.le_of_eq (Heap.size_push _ _)) ?_
  have ne : s.heap.objs.size ≠ s.heap.objs.size + 1 := Nat.ne_of_lt (Nat.lt_succ_self _)
  refine ⟨by rw [upd_ne ne, upd_same], Nat.zero_le _, ne, e2, fun _ => none, (Heap.Ns1.of_empty e3).at fun o q => Heap.get?_push_of_some _ q, fun _ => True.intro, fun y hy => absurd rfl hy⟩
/-- e.f where nothing but the object is asked: through attributeBase (super) and the last hold -/
theorem attr_of {prog : Program} {w : World} {env : Env} {e : Expr} {f : Str} {pos : Pos} {s : Shared} {Q : Value → Shared → Prop} (hb : attributeBase e f env (eval e env) = eval e env)
    (h : wpAny (model prog w) A (eval e env) (fun o s₁ => wpAny (model prog w) A (getAttr o f true) Q E s₁) E s) : wpAny (model prog w) A (eval (.Attribute e f pos) env) Q E s :=
  Attribute_any_ h (by rw [arm_eval_Attribute, hb])
end
/-! ### readings and rules -/
/-- e.f, an attribute of the instance -/
def tFld (K : PySem.W.Frag) (ta : TE) (f : Str) : TE := fun σ H Q => ta σ H fun x H1 => ∃ a C dx fs v, x = .ref a ∧ H1 a = some (.ins C dx fs) ∧ Cls K C ∧ NoAttr K C f ∧ fs.lookup f = some v ∧ Q v H1
/-- e.f = value -/
def sFld (K : PySem.W.Frag) (ta tv : TE) (f : Str) : TS := fun D σ H => tv σ H fun y H1 => ta σ H1 fun x H2 => ∃ a C dx fs, x = .ref a ∧ H2 a = some (.ins C dx fs) ∧ Cls K C ∧ NoAttr K C f ∧ fs.length < 1000 ∧
  D.nx σ (upd H2 a (.ins C dx (putF f y fs)))
section
variable {X : Cx} {o e value : Expr} {f : Str} {pos pos' tpos : Pos} {ta tv : TE}
theorem pe_fld (he : PE X e ta) (hb : attributeBase e f X.env (eval e X.env) = eval e X.env) : PE X (.Attribute e f pos) (tFld X.K ta f) := by
  intro pins s σ H Q I h
  refine attr_of hb (thn (he pins s σ H _ I h) fun u s1 ⟨x, H1, I1, rx, a, C, dx, fs, v, ex, ea, c, n, l, q⟩ => ?_)
  subst ex
  obtain rfl : u = Value.ref a := rx
  exact getattr_ok I1 ea c n l fun u' s2 I2 ru => ⟨v, H1, I2, ru, q⟩
theorem ps_fld (ha : PE X o ta) (hv : PE X value tv) (hs : swapsWith value (some (.Attribute o f pos')) pos.line X.env = pure false) : PS X (.Assign [.Attribute o f pos'] value pos) (sFld X.K ta tv f) := by
  intro pins s σ H D I h
  refine plainObj_wpAny_Assign_Attribute (thn (hv pins s σ H _ I h) fun u s1 ⟨y, H1, I1, ry, q⟩ => thn (ha pins s1 σ H1 _ I1 q) fun ov s2 ⟨x, H2, I2, rx, a, C, dx, fs, ex, ea, c, n, l, q2⟩ => ?_) hs
  subst ex
  obtain rfl : ov = Value.ref a := rx
  exact setattr_ok I2 ea c n l ry fun s3 I3 => ⟨σ, _, I3, q2⟩
end
/-! ### isinstance -/
section
variable {X : Cx} {pins : List (Addr × Obj)} {σ : St} {H : Hp} {s : Shared} {A : Around} {E : Value → Shared → Prop} {Q : Value → Shared → Prop} {c : Value} {b : Bool}
end
end L2
namespace L2
open PySem PySem.Spec PyProof.Rows
/-! ### room -/
structure Room (k : Nat) (A : Around) : Prop where
  hd : A.handled = none
  dp : A.depth + 3 * k + 5 < recursionLimit
  un : A.units + 16 * k + 200 < cLine
theorem Room.mono {j k : Nat} {A : Around} (r : Room k A) (h : j ≤ k) : Room j A := ⟨r.hd, by have := r.dp; omega, by have := r.un; omega⟩
theorem Room.deeper {k : Nat} {A : Around} (r : Room (k + 1) A) (env : Env) : Room k (A.deeper env) :=
  ⟨r.hd, by have := r.dp; show A.depth + 1 + 3 * k + 5 < _; omega, by have := r.un; show A.units + 3 + 16 * k + 200 < _; omega⟩
theorem make_depth {A : Around} {C : Addr} {us : List Value} {kw : List (Str × Value)} : (A.under (.builtin "type.__call__" ⟨.ref C :: us, kw⟩)).depth = A.depth + 1 := by
  first | rfl | simp [Around.under, Code.weight, Code.isCreation, Code.isGuard, Code.isCaller, Code.frames, Code.isFrame, guardIds]
theorem make_units {A : Around} {C : Addr} {us : List Value} {kw : List (Str × Value)} : (A.under (.builtin "type.__call__" ⟨.ref C :: us, kw⟩)).units = A.units + 1 := by
  first | rfl | simp [Around.under, Code.cUnits, Code.frames, Code.isFrame]
theorem Room.make {k : Nat} {A : Around} (r : Room (k + 1) A) (C : Addr) (us : List Value) (kw : List (Str × Value)) : Room k (A.under (.builtin "type.__call__" ⟨.ref C :: us, kw⟩)) :=
  ⟨r.hd, by have := r.dp; rw [make_depth]; omega, by have := r.un; rw [make_units]; omega⟩
theorem Room.depth {k : Nat} {A : Around} (r : Room k A) : A.depth < recursionLimit := by have := r.dp; omega
/-! ### argument lists and displays -/
def tNil : TA := fun _ H Q => Q [] H
def tCons (ta : TE) (tr : TA) : TA := fun σ H Q => ta σ H fun x H1 => tr σ H1 fun xs H2 => Q (x :: xs) H2
section
variable {X : Cx} {e : Expr} {es : List Expr} {te : TE} {t : TA} {pos : Pos}
theorem pa_nil : PA X [] tNil := fun _ _ _ _ H Q I h => Calls.spliced_nil ⟨[], H, I, .nil, h⟩
theorem pa_cons (ha : PE X e te) (hr : PA X es t) (hs : starEach (e :: es) X.env = (false, eval e X.env) :: starEach es X.env := by rfl) : PA X (e :: es) (tCons te t) := by
  intro pos pins s σ H Q I h
  rw [hs]
  show wpAny _ _ (spliced ((false, eval e X.env) :: backTo pos (starEach es X.env))) _ _ s
  refine Calls.spliced_cons (thn (ha pins s σ H _ I h) fun u s1 ⟨x, H1, I1, r1, q1⟩ => ?_)
  exact thn (hr pos pins s1 σ H1 _ I1 q1) fun us s2 ⟨xs, H2, I2, r2, q2⟩ => ⟨x :: xs, H2, I2, .cons r1 r2, q2⟩
/-- a tuple, a list of written items -/
def tTup (t : TA) : TE := fun σ H Q => t σ H fun xs H1 => xs.length ≤ sizeLine ∧ ∀ p, H1 p = none → Q (.ref p) (upd H1 p (.tup xs))
def tLst (t : TA) : TE := fun σ H Q => t σ H fun xs H1 => xs.length ≤ sizeLine ∧ ∀ p, H1 p = none → Q (.ref p) (upd H1 p (.lst xs))
theorem pe_tup {x1} (h : PA X es t) : PE X (.Tuple es x1 pos) (tTup t) := by
  intro pins s σ H Q I hq
  refine wpAny_Tuple_spliced (thn (h pos pins s σ H _ I hq) fun us s1 ⟨xs, H1, I1, r, z, q⟩ => ⟨by rw [← r.length]; exact z, ?_⟩)
  have hf : H1 s1.heap.objs.size = none := I1.hok.fresh (Nat.le_refl _)
  refine ⟨.ref s1.heap.objs.size, upd H1 s1.heap.objs.size (.tup xs), I1.laid (t' := s1.toks) (fun b u e => Heap.get?_push_of_some _ e) (Nat.le_refl _) ?_, rfl, q _ hf⟩
  exact ⟨z, us, r, ⟨_, Heap.get?_push_size _ rfl, rfl, _, rfl⟩⟩
theorem pe_lst (h : PA X es t) : PE X (.List es pos) (tLst t) := by
  intro pins s σ H Q I hq
  refine wpAny_List_spliced (thn (h pos pins s σ H _ I hq) fun us s1 ⟨xs, H1, I1, r, z, q⟩ => ⟨by rw [← r.length]; exact z, ?_⟩)
  have hf : H1 s1.heap.objs.size = none := I1.hok.fresh (Nat.le_refl _)
  refine ⟨.ref s1.heap.objs.size, upd H1 s1.heap.objs.size (.lst xs), I1.laid (t' := s1.toks) (fun b u e => Heap.get?_push_of_some _ e) (Nat.le_refl _) ?_, rfl, q _ hf⟩
  exact ⟨z, us, 0, r, Heap.get?_push_size _ rfl⟩
end
/-! ### what a def promises -/
/-- a def's promise: the bound arguments in the parameters' order, the heap, the wanted end, the wanted exception -/
abbrev Sp := List V → Hp → VK → XK → Prop
/-- how an exception lies behind a call (file 08 gives it): the callers' frames, abstract heap and state ahead of the call, the wish, the exception, the state -/
abbrev CXT := List Env → Hp → Shared → XK → Value → Shared → Prop
/-- the state at a call -/
structure Env0 (P : Program) (w : World) (K : PySem.W.Frag) (mg : Str → Option Value) (base : Heap) (A : Around) (outer : List Env) (s : Shared) (H : Hp) : Prop where
  frames : A.frames = some outer
  mod : Mod K mg base
  bs : ∀ b o, base.get? b = some o → s.heap.get? b = some o ∧ H b = none
  bsz : base.objs.size ≤ s.heap.objs.size
  funs : s.heap.FunFrames base outer
  frf : ∀ b ∈ frs outer, H b = none
  hok : HOk P w H s.heap
  bare : AllBare s.gens
/-- a call's end -/
def CE (outer : List Env) (P : Program) (w : World) (H : Hp) (s : Shared) (Q : VK) (u : Value) (s' : Shared) : Prop :=
  ∃ v H', s'.os = s.os ∧ AllBare s'.gens ∧ Un (frs outer) [] H H' s.heap s'.heap ∧ HOk P w H' s'.heap ∧ RelV v u ∧ Q v H'
def CR (CX : CXT) (outer : List Env) (P : Program) (w : World) (H : Hp) (s : Shared) (Q : VK) (E : XK) (r : Result) (s' : Shared) : Prop :=
  match r with
  | .ok (.ret u) => CE outer P w H s Q u s'
  | .ok _ => False
  | .error e => CX outer H s E e s'
structure FnOk (P : Program) (w : World) (K : PySem.W.Frag) (mg : Str → Option Value) (base : Heap) (CX : CXT) (k : Nat) (f : Addr) (fd : FuncData) (ps : List Str) (sp : Sp) : Prop where
  len : ∀ vs H Q E, sp vs H Q E → vs.length = ps.length
  run : ∀ (A : Around) (outer : List Env) (s : Shared) (H : Hp) (args : Args) (us : List Value) (vs : List V) (Q : VK) (E : XK), Room k A → Env0 P w K mg base A outer s H → BindsTo s fd args (ps.zip us) → Vals vs us → sp vs H Q E →
    codeAny (model P w) A (.call (.ref f) args) (CR CX outer P w H s Q E) s
theorem FnOk.mono {P : Program} {w : World} {K : PySem.W.Frag} {mg : Str → Option Value} {base : Heap} {CX : CXT} {j k : Nat} {f : Addr} {fd : FuncData} {ps : List Str} {sp : Sp} (F : FnOk P w K mg base CX j f fd ps sp) (h : j ≤ k) :
    FnOk P w K mg base CX k f fd ps sp := ⟨F.len, fun A outer s H args us vs Q E hr => F.run A outer s H args us vs Q E (hr.mono h)⟩
theorem Env0.make {P : Program} {w : World} {K : PySem.W.Frag} {mg : Str → Option Value} {base : Heap} {A : Around} {outer : List Env} {s : Shared} {H : Hp} (e : Env0 P w K mg base A outer s H) (C : Addr) (us : List Value) (kw : List (Str × Value)) :
    Env0 P w K mg base (A.under (.builtin "type.__call__" ⟨.ref C :: us, kw⟩)) outer s H := ⟨by first | exact e.frames | (simpa [Around.under, Code.envs, Code.isFrame, pushEnvs] using e.frames), e.mod, e.bs, e.bsz, e.funs, e.frf, e.hok, e.bare⟩
section
variable {X : Cx} {pins : List (Addr × Obj)} {σ : St} {H : Hp} {s s' : Shared}
/-- from a body: what a callee wants -/
theorem Inv.env0 (I : Inv X pins σ H s) : Env0 X.prog X.w X.K X.mg X.base X.A X.stack s H :=
  ⟨I.ok.frames, I.ok.mod, I.bs, Nat.le_trans I.ok.bsz I.sz, I.stack, I.stkFree, I.hok, I.bare⟩
/-- behind a call -/
theorem Inv.after {Q : VK} {u : Value} (I : Inv X pins σ H s) (h : CE X.stack X.prog X.w H s Q u s') : EP X pins σ Q u s' := by
  obtain ⟨v, H', os, bare, un, hok, r, q⟩ := h
  obtain ⟨hh, g, d, t, os'⟩ := s'
  obtain rfl : os' = s.os := os
  exact ⟨v, H', I.call (h' := hh) (g' := g) (d' := d) (t' := t) (ch := []) un hok bare (fun b z => absurd z (by simp)), r, q⟩
end
/-! ### calls -/
/-- f(..): the written arguments, then the defaults dvs; E: what is wanted of an exception -/
def tCall (sp : Sp) (dvs : List V) (E : XK) (t : TA) : TE := fun σ H Q => t σ H fun vs H1 => sp (vs ++ dvs) H1 Q E
/-- o.m(..) of an instance of the class at C -/
def tMeth (C : Addr) (m : Str) (sp : Sp) (dvs : List V) (E : XK) (ta : TE) (t : TA) : TE := fun σ H Q => ta σ H fun x H1 => ∃ a dx fs, x = .ref a ∧ H1 a = some (.ins C dx fs) ∧ fs.lookup m = none ∧
  t σ H1 fun vs H2 => sp (x :: (vs ++ dvs)) H2 Q E
/-- how the parameters are bound: us the positional arguments, kw the keywords' values by name, ds the defaults that fill up -/
def Binds (K : PySem.W.Frag) (fd : FuncData) (ps : List Str) (ds : List Value) : Prop :=
  ∀ (s : Shared) (us : List Value), K.In s.heap → (us ++ ds).length = ps.length → BindsTo s fd ⟨us, []⟩ (ps.zip (us ++ ds))
/-- every parameter is given -/
theorem Binds.all {K : PySem.W.Frag} {fd : FuncData} {ps : List Str} (h : ∀ us : List Value, us.length = ps.length → bindArgs fd ⟨us, []⟩ = pure (ps.zip us)) : Binds K fd ps [] := fun s us _ hl => by
  rw [List.append_nil] at hl ⊢
  exact .of_eq (h us hl)
/-- an exception of a callee reaches what this body wants of exceptions -/
def Passes (CX : CXT) (X : Cx) (E : XK) : Prop := ∀ (pins : List (Addr × Obj)) (σ : St) (H : Hp) (s : Shared) (e : Value) (s' : Shared), Inv X pins σ H s → CX X.stack H s E e s' → X.xe e s'
section
variable {X : Cx} {CX : CXT} {k : Nat} {f C : Addr} {fd : FuncData} {ps : List Str} {sp : Sp} {dvs : List V} {ds : List Value} {E : XK} {x m : Str} {p pos apos : Pos} {e o : Expr} {es : List Expr} {ta : TE} {t : TA}
/-- the callee runs -/
theorem run_fn {pins : List (Addr × Obj)} {σ : St} {H : Hp} {s : Shared} {Q : VK} {us : List Value} {vs : List V} (F : FnOk X.prog X.w X.K X.mg X.base CX k f fd ps sp) (hr : Room k X.A) (hb : Binds X.K fd ps ds) (hd : Vals dvs ds) (hx : Passes CX X E)
    (I : Inv X pins σ H s) (r : Vals vs us) (h : sp (vs ++ dvs) H Q E) : wpAny (model X.prog X.w) X.A (call (.ref f) us) (EP X pins σ Q) X.xe s := by
  have r2 : Vals (vs ++ dvs) (us ++ ds) := r.append hd
  have hl : (us ++ ds).length = ps.length := by rw [← r2.length]; exact F.len _ _ _ _ h
  refine wpAny_call (codeAny_mono (F.run X.A X.stack s H ⟨us, []⟩ (us ++ ds) (vs ++ dvs) Q E hr I.env0 (hb s us I.kIn hl) r2 h) fun r s' hq => ?_)
  cases r with
  | error e => exact hx pins σ H s e s' I hq
  | ok fl =>
    cases fl with
    | ret u => exact I.after hq
    | next => exact False.elim hq
    | brk => exact False.elim hq
    | cont => exact False.elim hq
theorem pe_call (F : FnOk X.prog X.w X.K X.mg X.base CX k f fd ps sp) (hr : Room k X.A) (hg : Gl X x) (hm : X.mg x = some (.ref f)) (hk : PySem.W.keepIn X.K (.ref f) = true) (hb : Binds X.K fd ps ds) (hd : Vals dvs ds) (hx : Passes CX X E)
    (ha : PA X (e :: es) t) (hdb : (x == ("__debug__" : Str)) = false := by decide) (he : starEach (e :: es) X.env = (false, eval e X.env) :: starEach es X.env := by rfl) (hpl : (backTo pos (starEach es X.env)).any (·.1) = false := by rfl) :
    PE X (.Call (.Name x p) (e :: es) [] pos) (tCall sp dvs E t) := by
  intro pins s σ H Q I h
  refine wpAny_Call_Name_kw (ld_glob I hg hm ?_ hdb)
  refine PySem.W.callWith_K (h₀ := X.base) I.ok.mod.kin hk (thn (ha pos pins s σ H _ I h) fun us s1 ⟨vs, H1, I1, r, q⟩ => ⟨I1.kIn, ?_⟩) he hpl
  exact run_fn F hr hb hd hx I1 r q
/-- o.m(e, ..) -/
theorem pe_meth {pl : Sem Bool} (he : PE X o ta) (c : Cls X.K C) (hm : Meth X.K C m f) (F : FnOk X.prog X.w X.K X.mg X.base CX k f fd ps sp) (hr : Room k X.A) (hb : Binds X.K fd ps ds) (hd : Vals dvs ds) (hx : Passes CX X E) (ha : PA X (e :: es) t)
    (hst : starEach (e :: es) X.env = (false, eval e X.env) :: starEach es X.env := by rfl) (hpl : (backTo pos (starEach es X.env)).any (·.1) = false := by rfl)
    (ht : eval (.Call (.Attribute o m apos) (e :: es) [] pos) X.env = (do
      let ov ← eval o X.env
      standAt apos.atName
      let (f, first) ← holding [ov] (getMethod ov m pl)
      callWith pos f first (backTo pos (starEach (e :: es) X.env)) (backToKw pos (keywordEach [] X.env))) := by rfl) :
    PE X (.Call (.Attribute o m apos) (e :: es) [] pos) (tMeth C m sp dvs E ta t) := by
  intro pins s σ H Q I h
  refine PySem.W.methodCall_KW (pl := pl) (thn (he pins s σ H _ I h) fun u s1 ⟨x, H1, I1, rx, a, dx, fs, ex, ea, l, q⟩ => ?_) ht
  subst ex
  obtain rfl : u = Value.ref a := rx
  refine getmeth_ok I1 ea c hm l ?_
  refine PySem.W.callWith_K (first := [.ref a]) (h₀ := X.base) I.ok.mod.kin hm.kp (thn (ha pos pins s1 σ H1 _ I1 q) fun us s2 ⟨vs, H2, I2, r, q2⟩ => ⟨I2.kIn, ?_⟩) hst hpl
  exact run_fn (us := .ref a :: us) (vs := .ref a :: vs) F hr hb hd hx I2 (.cons rfl r) q2
/-- what a class must have to be made -/
structure Mk (K : PySem.W.Frag) (C f : Addr) : Prop where
  makes : PySem.W.makesIn K C = true
  init : PySem.W.findIn K (.ref C) "__init__" = some (some (.ref f))
  fn : PySem.W.isFn K (.ref f) = true
  kp : PySem.W.keepIn K (.ref C) = true
theorem run_make {pins : List (Addr × Obj)} {σ : St} {H : Hp} {s : Shared} {Q : VK} {us : List Value} {vs : List V} (M : Mk X.K C f) (F : FnOk X.prog X.w X.K X.mg X.base CX k f fd ps sp) (hr : Room (k + 1) X.A) (hb : Binds X.K fd ps ds) (hd : Vals dvs ds)
    (hx : Passes CX X E) (I : Inv X pins σ H s) (r : Vals vs us)
    (h : ∀ x dx, H x = none → H dx = none → dx ≠ x → sp (.ref x :: (vs ++ dvs)) (upd (upd H dx (.own x)) x (.ins C dx [])) (fun v H2 => v = .non ∧ Q (.ref x) H2) E) :
    wpAny (model X.prog X.w) X.A (call (.ref C) us) (EP X pins σ Q) X.xe s := by
  have hq := h (s.heap.objs.size + 1) s.heap.objs.size (I.hok.fresh (Nat.le_succ _)) (I.hok.fresh (Nat.le_refl _)) (Nat.ne_of_lt (Nat.lt_succ_self _))
  have I2 := Inv.made (C := C) I
  have r2 : Vals (V.ref (s.heap.objs.size + 1) :: (vs ++ dvs)) (Value.ref (s.heap.objs.size + 1) :: (us ++ ds)) := .cons rfl (r.append hd)
  have hl : (Value.ref (s.heap.objs.size + 1) :: us ++ ds).length = ps.length := by
    have e := r2.length
    rw [F.len _ _ _ _ hq] at e
    exact e.symm
  refine wpAny_call (make_map (f := f) I.kIn M.makes M.init (beq_iff_eq.mp M.fn) (codeAny_mono (F.run _ X.stack _ _ ⟨Value.ref (s.heap.objs.size + 1) :: us, []⟩ (Value.ref (s.heap.objs.size + 1) :: (us ++ ds)) _ _ E (hr.make C us [])
    (I2.env0.make C us []) (hb _ (Value.ref (s.heap.objs.size + 1) :: us) I2.kIn hl) r2 hq) fun r s' hq' => ?_))
  cases r with
  | error e => exact hx pins σ _ _ e s' I2 hq'
  | ok fl =>
    cases fl with
    | ret u =>
      obtain ⟨v, H', I3, rv, ev, q3⟩ := I2.after hq'
      subst ev
      exact ⟨rv, ⟨V.ref (s.heap.objs.size + 1), H', I3, rfl, q3⟩⟩
    | next => exact False.elim hq'
    | brk => exact False.elim hq'
    | cont => exact False.elim hq'
end
/-! ### keywords -/
/-- the values of the keywords, from the left -/
def PK (X : Cx) (kws : List Keyword) (t : TA) : Prop :=
  ∀ (pos : Pos) (pins : List (Addr × Obj)) (s : Shared) (σ : St) (H : Hp) (Q : List V → Hp → Prop), Inv X pins σ H s → t σ H Q → wpAny (model X.prog X.w) X.A (evalAll ((backToKw pos (keywordEach kws X.env)).map (·.2))) (AP X pins σ Q) X.xe s
section
variable {X : Cx} {CX : CXT} {k : Nat} {f C : Addr} {fd : FuncData} {ps ks : List Str} {sp : Sp} {E : XK} {x m : Str} {p pos apos kpos : Pos} {e o : Expr} {es : List Expr} {kws : List Keyword} {te ta : TE} {t tk : TA} {nm : Option Str}
theorem pk_nil : PK X [] tNil := fun _ _ _ _ H Q I h => wpAny_evalAll_nil ⟨[], H, I, .nil, h⟩
theorem pk_cons (ha : PE X e te) (hr : PK X kws t) : PK X (⟨nm, e, kpos⟩ :: kws) (tCons te t) := by
  intro pos pins s σ H Q I h
  show wpAny _ _ (evalAll ((do let v ← eval e X.env; standAt pos; pure v) :: (backToKw pos (keywordEach kws X.env)).map (·.2))) _ _ s
  refine wpAny_evalAll_cons (wpAny_bind (thn (ha pins s σ H _ I h) fun u s1 ⟨x, H1, I1, r1, q1⟩ => wpAny_bind (wpAny_standAt (wpAny_pure ?_))))
  exact thn (hr pos pins s1 σ H1 _ I1 q1) fun us s2 ⟨xs, H2, I2, r2, q2⟩ => ⟨x :: xs, H2, I2, .cons r1 r2, q2⟩
variable {g : List Value → List Value → List Value} {gV : List V → List V → List V}
end
/-! ### a def's body keeps its promise -/
/-- names: the parameters first -/
structure FnScope (N P : List Str) (sc : Scope) : Prop where
  kind : sc.kind = .function
  co : sc.isCoroutine = false
  gen : sc.isGenerator = false
  nd : N.Nodup
  pre : N.take P.length = P
  par : ∀ x ∈ P, sc.names.lookup x = some .local ∨ sc.names.lookup x = some .cell
  nofree : ∀ y ∈ sc.names, y.2 ≠ .free
theorem bindL_out {kindOf : Str → Option NameKind} {x : Str} : ∀ {binds : List (Str × Value)} {m : Str → Option Value}, (∀ v, (x, v) ∉ binds) → bindL kindOf binds m x = m x
  | [], _, _ => rfl
  | (n, v) :: r, m, h => by
    unfold bindL
    rw [bindL_out fun w hw => h w (List.mem_cons_of_mem _ hw)]
    split
    · have : x ≠ n := by rintro rfl; exact h v List.mem_cons_self
      simp [this]
    · rfl
theorem bindC_out {kindOf : Str → Option NameKind} {x : Str} : ∀ {binds : List (Str × Value)} {m : Str → Option Value}, (∀ v, (x, v) ∉ binds) → bindC kindOf binds m x = m x
  | [], _, _ => rfl
  | (n, v) :: r, m, h => by
    unfold bindC
    rw [bindC_out fun w hw => h w (List.mem_cons_of_mem _ hw)]
    split
    · rfl
    · have : x ≠ n := by rintro rfl; exact h v List.mem_cons_self
      simp [this]
theorem bindL_get {kindOf : Str → Option NameKind} {x : Str} {v : Value} : ∀ {P : List Str} {vs : List Value} {i : Nat} {m : Str → Option Value}, P.Nodup → P[i]? = some x → vs[i]? = some v → kindOf x = some .local →
    bindL kindOf (P.zip vs) m x = some v
  | [], _, _, _, _, h, _, _ => by simp at h
  | _ :: _, [], _, _, _, _, h, _ => by simp at h
  | p :: P, w :: vs, 0, m, nd, h1, h2, hk => by
    simp at h1 h2; subst h1; subst h2
    show bindL kindOf ((p, w) :: P.zip vs) m p = _
    unfold bindL
    rw [bindL_out fun v hv => (List.nodup_cons.mp nd).1 (List.of_mem_zip hv).1, if_pos hk]
    simp
  | p :: P, w :: vs, i + 1, m, nd, h1, h2, hk => by
    show bindL kindOf ((p, w) :: P.zip vs) m x = _
    unfold bindL
    exact bindL_get (i := i) (List.nodup_cons.mp nd).2 (by simpa using h1) (by simpa using h2) hk
theorem bindC_get {kindOf : Str → Option NameKind} {x : Str} {v : Value} : ∀ {P : List Str} {vs : List Value} {i : Nat} {m : Str → Option Value}, P.Nodup → P[i]? = some x → vs[i]? = some v → kindOf x ≠ some .local →
    bindC kindOf (P.zip vs) m x = some v
  | [], _, _, _, _, h, _, _ => by simp at h
  | _ :: _, [], _, _, _, _, h, _ => by simp at h
  | p :: P, w :: vs, 0, m, nd, h1, h2, hk => by
    simp at h1 h2; subst h1; subst h2
    show bindC kindOf ((p, w) :: P.zip vs) m p = _
    unfold bindC
    rw [bindC_out fun v hv => (List.nodup_cons.mp nd).1 (List.of_mem_zip hv).1, if_neg hk]
    simp
  | p :: P, w :: vs, i + 1, m, nd, h1, h2, hk => by
    show bindC kindOf ((p, w) :: P.zip vs) m x = _
    unfold bindC
    exact bindC_get (i := i) (List.nodup_cons.mp nd).2 (by simpa using h1) (by simpa using h2) hk
/-- the names' values at the entry -/
def start (N : List Str) (vs : List V) : St := vs.map some ++ List.replicate (N.length - vs.length) none
/-- the context of a def's body, at its entry; an exception leaves the frame, then lies as CX says -/
def cxOf (CX : CXT) (P : Program) (w : World) (K : PySem.W.Frag) (mg : Str → Option Value) (base : Heap) (N : List Str) (qual : Str) (scope : Scope) (f : Addr) (cd : Value) (A : Around) (outer : List Env) (s : Shared) (H : Hp) (E : XK) : Cx where
  prog := P
  w := w
  K := K
  mg := mg
  base := base
  A := A.deeper (envOfC qual scope s.heap.objs.size f cd)
  N := N
  s_0 := s
  H_0 := H
  env := envOfC qual scope s.heap.objs.size f cd
  outer := outer
  stack := envOfC qual scope s.heap.objs.size f cd :: outer
  ex := []
  calm := true
  fn := fun _ => true
  pn := []
  xe := fun e s' => wpAny (model P w) (A.deeper (envOfC qual scope s.heap.objs.size f cd)) (leaving (envOfC qual scope s.heap.objs.size f cd) e) (fun _ s'' => CX outer H s E e s'') (fun e' s'' => CX outer H s E e' s'') s'
theorem cell_has {sc : Scope} {n : Nat} {x : Str} (h : sc.names.lookup x = some .cell) : ∃ c, (cellsFrom n sc.names []).lookup x = some c := by
  have q := PySem.W.cellsFrom_some sc.names n [] (.inl h)
  exact Option.isSome_iff_exists.mp q
theorem inv_start {CX : CXT} {P : Program} {w : World} {K : PySem.W.Frag} {mg : Str → Option Value} {base : Heap} {N ps : List Str} {qual : Str} {scope : Scope} {f : Addr} {cd : Value} {A : Around} {outer : List Env} {s s1 : Shared} {H : Hp} {E : XK} {us : List Value} {vs : List V}
    (S : FnScope N ps scope) (hd : A.handled = none) (e0 : Env0 P w K mg base A outer s H) (hl : vs.length = ps.length) (r : Vals vs us)
    (x : InCallC s s.heap.objs.size (bindL (envOfC qual scope s.heap.objs.size f cd).kindOf (ps.zip us) fun _ => none) (cellsFrom (s.heap.objs.size + 1) scope.names []) (bindC (envOfC qual scope s.heap.objs.size f cd).kindOf (ps.zip us) fun _ => none) s1) :
    Inv (cxOf CX P w K mg base N qual scope f cd A outer s H E) [] (start N vs) H s1 := by
  have hpl : ps.length ≤ N.length := by have := congrArg List.length S.pre; rw [List.length_take] at this; omega
  obtain ⟨h1, tk, rfl, hk⟩ := x.done
  have noA : ∀ b : Addr, b ∉ (cxOf CX P w K mg base N qual scope f cd A outer s H E).ex := fun b z => absurd (show b ∈ ([] : List Addr) from z) (by simp)
  refine ⟨⟨e0.mod, S.kind, rfl, rfl, Nat.le_refl _, fun y z c h1 h2 => ?_, fun y hy => ?_, fun y c _ h => ?_, fun _ => hd, Around.frames_deeper e0.frames, .inr ⟨rfl, rfl⟩, fun b z => absurd z (noA b), e0.bs, e0.bsz, fun b _ _ => noA b, fun b z => absurd z (noA b), e0.funs, e0.frf⟩,
    rfl, e0.bare, Un.kept hk, ⟨_, x.toInCall.ns, fun i y v h1 h2 h3 => ?_⟩, fun y c h => ⟨_, x.cell y c h⟩, e0.hok.fresh (Nat.le_refl _), fun y c h => ?_, fun p hp => absurd (show p ∈ ([] : List (Addr × Obj)) from hp) (by simp), e0.hok.kept hk, ?_⟩
  · exact name_of_addr x.apart (PySem.mem_of_lookup h1) (PySem.mem_of_lookup h2)
  · have hy : scope.names.lookup y = some .cell ∨ scope.names.lookup y = some .free := hy
    rcases hy with hy | hy
    · exact cell_has hy
    · exact absurd rfl (S.nofree _ (PySem.mem_of_lookup hy))
  · exact Nat.le_of_lt (x.above y c (PySem.mem_of_lookup h))
  · have hi : i < vs.length := by
      unfold start at h2
      by_cases hi : i < vs.length
      · exact hi
      · rw [List.getElem?_append_right (by simpa using hi)] at h2
        rw [List.getElem?_replicate] at h2
        split at h2 <;> cases h2
    have ha : vs[i]? = some v := by
      unfold start at h2
      rw [List.getElem?_append_left (by simpa using hi), List.getElem?_map] at h2
      cases e : vs[i]? with
      | none => rw [e] at h2; cases h2
      | some a => rw [e] at h2; cases h2; rfl
    obtain ⟨u, hu, rv⟩ := r.get ha
    have hp : ps[i]? = some y := by
      rw [← S.pre, List.getElem?_take_of_lt (by omega)]; exact h1
    have ndP : ps.Nodup := by rw [← S.pre]; exact S.nd.sublist (List.take_sublist _ _)
    refine ⟨u, rv, ?_⟩
    rcases S.par y (List.mem_of_getElem? hp) with k | k
    · exact .inl ⟨k, bindL_get ndP hp hu k⟩
    · obtain ⟨c, e⟩ := cell_has (n := s.heap.objs.size + 1) k
      refine .inr ⟨.inl k, c, e, ?_⟩
      have q := x.cell y c e
      rw [bindC_get ndP hp hu (by show scope.names.lookup y ≠ _; rw [k]; decide)] at q
      exact q
  · exact e0.hok.fresh (Nat.le_of_lt (x.above y c (PySem.mem_of_lookup h)))
  · unfold start
    show _ = N.length
    rw [List.length_append, List.length_map, List.length_replicate]
    omega
/-- THE RULE: a def (or a method) of the text, by its body. The body's reading t is chosen for each entry; it is run at the parameters' values -/
theorem fn_of {CX : CXT} {P : Program} {w : World} {K : PySem.W.Frag} {mg : Str → Option Value} {base : Heap} {k : Nat} {f : Addr} {name qual : Str} {params : Arguments} {body : List Stmt} {scope : Scope} {dV kV doc pm cdv ct oc : Value} {an od : Option Addr}
    {osl : Array (Option Value)} {N ps : List Str} {sp : Sp} (lk : K.lookup f = some ⟨oc, od, .func (PySem.W.fnOf name qual params body scope dV kV doc pm an cdv ct), osl⟩) (hcd : PySem.W.codeIn K cdv qual = true) (S : FnScope N ps scope)
    (len : ∀ vs H Q E, sp vs H Q E → vs.length = ps.length)
    (hbody : ∀ (A : Around) (outer : List Env) (s : Shared) (H : Hp) (vs : List V) (Q : VK) (E : XK), Room k (A.deeper (envOfC qual scope s.heap.objs.size f cdv)) → sp vs H Q E →
      ∃ t, PSs (cxOf CX P w K mg base N qual scope f cdv A outer s H E) body t ∧ t { nx := fun _ H' => Q .non H', rt := Q } (start N vs) H) :
    FnOk P w K mg base CX (k + 1) f (PySem.W.fnOf name qual params body scope dV kV doc pm an cdv ct) ps sp := by
  refine ⟨len, fun A outer s H args us vs Q E hr e0 hb r hsp => ?_⟩
  have hl := len _ _ _ _ hsp
  have KX : K.In s.heap := e0.mod.kin.keeps fun b o e => (e0.bs b o e).1
  have lim : s.heap.NoLimit := e0.mod.nolimit.keeps fun b o e => (e0.bs b o e).1
  have hkind : ∀ y ∈ ps.zip us, scope.names.lookup y.1 = some .local ∨ (scope.names.lookup y.1 = some .cell ∧ ((cellsFrom (s.heap.objs.size + 1) scope.names []).lookup y.1).isSome = true) := fun ⟨n, v⟩ hy => by
    rcases S.par n (List.of_mem_zip hy).1 with q | q
    · exact .inl q
    · exact .inr ⟨q, PySem.W.cellsFrom_some _ _ _ (.inl q)⟩
  refine codeAny_call_function hr.depth (KX _ _ lk) rfl S.co S.gen rfl (PySem.W.codeRec_of KX hcd) (hb _ _ _ _ ?_)
  refine wpAny_newFunctionEnv_cells S.kind hkind fun env he s1 x => ?_
  subst he
  refine ⟨lim.keeps x.toInCall.keep, codeAny_func ?_⟩
  obtain ⟨t, ht, hq⟩ := hbody A outer s H vs Q E (hr.deeper _) hsp
  have I : Inv (cxOf CX P w K mg base N qual scope f cdv A outer s H E) [] (start N vs) H s1 := inv_start S hr.hd e0 hl r x
  refine wpAny_mono (ht [] s1 (start N vs) H _ I hq) (fun fl s' hs => ?_) fun e s' hs => hs
  have fin : ∀ {σ' : St} {H' : Hp} {v : V} {u : Value}, Inv (cxOf CX P w K mg base N qual scope f cdv A outer s H E) [] σ' H' s' → RelV v u → Q v H' → CE outer P w H s Q u s' :=
    fun {σ' H' v u} J rv q => ⟨v, H', J.os, J.bare, J.base, J.hok, rv, q⟩
  cases fl with
  | ret u =>
    obtain ⟨v, σ', H', J, rv, q⟩ := hs
    exact fin J rv q
  | next =>
    obtain ⟨σ', H', J, q⟩ := hs
    exact fin (v := V.non) (u := Value.none) J rfl q
  | brk =>
    obtain ⟨_, _, _, q⟩ := hs
    exact False.elim q
  | cont =>
    obtain ⟨_, _, _, q⟩ := hs
    exact False.elim q
end L2
namespace L2
open PySem PySem.Spec PyProof.Rows
section
variable {X : Cx} {x : Str} {p pos : Pos} {e : Expr} {es : List Expr} {t : TA} {id T : String} {r : List V → Hp → VK → Prop}
def tCB (r : List V → Hp → VK → Prop) (t : TA) : TE := fun σ H Q => t σ H fun vs H1 => r vs H1 Q
/-- f(e, ..), f a built-in function -/
theorem pe_callB (hc : CallR X (.builtin id) r) (hg : Gl X x) (hm : X.mg x = none) (hv : bootBuiltins x = some (.builtin id)) (ha : PA X (e :: es) t) (hn : x ≠ "__name__" := by decide) (hdb : (x == ("__debug__" : Str)) = false := by decide)
    (he : starEach (e :: es) X.env = (false, eval e X.env) :: starEach es X.env := by rfl) (hpl : (backTo pos (starEach es X.env)).any (·.1) = false := by rfl) : PE X (.Call (.Name x p) (e :: es) [] pos) (tCB r t) := by
  intro pins s σ H Q I h
  refine wpAny_Call_Name_kw (ld_blt I hg hm hv ?_ hn hdb)
  exact PyProof.Rows.callWith_builtin1 (thn (ha pos pins s σ H _ I h) fun us s1 ⟨vs, H1, I1, r1, q1⟩ => hc pins s1 σ H1 vs us Q I1 r1 q1) he hpl
end
end L2
namespace HT
open PySem PyProof.Rows
section
open PySem.SeqAt
open PySem.AutoSeq1 (wpAny_loadPart')
open PySem.MeetsSeq PySem.MeetsSeq2 PySem.MeetsSeq3
end
section
variable {prog : Program} {w : World} {A : Around} {E : Value → Shared → Prop} {s : Shared}
/-! ### t[a:b], not the whole -/
/-- a slice's bound as a place among n (d where it is left out) -/
def sIx (n d : Nat) : Option Int → Nat
  | none => d
  | some v => if v < 0 then (v + (n : Int)).toNat else min v.toNat n
theorem sIx_none (n d : Nat) : sIx n d none = d := rfl
theorem sIx_nat (n d k : Nat) : sIx n d (some (k : Int)) = min k n := by
  show (if (k : Int) < 0 then ((k : Int) + (n : Int)).toNat else min (k : Int).toNat n) = min k n
  rw [if_neg (by omega), Int.toNat_natCast]
end
end HT
namespace L2
open PySem PySem.Spec PyProof.Rows
/-! ### the parts of a slice -/
abbrev TO := St → Hp → (Option Int → Hp → Prop) → Prop
/-- a slice's part (left out, or an int) -/
def PO (X : Cx) (e : Option Expr) (t : TO) : Prop :=
  ∀ (pins : List (Addr × Obj)) (s : Shared) (σ : St) (H : Hp) (Q : Option Int → Hp → Prop), Inv X pins σ H s → t σ H Q →
    wpAny (model X.prog X.w) X.A (evalPart e X.env) (fun u s' => ∃ o H', Inv X pins σ H' s' ∧ IsPart u o ∧ Q o H') X.xe s
def tNoPart : TO := fun _ H Q => Q none H
def tPart (t : TE) : TO := fun σ H Q => t σ H fun x H1 => ∃ i, x = .int i ∧ Q (some i) H1
section
variable {X : Cx} {e : Expr} {te : TE} {lo hi : Option Expr} {tl th : TO} {pos p2 : Pos}
theorem po_none : PO X none tNoPart := by
  intro pins s σ H Q I h
  rw [evalPart_none]
  exact wpAny_pure ⟨none, H, I, .none, h⟩
theorem po_some (h : PE X e te) : PO X (some e) (tPart te) := by
  intro pins s σ H Q I hw
  rw [evalPart_some]
  refine thn (h pins s σ H _ I hw) fun u s1 ⟨x, H1, I1, r1, q1⟩ => ?_
  obtain ⟨i, rfl, q⟩ := q1
  obtain ⟨t, rfl⟩ := r1
  exact ⟨some i, H1, I1, .int i t, q⟩
/-- what a slice of a value is, by values: the slice object stands at sl -/
def SlR (X : Cx) (r : V → Option Int → Option Int → Hp → VK → Prop) : Prop :=
  ∀ (pins : List (Addr × Obj)) (s : Shared) (σ : St) (H : Hp) (x : V) (v vl vu : Value) (lo hi : Option Int) (sl : Addr) (Q : VK), Inv X pins σ H s → RelV x v → s.heap.IsSliceOf sl vl vu .none → IsPart vl lo → IsPart vu hi → r x lo hi H Q →
    ∃ T id, typeLookup (.type T) "__getitem__" = pure (some (.builtin id)) ∧ s.TypeIs v T ∧ wpAny (model X.prog X.w) X.A (getItem v (.ref sl)) (EP X pins σ Q) X.xe s
def tSl (r : V → Option Int → Option Int → Hp → VK → Prop) (te : TE) (tl th : TO) : TE := fun σ H Q => te σ H fun x H1 => tl σ H1 fun l H2 => th σ H2 fun u H3 => r x l u H3 Q
/-- a[lo:hi], any a -/
theorem pe_slice {r : V → Option Int → Option Int → Hp → VK → Prop} (hr : SlR X r) (he : PE X e te) (hl : PO X lo tl) (hu : PO X hi th) : PE X (.Subscript e (.Slice lo hi none p2) pos) (tSl r te tl th) := by
  intro pins s σ H Q I h
  refine Subscript_ (thn (he pins s σ H _ I h) fun v s1 ⟨x, H1, I1, r1, q1⟩ => ?_)
  refine wpAny_Slice (thn (hl pins s1 σ H1 _ I1 q1) fun vl s2 ⟨l, H2, I2, pl, q2⟩ => thn (hu pins s2 σ H2 _ I2 q2) fun vu s3 ⟨u, H3, I3, pu, q3⟩ => ?_)
  rw [evalPart_none]
  refine wpAny_pure ?_
  have I4 : Inv X pins σ H3 { s3 with heap := s3.heap.push { cls := .type "slice", data := .fields #[vl, vu, .none] } } := I3.kept (t' := s3.toks) fun b ob q => Heap.get?_push_of_some _ q
  obtain ⟨T, id, hT, ht, hg⟩ := hr pins { s3 with heap := s3.heap.push { cls := .type "slice", data := .fields #[vl, vu, .none] } } σ H3 x v vl vu l u s3.heap.objs.size Q I4 r1 (Heap.IsSliceOf.new ..) pl pu q3
  show wpAny (model X.prog X.w) X.A (subscriptTail e (.Slice lo hi none p2) v (.ref s3.heap.objs.size)) (EP X pins σ Q) X.xe { s3 with heap := s3.heap.push { cls := .type "slice", data := .fields #[vl, vu, .none] } }
  exact tail_any (ops := [.ref s3.heap.objs.size, v]) ht hT hg (by with_unfolding_all rfl)
/-- the items of xs[lo:hi] -/
def cutV (xs : List V) (lo hi : Option Int) : List V := (xs.drop (HT.sIx xs.length 0 lo)).take (HT.sIx xs.length xs.length hi - HT.sIx xs.length 0 lo)
theorem cutV_length (xs : List V) (lo hi : Option Int) : (cutV xs lo hi).length ≤ xs.length := by
  unfold cutV
  rw [List.length_take, List.length_drop]
  omega
/-! ### t < u, t + u -/
end
end L2
namespace L2
open PySem PySem.Spec PyProof.Rows
/-! ### places -/
/-- the place that an index of any sign means -/
def ixN (n : Nat) (i : Int) : Option Nat := if 0 ≤ i then (if i < n then some i.toNat else none) else if -(n : Int) ≤ i then some (i + n).toNat else none
def atI {α : Type} (xs : List α) (i : Int) : Option α := (ixN xs.length i).bind fun j => xs[j]?
theorem ixN_seq {n : Nat} {i : Int} {j : Nat} (h : ixN n i = some j) : seqIndex? i n = some j ∧ j < n ∧ -(n : Int) ≤ i ∧ i < n := by
  unfold ixN at h
  by_cases h0 : 0 ≤ i
  · rw [if_pos h0] at h
    by_cases h1 : i < n
    · rw [if_pos h1] at h
      have e : i.toNat = j := Option.some.inj h
      exact ⟨by rw [seqIndex_of h0 h1, e], by omega, by omega, h1⟩
    · rw [if_neg h1] at h; cases h
  · rw [if_neg h0] at h
    by_cases h1 : -(n : Int) ≤ i
    · rw [if_pos h1] at h
      have e : (i + n).toNat = j := Option.some.inj h
      exact ⟨by rw [seqIndex_neg (by omega) h1, e], by omega, h1, by omega⟩
    · rw [if_neg h1] at h; cases h
theorem atI_get {α : Type} {xs : List α} {i : Int} {v : α} (h : atI xs i = some v) : ∃ j, seqIndex? i xs.length = some j ∧ xs[j]? = some v ∧ j < xs.length ∧ -(xs.length : Int) ≤ i ∧ i < xs.length := by
  unfold atI at h
  cases e : ixN xs.length i with
  | none => rw [e] at h; cases h
  | some j =>
    rw [e] at h
    obtain ⟨h1, h2, h3, h4⟩ := ixN_seq e
    exact ⟨j, h1, h, h2, h3, h4⟩
theorem atI_nat {α : Type} {xs : List α} {j : Nat} {v : α} (h : xs[j]? = some v) : atI xs (j : Int) = some v := by
  have hj : j < xs.length := (List.getElem?_eq_some_iff.mp h).1
  have e : ixN xs.length (j : Int) = some j := by
    unfold ixN
    rw [if_pos (by omega), if_pos (by omega)]; simp
  unfold atI; rw [e]; exact h
/-! ### what may be subscripted -/
/-- what stands as an index of a plain subscript -/
def PlainIx (b : Expr) : Prop := ∀ o i, subscripted b false o i = operate [o, i] (getItem o i)
/-- a subscript by values -/
def IxR (X : Cx) (r : R2) : Prop :=
  ∀ (value slice : Expr) (pins : List (Addr × Obj)) (s : Shared) (σ : St) (H : Hp) (x y : V) (v u : Value) (Q : VK), Inv X pins σ H s → RelV x v → RelV y u → r x y H Q →
    subscripted slice false v u = operate [v, u] (getItem v u) → wpAny (model X.prog X.w) X.A (subscriptTail value slice v u) (EP X pins σ Q) X.xe s
/-- a call of a builtin's method by values: the receiver, the arguments -/
def MtR (X : Cx) (id : String) (r : V → List V → Hp → VK → Prop) : Prop :=
  ∀ (pins : List (Addr × Obj)) (s : Shared) (σ : St) (H : Hp) (x : V) (xs : List V) (v : Value) (us : List Value) (Q : VK), Inv X pins σ H s → RelV x v → Vals xs us → r x xs H Q →
    wpAny (model X.prog X.w) X.A (call (.builtin id) (v :: us)) (EP X pins σ Q) X.xe s
section
variable {X : Cx} {a b : Expr} {ta tb : TE} {pos : Pos}
/-- a[b] -/
theorem pe_ix {r : R2} (hr : IxR X r) (ha : PE X a ta) (hb : PE X b tb) (hs : PlainIx b) : PE X (.Subscript a b pos) (tOp r ta tb) := by
  intro pins s σ H Q I h
  exact Subscript_ (binT ha hb I h fun v u s2 x y H2 I2 rx ry q => hr a b pins s2 σ H2 x y v u Q I2 rx ry q (hs _ _))
def rIxL (K : PySem.W.Frag) : R2 := fun x y H Q => ∃ p xs i v, x = .ref p ∧ y = .int i ∧ SqL K H p xs ∧ atI xs i = some v ∧ Q v H
def rIxT (K : PySem.W.Frag) : R2 := fun x y H Q => ∃ p xs i v, x = .ref p ∧ y = .int i ∧ SqT K H p xs ∧ atI xs i = some v ∧ Q v H
theorem ix_list : IxR X (rIxL X.K) := by
  intro value slice pins s σ H x y v u Q I rx ry h hs
  obtain ⟨p, xs, i, z, rfl, rfl, hq, he, q⟩ := h
  cases rx
  obtain ⟨t, rfl⟩ := ry
  obtain ⟨its, r, pl, hz⟩ := I.list hq
  obtain ⟨j, h1, h2, h3, h4, h5⟩ := atI_get he
  obtain ⟨w, ew, rw'⟩ := r.get h2
  have hl := r.length
  have hn := line63
  have fin : EP X pins σ Q w s := ⟨z, H, I, rw', q⟩
  by_cases h0 : 0 ≤ i
  · have hj : i.toNat = j := by
      rw [seqIndex_of h0 h5] at h1
      exact Option.some.inj h1
    exact item_listR pl.isList h0 (by omega) (by rw [hj]; simpa using ew) fin hs
  · have hj : (i + (its.toArray.size : Int)).toNat = j := by
      rw [seqIndex_neg (by omega) h4] at h1
      rw [List.size_toArray, ← hl]
      exact Option.some.inj h1
    exact subscriptTail_builtinR (x := w) pl.isList.typeIs slot_list_getitem.lookup
      (wpAny_getItem_list_neg (Q := fun r s' => r = w ∧ EP X pins σ Q r s') pl.isList (by omega) (by rw [List.size_toArray] <;> omega) (by omega) (by rw [hj]; simpa using ew) ⟨rfl, fin⟩) hs
theorem ix_tup : IxR X (rIxT X.K) := by
  intro value slice pins s σ H x y v u Q I rx ry h hs
  obtain ⟨p, xs, i, z, rfl, rfl, hq, he, q⟩ := h
  cases rx
  obtain ⟨t, rfl⟩ := ry
  obtain ⟨its, r, pl, hz⟩ := I.tuple hq
  obtain ⟨j, h1, h2, h3, h4, h5⟩ := atI_get he
  obtain ⟨w, ew, rw'⟩ := r.get h2
  have hl := r.length
  have hn := line63
  have fin : EP X pins σ Q w s := ⟨z, H, I, rw', q⟩
  exact subscriptTail_builtinR (x := w) pl.typeIs slot_tuple_getitem.lookup
    (getItem_tuple (j := j) (Q := fun r s' => r = w ∧ EP X pins σ Q r s') pl (by omega) (by omega) (by rw [List.size_toArray, ← hl]; exact h1) (by simpa using ew) ⟨rfl, fin⟩) hs
/-! ### xs[i] = v, any sign -/
/-- the list's object behind a store -/
theorem mapSeq_set (its : List Value) (n j : Nat) (u : Value) : Obj.mapSeq (·.setIfInBounds j u) { cls := .type "list", data := .seq its.toArray n } = { cls := .type "list", data := .seq (its.set j u).toArray n } := by
  simp [Obj.mapSeq]
theorem Inv.lst {pins : List (Addr × Obj)} {σ : St} {H : Hp} {s : Shared} {p : Addr} {xs : List V} (I : Inv X pins σ H s) (h : H p = some (.lst xs)) :
    ∃ (its : List Value) (n : Nat), Vals xs its ∧ s.heap.get? p = some { cls := .type "list", data := .seq its.toArray n } ∧ xs.length ≤ sizeLine := by
  obtain ⟨z, its, n, r, e⟩ := I.hok p _ h
  exact ⟨its, n, r, e, z⟩
/-- the list at p is written by an update of its object -/
theorem Inv.lstUpd {pins : List (Addr × Obj)} {σ : St} {H : Hp} {s : Shared} {p : Addr} {xs ys : List V} {its its' : List Value} {n n' : Nat} {f : Obj → Obj} (I : Inv X pins σ H s) (h : H p = some (.lst xs))
    (ho : s.heap.get? p = some { cls := .type "list", data := .seq its.toArray n }) (hf : f { cls := .type "list", data := .seq its.toArray n } = { cls := .type "list", data := .seq its'.toArray n' }) (r : Vals ys its') (hz : ys.length ≤ sizeLine) (t : Nat) :
    Inv X pins σ (upd H p (.lst ys)) { s with heap := s.heap.update p f, toks := t } := by
  have e : (s.heap.update p f).get? p = some { cls := .type "list", data := .seq its'.toArray n' } := by
    rw [Heap.get?_update_self f ho (by rw [hf] <;> rfl), hf]
  refine I.write (x := p) (e := p) (by rw [h]; trivial) (.inl rfl) (fun b u hb q => (Heap.get?_update_other _ _ (Ne.symm hb)).trans q) ⟨_, e⟩ ?_
  exact ⟨hz, its', n', r, e⟩
def rSetL : V → V → V → Hp → (Hp → Prop) → Prop := fun o i v H Q => ∃ p xs k j, o = .ref p ∧ i = .int k ∧ H p = some (.lst xs) ∧ ixN xs.length k = some j ∧ Q (upd H p (.lst (xs.set j v)))
theorem set_list : PSet X rSetL := by
  intro pins s σ H o i v ov iv u Q I ro ri rv h
  obtain ⟨p, xs, k, j, rfl, rfl, hp, hj, q⟩ := h
  cases ro
  obtain ⟨t, rfl⟩ := ri
  obtain ⟨its, n, r, ho, hz⟩ := I.lst hp
  obtain ⟨h1, h2, h3, h4⟩ := ixN_seq hj
  have hl := r.length
  have hn := line63
  have I' : Inv X pins σ (upd H p (.lst (xs.set j v))) { s with heap := s.heap.update p (Obj.mapSeq (·.setIfInBounds j u)) } :=
    I.lstUpd hp ho (mapSeq_set its n j u) (r.set rv j) (by rw [List.length_set]; exact hz) s.toks
  by_cases h0 : 0 ≤ k
  · have hk : k.toNat = j := by
      rw [seqIndex_of h0 h4] at h1
      exact Option.some.inj h1
    exact PySem.W.ki_setAt ho h0 (by omega) (by rw [List.size_toArray, ← hl]; exact h4) (by rw [hk]; exact ⟨_, I', q⟩)
  · have hk : (k + (its.toArray.size : Int)).toNat = j := by
      rw [seqIndex_neg (by omega) h3] at h1
      rw [List.size_toArray, ← hl]
      exact Option.some.inj h1
    exact PySem.W.ki_setBack ho (by omega) (by rw [List.size_toArray, ← hl]; exact h3) (by omega) (by rw [hk]; exact ⟨_, I', q⟩)
/-! ### slices -/
theorem slice_bounds (lo hi : Option Int) (n : Nat) : (sliceBounds lo hi none n).1 = ((HT.sIx n 0 lo : Nat) : Int) ∧ (sliceBounds lo hi none n).2.1 = ((HT.sIx n n hi : Nat) : Int) ∧ (sliceBounds lo hi none n).2.2 = 1 := by
  refine ⟨?_, ?_, rfl⟩
  · cases lo with
    | none => simp [sliceBounds, HT.sIx]
    | some i =>
      simp only [sliceBounds, HT.sIx, Option.getD_none, show (1 : Int) > 0 by decide, if_true]
      by_cases h : i < 0
      · simp only [h, if_true] <;> omega
      · simp only [h, if_false] <;> omega
  · cases hi with
    | none => simp [sliceBounds, HT.sIx]
    | some i =>
      simp only [sliceBounds, HT.sIx, Option.getD_none, show (1 : Int) > 0 by decide, if_true]
      by_cases h : i < 0
      · simp only [h, if_true] <;> omega
      · simp only [h, if_false] <;> omega
theorem slicePick_cut (its : List Value) (lo hi : Option Int) : slicePick its.toArray lo hi none = ((its.drop (HT.sIx its.length 0 lo)).take (HT.sIx its.length its.length hi - HT.sIx its.length 0 lo)).toArray := by
  obtain ⟨h1, h2, h3⟩ := slice_bounds lo hi its.toArray.size
  unfold slicePick
  rw [h1, h2, h3]
  simp only [sliceRange_one, pick_run, List.size_toArray] <;> rfl
/-- xs[lo:hi] of a list: a new list -/
def rSlL (K : PySem.W.Frag) : V → Option Int → Option Int → Hp → VK → Prop := fun x lo hi H Q => ∃ a xs, x = .ref a ∧ SqL K H a xs ∧ ∀ p, H p = none → Q (.ref p) (upd H p (.lst (cutV xs lo hi)))
theorem sl_list : SlR X (rSlL X.K) := by
  intro pins s σ H x v vl vu lo hi sl Q I rx hs pl pu h
  obtain ⟨a, xs, rfl, hx, q⟩ := h
  cases rx
  obtain ⟨its, r, ht, hz⟩ := I.list hx
  have hlen := r.length
  refine ⟨"list", _, slot_list_getitem.lookup, ht.isList.typeIs, ?_⟩
  refine wpAny_getItem_list_slice ht.isList hs pl pu .none (by simp) ?_ (by rw [List.size_toArray] <;> omega)
  rw [slicePick_cut, ← hlen]
  refine ⟨.ref s.heap.objs.size, _, I.laid (t' := s.toks) (o := .lst (cutV xs lo hi)) (fun b ob q => Heap.get?_push_of_some _ q) (Nat.le_refl _) ?_, rfl, q _ (I.hok.fresh (Nat.le_refl _))⟩
  exact ⟨Nat.le_trans (cutV_length xs lo hi) hz, _, 0, (r.drop (HT.sIx xs.length 0 lo)).take (HT.sIx xs.length xs.length hi - HT.sIx xs.length 0 lo), Heap.get?_push_size _ rfl⟩
/-! ### in, not in: flat items -/
def flatV : V → Bool
  | .non => true
  | .bl _ => true
  | .int _ => true
  | .str _ => true
  | _ => false
/-- == of flat values -/
def eqV : V → V → Bool
  | .non, .non => true
  | .bl a, .bl b => a == b
  | .bl a, .int b => (if a then 1 else 0) == b
  | .int a, .bl b => a == (if b then 1 else 0)
  | .int a, .int b => a == b
  | .str a, .str b => a == b
  | _, _ => false
theorem eqAt_V {A : Around} {s : Shared} {y x : V} {u v : Value} (ry : RelV y u) (rx : RelV x v) (fy : flatV y = true) (fx : flatV x = true) : SeqAt.EqAt A s u v (eqV y x) := by
  cases y with
  | non =>
    cases ry
    cases x with
    | non => cases rx; exact SeqAt.EqAt.same _
    | bl b => cases rx; exact SeqAt.EqAt.none_bool b
    | int b => obtain ⟨t, rfl⟩ := rx; exact SeqAt.EqAt.none_int b t
    | str b => obtain ⟨t, rfl⟩ := rx; exact SeqAt.EqAt.none_str b t
    | _ => exact absurd (show false = true from fx) Bool.false_ne_true
  | bl a =>
    cases ry
    cases x with
    | non => cases rx; exact SeqAt.EqAt.bool_none a
    | bl b => cases rx; exact SeqAt.EqAt.bool_bool a b
    | int b => obtain ⟨t, rfl⟩ := rx; exact SeqAt.EqAt.bool_int a b t
    | str b => obtain ⟨t, rfl⟩ := rx; exact SeqAt.EqAt.bool_str a b t
    | _ => exact absurd (show false = true from fx) Bool.false_ne_true
  | int a =>
    obtain ⟨t', rfl⟩ := ry
    cases x with
    | non => cases rx; exact SeqAt.EqAt.int_none a t'
    | bl b => cases rx; exact SeqAt.EqAt.int_bool a t' b
    | int b => obtain ⟨t, rfl⟩ := rx; exact SeqAt.EqAt.int_int a t' b t
    | str b => obtain ⟨t, rfl⟩ := rx; exact SeqAt.EqAt.int_str a t' b t
    | _ => exact absurd (show false = true from fx) Bool.false_ne_true
  | str a =>
    obtain ⟨t', rfl⟩ := ry
    cases x with
    | non => cases rx; exact SeqAt.EqAt.str_none a t'
    | bl b => cases rx; exact SeqAt.EqAt.str_bool a t' b
    | int b => obtain ⟨t, rfl⟩ := rx; exact SeqAt.EqAt.str_int a t' b t
    | str b => obtain ⟨t, rfl⟩ := rx; exact SeqAt.EqAt.str_str a t' b t
    | _ => exact absurd (show false = true from fx) Bool.false_ne_true
  | _ => exact absurd (show false = true from fy) Bool.false_ne_true
/-- the items' answers, read off the values (a value's own answer does not lean on its token) -/
def eqU (x : V) (u : Value) : Bool := match u with
  | .none => eqV .non x
  | .bool b => eqV (.bl b) x
  | .int i _ => eqV (.int i) x
  | .str z _ => eqV (.str z) x
  | _ => false
theorem eqU_of {x y : V} {u : Value} (r : RelV y u) (f : flatV y = true) : eqU x u = eqV y x := by
  cases y with
  | non => cases r; rfl
  | bl b => cases r; rfl
  | int i => obtain ⟨t, rfl⟩ := r; rfl
  | str z => obtain ⟨t, rfl⟩ := r; rfl
  | _ => exact absurd (show false = true from f) Bool.false_ne_true
theorem any_eqU {x : V} : ∀ {xs : List V} {us : List Value}, Vals xs us → xs.all flatV = true → us.any (eqU x) = xs.any fun y => eqV y x
  | _, _, .nil, _ => rfl
  | y :: xs, u :: us, .cons r t, f => by
    rw [List.all_cons, Bool.and_eq_true] at f
    rw [List.any_cons, List.any_cons, eqU_of r f.1, any_eqU t f.2]
theorem mem_eqAt {A : Around} {s : Shared} {x : V} {v : Value} (rx : RelV x v) (fx : flatV x = true) : ∀ {xs : List V} {us : List Value}, Vals xs us → xs.all flatV = true → ∀ u ∈ us, SeqAt.EqAt A s u v (eqU x u)
  | _, _, .nil, _ => fun u hu => by cases hu
  | y :: xs, u :: us, .cons r t, f => fun u' hu => by
    rw [List.all_cons, Bool.and_eq_true] at f
    rcases List.mem_cons.mp hu with rfl | hu
    · rw [eqU_of r f.1]; exact eqAt_V r rx f.1 fx
    · exact mem_eqAt rx fx t f.2 u' hu
def inV (x : V) (xs : List V) : Bool := xs.any fun y => eqV y x
/-- x in a list or tuple of flat items -/
def rIn (K : PySem.W.Frag) (neg : Bool) : R2 := fun x y H Q => ∃ p xs, y = .ref p ∧ (SqL K H p xs ∨ SqT K H p xs) ∧ flatV x = true ∧ xs.all flatV = true ∧ Q (.bl (if neg then !inV x xs else inV x xs)) H
theorem op_in_seq : OpR X (compareOp .In) (rIn X.K false) := by
  intro pins s σ H x y v u Q I rx ry h
  obtain ⟨p, xs, rfl, hq, fx, fs, q⟩ := h
  cases ry
  rcases hq with hq | hq
  · obtain ⟨its, r, pl, hz⟩ := I.list hq
    refine SeqAt.in_listAt (eqU x) pl.isList (fun w hw => mem_eqAt rx fx r fs w (by simpa using hw)) ⟨.bl _, H, I, rfl, ?_⟩
    rw [show its.toArray.any (eqU x) = its.any (eqU x) by simp, any_eqU r fs]
    exact q
  · obtain ⟨its, r, pl, hz⟩ := I.tuple hq
    refine SeqAt.in_tupleAt (eqU x) pl (fun w hw => mem_eqAt rx fx r fs w (by simpa using hw)) ⟨.bl _, H, I, rfl, ?_⟩
    rw [show its.toArray.any (eqU x) = its.any (eqU x) by simp, any_eqU r fs]
    exact q
/-! ### len, list(x), tuple(x) of any list or tuple that is read -/
theorem call_len_seq : CallR X (.builtin "len") (fun xs H Q => ∃ p ys, xs = [.ref p] ∧ (SqL X.K H p ys ∨ SqT X.K H p ys) ∧ Q (.int ys.length) H) := by
  intro pins s σ H xs us Q I r h
  obtain ⟨p, ys, rfl, hq, q⟩ := h
  obtain ⟨u, rfl, rx⟩ := vals1 r
  cases rx
  have hn := line63
  rcases hq with hq | hq
  · obtain ⟨its, r', pl, hz⟩ := I.list hq
    have hlen := r'.length
    exact Calls.call_len_list pl.isList (by simp only [List.size_toArray] <;> omega) ⟨.int ys.length, H, I.tok _, ⟨s.toks + 1, by rw [List.size_toArray, hlen]⟩, q⟩
  · obtain ⟨its, r', pl, hz⟩ := I.tuple hq
    have hlen := r'.length
    exact len_tuple pl (by simp only [List.size_toArray] <;> omega) ⟨.int ys.length, H, I.tok _, ⟨s.toks + 1, by rw [List.size_toArray, hlen]⟩, q⟩
/-! ### the call of a builtin's method: o.m(..) -/
/-- the value is of that builtin type -/
def tyV (K : PySem.W.Frag) (T : String) (x : V) (H : Hp) : Prop := match x with
  | .str _ => T = "str"
  | .int _ => T = "int"
  | .ref p => (T = "list" ∧ ∃ xs, SqL K H p xs) ∨ (T = "tuple" ∧ ∃ o, K.lookup p = some o ∧ o.cls = .type "tuple" ∧ o.dict = none) ∨
      (T = "dict" ∧ ((∃ kvs, H p = some (.dK kvs)) ∨ ∃ kvs, H p = some (.dT kvs))) ∨ (T = "set" ∧ ∃ S n, H p = some (.set S n))
  | _ => False
theorem tyV_is {pins : List (Addr × Obj)} {σ : St} {H : Hp} {s : Shared} {T : String} {x : V} {v : Value} (I : Inv X pins σ H s) (r : RelV x v) (ty : tyV X.K T x H) :
    s.TypeIs v T ∧ ∀ a, v = .ref a → ∃ ob, s.heap.get? a = some ob ∧ ob.dict = none := by
  cases x with
  | str z =>
    obtain ⟨t, rfl⟩ := r
    cases (show T = "str" from ty)
    exact ⟨typeIs_str s z t, fun _ e => nomatch e⟩
  | int i =>
    obtain ⟨t, rfl⟩ := r
    cases (show T = "int" from ty)
    exact ⟨typeIs_int s i t, fun _ e => nomatch e⟩
  | ref p =>
    cases r
    rcases ty with ⟨rfl, xs, hq⟩ | ⟨rfl, o, hk, hc, hd⟩ | ⟨rfl, hk⟩ | ⟨rfl, S, n, hk⟩
    · obtain ⟨its, _, pl, _⟩ := I.list hq
      refine ⟨pl.isList.typeIs, fun a e => ?_⟩
      cases e
      obtain ⟨o, n, e, c, hd, _⟩ := pl
      exact ⟨o, e, hd⟩
    · refine ⟨⟨o, I.kIn p o hk, hc⟩, fun a e => ?_⟩
      cases e
      exact ⟨o, I.kIn _ o hk, hd⟩
    · have z : ∃ o, s.heap.get? p = some o ∧ o.ExactDict := by
        rcases hk with ⟨kvs, hk⟩ | ⟨kvs, hk⟩
        · obtain ⟨_, _, _, _, o, _, _, e, ex, _⟩ := I.hok p _ hk
          exact ⟨o, e, ex⟩
        · obtain ⟨_, _, _, _, o, _, _, e, ex, _⟩ := I.hok p _ hk
          exact ⟨o, e, ex⟩
      obtain ⟨o, e, ex⟩ := z
      refine ⟨⟨o, e, ex.1⟩, fun a e2 => ?_⟩
      cases e2
      exact ⟨o, e, ex.2.1⟩
    · obtain ⟨o, _, _, _, e, ex, _⟩ := I.hok p _ hk
      refine ⟨⟨o, e, ex.1⟩, fun a e2 => ?_⟩
      cases e2
      exact ⟨o, e, ex.2.1⟩
  | _ => exact False.elim ty
def tBM (K : PySem.W.Frag) (T : String) (r : V → List V → Hp → VK → Prop) (to : TE) (t : TA) : TE := fun σ H Q => to σ H fun x H1 => tyV K T x H1 ∧ t σ H1 fun xs H2 => r x xs H2 Q
variable {o e : Expr} {es : List Expr} {to : TE} {t : TA} {name : Str} {apos cpos : Pos} {T id : String} {r : V → List V → Hp → VK → Prop}
theorem pe_bm (pa : PlainAttrs T) (slot : Slot T name id) (hty : typeOf (.builtin id) = pure (.type "method_descriptor")) (hm : MtR X id r) (ho : PE X o to) (ha : PA X (e :: es) t)
    (hbase : attributeBase o name X.env (eval o X.env) = eval o X.env := by rfl)
    (hfew : ((backTo cpos (starEach (e :: es) X.env)).all (fun x => !x.1) && (backToKw cpos (keywordEach [] X.env)).all (fun x => x.1.isSome)
      && decide ((e :: es).length + ([] : List Keyword).length + (if ([] : List Keyword).isEmpty then 0 else 1) < 30)) = true := by rfl)
    (hline : (apos.endLine == cpos.line) = true := by rfl) (hs : starEach (e :: es) X.env = (false, eval e X.env) :: starEach es X.env := by rfl) (hplain : (backTo cpos (starEach es X.env)).any (·.1) = false := by rfl) :
    PE X (.Call (.Attribute o name apos) (e :: es) [] cpos) (tBM X.K T r to t) := by
  intro pins s σ H Q I h
  refine wpAny_Call_method_late hbase hfew hline rfl (thn (ho pins s σ H _ I h) fun v s1 ⟨x, H1, I1, r1, ty, q1⟩ => ?_)
  obtain ⟨h1, h2⟩ := tyV_is I1 r1 ty
  refine ⟨T, id, pa, slot, hty, h1, h2, ?_⟩
  have hA := ha cpos pins s1 σ H1 _ I1 q1
  rw [hs] at hA ⊢
  refine Calls.callWith_builtin (by show (false || (backTo cpos (starEach es X.env)).any (·.1)) = false; rw [hplain] <;> rfl) (Calls.evalArgs_plain ?_)
  exact thn hA fun us s2 ⟨vs, H2, I2, r2, q2⟩ => hm pins s2 σ H2 x vs v us Q I2 r1 r2 q2
/- xs.append(e), list.index on a module's tuple .. are MtR facts of 06m -/
end
end L2
namespace L2
open PySem PySem.Spec PyProof.Rows
def MtM (X : Cx) (id : String) (r : V → List V → Hp → VK → Prop) : Prop :=
  ∀ (pins : List (Addr × Obj)) (s : Shared) (σ : St) (H : Hp) (x : V) (xs : List V) (v : Value) (us : List Value) (Q : VK), Inv X pins σ H s → RelV x v → Vals xs us → r x xs H Q →
    wpAny (model X.prog X.w) X.A (call (.builtin id) (v :: us)) (EP X pins σ Q) X.xe s
/-! ### lists of values -/
theorem Vals.one : ∀ {x : V} {us : List Value}, Vals [x] us → ∃ u, us = [u] ∧ RelV x u
  | _, _, .cons r .nil => ⟨_, rfl, r⟩
section
variable {X : Cx} {pins : List (Addr × Obj)} {σ : St} {H : Hp} {s : Shared} {l b : Addr} {xs ys zs : List V}
/-! ### the two steps: a tracked list is rewritten, a new list is laid -/
theorem Inv.lset {its its' : List Value} {n : Nat} {f : Array Value → Array Value} {t' : Nat} (I : Inv X pins σ H s) (hH : H l = some (.lst xs))
    (e : s.heap.get? l = some { cls := .type "list", data := .seq its.toArray n }) (hf : f its.toArray = its'.toArray) (hv : Vals ys its') (hz : ys.length ≤ sizeLine) :
    Inv X pins σ (upd H l (.lst ys)) { s with heap := s.heap.update l (Obj.mapSeq f), toks := t' } := by
  have q := PySem.IsL.update e f
  rw [hf] at q
  refine I.write (x := l) (e := l) (by rw [hH]; exact trivial) (.inl rfl) (fun b' u hb hu => (Heap.get?_update_other s.heap (Obj.mapSeq f) (Ne.symm hb)).trans hu) ⟨_, q⟩ ?_
  exact ⟨hz, its', _, hv, q⟩
theorem Inv.lnew {its : List Value} {t' : Nat} (I : Inv X pins σ H s) (hv : Vals ys its) (hz : ys.length ≤ sizeLine) :
    Inv X pins σ (upd H s.heap.objs.size (.lst ys)) { s with heap := s.heap.push { cls := .type "list", data := .seq its.toArray }, toks := t' } :=
  I.laid (fun _ _ q => Heap.get?_push_of_some _ q) (Nat.le_refl _) ⟨hz, its, 0, hv, Heap.get?_push_size _ rfl⟩
theorem Inv.fresh (I : Inv X pins σ H s) : H s.heap.objs.size = none := I.hok.fresh (Nat.le_refl _)
theorem Inv.lstM (I : Inv X pins σ H s) (hH : H l = some (.lst xs)) : xs.length ≤ sizeLine ∧ ∃ (its : List Value) (n : Nat), Vals xs its ∧ xs.length = its.length ∧ s.heap.get? l = some { cls := .type "list", data := .seq its.toArray n } := by
  obtain ⟨z, its, n, r, e⟩ := I.hok l _ hH
  exact ⟨z, its, n, r, r.length, e⟩
theorem notLongL {n : Nat} (h : n ≤ sizeLine) : Builtin.List.listTooLong n = false := by
  unfold Builtin.List.listTooLong
  exact decide_eq_false (by omega)
end
section
variable {X : Cx}
/-! ### methods -/
def rAppend : V → List V → Hp → VK → Prop := fun x vs H Q => ∃ l xs y, x = .ref l ∧ vs = [y] ∧ H l = some (.lst xs) ∧ xs.length < sizeLine ∧ Q .non (upd H l (.lst (xs ++ [y])))
theorem mt_append : MtM X "list.append" rAppend := by
  intro pins s σ H x vs v us Q I rx rv h
  obtain ⟨l, xs, y, rfl, rfl, hH, hz, q⟩ := h
  cases rx
  obtain ⟨u, rfl, ru⟩ := rv.one
  obtain ⟨z, its, n, r, hl, e⟩ := I.lstM hH
  refine call_meets F.slot_list_append ⟨_, e, rfl⟩ F.entry_list_append (F.args_list_append_2 _ _) (PySem.list_append l its.toArray n u (by rw [List.size_toArray]; omega)) ⟨e, ?_⟩
  refine ⟨.non, _, I.lset (its' := its ++ [u]) hH e (by simp) (r.append (.cons ru .nil)) ?_, rfl, q⟩
  rw [List.length_append, List.length_singleton]
  omega
def rExtend : V → List V → Hp → VK → Prop := fun x vs H Q => ∃ l b xs zs, x = .ref l ∧ vs = [.ref b] ∧ H l = some (.lst xs) ∧ H b = some (.lst zs) ∧ xs.length + zs.length ≤ sizeLine ∧ Q .non (upd H l (.lst (xs ++ zs)))
theorem mt_extend : MtM X "list.extend" rExtend := by
  intro pins s σ H x vs v us Q I rx rv h
  obtain ⟨l, b, xs, zs, rfl, rfl, hH, hB, hz, q⟩ := h
  cases rx
  obtain ⟨u, rfl, ru⟩ := rv.one
  cases ru
  obtain ⟨z, its, n, r, hl, e⟩ := I.lstM hH
  obtain ⟨z2, its2, n2, r2, hl2, e2⟩ := I.lstM hB
  have hsz : its.toArray.size + its2.toArray.size ≤ sizeLine := by rw [List.size_toArray, List.size_toArray]; omega
  have hlong : ¬ (!its.toArray.isEmpty && Builtin.List.listTooLong (its.toArray.size + its2.toArray.size)) = true := by
    rw [notLongL hsz, Bool.and_false]
    exact Bool.false_ne_true
  refine call_meets F.slot_list_extend ⟨_, e, rfl⟩ F.entry_list_extend (F.args_list_extend_2 _ _)
    (AutoSeq1.list_extend_list_list_0 l its.toArray n b its2.toArray n2 hlong (by rw [List.size_toArray]; omega) (by omega)) ⟨e, e2, ?_⟩
  refine ⟨.non, _, I.lset (its' := its ++ its2) hH e (by simp) (r.append r2) ?_, rfl, q⟩
  rw [List.length_append]
  omega
/-! ### list + list, list += list, list * int -/
/-! ### del xs[i] -/
end
/-! ### xs[a:b] = ys -/
section
variable {prog : Program} {w : World} {A : Around} {E : Value → Shared → Prop} {s : Shared}
set_option maxRecDepth 100000 in
end
section
variable {X : Cx}
end
end L2
namespace L2
open PySem PySem.Spec PyProof.Rows
theorem Vals.ints : ∀ {ns : List Int} {us : List Value}, Vals (ns.map V.int) us → IntsAre us ns
  | [], us, h => by
    rw [List.map_nil] at h
    cases h
    exact IntsAre.nil
  | n :: ns, us, h => by
    rw [List.map_cons] at h
    cases h with
    | cons r t =>
      obtain ⟨k, rfl⟩ := r
      exact IntsAre.cons n k (Vals.ints t)
theorem Vals.ref1 {a : Addr} {us : List Value} (r : Vals [V.ref a] us) : us = [Value.ref a] := by
  cases r with
  | cons r t =>
    cases t
    cases r
    rfl
/-! ### the library's walks over a list of ints, kept objects alone -/
section
variable {prog : Program} {w : World} {A : Around} {E : Value → Shared → Prop} {s : Shared} {l : Addr} {its : List Value} {ns : List Int} {Q : Value → Shared → Prop}
theorem sum_raw (hh : A.handled = none) (hl : s.heap.IsList l its.toArray) (hi : IntsAre its ns)
    (h : ∀ h' tk t', (∀ b o, s.heap.get? b = some o → h'.get? b = some o) → Q (.int ns.sum t') { s with heap := h', toks := tk }) : wpAny (model prog w) A (call (.builtin "sum") [.ref l]) Q E s := by
  obtain ⟨xs, e⟩ := hi.allInts.items
  have hn : numsOf (intItems xs).toList = ns := by rw [← e]; exact hi.numsOf
  rw [nums_intItems] at hn
  rw [e] at hl
  refine PySem.sum_intListG hh hl fun h' tk t' hk => ?_
  have := h h' tk t' hk
  rw [preSum_eq, List.take_of_length_le (by simp), hn]; exact this
end
/-! ### the calls, by values (CallR of 03t; MtR of 06l) -/
section
variable {X : Cx}
/-- sum(xs) of a list of ints -/
def rSum (K : PySem.W.Frag) : List V → Hp → VK → Prop := fun vs H Q => ∃ (a : Addr) (ns : List Int), vs = [V.ref a] ∧ SqL K H a (ns.map V.int) ∧ Q (.int ns.sum) H
theorem cr_sum (hc : X.calm = true) : CallR X (.builtin "sum") (rSum X.K) := by
  intro pins s σ H vs us Q I r h
  obtain ⟨a, ns, rfl, hs, q⟩ := h
  obtain ⟨its, rv, hl, _⟩ := I.list hs
  rw [Vals.ref1 r]
  exact sum_raw (I.ok.hd hc) hl.isList rv.ints fun h' tk t' hk => ⟨.int _, H, I.kept hk, ⟨_, rfl⟩, q⟩
/-! sorted, sort (fewer than 64 items: the library's own bound) -/
end
/-! ### list.index, flat items -/
section
variable {X : Cx}
end
/-! ### type(x) of an own instance; is, is not of a module's class -/
section
variable {X : Cx}
end
/-! ### any(xs), all(xs) of a list of bools -/
section
variable {X : Cx}
end
/-! ### == and != of data at any depth: none, bools, ints, texts, lists, tuples -/
section
variable {X : Cx} {pins : List (Addr × Obj)} {σ : St} {H : Hp} {s : Shared}
end
section
variable {X : Cx}
end
end L2
namespace L2
open PySem PySem.Spec PyProof.Rows
abbrev CellAt (h : Heap) (c : Addr) (v : Option Value) : Prop := h.IsCell c v
def relS (scope sc : Scope) : Scope :=
  { scope with names := scope.names.map fun (n, k) => if (k == .free && sc.kind == .function && sc.names.lookup n == some .cell) then (n, .cell) else (n, k) }
def cloFrom (cells : List (Str × Addr)) : List (Str × NameKind) → List (Str × Addr) → List (Str × Addr)
  | [], acc => acc
  | (n, k) :: r, acc => if k == .free then cloFrom cells r ((n, (cells.lookup n).getD 0) :: acc) else cloFrom cells r acc
theorem closure_loop (env : Env) (f : Str × NameKind → List (Str × Addr) → Sem (ForInStep (List (Str × Addr))))
    (hf : ∀ n k c, f (n, k) c = if k == .free then (do let a ← cellOf env n; pure (.yield ((n, a) :: c))) else pure (.yield c)) :
    ∀ (names : List (Str × NameKind)) (acc : List (Str × Addr)), (∀ y ∈ names, y.2 = .free → ∃ c, env.cells.lookup y.1 = some c) → forIn names acc f = pure (cloFrom env.cells names acc)
  | [], acc, _ => by rw [List.forIn_nil]; rfl
  | (n, k) :: r, acc, h => by
    rw [List.forIn_cons, hf]
    have ih := fun acc => closure_loop env f hf r acc fun y hy => h y (List.mem_cons_of_mem _ hy)
    unfold cloFrom
    by_cases hk : (k == NameKind.free) = true
    · rw [if_pos hk, if_pos hk]
      obtain ⟨c, hc⟩ := h (n, k) List.mem_cons_self (by simpa using hk)
      have e : cellOf env n = pure c := by unfold cellOf; rw [hc]
      rw [e]
      have e2 : (env.cells.lookup n).getD 0 = c := by rw [hc]; rfl
      rw [e2]
      exact ih _
    · rw [if_neg hk, if_neg hk]
      exact ih _
theorem closure_ok {scope : Scope} {env : Env} (h : ∀ y ∈ scope.names, y.2 = .free → ∃ c, env.cells.lookup y.1 = some c) : closureFor scope env = pure (cloFrom env.cells scope.names []) := by
  simp only [closureFor]
  rw [closure_loop env _ (fun n k c => rfl) scope.names [] h]
  rfl
theorem mem_lookup {α : Type} : ∀ {l : List (Str × α)} {n : Str} {c : α}, (n, c) ∈ l → ∃ c', l.lookup n = some c'
  | (k, v) :: r, n, c, h => by
    rw [List.lookup_cons]
    cases hb : n == k with
    | true => exact ⟨_, rfl⟩
    | false =>
      rcases List.mem_cons.mp h with e | h
      · cases e; simp at hb
      · exact mem_lookup h
theorem cloFrom_mem {cells : List (Str × Addr)} : ∀ {names : List (Str × NameKind)} {acc : List (Str × Addr)} {n : Str} {c : Addr}, (n, c) ∈ cloFrom cells names acc → (n, c) ∈ acc ∨ ((n, .free) ∈ names ∧ c = (cells.lookup n).getD 0)
  | [], _, _, _, h => .inl h
  | (m, k) :: r, acc, n, c, h => by
    unfold cloFrom at h
    split at h
    · rename_i hk
      have hk : k = .free := by simpa using hk
      rcases cloFrom_mem h with h | ⟨h1, h2⟩
      · rcases List.mem_cons.mp h with e | h
        · cases e; exact .inr ⟨hk ▸ List.mem_cons_self, rfl⟩
        · exact .inl h
      · exact .inr ⟨List.mem_cons_of_mem _ h1, h2⟩
    · rcases cloFrom_mem h with h | ⟨h1, h2⟩
      · exact .inl h
      · exact .inr ⟨List.mem_cons_of_mem _ h1, h2⟩
theorem cloFrom_acc {cells : List (Str × Addr)} : ∀ {names : List (Str × NameKind)} {acc : List (Str × Addr)} {p : Str × Addr}, p ∈ acc → p ∈ cloFrom cells names acc
  | [], _, _, h => h
  | (m, k) :: r, acc, p, h => by
    unfold cloFrom
    split
    · exact cloFrom_acc (List.mem_cons_of_mem _ h)
    · exact cloFrom_acc h
theorem cloFrom_has {cells : List (Str × Addr)} : ∀ {names : List (Str × NameKind)} {acc : List (Str × Addr)} {n : Str}, (n, .free) ∈ names → (n, (cells.lookup n).getD 0) ∈ cloFrom cells names acc
  | (m, k) :: r, acc, n, h => by
    unfold cloFrom
    rcases List.mem_cons.mp h with e | h
    · cases e
      exact cloFrom_acc List.mem_cons_self
    · split
      · exact cloFrom_has h
      · exact cloFrom_has h
theorem cells_mem : ∀ {names : List (Str × NameKind)} {h : Heap} {acc : List (Str × Addr)} {x : Str} {c : Addr}, (x, c) ∈ cellsFrom h.objs.size names acc →
    (x, c) ∈ acc ∨ ((x, .cell) ∈ names ∧ h.objs.size ≤ c ∧ CellAt (pushCells h names) c none)
  | [], _, _, _, _, h => .inl h
  | (n, k) :: r, h, acc, x, c, hm => by
    unfold cellsFrom at hm
    unfold pushCells
    split at hm
    · rename_i hk
      rw [if_pos hk]
      have hk : k = .cell := by simpa using hk
      rw [← Heap.size_push h { cls := .type "cell", data := .cell none }] at hm
      rcases cells_mem hm with hm | ⟨h1, h2, h3⟩
      · rcases List.mem_cons.mp hm with e | hm
        · cases e
          exact .inr ⟨hk ▸ List.mem_cons_self, Nat.le_refl _, _, pushCells_keeps r _ _ _ (Heap.get?_push_size _ rfl), rfl⟩
        · exact .inl hm
      · rw [Heap.size_push] at h2
        exact .inr ⟨List.mem_cons_of_mem _ h1, Nat.le_of_succ_le h2, h3⟩
    · rename_i hk
      rw [if_neg hk]
      rcases cells_mem hm with hm | ⟨h1, h2, h3⟩
      · exact .inl hm
      · exact .inr ⟨List.mem_cons_of_mem _ h1, h2, h3⟩
theorem cells_acc : ∀ {names : List (Str × NameKind)} {n : Nat} {acc : List (Str × Addr)} {p : Str × Addr}, p ∈ acc → p ∈ cellsFrom n names acc
  | [], _, _, _, h => h
  | (m, k) :: r, n, acc, p, h => by
    unfold cellsFrom
    split
    · exact cells_acc (List.mem_cons_of_mem _ h)
    · exact cells_acc h
theorem cells_has : ∀ {names : List (Str × NameKind)} {n : Nat} {acc : List (Str × Addr)} {x : Str}, (x, .cell) ∈ names → ∃ c, (x, c) ∈ cellsFrom n names acc
  | (m, k) :: r, n, acc, x, h => by
    unfold cellsFrom
    rcases List.mem_cons.mp h with e | h
    · cases e
      exact ⟨n, cells_acc List.mem_cons_self⟩
    · split
      · exact cells_has h
      · exact cells_has h
theorem cells_inj : ∀ {names : List (Str × NameKind)} {h : Heap} {acc : List (Str × Addr)} {x y : Str} {c : Addr}, (∀ p ∈ acc, p.2 < h.objs.size) → (∀ x y c, (x, c) ∈ acc → (y, c) ∈ acc → x = y) →
    (x, c) ∈ cellsFrom h.objs.size names acc → (y, c) ∈ cellsFrom h.objs.size names acc → x = y
  | [], _, _, _, _, _, _, hi, h1, h2 => hi _ _ _ h1 h2
  | (n, k) :: r, h, acc, x, y, c, hl, hi, h1, h2 => by
    unfold cellsFrom at h1 h2
    split at h1
    · rename_i hk
      rw [if_pos hk] at h2
      rw [← Heap.size_push h { cls := .type "cell", data := .cell none }] at h1 h2
      refine cells_inj (h := h.push _) (fun p hp => ?_) (fun x y c a b => ?_) h1 h2
      · rw [Heap.size_push]
        rcases List.mem_cons.mp hp with rfl | hp
        · exact Nat.lt_succ_self _
        · exact Nat.lt_succ_of_lt (hl p hp)
      · rcases List.mem_cons.mp a with e | a <;> rcases List.mem_cons.mp b with e' | b
        · cases e; cases e'; rfl
        · cases e; exact absurd (hl _ b) (Nat.lt_irrefl _)
        · cases e'; exact absurd (hl _ a) (Nat.lt_irrefl _)
        · exact hi _ _ _ a b
    · rename_i hk
      rw [if_neg hk] at h2
      exact cells_inj hl hi h1 h2
theorem newEnv_comp {M : Model} {A : Around} {E : Value → Shared → Prop} {s : Shared} {scope : Scope} {globals : Addr} {closure : List (Str × Addr)} {qual : Str} {func : Option Addr} {code : Value} {around : Env} {builtins : Addr} {Q : Env → Shared → Prop}
    (h : Q (newEnv scope s.heap.objs.size globals (cellsFrom (s.heap.objs.size + 1) scope.names closure) qual func code (some around) builtins)
      { s with heap := pushCells (s.heap.push { cls := .type "dict", data := .dict #[] }) scope.names }) :
    wpAny M A (newFunctionEnv scope globals closure [] qual func code (some around) builtins) Q E s := by
  simp only [newFunctionEnv, Option.isSome_some, if_true]
  refine wpAny_bind (wpAny_alloc ?_)
  refine wpAny_bind (wpAny_layCells _ (fun n k c => rfl) scope.names closure _ _ ?_)
  rw [show ({ s with heap := s.heap.push { cls := .type "dict", data := .dict #[] } } : Shared).heap.objs.size = s.heap.objs.size + 1 from Heap.size_push ..]
  rw [List.forIn_nil]
  exact wpAny_bind (wpAny_pure (wpAny_pure h))
/-- every name of the written scope, in the scope that runs -/
theorem lookup_relS {sc : Scope} : ∀ {names : List (Str × NameKind)} {x : Str} {k : NameKind},
    (names.map fun (n, k) => if (k == NameKind.free && sc.kind == .function && sc.names.lookup n == some .cell) then (n, NameKind.cell) else (n, k)).lookup x = some k →
    ∃ k', names.lookup x = some k' ∧ (k = k' ∨ (k' = .free ∧ k = .cell))
  | [], _, _, h => by simp at h
  | (n, k₀) :: r, x, k, h => by
    have ih := @lookup_relS sc r x k
    have h' : List.lookup x ((if (k₀ == NameKind.free && sc.kind == .function && sc.names.lookup n == some .cell) = true then (n, NameKind.cell) else (n, k₀)) :: (r.map _)) = some k := h
    cases hx : x == n with
    | true =>
      simp only [List.lookup_cons, hx]
      by_cases hc : (k₀ == NameKind.free && sc.kind == .function && sc.names.lookup n == some .cell) = true
      · rw [if_pos hc] at h'
        simp only [List.lookup_cons, hx] at h'
        cases h'
        simp only [Bool.and_eq_true, beq_iff_eq] at hc
        exact ⟨k₀, rfl, .inr ⟨hc.1.1, rfl⟩⟩
      · rw [if_neg hc] at h'
        simp only [List.lookup_cons, hx] at h'
        cases h'
        exact ⟨_, rfl, .inl rfl⟩
    | false =>
      simp only [List.lookup_cons, hx]
      by_cases hc : (k₀ == NameKind.free && sc.kind == .function && sc.names.lookup n == some .cell) = true
      · rw [if_pos hc] at h'
        simp only [List.lookup_cons, hx] at h'
        exact ih h'
      · rw [if_neg hc] at h'
        simp only [List.lookup_cons, hx] at h'
        exact ih h'
/-- the names of a comprehension's block: its own (with their places in N), or captured -/
structure BlkOk (N : List Str) (sc scope : Scope) (own : List (Str × Nat)) : Prop where
  kind : scope.kind = .function
  uniq : ∀ y ∈ scope.names, scope.names.lookup y.1 = some y.2
  ix : ∀ p ∈ own, N[p.2]? = some p.1
  free : ∀ y ∈ scope.names, y.2 = .free → sc.names.lookup y.1 = some .cell ∨ sc.names.lookup y.1 = some .free
  own : ∀ y ∈ scope.names, y.2 = .local ∨ y.2 = .cell → y.1 ∈ own.map (·.1) ∨ y.1 ∉ N
/-- the slots of the block's own names forgotten -/
def wipe (σ : St) : List Nat → St
  | [] => σ
  | v :: vs => (wipe σ vs).set v none
theorem wipe_length (σ : St) : ∀ vs : List Nat, (wipe σ vs).length = σ.length
  | [] => rfl
  | v :: vs => by unfold wipe; rw [List.length_set, wipe_length σ vs]
theorem wipe_some {σ : St} {i : Nat} {x : V} : ∀ {vs : List Nat}, (wipe σ vs)[i]? = some (some x) → σ[i]? = some (some x) ∧ i ∉ vs
  | [], h => ⟨h, by simp⟩
  | v :: vs, h => by
    unfold wipe at h
    by_cases hi : v = i
    · subst hi
      by_cases hv : v < (wipe σ vs).length
      · rw [List.getElem?_set_self hv] at h; cases h
      · rw [List.getElem?_eq_none (by simpa using hv)] at h; cases h
    · rw [List.getElem?_set_ne hi] at h
      obtain ⟨h1, h2⟩ := wipe_some h
      exact ⟨h1, by simp only [List.mem_cons, not_or]; exact ⟨fun e => hi e.symm, h2⟩⟩
/-- the context of a block that starts at s, its iterator's objects at fp -/
abbrev Cx.blk (X : Cx) (s : Shared) (H : Hp) (scope : Scope) (cenv : Env) (fp : List Addr) : Cx := { X with s_0 := s, H_0 := H, env := cenv, outer := X.stack, ex := fp, fn := fun x => scope.names.lookup x == some .cell, pn := [], xe := fun _ _ => False }
section
variable {X : Cx} {pins : List (Addr × Obj)} {σ : St} {H : Hp} {s : Shared}
theorem block_start {scope : Scope} {own : List (Str × Nat)} {fp : List Addr} (I : Inv X pins σ H s) (ok : BlkOk X.N X.env.scope scope own) (hN : X.N.Nodup) (hfp : ∀ b ∈ fp, FpOk X pins H b ∧ b < s.heap.objs.size) :
    Inv (X.blk s H scope (compEnvC scope (cellsFrom (s.heap.objs.size + 1) scope.names (cloFrom X.env.cells scope.names [])) s.heap.objs.size X.env) fp) [] (wipe σ (own.map (·.2))) H { s with heap := pushCells (s.heap.push { cls := .type "dict", data := .dict #[] }) scope.names } := by
  have hfree : ∀ y ∈ scope.names, y.2 = .free → ∃ c, X.env.cells.lookup y.1 = some c := fun y hy e => by
    rcases ok.free y hy e with k | k
    · exact I.ok.has _ (.inl k)
    · exact I.ok.has _ (.inr k)
  generalize hcenv : compEnvC scope (cellsFrom (s.heap.objs.size + 1) scope.names (cloFrom X.env.cells scope.names [])) s.heap.objs.size X.env = cenv
  have kp : ∀ b o, s.heap.get? b = some o → (pushCells (s.heap.push { cls := .type "dict", data := .dict #[] }) scope.names).get? b = some o := fun b o e => pushCells_keeps _ _ _ _ (Heap.get?_push_of_some _ e)
  have hL : cenv.locals = s.heap.objs.size := by rw [← hcenv]; rfl
  have hcl : cenv.cells = cellsFrom (s.heap.objs.size + 1) scope.names (cloFrom X.env.cells scope.names []) := by rw [← hcenv]; rfl
  have hsc : cenv.scope = relS scope X.env.scope := by rw [← hcenv]; rfl
  rw [← Heap.size_push s.heap { cls := .type "dict", data := .dict #[] }] at hcl
  have cm : ∀ {y c}, (y, c) ∈ cloFrom X.env.cells scope.names [] → X.env.cells.lookup y = some c ∧ c < s.heap.objs.size := fun {y c} hm => by
    rcases cloFrom_mem hm with hm | ⟨h1, rfl⟩
    · cases hm
    · obtain ⟨c, hc⟩ := hfree _ h1 rfl
      rw [hc]
      obtain ⟨w, z⟩ := I.cell _ _ hc
      exact ⟨rfl, z.lt⟩
  have mem : ∀ {y c}, cenv.cells.lookup y = some c → (X.env.cells.lookup y = some c ∧ c < s.heap.objs.size) ∨ (s.heap.objs.size + 1 ≤ c ∧ CellAt (pushCells (s.heap.push { cls := .type "dict", data := .dict #[] }) scope.names) c none) := fun {y c} e => by
    rw [hcl] at e
    rcases cells_mem (PySem.mem_of_lookup e) with hm | ⟨_, h2, h3⟩
    · exact .inl (cm hm)
    · rw [Heap.size_push] at h2; exact .inr ⟨h2, h3⟩
  have look : ∀ {y}, scope.names.lookup y = some .free → ∃ c, cenv.cells.lookup y = some c ∧ X.env.cells.lookup y = some c := fun {y} hl => by
    have hy : (y, NameKind.free) ∈ scope.names := PySem.mem_of_lookup hl
    obtain ⟨c', e'⟩ := mem_lookup (cells_acc (names := scope.names) (n := (s.heap.push { cls := .type "dict", data := .dict #[] }).objs.size) (cloFrom_has (cells := X.env.cells) (acc := []) hy))
    rw [← hcl] at e'
    refine ⟨c', e', ?_⟩
    rw [hcl] at e'
    rcases cells_mem (PySem.mem_of_lookup e') with hm | ⟨h1, _, _⟩
    · exact (cm hm).1
    · have := ok.uniq _ h1
      rw [hl] at this; cases this
  have okB : (X.blk s H scope cenv fp).Ok := by
    refine ⟨I.ok.mod, by show cenv.scope.kind = _; rw [hsc]; exact ok.kind, by show cenv.globals = _; rw [← hcenv]; exact I.ok.glob, by show cenv.builtins = _; rw [← hcenv]; exact I.ok.blt, by show s.heap.objs.size ≤ cenv.locals; rw [hL]; exact Nat.le_refl _,
      fun y z c e1 e2 => ?_, fun y hy => ?_, fun y c z e => ?_, I.ok.hd, I.ok.frames, .inl rfl, fun b hb => ⟨?_, fun y c e z => ?_⟩, I.bs, Nat.le_trans I.ok.bsz I.sz, fun b o e hb => ?_, fun b hb z => ?_, I.stack, I.stkFree⟩
    · have e1 : cenv.cells.lookup y = some c := e1
      have e2 : cenv.cells.lookup z = some c := e2
      rw [hcl] at e1 e2
      refine cells_inj (fun p hp => ?_) (fun y z c a b => I.ok.inj y z c (cm a).1 (cm b).1) (PySem.mem_of_lookup e1) (PySem.mem_of_lookup e2)
      rw [Heap.size_push]
      exact Nat.lt_succ_of_lt (cm (y := p.1) (c := p.2) hp).2
    · show ∃ c, cenv.cells.lookup y = some c
      have key : ∀ k, cenv.kindOf y = some k → (k = .cell ∨ k = .free) → ∃ c, cenv.cells.lookup y = some c := fun k hk hk' => by
        unfold Env.kindOf at hk
        rw [hsc] at hk
        obtain ⟨k', e, r⟩ := lookup_relS hk
        have : k' = .cell ∨ k' = .free := by
          rcases r with rfl | ⟨rfl, _⟩
          · exact hk'
          · exact .inr rfl
        rcases this with rfl | rfl
        · obtain ⟨c, hm⟩ := cells_has (n := (s.heap.push { cls := .type "dict", data := .dict #[] }).objs.size) (acc := cloFrom X.env.cells scope.names []) (PySem.mem_of_lookup e)
          obtain ⟨c', e'⟩ := mem_lookup hm
          exact ⟨c', by rw [hcl]; exact e'⟩
        · obtain ⟨c, h1, _⟩ := look e
          exact ⟨c, h1⟩
      rcases hy with hy | hy
      · exact key _ hy (.inl rfl)
      · exact key _ hy (.inr rfl)
    · have z : (scope.names.lookup y == some NameKind.cell) = true := z
      have z : scope.names.lookup y = some .cell := by simpa using z
      have e : cenv.cells.lookup y = some c := e
      rw [hcl] at e
      rcases cells_mem (PySem.mem_of_lookup e) with hm | ⟨_, h2, _⟩
      · rcases cloFrom_mem hm with hm | ⟨h1, _⟩
        · cases hm
        · have q := ok.uniq _ h1
          rw [z] at q; cases q
      · rw [Heap.size_push] at h2
        exact Nat.le_of_succ_le h2
    · show b ≠ cenv.locals
      rw [hL]; exact Nat.ne_of_lt (hfp b hb).2
    · have e : cenv.cells.lookup y = some c := e
      rcases mem e with ⟨h1, _⟩ | ⟨h1, _⟩
      · exact (hfp b hb).1.2.2.2.2.1 y c h1 z
      · have h2 : s.heap.objs.size + 1 ≤ b := by rw [← z]; exact h1
        exact absurd (Nat.lt_of_lt_of_le (hfp b hb).2 (Nat.le_of_succ_le h2)) (Nat.lt_irrefl _)
    · rcases (hfp b hb).1.2.2.2.1 with z | z
      · exact I.ok.noex b o e z
      · exact absurd (Nat.lt_of_lt_of_le (Heap.lt_size e) (Nat.le_trans I.ok.bsz z)) (Nat.lt_irrefl _)
    · rcases List.mem_cons.mp (I.stkSub b z) with z | z
      · exact (hfp b hb).1.2.1 z
      · exact (hfp b hb).1.2.2.1 z
  refine ⟨okB, rfl, I.bare, Un.kept kp, ⟨fun _ => none, ?_, fun i y av e1 e2 e3 => ?_⟩, fun y c e => ?_, ?_, fun y c e => ?_, fun p hp => ?_, I.hok.kept kp, by rw [wipe_length]; exact I.len⟩
  · show Heap.Ns _ cenv.locals _
    rw [hL]
    exact Heap.Ns.keeps (Heap.Ns.new ..) fun b o e => pushCells_keeps _ _ _ _ e
  · obtain ⟨e2, hne⟩ := wipe_some e2
    have hfr : scope.names.lookup y = some .free ∧ (cenv.kindOf y = some .cell ∨ cenv.kindOf y = some .free) := by
      have key : ∀ k, cenv.scope.names.lookup y = some k → k = .local ∨ k = .cell ∨ k = .free → scope.names.lookup y = some .free ∧ (cenv.kindOf y = some .cell ∨ cenv.kindOf y = some .free) := fun k hk hk' => by
        have hk0 := hk
        rw [hsc] at hk
        obtain ⟨k', e, r⟩ := lookup_relS hk
        have no : ¬ (k' = .local ∨ k' = .cell) := fun hh => by
          rcases ok.own _ (PySem.mem_of_lookup e) hh with e' | e'
          · obtain ⟨p, hp, hpy⟩ := List.mem_map.mp e'
            have e3 := ok.ix p hp
            have : p.1 = y := hpy
            rw [this] at e3
            exact hne (List.mem_map.mpr ⟨p, hp, nodup_ix hN e3 e1⟩)
          · exact e' (List.mem_of_getElem? e1)
        rcases r with rfl | ⟨rfl, rfl⟩
        · rcases hk' with rfl | rfl | rfl
          · exact absurd (.inl rfl) no
          · exact absurd (.inr rfl) no
          · exact ⟨e, .inr hk0⟩
        · exact ⟨e, .inl hk0⟩
      have e3 : Vis cenv.scope y := e3
      rcases e3 with e3 | e3 | e3
      · exact key _ e3 (.inl rfl)
      · exact key _ e3 (.inr (.inl rfl))
      · exact key _ e3 (.inr (.inr rfl))
    obtain ⟨m, hn, hl⟩ := I.loc
    have hvis : Vis X.env.scope y := (ok.free _ (PySem.mem_of_lookup hfr.1) rfl).elim (fun k => .inr (.inl k)) (fun k => .inr (.inr k))
    obtain ⟨w, r, q⟩ := hl i y av e1 e2 hvis
    refine ⟨w, r, .inr ⟨hfr.2, ?_⟩⟩
    obtain ⟨c, h1, h2⟩ := look hfr.1
    rcases q with ⟨k, _⟩ | ⟨_, c', e', z⟩
    · have k : X.env.scope.names.lookup y = some .local := k
      rcases ok.free _ (PySem.mem_of_lookup hfr.1) rfl with k' | k' <;> rw [show X.env.scope.names.lookup y = _ from k'] at k <;> cases k
    · rw [h2] at e'; cases e'
      exact ⟨c, h1, z.keeps kp⟩
  · have e : cenv.cells.lookup y = some c := e
    rcases mem e with ⟨h1, _⟩ | ⟨_, z⟩
    · obtain ⟨w, z⟩ := I.cell y c h1
      exact ⟨w, z.keeps kp⟩
    · exact ⟨_, z⟩
  · show H cenv.locals = none
    rw [hL]; exact I.hok.fresh (Nat.le_refl _)
  · have e : cenv.cells.lookup y = some c := e
    rcases mem e with ⟨h1, _⟩ | ⟨h1, _⟩
    · exact I.freeC y c h1
    · exact I.hok.fresh (Nat.le_of_succ_le h1)
  · exact absurd (show p ∈ ([] : List (Addr × Obj)) ++ [] from hp) (by simp)
/-- an item appended to a tracked list -/
theorem app_ok {E : Value → Shared → Prop} {D : Addr} {xs : List V} {y : V} {v : Value} {Q : Value → Shared → Prop} (I : Inv X pins σ H s) (hD : H D = some (.lst xs)) (hz : xs.length < sizeLine) (r : RelV y v)
    (h : ∀ s', Inv X pins σ (upd H D (.lst (xs ++ [y]))) s' → Q .none s') : wpAny (model X.prog X.w) X.A (call (.builtin "list.append") [.ref D, v]) Q E s := by
  obtain ⟨hz', its, n, ri, e⟩ := I.hok D _ hD
  have hl := ri.length
  refine append_at (hsz := by rw [List.size_toArray]; omega) e fun h' sb ho' => ?_
  refine h { s with heap := h' } (I.write (t' := s.toks) (by rw [hD]; trivial) (.inl rfl) (fun b u hb q => (sb.2 b hb).trans q) ⟨_, ho'⟩ ⟨by rw [List.length_append]; exact hz, its ++ [v], n + 1, ri.append (.cons r .nil), ?_⟩)
  rw [ho']
  simp
/-- a clause's tests -/
def PTs (X : Cx) (ifs : List Expr) (t : TT) : Prop :=
  ∀ (pins : List (Addr × Obj)) (s : Shared) (σ : St) (H : Hp) (Q : Bool → Hp → Prop), Inv X pins σ H s → t σ H Q →
    wpAny (model X.prog X.w) X.A (forIn ifs true fun c r => if r = true then do let ok ← isTrue c X.env (eval c X.env); pure (ForInStep.yield ok) else pure (ForInStep.yield r)) (TP X pins σ Q) X.xe s
def tYes : TT := fun _ H Q => Q true H
theorem pts_nil : PTs X [] tYes := fun _ _ _ H _ I h => wpAny_tests_nil ⟨H, I, h⟩
theorem pts_one {c : Expr} {t : TT} (h : PT X c t) : PTs X [c] t := fun pins s σ H Q I hw => wpAny_tests_one (h pins s σ H Q I hw)
end
theorem thnF {α : Type} {t : Sem α} {Q Q' : α → Shared → Prop} {M : Model} {A : Around} {E : Value → Shared → Prop} {s : Shared} (h : wpAny M A t Q (fun _ _ => False) s) (hQ : ∀ a s, Q a s → Q' a s) : wpAny M A t Q' E s := wpAny_mono h hQ fun _ _ z => False.elim z
/-- the loop of a list comprehension's block, the target of any form (codeAny_compLoop_tests asks a target that no tuple goes to; statement and proof follow it, PyProof/CompMap.lean:41-61, with the step letOwnedTupleGo kept) -/
theorem compLoop_any {prog : Program} {w : World} {A : Around} {R : Result → Shared → Prop} {s : Shared} {elt target iter : Expr} {ifs : List Expr} {scope : Scope} {pos : Pos} {it acc : Value} {env : Env} (I : Nat → Shared → Prop)
    (turn : ∀ n s, I n s → wpAny (model prog w) A (pyNext it) (fun r s₁ => match r with
      | none => R (.ok .next) s₁
      | some v => wpAny (model prog w) A (letOwnedTupleGo target it v) (fun _ s₁' => wpAny (model prog w) A (assign target env v) (fun _ s₂ =>
          wpAny (model prog w) A (forIn ifs true fun c r => if r = true then do let ok ← isTrue c env (eval c env); pure (ForInStep.yield ok) else pure (ForInStep.yield r)) (fun ok s₃ =>
            if ok = true then wpAny (model prog w) A (eval elt env) (fun x s₄ =>
              wpAny (model prog w) A (call (.builtin "list.append") [acc, x]) (fun _ s₅ => ∃ m, m < n ∧ I m s₅) (notedBy (model prog w) A env fun e s' => R (.error e) s') s₄) (notedBy (model prog w) A env fun e s' => R (.error e) s') s₃
            else ∃ m, m < n ∧ I m s₃) (notedBy (model prog w) A env fun e s' => R (.error e) s') s₂) (notedBy (model prog w) A env fun e s' => R (.error e) s') s₁') (notedBy (model prog w) A env fun e s' => R (.error e) s') s₁) (notedBy (model prog w) A env fun e s' => R (.error e) s') s)
    (n : Nat) (h : I n s) :
    codeAny (model prog w) A (.compLoop (.ListComp elt [⟨target, iter, ifs, 0⟩] scope pos) 0 it acc env) R s := by
  refine codeAny_loop rfl I (fun n s hI => ?_) n h
  show wpAny _ A ((compTurn (.ListComp elt [⟨target, iter, ifs, 0⟩] scope pos) 0 it acc env).onRaise (fun x => do noteFrame x env; theTreesLotGoes x)) _ _ s
  refine wpAny_noted ?_
  rw [compTurn_list]
  refine wpAny_bind (wpAny_standAt (wpAny_bind (wpAny_mono (turn n s hI) (fun r s₁ h₁ => ?_) fun _ _ h' => h')))
  cases r with
  | none => exact wpAny_pure h₁
  | some v =>
    refine wpAny_bind (wpAny_mono h₁ (fun _ s₁' h₁' => ?_) fun _ _ h' => h')
    refine wpAny_bind (wpAny_mono h₁' (fun _ s₂ h₂ => wpAny_bind (wpAny_mono h₂ (fun ok s₃ h₃ => ?_) fun _ _ h' => h')) fun _ _ h' => h')
    cases ok with
    | false => exact wpAny_pure ⟨rfl, h₃⟩
    | true =>
      exact wpAny_bind (wpAny_bind (wpAny_mono h₃ (fun x s₄ h₄ => wpAny_bind (wpAny_mono h₄ (fun _ s₅ h₅ => wpAny_pure (wpAny_pure ⟨rfl, h₅⟩)) fun _ _ h' => h')) fun _ _ h' => h'))
section
variable {X : Cx}
/-- [elt for target in iter if ..]: D the new list; W by the turn and a measure, Nx what a turn is to reach -/
def tLc (wi : TI) (g : TG) (tt : TT) (te : TE) (vs : List Nat) : TE := fun σ H Q => wi σ H fun J H1 => ∀ D, H1 D = none → ∃ W : Nat → Nat → Hp → Prop, (∃ m, W 0 m (upd H1 D (.lst []))) ∧ ∀ i m H, W i m H →
  (J.stop i H ∧ Q (.ref D) H) ∨ (J.go i H ∧ ∃ Nx : Hp → Prop, (∀ H', Nx H' → ∃ m', m' < m ∧ W (i + 1) m' H') ∧ ∀ x H', J.yld i H x H' → g x (wipe σ vs) H' fun σ2 H2 => wipe σ2 vs = wipe σ vs ∧ tt σ2 H2 fun b H3 =>
    if b = true then te σ2 H3 fun y H4 => ∃ acc, H4 D = some (.lst acc) ∧ acc.length < sizeLine ∧ Nx (upd H4 D (.lst (acc ++ [y]))) else Nx H3)
theorem lc_core {pins : List (Addr × Obj)} {s : Shared} {σ : St} {H : Hp} {Q : VK} {elt tg iter : Expr} {ifs : List Expr} {scope : Scope} {own : List (Str × Nat)} {pos pos' : Pos} {wi : TI} {g : TG} {tt : TT} {te : TE} {use : Option (Value → Sem Unit)} {Qf : Value → Shared → Prop}
    (hc : X.calm = true) (hN : X.N.Nodup) (I : Inv X pins σ H s) (hi : PI X tg iter wi) (ok : BlkOk X.N X.env.scope scope own)
    (hg : ∀ (s : Shared) (H : Hp) (C : Addr) (cl : List (Str × Addr)) (fp : List Addr), PG (X.blk s H scope (compEnvC scope cl C X.env) fp) tg g) (ht : ∀ (s : Shared) (H : Hp) (C : Addr) (cl : List (Str × Addr)) (fp : List Addr), PTs (X.blk s H scope (compEnvC scope cl C X.env) fp) ifs tt)
    (he : ∀ (s : Shared) (H : Hp) (C : Addr) (cl : List (Str × Addr)) (fp : List Addr), PE (X.blk s H scope (compEnvC scope cl C X.env) fp) elt te) (hs : ∀ x, foldedSetIterable iter X.env x = pure x)
    (h : tLc wi g tt te (own.map (·.2)) σ H Q)
    (hRR : ∀ D C s' m H', Inv X pins σ H' s' → Q (.ref D) H' → s'.heap.Ns C m → FpOk X pins H' C → compPost (model X.prog X.w) X.A X.xe use Qf (.ref D) C (.ok .next) s') :
    wpAny (model X.prog X.w) X.A (comprehension (.ListComp elt [⟨tg, iter, ifs, 0⟩] scope pos) scope X.env pos' (newList []) false (eval iter X.env) use) Qf X.xe s := by
  have hfree : ∀ y ∈ scope.names, y.2 = .free → ∃ c, X.env.cells.lookup y.1 = some c := fun y hy e => by
    rcases ok.free y hy e with k | k
    · exact I.ok.has _ (.inl k)
    · exact I.ok.has _ (.inr k)
  refine wpAny_comprehension_free (use := use) rfl hs (closure_ok hfree) ok.kind (fun y hy e => by rw [ok.uniq y hy, e])
    (thn (hi pins s σ H _ I h) fun xv s1 hx => thn hx fun itv s2 h2 => ?_)
  obtain ⟨it, fp, tn, J, H2, e, I2, T, st2, f2, q⟩ := h2
  subst e
  refine wpAny_newObj_type (newEnv_comp ?_) (by show 0 ≤ sizeLine; decide)
  generalize hD : s2.heap.objs.size = D
  have hDn : H2 D = none := I2.hok.fresh (Nat.le_of_eq hD)
  obtain ⟨W, ⟨m0, w0⟩, turn⟩ := q D hDn
  -- the new list
  generalize hs3 : ({ s2 with heap := s2.heap.push { cls := .type "list", data := .seq ([] : List Value).toArray } } : Shared) = s3
  have I3 : Inv X pins σ (upd H2 D (.lst [])) s3 := by
    rw [← hs3]
    refine I2.laid (t' := s2.toks) (fun b o e => Heap.get?_push_of_some _ e) (Nat.le_of_eq hD) ⟨Nat.zero_le _, [], 0, .nil, ?_⟩
    rw [← hD]
    exact Heap.get?_push_size _ rfl
  have h3 : s3.heap = s2.heap.push { cls := .type "list", data := .seq ([] : List Value).toArray } := by rw [← hs3]
  have sz : ∀ b ∈ fp, b < s2.heap.objs.size := fun b hb => by
    obtain ⟨o, e, _⟩ := T.obj _ _ st2 b hb
    exact Heap.lt_size e
  have f3 : ∀ b ∈ fp, FpOk X pins (upd H2 D (.lst [])) b ∧ b < s3.heap.objs.size := fun b hb => by
    have hlt := sz b hb
    refine ⟨⟨?_, (f2 b hb).2⟩, by rw [h3, Heap.size_push]; exact Nat.lt_succ_of_lt hlt⟩
    rw [upd_ne (by rw [← hD]; exact Nat.ne_of_lt hlt)]
    exact (f2 b hb).1
  have st3 : tn 0 s3.heap := T.keep _ _ _ st2 fun b _ o e => by rw [h3]; exact Heap.get?_push_of_some _ e
  have I4 := block_start I3 ok hN f3
  have pg := hg s3 (upd H2 D (.lst [])) s3.heap.objs.size (cellsFrom (s3.heap.objs.size + 1) scope.names (cloFrom X.env.cells scope.names [])) fp
  have pt := ht s3 (upd H2 D (.lst [])) s3.heap.objs.size (cellsFrom (s3.heap.objs.size + 1) scope.names (cloFrom X.env.cells scope.names [])) fp
  have pe := he s3 (upd H2 D (.lst [])) s3.heap.objs.size (cellsFrom (s3.heap.objs.size + 1) scope.names (cloFrom X.env.cells scope.names [])) fp
  show codeAny _ _ (.compStart (.ListComp elt [⟨tg, iter, ifs, 0⟩] scope pos) 0 (.ref it) (.ref D) (compEnvC scope (cellsFrom (s3.heap.objs.size + 1) scope.names (cloFrom X.env.cells scope.names [])) s3.heap.objs.size X.env)) (compPost (model X.prog X.w) X.A X.xe use Qf (.ref D) s3.heap.objs.size) { s3 with heap := pushCells (s3.heap.push { cls := .type "dict", data := .dict #[] }) scope.names }
  have nfp : ∀ b ∈ fp, (upd H2 D (.lst [])) b = none := fun b hb => (f3 b hb).1.1
  generalize hce : compEnvC scope (cellsFrom (s3.heap.objs.size + 1) scope.names (cloFrom X.env.cells scope.names [])) s3.heap.objs.size X.env = ce at I4 pg pt pe ⊢
  have cL : ce.locals = s3.heap.objs.size := by subst hce; rfl
  generalize hH3 : upd H2 D (.lst []) = H3 at I3 I4 pg pt pe w0 nfp f3
  generalize hs4 : ({ s3 with heap := pushCells (s3.heap.push { cls := .type "dict", data := .dict #[] }) scope.names } : Shared) = s4 at I4 ⊢
  have st4 : tn 0 s4.heap := T.keep _ _ _ st3 fun b _ o e => by rw [← hs4]; exact pushCells_keeps _ _ _ _ (Heap.get?_push_of_some _ e)
  have stat : ∀ {σ' : St} {H' : Hp} {s' : Shared}, Inv (X.blk s3 H3 scope ce fp) [] σ' H' s' → (∀ b ∈ fp, H' b = none) → ∀ b ∈ fp, FpOk (X.blk s3 H3 scope ce fp) [] H' b := fun {σ' H' s'} I' hn b hb =>
    ⟨hn b hb, (I'.ok.exf b hb).1, I'.ok.exfs b hb, .inl hb, fun x c e => (I'.ok.exf b hb).2 x c e, fun p hp => absurd (show p ∈ ([] : List (Addr × Obj)) ++ [] from hp) (by simp)⟩
  have loop : codeAny (model X.prog X.w) X.A (.compLoop (.ListComp elt [⟨tg, iter, ifs, 0⟩] scope pos) 0 (.ref it) (.ref D) ce) (compPost (model X.prog X.w) X.A X.xe use Qf (.ref D) s3.heap.objs.size) s4 := by
    refine compLoop_any (fun n s' => ∃ i H', Inv (X.blk s3 H3 scope ce fp) [] (wipe σ (own.map (·.2))) H' s' ∧ tn i s'.heap ∧ (∀ b ∈ fp, H' b = none) ∧ W i n H') ?_ m0 ⟨0, H3, I4, st4, nfp, w0⟩
    rintro n s5 ⟨i, H5, I5, st5, n5, w5⟩
    rcases turn i n H5 w5 with ⟨stop, qq⟩ | ⟨go, Nx, hNx, step⟩
    · have td := T.done (X.blk s3 H3 scope ce fp) rfl rfl rfl hc i [] s5 _ H5 (fun _ _ => False) I5 (stat I5 n5) st5 stop
      refine thnF td fun r s6 ⟨hr, I6⟩ => ?_
      subst hr
      -- back in the def's context
      have I7 : Inv X pins σ H5 s6 := I3.call' (ch := fp) I6.os I6.base I6.hok I6.bare fun b hb => ⟨(f3 b hb).1.2.2.2.1, (f3 b hb).1.2.1, (f3 b hb).1.2.2.2.2.1, (f3 b hb).1.2.2.2.2.2⟩
      have nC : H5 s3.heap.objs.size = none := by
        have z : H5 ce.locals = none := I6.free
        rw [cL] at z
        exact z
      obtain ⟨m, hn, _⟩ := I6.loc
      have hn : s6.heap.Ns ce.locals m := hn
      rw [cL] at hn
      exact hRR D s3.heap.objs.size s6 m H5 I7 qq hn (I3.fpOk (Nat.le_refl _) nC)
    · have ti := T.item (X.blk s3 H3 scope ce fp) rfl rfl rfl hc i [] s5 _ H5 (fun _ _ => False) I5 (stat I5 n5) st5 go
      refine thnF ti fun r s6 ⟨u, hr, h6⟩ => ?_
      subst hr
      refine thnF h6 fun _ s7 ⟨x, H7, I7, r7, y7, st7, n7⟩ => ?_
      have I7' := I7.pinned (stat I7 n7) (T.obj _ _ st7)
      refine thnF (pg _ s7 _ H7 x u _ I7' r7 (step x H7 y7)) fun _ s8 ⟨σ8, H8, I8, hw8, q8⟩ => ?_
      refine thnF (pt _ s8 σ8 H8 _ I8 q8) fun b s9 ⟨H9, I9, q9⟩ => ?_
      -- the turn's end
      have fin : ∀ {s' : Shared} {H' : Hp}, Inv (X.blk s3 H3 scope ce fp) ([] ++ pinsAt fp s7.heap) σ8 H' s' → Nx H' → ∃ m, m < n ∧ ∃ i H', Inv (X.blk s3 H3 scope ce fp) [] (wipe σ (own.map (·.2))) H' s' ∧ tn i s'.heap ∧ (∀ b ∈ fp, H' b = none) ∧ W i m H' := fun {s' H'} I' nx => by
        obtain ⟨m', hm, w'⟩ := hNx H' nx
        have pin' : ∀ b ∈ fp, ∀ o, s7.heap.get? b = some o → s'.heap.get? b = some o ∧ H' b = none := fun b hb o e =>
          let z := I'.pin (b, o) (List.mem_append_right _ (List.mem_append_right _ (mem_pinsAt hb e)))
          ⟨z.1, z.2.1⟩
        have hl : (wipe σ (own.map (·.2))).length = σ8.length := by rw [← hw8, wipe_length]
        refine ⟨m', hm, i + 1, H', (I'.unpinned (pins := [])).weak hl (fun j v e => ?_), T.keep _ _ _ st7 fun b hb o e => (pin' b hb o e).1, fun b hb => ?_, w'⟩
        · rw [← hw8] at e
          exact (wipe_some e).1
        · obtain ⟨o, e, _⟩ := T.obj _ _ st7 b hb
          exact (pin' b hb o e).2
      cases b with
      | false =>
        simp only [Bool.false_eq_true, if_false] at q9 ⊢
        exact fin I9 q9
      | true =>
        simp only [if_true] at q9 ⊢
        refine thnF (pe _ s9 σ8 H9 _ I9 q9) fun z s10 ⟨yv, H10, I10, r10, acc, hD10, hz10, nx⟩ => ?_
        exact app_ok (X := X.blk s3 H3 scope ce fp) I10 hD10 hz10 r10 fun s11 I11 => fin I11 nx
  exact codeAny_compStart_list loop (T.self X.A 0 _ _ _ st4 loop)
/-- as a value -/
theorem pe_lc {elt tg iter : Expr} {ifs : List Expr} {scope : Scope} {own : List (Str × Nat)} {pos : Pos} {wi : TI} {g : TG} {tt : TT} {te : TE} (hc : X.calm = true) (hN : X.N.Nodup) (hi : PI X tg iter wi) (ok : BlkOk X.N X.env.scope scope own)
    (hg : ∀ (s : Shared) (H : Hp) (C : Addr) (cl : List (Str × Addr)) (fp : List Addr), PG (X.blk s H scope (compEnvC scope cl C X.env) fp) tg g) (ht : ∀ (s : Shared) (H : Hp) (C : Addr) (cl : List (Str × Addr)) (fp : List Addr), PTs (X.blk s H scope (compEnvC scope cl C X.env) fp) ifs tt)
    (he : ∀ (s : Shared) (H : Hp) (C : Addr) (cl : List (Str × Addr)) (fp : List Addr), PE (X.blk s H scope (compEnvC scope cl C X.env) fp) elt te) (hs : ∀ x, foldedSetIterable iter X.env x = pure x := by intro _; rfl) :
    PE X (.ListComp elt [⟨tg, iter, ifs, 0⟩] scope pos) (tLc wi g tt te (own.map (·.2))) := by
  intro pins s σ H Q I h
  rw [eval_ListComp]
  refine lc_core hc hN I hi ok hg ht he hs h fun D C s' m H' I' q hn f => ⟨m, hn, fun h'' sb => ?_⟩
  obtain ⟨f0, f1, f2, f3, f4, f5⟩ := f
  exact ⟨.ref D, H', I'.turned (t' := s'.toks) (fun b o hb e => (sb.2 b hb).trans e) f0 f1 f3 f4 f5, rfl, q⟩
/-- name = [..] on one line, the name a local -/
theorem ps_setLc {i : Nat} {y : Str} {py : Pos} {elt tg iter : Expr} {ifs : List Expr} {scope : Scope} {own : List (Str × Nat)} {pos spos : Pos} {wi : TI} {g : TG} {tt : TT} {te : TE} (hc : X.calm = true) (hN : X.N.Nodup) (hy : X.N[i]? = some y) (hyl : X.env.scope.names.lookup y = some .local)
    (hsw : swapsWith (.ListComp elt [⟨tg, iter, ifs, 0⟩] scope pos) (some (.Name y py)) spos.line X.env = pure true) (hi : PI X tg iter wi) (ok : BlkOk X.N X.env.scope scope own)
    (hg : ∀ (s : Shared) (H : Hp) (C : Addr) (cl : List (Str × Addr)) (fp : List Addr), PG (X.blk s H scope (compEnvC scope cl C X.env) fp) tg g) (ht : ∀ (s : Shared) (H : Hp) (C : Addr) (cl : List (Str × Addr)) (fp : List Addr), PTs (X.blk s H scope (compEnvC scope cl C X.env) fp) ifs tt)
    (he : ∀ (s : Shared) (H : Hp) (C : Addr) (cl : List (Str × Addr)) (fp : List Addr), PE (X.blk s H scope (compEnvC scope cl C X.env) fp) elt te) (hs : ∀ x, foldedSetIterable iter X.env x = pure x := by intro _; rfl) :
    PS X (.Assign [.Name y py] (.ListComp elt [⟨tg, iter, ifs, 0⟩] scope pos) spos) (tAsg (tLc wi g tt te (own.map (·.2))) (gName i)) := by
  intro pins s σ H D I h
  rw [exec_Assign_Name_used _ _ _ _ hsw]
  refine wpAny_bind (wpAny_standAt (wpAny_bind ?_))
  show wpAny _ X.A (do let _ ← comprehension (.ListComp elt [⟨tg, iter, ifs, 0⟩] scope pos) scope X.env (firstIterPos [⟨tg, iter, ifs, 0⟩] pos) (newList []) false (eval iter X.env) (some (assign (.Name y py) X.env))) _ _ s
  have h : tLc wi g tt te (own.map (·.2)) σ H (fun x H1 => gName i x σ H1 D.nx) := h
  refine wpAny_bind (thn (lc_core (Qf := fun _ s' => SP X pins D .next s') hc hN I hi ok hg ht he hs h fun L C s' m H' I' q hn f => ?_) fun _ s' hq => wpAny_pure (wpAny_pure hq))
  show wpAny _ _ (assign (.Name y py) X.env (.ref L)) _ _ _
  refine wpAny_assign_Name (store_ok2 (v := V.ref L) I' hN hy (.inl hyl) rfl (fun s2 I2 ⟨a, sb, ha⟩ => ?_) (.inr hyl))
  obtain ⟨f0, f1, f2, f3, f4, f5⟩ := f
  have haC : C ≠ a := by
    rcases ha with z | z
    · rw [z]; exact f1
    · exact fun e => f4 y a z e.symm
  refine ⟨m, hn.sameBut sb haC, fun h3 sb3 => ?_⟩
  exact ⟨_, H', I2.turned (t' := s2.toks) (fun b o hb e => (sb3.2 b hb).trans e) f0 f1 f3 f4 f5, q⟩
theorem sw_true {elt : Expr} {gs : List Comprehension} {scope : Scope} {pos py : Pos} {y : Str} {l : Nat} {env : Env} (hk : env.scope.kind = .function) (hy : env.scope.names.lookup y = some .local) (hl : (py.line == pos.line) = true)
    (ha : (scope.names.any fun (n, k) => n == y && (k == .local || k == .cell)) = false) : swapsWith (.ListComp elt gs scope pos) (some (.Name y py)) l env = pure true := by
  have ky : env.kindOf y = some .local := hy
  have hb : env.blockKind = .function := by unfold Env.blockKind; rw [hk]; rfl
  unfold swapsWith
  simp only [hb, ky, ha, Expr.pos, hl]
  rfl
end
/-! ### the forms one uses -/
/-- over a list that the block leaves as it is -/
theorem lc_list {K : PySem.W.Frag} {a : Addr} {xs : List V} {g : TG} {tt : TT} {te : TE} {vs : List Nat} {σ : St} {H1 : Hp} {D : Addr} {Qd : Hp → Prop} (Pv : Nat → Hp → Prop) (h0 : Pv 0 (upd H1 D (.lst []))) (hl : ∀ i H, i ≤ xs.length → Pv i H → SqL K H a xs)
    (hs : ∀ i x H, xs[i]? = some x → Pv i H → g x (wipe σ vs) H fun σ2 H2 => wipe σ2 vs = wipe σ vs ∧ tt σ2 H2 fun b H3 =>
      if b = true then te σ2 H3 fun y H4 => ∃ acc, H4 D = some (.lst acc) ∧ acc.length < sizeLine ∧ Pv (i + 1) (upd H4 D (.lst (acc ++ [y]))) else Pv (i + 1) H3) (hd : ∀ H, Pv xs.length H → Qd H) :
    ∃ W : Nat → Nat → Hp → Prop, (∃ m, W 0 m (upd H1 D (.lst []))) ∧ ∀ i m H, W i m H →
      ((Itl K a).stop i H ∧ Qd H) ∨ ((Itl K a).go i H ∧ ∃ Nx : Hp → Prop, (∀ H', Nx H' → ∃ m', m' < m ∧ W (i + 1) m' H') ∧ ∀ x H', (Itl K a).yld i H x H' → g x (wipe σ vs) H' fun σ2 H2 => wipe σ2 vs = wipe σ vs ∧ tt σ2 H2 fun b H3 =>
        if b = true then te σ2 H3 fun y H4 => ∃ acc, H4 D = some (.lst acc) ∧ acc.length < sizeLine ∧ Nx (upd H4 D (.lst (acc ++ [y]))) else Nx H3) := by
  refine ⟨fun i m H => m = xs.length - i ∧ i ≤ xs.length ∧ Pv i H, ⟨xs.length, by simp, Nat.zero_le _, h0⟩, ?_⟩
  rintro i m H ⟨rfl, hi, p⟩
  have q := hl i H hi p
  by_cases hlt : i < xs.length
  · refine .inr ⟨⟨xs, xs[i], q, by simp [hlt]⟩, Pv (i + 1), fun H' p' => ⟨xs.length - (i + 1), by omega, rfl, hlt, p'⟩, fun x H' y => ?_⟩
    obtain ⟨e, y⟩ := y
    subst e
    exact hs i x _ (y xs q) p
  · have e : i = xs.length := by omega
    subst e
    exact .inl ⟨⟨xs, q, Nat.le_refl _⟩, hd H p⟩
def blkC (N : List Str) (sc scope : Scope) (own : List (Str × Nat)) : Bool :=
  (match scope.kind with | .function => true | _ => false) && (scope.names.all fun y => decide (scope.names.lookup y.1 = some y.2)) && (own.all fun p => decide (N[p.2]? = some p.1)) &&
    (scope.names.all fun y => match y.2 with
      | .free => (match sc.names.lookup y.1 with | some .cell => true | some .free => true | _ => false)
      | .local => decide (y.1 ∈ own.map (·.1)) || decide (y.1 ∉ N)
      | .cell => decide (y.1 ∈ own.map (·.1)) || decide (y.1 ∉ N)
      | _ => true)
theorem blkOk_by {N : List Str} {sc scope : Scope} {own : List (Str × Nat)} (h : blkC N sc scope own = true) : BlkOk N sc scope own := by
  unfold blkC at h
  simp only [Bool.and_eq_true, List.all_eq_true, decide_eq_true_eq] at h
  obtain ⟨⟨⟨h1, h2⟩, h3⟩, h4⟩ := h
  refine ⟨?_, h2, h3, fun y hy e => ?_, fun y hy e => ?_⟩
  · split at h1
    · assumption
    · cases h1
  · have q := h4 y hy
    simp only [e] at q
    split at q <;> first | exact .inl (by assumption) | exact .inr (by assumption) | cases q
  · have q := h4 y hy
    rcases e with e | e <;> (simp only [e, Bool.or_eq_true, decide_eq_true_eq] at q; exact q)
end L2
namespace L2
open PySem PySem.Spec PyProof.Rows
section
variable {prog : Program} {w : World} {A : Around} {R : Result → Shared → Prop} {s : Shared} {elt t0 i0 t1 i1 : Expr} {ifs0 ifs1 : List Expr} {scope : Scope} {pos : Pos} {it acc : Value} {env : Env}
end
section
variable {X : Cx}
end
end L2
namespace L2
open PySem PySem.Spec PyProof.Rows
/-! ### lists of pairs as tables -/
section
variable {κ : Type} [DecidableEq κ]
end
/-! ### a tracked dict, its keys ints and texts or tuples of these -/
theorem kV_is {P : Program} {w : World} {k : Key} {u : Value} (r : RelV (kV k) u) : (mixKind P w).is k u = true := by
  cases k with
  | inl i => obtain ⟨t, e⟩ := (show ∃ t, u = Value.int i t from r); subst e; exact mixKind_int P w i t
  | inr x => obtain ⟨t, e⟩ := (show ∃ t, u = Value.str x t from r); subst e; exact mixKind_str P w x t
section
variable {P : Program} {w : World} {H : Hp} {h : Heap} {a : Addr}
end
section
variable {X : Cx} {pins : List (Addr × Obj)} {σ : St} {H : Hp} {s : Shared} {a : Addr} {y v : V} {u r : Value} {o : Option V} {A : Around} {E : Value → Shared → Prop}
end
section
variable {X : Cx} {pins : List (Addr × Obj)} {σ : St} {H : Hp} {s : Shared} {a : Addr} {kvs : List (Key × V)} {k : Key} {u : Value} {A : Around} {E : Value → Shared → Prop}
end
/-! ### readings and rules -/
/-- the element of a subscription, not a slice -/
def NoSl (i : Expr) : Prop := ∀ ov iv, subscripted i false ov iv = operate [ov, iv] (getItem ov iv)
theorem subD_of {prog : Program} {w : World} {A : Around} {E : Value → Shared → Prop} {s : Shared} {env : Env} {value slice : Expr} {pos : Pos} {T id : String} {Q : Value → Shared → Prop}
    (hl : typeLookup (.type T) "__getitem__" = pure (some (.builtin id))) (hs : NoSl slice)
    (h : wpAny (model prog w) A (eval value env) (fun o s₁ => wpAny (model prog w) A (eval slice env) (fun i s₂ => s₂.TypeIs o T ∧ wpAny (model prog w) A (getItem o i) Q E s₂) E s₁) E s) :
    wpAny (model prog w) A (eval (.Subscript value slice pos) env) Q E s := by
  refine Subscript_ (wpAny_mono h (fun o s₁ h₁ => wpAny_mono h₁ (fun i s₂ h₂ => ?_) fun _ _ x => x) fun _ _ x => x)
  obtain ⟨hT, h₂⟩ := h₂
  unfold subscriptTail
  refine wpAny_bind ?_
  rw [getitemInPython_of_ne hT.not_modules]
  refine wpAny_bind (wpAny_specialOf hT hl ?_)
  have fin : wpAny (model prog w) A (subscripted slice false o i) (fun r s₃ => wpAny (model prog w) A (letTemporaryGo value o r >>= fun _ => pure r) Q E s₃) E s₂ := by
    rw [hs o i]
    exact wpAny_operating (wpAny_mono h₂ (fun r s₃ h₃ => wpAny_bind (wpAny_letTemporaryGo (wpAny_pure h₃))) fun _ _ x => x)
  first
    | exact wpAny_pure (wpAny_bind fin)
    | exact wpAny_bind (wpAny_pure (wpAny_bind fin))
    | exact wpAny_bind fin
section
variable {X : Cx} {o i e value : Expr} {pos pos' tpos : Pos} {td ty tv : TE}
end
/-! ### displays -/
section
variable {X : Cx} {pos : Pos}
end
/-! ### methods -/
section
variable {X : Cx} {pins : List (Addr × Obj)} {σ : St} {H : Hp} {s : Shared} {a : Addr} {y d : V} {u r : Value} {o : Option V} {A : Around} {E : Value → Shared → Prop}
end
section
variable {X : Cx} {o e f : Expr} {apos cpos : Pos} {td ty tx : TE}
end
/-! ### dict(d): a copy -/
section
variable {X : Cx} {pins : List (Addr × Obj)} {σ : St} {H : Hp} {s : Shared} {a : Addr} {kvs : List (Key × V)} {A : Around} {E : Value → Shared → Prop}
end
section
variable {X : Cx} {pins : List (Addr × Obj)} {σ : St} {H : Hp} {s : Shared} {a : Addr} {y : V} {u : Value} {A : Around} {E : Value → Shared → Prop}
end
end L2
namespace L2
open PySem PySem.Spec PyProof.Rows
section
variable {prog : Program} {w : World} {A : Around} {E : Value → Shared → Prop}
end
section
variable {X : Cx}
end
end L2
namespace L2
open PySem PySem.Spec PyProof.Rows
section
variable {X : Cx} {pins : List (Addr × Obj)} {σ : St} {H : Hp} {s : Shared} {h' : Heap}
/-- several records of ours have turned -/
theorem Inv.turnedL {t' : Nat} {ch : List Addr} (I : Inv X pins σ H s) (k : ∀ b o, b ∉ ch → s.heap.get? b = some o → h'.get? b = some o) (hf : ∀ b ∈ ch, FpOk X pins H b) : Inv X pins σ H { s with heap := h', toks := t' } := by
  have nit : ∀ b u, H b = some u → b ∉ ch := fun b u e z => by
    have q := (hf b z).1
    rw [q] at e; cases e
  refine I.step (g' := s.gens) (d' := s.drawn) (ch := ch) (fun b hb => ⟨(hf b hb).2.2.2.1, (hf b hb).2.1, (hf b hb).2.2.2.2.1, (hf b hb).2.2.2.2.2⟩) (fun b o _ _ hc e _ => k b o hc e) (fun b o _ _ hc e _ => ⟨o.slots, k b o hc e⟩)
    (fun _ _ _ _ n => n) (fun b o hc e => ⟨o, k b o hc e⟩) (fun _ _ e => e) (fun _ _ _ e => e) (fun b ps e => ⟨#[], by rw [e]; simp⟩) (fun m hm => ?_) (fun b u e => ?_) I.bare
  · obtain ⟨o, es, ep, ho, r⟩ := hm
    exact ⟨o, es, ep, k _ o (fun z => (hf _ z).2.1 rfl) ho, r⟩
  · refine (I.hok b u e).stay (fun c v hc q => k c v ?_ q) (fun _ q => q) fun _ _ q => q
    rcases hc with z | z
    · rw [z]; exact nit b u e
    · exact nit c _ z
/-- .. and one new object is laid -/
theorem Inv.turnedNew {t' : Nat} {ch : List Addr} {T : Addr} {ob : HO} (I : Inv X pins σ H s) (k : ∀ b o, b ∉ ch → s.heap.get? b = some o → h'.get? b = some o) (hf : ∀ b ∈ ch, FpOk X pins H b) (hT : s.heap.objs.size ≤ T)
    (new : ObjOk X.prog X.w (upd H T ob) h' T ob) : Inv X pins σ (upd H T ob) { s with heap := h', toks := t' } := by
  have hn : H T = none := I.hok.fresh hT
  have nit : ∀ b u, H b = some u → b ∉ ch := fun b u e z => by
    have q := (hf b z).1
    rw [q] at e; cases e
  refine I.step (g' := s.gens) (d' := s.drawn) (ch := ch) (fun b hb => ⟨(hf b hb).2.2.2.1, (hf b hb).2.1, (hf b hb).2.2.2.2.1, (hf b hb).2.2.2.2.2⟩) (fun b o _ _ hc e _ => k b o hc e) (fun b o _ _ hc e _ => ⟨o.slots, k b o hc e⟩)
    (fun b o _ e n => ?_) (fun b o hc e => ⟨o, k b o hc e⟩) (fun b xs e => ?_) (fun b o u e => ?_) (fun b ps e => ⟨#[], ?_⟩) (fun m hm => ?_) (fun b u e => ?_) I.bare
  · rw [upd_ne (Nat.ne_of_lt (Nat.lt_of_lt_of_le (Heap.lt_size e) hT))]; exact n
  · rw [upd_ne (ne_of_none e hn)]; exact e
  · rw [upd_ne (ne_of_none e hn)]; exact e
  · rw [upd_ne (ne_of_none e hn), e]; simp
  · obtain ⟨o, es, ep, ho, r⟩ := hm
    exact ⟨o, es, ep, k _ o (fun z => (hf _ z).2.1 rfl) ho, r⟩
  · by_cases hb : b = T
    · subst hb
      rw [upd_same] at e
      cases e
      exact new
    · rw [upd_ne hb] at e
      refine (I.hok b u e).stay (fun c v hc q => k c v ?_ q) (fun c q => by rw [upd_ne (ne_of_none q hn)]; exact q) fun c xs q => by rw [upd_ne (ne_of_none q hn)]; exact q
      rcases hc with z | z
      · rw [z]; exact nit b u e
      · exact nit c _ z
/-! ### locking a thing while a statement runs -/
end
section
variable {X : Cx}
/-! ### one iterator just laid -/
theorem pi_one {tg : Expr} {pins : List (Addr × Obj)} {σ : St} {H : Hp} {s : Shared} {R : It → Hp → Prop} {J : It} {tn : Nat → Heap → Prop} {tk : Nat} (I : Inv X pins σ H s) (o : Obj)
    (T : Turn X.prog X.w X.K tg J [s.heap.objs.size] s.heap.objs.size tn) (st : tn 0 (s.heap.push o)) (q : R J H) : PIE X pins σ tg R (.ref s.heap.objs.size) { s with heap := s.heap.push o, toks := tk } := by
  refine ⟨s.heap.objs.size, [s.heap.objs.size], tn, J, H, rfl, I.kept fun b ob e => Heap.get?_push_of_some _ e, T, st, fun b hb => ?_, q⟩
  have e : b = s.heap.objs.size := by simpa using hb
  subst e
  exact I.fpOk (Nat.le_refl _) (I.hok.fresh (Nat.le_refl _))
end
/-! ### range with a step -/
/-- lo, lo + c, .. (n of them) -/
def Itc (lo c : Int) (n : Nat) : It := ⟨fun i _ => i < n, fun i H x H' => H' = H ∧ x = .int (lo + (i : Nat) * c), fun i _ => n ≤ i⟩
theorem turn_rangeC {P : Program} {w : World} {K : PySem.W.Frag} {tg : Expr} (it : Addr) (lo c : Int) (n : Nat) : Turn P w K tg (Itc lo c n) [it] it (fun i h => IsRangeIter h it (lo + (i : Nat) * c) ((n : Int) - (i : Nat)) c) where
  mem := by simp
  obj := fun i h st b hb => by
    have e : b = it := by simpa using hb
    subst e
    exact ⟨_, st, fun v z => nomatch z⟩
  keep := fun i h h' st k => k it (by simp) _ st
  item := by
    intro X hP hw hK hc i pins s σ H E I hf st hg
    subst hP hw hK
    obtain ⟨f0, f1, f2, f3, f4, f5⟩ := hf it (by simp)
    have W := Walks.range (prog := X.prog) (w := X.w) (I.ok.hd hc) it lo c n
    refine W.item i s _ _ hg st fun v h' tk hv st' kk => ?_
    obtain ⟨t, rfl⟩ := hv
    have I1 : Inv X pins σ H { s with heap := h', toks := tk } := I.turned (fun b o hb e => kk b o (by simpa using hb) e) f0 f1 f3 f4 f5
    exact ⟨_, rfl, go_of (s := { s with heap := h', toks := tk }) (n := "range_iterator") st' rfl rfl (by decide) ⟨.int (lo + (i : Nat) * c), H, I1, ⟨t, rfl⟩, ⟨rfl, rfl⟩, st', fun b hb => (hf b hb).1⟩⟩
  done := by
    intro X hP hw hK hc i pins s σ H E I hf st hg
    subst hP hw hK
    obtain ⟨f0, f1, f2, f3, f4, f5⟩ := hf it (by simp)
    exact wpAny_pyNext_range_end (I.ok.hd hc) st (by have : n ≤ i := hg; omega) fun h' eb => ⟨rfl, I.turned (t' := s.toks) (fun b o hb e => eb b o hb e) f0 f1 f3 f4 f5⟩
  self := fun A i s Q E st h => wpAny_pyIter_rangeiter st h
/-- range(i, j, c): small bounds, n items -/
def RgC (i j c : Int) (n : Nat) : Prop := c ≠ 0 ∧ c.natAbs < 1073741824 ∧ Builtin.Range.small i j c = true ∧ Builtin.Range.rangeSize i j c = n
def iRng3 (ta : TA) : TI := fun σ H R => ta σ H fun vs H1 => ∃ (i j c : Int) (n : Nat), vs = [.int i, .int j, .int c] ∧ RgC i j c n ∧ R (Itc i c n) H1
section
variable {X : Cx} {tg : Expr}
theorem pi_range3 {a b c : Expr} {ta : TA} {p pos : Pos} (hg : Gl X "range") (hm : X.mg "range" = none) (ha : PA X [a, b, c] ta)
    (hs : starEach [a, b, c] X.env = (false, eval a X.env) :: starEach [b, c] X.env := by rfl) (hpl : (backTo pos (starEach [b, c] X.env)).any (·.1) = false := by rfl) :
    PI X tg (.Call (.Name "range" p) [a, b, c] [] pos) (iRng3 ta) := by
  intro pins s σ H R I h
  refine Call_ (ld_blt I hg hm boot_range (PyProof.Rows.callWith_type1 (thn (ha pos pins s σ H _ I h) fun us s1 ⟨vs, H1, I1, r1, q1⟩ => ?_) hs hpl))
  obtain ⟨i, j, k, n, e, ⟨c0, c1, c2, c3⟩, q⟩ := q1
  subst e
  cases r1 with
  | cons r rr =>
    cases rr with
    | cons r' rr =>
      cases rr with
      | cons r'' rr =>
        cases rr
        obtain ⟨t, rfl⟩ := r
        obtain ⟨t', rfl⟩ := r'
        obtain ⟨t'', rfl⟩ := r''
        refine call_range_3 c0 ?_ (.inl (PyProof.noPylong_small c1))
        refine wpAny_pyIter_range (IsRange.new ..) c2 ?_
        have I2 : Inv X pins σ H1 { s1 with heap := s1.heap.push { cls := .type "range", data := .fields #[.int i t, .int j t', .int k t''] } } := I1.kept (t' := s1.toks) fun b o e => Heap.get?_push_of_some _ e
        refine pi_one (tk := s1.toks) I2 _ (turn_rangeC _ i k n) ?_ q
        have e1 : i + ((0 : Nat) : Int) * k = i := by simp
        have e2 : (n : Int) - ((0 : Nat) : Int) = Builtin.Range.rangeSize i j k := by rw [c3]; simp
        show IsRangeIter _ _ (i + ((0 : Nat) : Int) * k) ((n : Int) - ((0 : Nat) : Int)) k
        rw [e1, e2]
        exact Heap.get?_push_size _ rfl
end
/-! ### reversed(list) -/
section
variable {X : Cx} {tg : Expr}
end
/-! ### a str -/
/-! ### a dict's keys: any dict's entries -/
section
variable {prog : Program} {w : World} {A : Around} {E : Value → Shared → Prop} {s : Shared}
end
/-! ### a locked dict -/
section
variable {X : Cx} {pins : List (Addr × Obj)} {σ : St} {H : Hp} {s : Shared} {d : Addr} {o : Obj}
end
section
variable {P : Program} {w : World} {K : PySem.W.Frag} {tg : Expr} {d : Addr} {o : Obj} {es : Array DictEntry} {ep : Nat}
end
/-! ### for k in d, d.keys(), d.values(), d.items() -/
section
variable {X : Cx} {tg e : Expr} {td : TE} {apos cpos : Pos}
end
/-! ### enumerate(list) -/
/-- the list at a as it stands at each turn, each item in a new pair -/
def Ite (K : PySem.W.Frag) (a : Addr) : It :=
  ⟨fun i H => ∃ (xs : List V) (x : V), SqL K H a xs ∧ xs[i]? = some x, fun i H v H' => ∃ T x, v = .ref T ∧ H T = none ∧ H' = upd H T (.tup [.int (i : Nat), x]) ∧ ∀ xs, SqL K H a xs → xs[i]? = some x, fun i H => ∃ xs : List V, SqL K H a xs ∧ xs.length ≤ i⟩
theorem turn_enum {P : Program} {w : World} {K : PySem.W.Frag} {elts : List Expr} {kk : Nat} {tpos : Pos} (a e it : Addr) :
    Turn P w K (.Tuple elts kk tpos) (Ite K a) [e, it] e (fun i h => (∃ old, IsEnum h e it ((i : Nat) : Int) old) ∧ h.IsListIter it a i ∧ e ≠ it) where
  mem := by simp
  obj := fun i h st b hb => by
    obtain ⟨⟨old, he⟩, ⟨o, ho, hc, hd⟩, _⟩ := st
    have e' : b = e ∨ b = it := by simpa using hb
    rcases e' with z | z
    · rw [z]; exact ⟨_, he, fun v q => nomatch q⟩
    · rw [z]; exact ⟨o, ho, fun v q => by rw [hd] at q; cases q⟩
  keep := fun i h h' st k => let ⟨⟨old, he⟩, hi, hne⟩ := st; ⟨⟨old, k e (by simp) _ he⟩, hi.at fun o q => k it (by simp) o q, hne⟩
  item := by
    intro X hP hw hK hc i pins s σ H E I hf st hg
    subst hP hw hK
    obtain ⟨⟨old, he⟩, hit, hne⟩ := st
    obtain ⟨xs, x, hq, hx⟩ := hg
    obtain ⟨its, rv, p, hz⟩ := I.list hq
    obtain ⟨u, hu, ru⟩ := rv.get hx
    have hel : e < s.heap.objs.size := Heap.lt_size he
    have hil : it < s.heap.objs.size := by obtain ⟨_, q, _⟩ := hit; exact Heap.lt_size q
    refine wpAny_pyNext_enum_item he hit p.isList (x := u) (by simpa using hu) hne fun h' ho hit' hT hsz hk => ?_
    refine ⟨_, rfl, wpAny_letOwnedTupleGo_enum (s := { s with heap := h', toks := s.toks + 1 }) ho fun h'' he' sb => ?_⟩
    have hT2 : h''.get? s.heap.objs.size = some { cls := .type "tuple", data := .seq #[.int i s.toks, u] } := (sb.2 _ (Nat.ne_of_gt hel)).trans hT
    have new : ObjOk X.prog X.w (upd H s.heap.objs.size (.tup [.int (i : Nat), x])) h'' s.heap.objs.size (.tup [.int (i : Nat), x]) :=
      ⟨by show 2 ≤ sizeLine; decide, [.int i s.toks, u], .cons ⟨_, rfl⟩ (.cons ru .nil), ⟨_, hT2, rfl, _, rfl⟩⟩
    have I1 : Inv X pins σ (upd H s.heap.objs.size (.tup [.int (i : Nat), x])) { s with heap := h'', toks := s.toks + 1 } :=
      I.turnedNew (ch := [e, it]) (fun b ob hb q => (sb.2 b (fun z => hb (by simp [z]))).trans (hk b ob (fun z => hb (by simp [z])) (fun z => hb (by simp [z])) q)) hf (Nat.le_refl _) new
    refine ⟨.ref s.heap.objs.size, _, I1, rfl, ⟨_, x, rfl, I.hok.fresh (Nat.le_refl _), rfl, fun ys hy => by rw [I.list_inj hy hq]; exact hx⟩, ⟨⟨u, ?_⟩, hit'.at fun o q => (sb.2 it (Ne.symm hne)).trans q, hne⟩, fun b hb => ?_⟩
    · have e1 : ((i + 1 : Nat) : Int) = (i : Int) + 1 := by omega
      rw [e1]; exact he'
    · have hb' : b < s.heap.objs.size := by
        have e' : b = e ∨ b = it := by simpa using hb
        rcases e' with z | z
        · rw [z]; exact hel
        · rw [z]; exact hil
      rw [upd_ne (Nat.ne_of_lt hb')]
      exact (hf b hb).1
  done := by
    intro X hP hw hK hc i pins s σ H E I hf st hg
    subst hP hw hK
    obtain ⟨⟨old, he⟩, hit, hne⟩ := st
    obtain ⟨xs, hq, hx⟩ := hg
    obtain ⟨its, rv, p, hz⟩ := I.list hq
    obtain ⟨f0, f1, f2, f3, f4, f5⟩ := hf it (by simp)
    have hl := rv.length
    exact wpAny_pyNext_enum_end (I.ok.hd hc) he hit p.isList (by simp; omega) fun h' eb => ⟨rfl, I.turned (t' := s.toks) (fun b o hb q => eb b o hb q) f0 f1 f3 f4 f5⟩
  self := fun A i s Q E st h => let ⟨⟨_, he⟩, _⟩ := st; wpAny_pyIter_enum he h
def iEnum (K : PySem.W.Frag) (ta : TA) : TI := fun σ H R => ta σ H fun vs H1 => ∃ a xs, vs = [.ref a] ∧ SqL K H1 a xs ∧ R (Ite K a) H1
theorem pi_enum {X : Cx} {e : Expr} {ta : TA} {p pos tpos : Pos} {elts : List Expr} {kk : Nat} (hg : Gl X "enumerate") (hm : X.mg "enumerate" = none) (ha : PA X [e] ta) (hs : starEach [e] X.env = [(false, eval e X.env)] := by rfl) :
    PI X (.Tuple elts kk tpos) (.Call (.Name "enumerate" p) [e] [] pos) (iEnum X.K ta) := by
  intro pins s σ H R I h
  refine Call_ (ld_blt I hg hm boot_enumerate (PyProof.Rows.callWith_type1 (thn (ha pos pins s σ H _ I h) fun us s1 ⟨vs, H1, I1, r1, q1⟩ => ?_) hs rfl))
  obtain ⟨a, xs, ex, hq, q⟩ := q1
  subst ex
  cases r1 with
  | cons r rr =>
    cases rr
    cases r
    obtain ⟨its, rv, p', hz⟩ := I1.list hq
    refine call_enumerate_list p'.isList fun h' he hit hsz hk => wpAny_pyIter_enum he ?_
    have I2 : Inv X pins σ H1 { s1 with heap := h' } := I1.kept (t' := s1.toks) hk
    refine ⟨s1.heap.objs.size + 1, [s1.heap.objs.size + 1, s1.heap.objs.size], _, _, H1, rfl, I2, turn_enum a (s1.heap.objs.size + 1) s1.heap.objs.size, ⟨⟨.none, he⟩, hit, Nat.succ_ne_self _⟩, fun b hb => ?_, q⟩
    have e' : b = s1.heap.objs.size + 1 ∨ b = s1.heap.objs.size := by simpa using hb
    have hle : s1.heap.objs.size ≤ b := by
      rcases e' with z | z
      · rw [z]; exact Nat.le_add_right _ _
      · rw [z]; exact Nat.le_refl _
    exact I1.fpOk hle (I1.hok.fresh hle)
/-! ### zip(list, list) -/
theorem boot_zip5 : bootBuiltins "zip" = some (.type "zip") := by decide +kernel
/-- the lists at a and b as they stand at each turn, the items in new pairs -/
def Itz (K : PySem.W.Frag) (a b : Addr) : It :=
  ⟨fun i H => ∃ (xs ys : List V) (x y : V), SqL K H a xs ∧ SqL K H b ys ∧ xs[i]? = some x ∧ ys[i]? = some y,
    fun i H v H' => ∃ T x y, v = .ref T ∧ H T = none ∧ H' = upd H T (.tup [x, y]) ∧ (∀ xs, SqL K H a xs → xs[i]? = some x) ∧ ∀ ys, SqL K H b ys → ys[i]? = some y,
    fun i H => ∃ xs ys : List V, SqL K H a xs ∧ SqL K H b ys ∧ (xs.length ≤ i ∨ ys.length ≤ i)⟩
theorem turn_zip {P : Program} {w : World} {K : PySem.W.Frag} {elts : List Expr} {kk : Nat} {tpos : Pos} {a b z TI TO i1 i2 : Addr} (D : ZipApart z TI TO i1 i2 a b) :
    Turn P w K (.Tuple elts kk tpos) (Itz K a b) [z, TI, TO, i1, i2] z (fun i h => IsZip h z TI TO .none ∧ IsPair h TI (.ref i1) (.ref i2) ∧ (∃ x y, IsPair h TO x y) ∧ h.IsListIter i1 a i ∧ h.IsListIter i2 b i) where
  mem := by simp
  obj := fun i h st c hc => by
    obtain ⟨hz, hTI, ⟨x, y, hTO⟩, ⟨o1, e1, _, d1⟩, ⟨o2, e2, _, d2⟩⟩ := st
    have e' : c = z ∨ c = TI ∨ c = TO ∨ c = i1 ∨ c = i2 := by simpa using hc
    rcases e' with q | q | q | q | q
    · rw [q]; exact ⟨_, hz, fun v q => nomatch q⟩
    · rw [q]; exact ⟨_, hTI, fun v q => nomatch q⟩
    · rw [q]; exact ⟨_, hTO, fun v q => nomatch q⟩
    · rw [q]; exact ⟨o1, e1, fun v q => by rw [d1] at q; cases q⟩
    · rw [q]; exact ⟨o2, e2, fun v q => by rw [d2] at q; cases q⟩
  keep := fun i h h' st k => by
    obtain ⟨hz, hTI, ⟨x, y, hTO⟩, h1, h2⟩ := st
    exact ⟨k z (by simp) _ hz, k TI (by simp) _ hTI, ⟨x, y, k TO (by simp) _ hTO⟩, h1.at fun o q => k i1 (by simp) o q, h2.at fun o q => k i2 (by simp) o q⟩
  item := by
    intro X hP hw hK hc i pins s σ H E I hf st hg
    subst hP hw hK
    obtain ⟨hz, hTI, ⟨x0, y0, hTO⟩, h1, h2⟩ := st
    obtain ⟨xs, ys, x, y, hqx, hqy, hx, hy⟩ := hg
    obtain ⟨its, rv, p, _⟩ := I.list hqx
    obtain ⟨its2, rv2, p2, _⟩ := I.list hqy
    obtain ⟨u, hu, ru⟩ := rv.get hx
    obtain ⟨u2, hu2, ru2⟩ := rv2.get hy
    have hzl : z < s.heap.objs.size := Heap.lt_size hz
    refine wpAny_pyNext_zip_item D hz hTI hTO h1 h2 p.isList p2.isList (x := u) (y := u2) (by simpa using hu) (by simpa using hu2) fun h' z' TO' h1' h2' hT hsz hk => ?_
    refine ⟨_, rfl, wpAny_letOwnedTupleGo_zip (s := { s with heap := h' }) z' fun h'' z'' sb => ?_⟩
    have hT2 : h''.get? s.heap.objs.size = some { cls := .type "tuple", data := .seq #[u, u2] } := (sb.2 _ (Nat.ne_of_gt hzl)).trans hT
    have new : ObjOk X.prog X.w (upd H s.heap.objs.size (.tup [x, y])) h'' s.heap.objs.size (.tup [x, y]) :=
      ⟨by show 2 ≤ sizeLine; decide, [u, u2], .cons ru (.cons ru2 .nil), ⟨_, hT2, rfl, _, rfl⟩⟩
    have I1 : Inv X pins σ (upd H s.heap.objs.size (.tup [x, y])) { s with heap := h'' } :=
      I.turnedNew (t' := s.toks) (ch := [z, TI, TO, i1, i2]) (fun c o hb q => (sb.2 c (fun q' => hb (by simp [q']))).trans (hk c o (fun q' => hb (by simp [q'])) (fun q' => hb (by simp [q'])) (fun q' => hb (by simp [q'])) (fun q' => hb (by simp [q'])) q)) hf (Nat.le_refl _) new
    refine ⟨.ref s.heap.objs.size, _, I1, rfl, ⟨_, x, y, rfl, I.hok.fresh (Nat.le_refl _), rfl, fun l hl => by rw [I.list_inj hl hqx]; exact hx, fun l hl => by rw [I.list_inj hl hqy]; exact hy⟩, ⟨z'', ?_, ⟨u, u2, ?_⟩, ?_, ?_⟩, fun c hcm => ?_⟩
    · exact (sb.2 _ D.TIz).trans (hk _ _ D.TIz D.TITO D.TIi1 D.TIi2 hTI)
    · exact (sb.2 _ D.TOz).trans TO'
    · exact h1'.at fun o q => (sb.2 _ D.i1z).trans q
    · exact h2'.at fun o q => (sb.2 _ D.i2z).trans q
    · have hlt : c < s.heap.objs.size := by
        have e' : c = z ∨ c = TI ∨ c = TO ∨ c = i1 ∨ c = i2 := by simpa using hcm
        rcases e' with q | q | q | q | q
        · rw [q]; exact hzl
        · rw [q]; exact Heap.lt_size hTI
        · rw [q]; exact Heap.lt_size hTO
        · rw [q]; obtain ⟨_, e1, _⟩ := h1; exact Heap.lt_size e1
        · rw [q]; obtain ⟨_, e2, _⟩ := h2; exact Heap.lt_size e2
      rw [upd_ne (Nat.ne_of_lt hlt)]
      exact (hf c hcm).1
  done := by
    intro X hP hw hK hc i pins s σ H E I hf st hg
    subst hP hw hK
    obtain ⟨hz, hTI, ⟨x0, y0, hTO⟩, h1, h2⟩ := st
    obtain ⟨xs, ys, hqx, hqy, hend⟩ := hg
    obtain ⟨its, rv, p, _⟩ := I.list hqx
    obtain ⟨its2, rv2, p2, _⟩ := I.list hqy
    have l1 := rv.length
    have l2 := rv2.length
    have he : its.toArray[i]? = none ∨ its2.toArray[i]? = none := by
      rcases hend with q | q
      · exact .inl (by simp; omega)
      · exact .inr (by simp; omega)
    exact wpAny_pyNext_zip_end (I.ok.hd hc) D hz hTI hTO h1 h2 p.isList p2.isList he fun h' hk => ⟨rfl, I.turnedL (t' := s.toks) (ch := [z, TI, TO, i1, i2]) (fun c o hb q =>
      hk c o (fun q' => hb (by simp [q'])) (fun q' => hb (by simp [q'])) (fun q' => hb (by simp [q'])) (fun q' => hb (by simp [q'])) q) hf⟩
  self := fun A i s Q E st h => wpAny_pyIter_zip st.1 h
def iZip (K : PySem.W.Frag) (ta : TA) : TI := fun σ H R => ta σ H fun vs H1 => ∃ a b xs ys, vs = [.ref a, .ref b] ∧ SqL K H1 a xs ∧ SqL K H1 b ys ∧ R (Itz K a b) H1
theorem pi_zip {X : Cx} {e e2 : Expr} {ta : TA} {p pos tpos : Pos} {elts : List Expr} {kk : Nat} (hg : Gl X "zip") (hm : X.mg "zip" = none) (ha : PA X [e, e2] ta)
    (hs : starEach [e, e2] X.env = (false, eval e X.env) :: starEach [e2] X.env := by rfl) (hpl : (backTo pos (starEach [e2] X.env)).any (·.1) = false := by rfl) :
    PI X (.Tuple elts kk tpos) (.Call (.Name "zip" p) [e, e2] [] pos) (iZip X.K ta) := by
  intro pins s σ H R I h
  refine Call_ (ld_blt I hg hm boot_zip5 (PyProof.Rows.callWith_type1 (thn (ha pos pins s σ H _ I h) fun us s1 ⟨vs, H1, I1, r1, q1⟩ => ?_) hs hpl))
  obtain ⟨a, b, xs, ys, ex, hqx, hqy, q⟩ := q1
  subst ex
  cases r1 with
  | cons r rr =>
    cases rr with
    | cons r' rr =>
      cases rr
      cases r
      cases r'
      obtain ⟨its, rv, p1, _⟩ := I1.list hqx
      obtain ⟨its2, rv2, p2, _⟩ := I1.list hqy
      have la : a < s1.heap.objs.size := p1.lt
      have lb : b < s1.heap.objs.size := p2.lt
      refine call_zip_2 p1.isList p2.isList fun h' hz hTI hTO h1 h2 hsz hk => wpAny_pyIter_zip hz ?_
      have I2 : Inv X pins σ H1 { s1 with heap := h' } := I1.kept (t' := s1.toks) hk
      refine ⟨s1.heap.objs.size + 4, [s1.heap.objs.size + 4, s1.heap.objs.size + 2, s1.heap.objs.size + 3, s1.heap.objs.size, s1.heap.objs.size + 1], _, _, H1, rfl, I2, turn_zip (PySem.W.ktu_apart s1.heap.objs.size a b la lb), ⟨hz, hTI, ⟨_, _, hTO⟩, h1, h2⟩, fun c hcm => ?_, q⟩
      have e' : c = s1.heap.objs.size + 4 ∨ c = s1.heap.objs.size + 2 ∨ c = s1.heap.objs.size + 3 ∨ c = s1.heap.objs.size ∨ c = s1.heap.objs.size + 1 := by simpa using hcm
      have hle : s1.heap.objs.size ≤ c := by
        rcases e' with z | z | z | z | z
        · rw [z]; exact Nat.le_add_right _ _
        · rw [z]; exact Nat.le_add_right _ _
        · rw [z]; exact Nat.le_add_right _ _
        · rw [z]; exact Nat.le_refl _
        · rw [z]; exact Nat.le_add_right _ _
      exact I1.fpOk hle (I1.hok.fresh hle)
end L2
namespace Att
open PySem PySem.W PySem.Calls PyProof.Rows
/-! ### the script -/
/-! ### the attachment: holds_open's last premise (the goal 'hc' behind k_head) from a wpAny of the law's body -/
/-! ### rules over ANY heap (no ledger) from facts about the written part K: the library's own take a ledger (News) for what they write -/
section
variable {prog : Program} {w : World} {A : Around} {E : Value → Shared → Prop} {s : Shared} {K : Frag}
/-! the whole heap as the ledger: makes every rule that writes through a ledger a rule over any heap -/
end
end Att
namespace L2
open PySem PySem.Spec PyProof.Rows
end L2
namespace L2
open PySem PySem.Spec PyProof.Rows
end L2
section
set_option Elab.async false
set_option linter.all false
set_option maxRecDepth 100000
set_option maxHeartbeats 2000000
namespace L2
open PySem PySem.Spec PyProof.Rows
open PySem.W (WData Codec OpenSpec Well WellAll ReadsW ReadsAllW)
/-! ### an answer as data -/
mutual
/-- x stands for the datum d, lists and tuples all the way -/
inductive Dw (K : PySem.W.Frag) (H : Hp) : V → WData → Prop
  | non : Dw K H .non .none
  | bl (b : Bool) : Dw K H (.bl b) (.bool b)
  | int (i : Int) : Dw K H (.int i) (.int i)
  | str (x : Str) : Dw K H (.str x) (.str x)
  | byt (b : Array UInt8) : Dw K H (.byt b) (.bytes b.toList)
  | lst {a : Addr} {xs : List V} {ds : List WData} : SqL K H a xs → DwAll K H xs ds → Dw K H (.ref a) (.list ds)
  | tup {a : Addr} {xs : List V} {ds : List WData} : SqT K H a xs → DwAll K H xs ds → Dw K H (.ref a) (.tuple ds)
inductive DwAll (K : PySem.W.Frag) (H : Hp) : List V → List WData → Prop
  | nil : DwAll K H [] []
  | cons {v : V} {vs : List V} {d : WData} {ds : List WData} : Dw K H v d → DwAll K H vs ds → DwAll K H (v :: vs) (d :: ds)
end
theorem dw_ints {K : PySem.W.Frag} {H : Hp} : ∀ ns : List Int, DwAll K H (ns.map V.int) (ns.map WData.int)
  | [] => .nil
  | n :: r => .cons (.int n) (dw_ints r)
theorem ints_dw {K : PySem.W.Frag} {H : Hp} : ∀ (ns : List Int) (xs : List V), DwAll K H xs (ns.map WData.int) → xs = ns.map V.int
  | [], xs, h => by
    cases h
    rfl
  | n :: r, xs, h => by
    cases h with
    | cons h1 h2 =>
      cases h1
      rw [ints_dw r _ h2] <;> rfl
section
variable {P : Program} {w : World} {K : PySem.W.Frag} {H : Hp} {h : Heap} {R : PySem.W.WRecords} {cl : Str → Option Addr}
theorem sqL_at {a : Addr} {xs : List V} (hok : HOk P w H h) (KX : K.In h) (q : SqL K H a xs) : ∃ (its : List Value) (o : Obj) (n : Nat), Vals xs its ∧ h.get? a = some o ∧ o.cls = .type "list" ∧ o.data = .seq its.toArray n := by
  rcases q with q | ⟨o, its, n, e, hc, _, hd, _, hv⟩
  · obtain ⟨_, its, n, hv, e⟩ := (show ObjOk P w H h a (.lst xs) from q.ok hok)
    exact ⟨its, _, n, hv, e, rfl, rfl⟩
  · exact ⟨its.toList, o, n, hv, KX _ _ e, hc, by simp [hd]⟩
theorem sqT_at {a : Addr} {xs : List V} (hok : HOk P w H h) (KX : K.In h) (q : SqT K H a xs) : ∃ (its : List Value) (o : Obj) (n : Nat), Vals xs its ∧ h.get? a = some o ∧ o.cls = .type "tuple" ∧ o.data = .seq its.toArray n := by
  rcases q with q | ⟨o, its, n, e, hc, hd, _, hv⟩
  · obtain ⟨_, its, hv, o, e, hc, n, hd⟩ := (show ObjOk P w H h a (.tup xs) from q.ok hok)
    exact ⟨its, o, n, hv, e, hc, hd⟩
  · exact ⟨its.toList, o, n, hv, KX _ _ e, hc, by simp [hd]⟩
mutual
theorem Dw.reads (hok : HOk P w H h) (KX : K.In h) : ∀ (d : WData) (v : V) (u : Value), Dw K H v d → RelV v u → ∃ as, ReadsW R cl h u d as
  | .none, _, _, x, r => by
    cases x
    cases r
    exact ⟨_, ReadsW.none⟩
  | .bool b, _, _, x, r => by
    cases x
    cases r
    exact ⟨_, ReadsW.bool b⟩
  | .int i, _, _, x, r => by
    cases x
    obtain ⟨t, rfl⟩ := r
    exact ⟨_, ReadsW.int i t⟩
  | .str s, _, _, x, r => by
    cases x
    obtain ⟨t, rfl⟩ := r
    exact ⟨_, ReadsW.str s t⟩
  | .bytes b, _, _, x, r => by
    cases x
    obtain ⟨t, rfl⟩ := r
    exact ⟨_, ReadsW.bytes _ t⟩
  | .list ds, _, _, x, r => by
    cases x with
    | lst hs ha =>
      cases r
      obtain ⟨its, o, n, rv, ho, hc, hd⟩ := sqL_at hok KX hs
      obtain ⟨as, hr⟩ := Dw.readsAll hok KX ds _ its ha rv
      exact ⟨_, ReadsW.list ho hc hd hr⟩
  | .tuple ds, _, _, x, r => by
    cases x with
    | tup hs ha =>
      cases r
      obtain ⟨its, o, n, rv, ho, hc, hd⟩ := sqT_at hok KX hs
      obtain ⟨as, hr⟩ := Dw.readsAll hok KX ds _ its ha rv
      exact ⟨_, ReadsW.tuple ho hc hd hr⟩
  | .float _, _, _, x, _ => by cases x
  | .dict _, _, _, x, _ => by cases x
  | .bytearray _, _, _, x, _ => by cases x
  | .set _, _, _, x, _ => by cases x
  | .frozenset _, _, _, x, _ => by cases x
  | .obj _ _, _, _, x, _ => by cases x
theorem Dw.readsAll (hok : HOk P w H h) (KX : K.In h) : ∀ (ds : List WData) (vs : List V) (us : List Value), DwAll K H vs ds → Vals vs us → ∃ as, ReadsAllW R cl h us ds as
  | [], _, _, x, r => by
    cases x
    cases r
    exact ⟨_, ReadsAllW.nil⟩
  | d :: ds, _, _, x, r => by
    cases x with
    | cons h1 h2 =>
      cases r with
      | cons r1 r2 =>
        obtain ⟨as, q1⟩ := Dw.reads hok KX d _ _ h1 r1
        obtain ⟨bs, q2⟩ := Dw.readsAll hok KX ds _ _ h2 r2
        exact ⟨_, ReadsAllW.cons q1 q2⟩
end
end
/-! ### the arguments -/
mutual
/-- data that a codec tells -/
def plW : WData → Bool
  | .none => true
  | .bool _ => true
  | .int _ => true
  | .str _ => true
  | .bytes _ => true
  | .list xs => plWs xs
  | .tuple xs => plWs xs
  | _ => false
def plWs : List WData → Bool
  | [] => true
  | x :: r => plW x && plWs r
end
theorem plWs_map {α : Type} {f : α → WData} (h : ∀ a, plW (f a) = true) : ∀ l : List α, plWs (l.map f) = true
  | [] => rfl
  | x :: r => by
    show (plW (f x) && plWs (r.map f)) = true
    rw [h x, plWs_map h r] <;> rfl
theorem pl_enc : ∀ (c : Codec) (a : c.denote), plW (c.enc a) = true
  | .unit, _ => rfl
  | .bool, _ => rfl
  | .int _ _, _ => rfl
  | .nat _ _, _ => rfl
  | .u8, _ => rfl
  | .bytes _ _, _ => rfl
  | .text _ _ _ _, _ => rfl
  | .list _ _ c, a => plWs_map (fun x => pl_enc c x) a
  | .pair c d, a => by
    show (plW (c.enc a.1) && (plW (d.enc a.2) && true)) = true
    rw [pl_enc c a.1, pl_enc d a.2] <;> rfl
  | .triple c d e, a => by
    show (plW (c.enc a.1) && (plW (d.enc a.2.1) && (plW (e.enc a.2.2) && true))) = true
    rw [pl_enc c a.1, pl_enc d a.2.1, pl_enc e a.2.2] <;> rfl
  | .option c, none => rfl
  | .option c, some x => pl_enc c x
theorem pl_encAll : ∀ (cs : List Codec) (a : Codec.denoteAll cs), plWs (Codec.encAll cs a) = true
  | [], _ => rfl
  | c :: cs, a => by
    show (plW (c.enc a.1) && plWs (Codec.encAll cs a.2)) = true
    rw [pl_enc c a.1, pl_encAll cs a.2] <;> rfl
theorem weight_mem : ∀ {xs : List WData} {d : WData}, d ∈ xs → d.weight ≤ WData.weightAll xs
  | [], d, h => absurd h (by simp)
  | x :: r, d, h => by
    show d.weight ≤ x.weight + 1 + WData.weightAll r
    rcases List.mem_cons.mp h with e | m
    · rw [e]
      omega
    · have z := weight_mem m
      omega
def toV : Value → V
  | .none => .non
  | .bool b => .bl b
  | .int i _ => .int i
  | .str x _ => .str x
  | .bytes b _ => .byt b
  | .ref a => .ref a
  | _ => .non
/-- a value of the arguments, its objects among A -/
def OkU (A : List Addr) : Value → Prop
  | .none => True
  | .bool _ => True
  | .int _ _ => True
  | .str _ _ => True
  | .bytes _ _ => True
  | .ref a => a ∈ A
  | _ => False
theorem OkU.mono {A B : List Addr} (h : ∀ a ∈ A, a ∈ B) : ∀ {u : Value}, OkU A u → OkU B u := fun {u} x => by
  cases u with
  | ref a => exact h a x
  | none => trivial
  | bool b => trivial
  | int i t => trivial
  | str s t => trivial
  | bytes b t => trivial
  | _ => exact False.elim x
theorem relV_toV {A : List Addr} {u : Value} (x : OkU A u) : RelV (toV u) u := by
  cases u with
  | ref a => rfl
  | none => rfl
  | bool b => rfl
  | int i t => exact ⟨t, rfl⟩
  | str s t => exact ⟨t, rfl⟩
  | bytes b t => exact ⟨t, rfl⟩
  | _ => exact False.elim x
theorem vals_toV {A : List Addr} : ∀ {vs : List Value}, (∀ u ∈ vs, OkU A u) → Vals (vs.map toV) vs
  | [], _ => .nil
  | u :: r, h => .cons (relV_toV (h u (List.mem_cons_self ..))) (vals_toV fun x hx => h x (List.mem_cons_of_mem _ hx))
/-- an object of the arguments -/
def ArgOb (h : Heap) (A : List Addr) (a : Addr) : Prop := ∃ vs : List Value, vs.length ≤ sizeLine ∧ (∀ u ∈ vs, OkU A u) ∧
  (h.get? a = some { cls := .type "list", data := .seq vs.toArray } ∨ h.get? a = some { cls := .type "tuple", data := .seq vs.toArray })
theorem ArgOb.mono {h : Heap} {A B : List Addr} {a : Addr} (k : ∀ a ∈ A, a ∈ B) (x : ArgOb h A a) : ArgOb h B a := by
  obtain ⟨vs, h1, h2, h3⟩ := x
  exact ⟨vs, h1, fun u hu => (h2 u hu).mono k, h3⟩
theorem wellAll_len {P : Params} {h : Heap} : ∀ {vs : List Value} {ds : List WData}, WellAll P h vs ds → vs.length = ds.length
  | _, _, .nil => rfl
  | _, _, .cons _ b => by
    show _ + 1 = _ + 1
    rw [wellAll_len b]
theorem well_list {P : Params} {h : Heap} {v : Value} {ds : List WData} (x : Well P h v (.list ds)) : ∃ (a : Addr) (vs : List Value), v = .ref a ∧ h.get? a = some { cls := .type "list", data := .seq vs.toArray } ∧ WellAll P h vs ds := by
  cases x with
  | list ho hall => exact ⟨_, _, rfl, ho, hall⟩
theorem well_tuple {P : Params} {h : Heap} {v : Value} {ds : List WData} (x : Well P h v (.tuple ds)) : ∃ (a : Addr) (vs : List Value), v = .ref a ∧ h.get? a = some { cls := .type "tuple", data := .seq vs.toArray } ∧ WellAll P h vs ds := by
  cases x with
  | tuple ho hall => exact ⟨_, _, rfl, ho, hall⟩
theorem well_cons {P : Params} {h : Heap} {us : List Value} {d : WData} {ds : List WData} (x : WellAll P h us (d :: ds)) : ∃ (v : Value) (vs : List Value), us = v :: vs ∧ Well P h v d ∧ WellAll P h vs ds := by
  cases x with
  | cons a b => exact ⟨_, _, rfl, a, b⟩
theorem line_of {n : Nat} (h : n ≤ 1048576) : n ≤ sizeLine := Nat.le_trans h (by decide)
section
variable {P : Params} {h : Heap}
mutual
theorem area_one : ∀ (d : WData) (v : Value), Well P h v d → plW d = true → d.weight ≤ 1048576 → ∃ A : List Addr, OkU A v ∧ ∀ a ∈ A, ArgOb h A a
  | .none, _, x, _, _ => by
    cases x
    exact ⟨[], trivial, fun a m => absurd m (by simp)⟩
  | .bool b, _, x, _, _ => by
    cases x
    exact ⟨[], trivial, fun a m => absurd m (by simp)⟩
  | .int i, _, x, _, _ => by
    cases x
    exact ⟨[], trivial, fun a m => absurd m (by simp)⟩
  | .str s, _, x, _, _ => by
    cases x
    exact ⟨[], trivial, fun a m => absurd m (by simp)⟩
  | .bytes b, _, x, _, _ => by
    cases x
    exact ⟨[], trivial, fun a m => absurd m (by simp)⟩
  | .list ds, _, x, p, z => by
    obtain ⟨a, vs, rfl, ho, hall⟩ := well_list x
    have z2 : WData.weightAll ds ≤ 1048576 := z
    obtain ⟨A, h1, h2⟩ := area_all ds _ hall p fun d hd => Nat.le_trans (weight_mem hd) z2
    have k : ∀ b ∈ A, b ∈ a :: A := fun b hb => List.mem_cons_of_mem _ hb
    refine ⟨a :: A, List.mem_cons_self .., fun b hb => ?_⟩
    rcases List.mem_cons.mp hb with e | m
    · rw [e]
      exact ⟨vs, line_of (by rw [wellAll_len hall]; exact Nat.le_trans (PySem.W.length_le_weightAllW ds) z2), fun u hu => (h1 u hu).mono k, .inl ho⟩
    · exact (h2 b m).mono k
  | .tuple ds, _, x, p, z => by
    obtain ⟨a, vs, rfl, ho, hall⟩ := well_tuple x
    have z2 : WData.weightAll ds ≤ 1048576 := z
    obtain ⟨A, h1, h2⟩ := area_all ds _ hall p fun d hd => Nat.le_trans (weight_mem hd) z2
    have k : ∀ b ∈ A, b ∈ a :: A := fun b hb => List.mem_cons_of_mem _ hb
    refine ⟨a :: A, List.mem_cons_self .., fun b hb => ?_⟩
    rcases List.mem_cons.mp hb with e | m
    · rw [e]
      exact ⟨vs, line_of (by rw [wellAll_len hall]; exact Nat.le_trans (PySem.W.length_le_weightAllW ds) z2), fun u hu => (h1 u hu).mono k, .inr ho⟩
    · exact (h2 b m).mono k
  | .float _, _, _, p, _ => Bool.noConfusion (show false = true from p)
  | .dict _, _, _, p, _ => Bool.noConfusion (show false = true from p)
  | .bytearray _, _, _, p, _ => Bool.noConfusion (show false = true from p)
  | .set _, _, _, p, _ => Bool.noConfusion (show false = true from p)
  | .frozenset _, _, _, p, _ => Bool.noConfusion (show false = true from p)
  | .obj _ _, _, _, p, _ => Bool.noConfusion (show false = true from p)
theorem area_all : ∀ (ds : List WData) (vs : List Value), WellAll P h vs ds → plWs ds = true → (∀ d ∈ ds, d.weight ≤ 1048576) → ∃ A : List Addr, (∀ u ∈ vs, OkU A u) ∧ ∀ a ∈ A, ArgOb h A a
  | [], _, x, _, _ => by
    cases x
    exact ⟨[], fun u m => absurd m (by simp), fun a m => absurd m (by simp)⟩
  | d :: ds, _, x, p, z => by
    obtain ⟨v, vs, rfl, x1, x2⟩ := well_cons x
    have q : plW d = true ∧ plWs ds = true := Bool.and_eq_true_iff.mp p
    obtain ⟨A, a1, a2⟩ := area_one d v x1 q.1 (z d (List.mem_cons_self ..))
    obtain ⟨B, b1, b2⟩ := area_all ds vs x2 q.2 fun e he => z e (List.mem_cons_of_mem _ he)
    have kA : ∀ b ∈ A, b ∈ A ++ B := fun b hb => List.mem_append.mpr (.inl hb)
    have kB : ∀ b ∈ B, b ∈ A ++ B := fun b hb => List.mem_append.mpr (.inr hb)
    refine ⟨A ++ B, fun u hu => ?_, fun b hb => ?_⟩
    · rcases List.mem_cons.mp hu with e | m
      · rw [e]
        exact a1.mono kA
      · exact (b1 u m).mono kB
    · rcases List.mem_append.mp hb with m | m
      · exact (a2 b m).mono kA
      · exact (b2 b m).mono kB
end
end
/-- what is tracked of an argument's object -/
def hoOf (o : Obj) : Option HO := match o.data with
  | .seq vs _ => if (o.cls == Value.type "list") = true then some (.frz o (.lst (vs.toList.map toV))) else some (.frz o (.tup (vs.toList.map toV)))
  | _ => none
def argH (K : PySem.W.Frag) (h : Heap) (A : List Addr) : Hp := fun b => if b ∈ A then (if (K.lookup b).isNone = true then (h.get? b).bind hoOf else none) else none
/-- nothing is tracked but what is known to the object -/
def OnlyF (H : Hp) : Prop := ∀ b, H b = none ∨ ∃ o u, H b = some (.frz o u)
theorem hoOf_lst (vs : List Value) : hoOf { cls := .type "list", data := .seq vs.toArray } = some (.frz { cls := .type "list", data := .seq vs.toArray } (.lst (vs.map toV))) := by
  show (if (Value.type "list" == Value.type "list") = true then some (HO.frz { cls := .type "list", data := .seq vs.toArray } (.lst (vs.toArray.toList.map toV))) else some (HO.frz { cls := .type "list", data := .seq vs.toArray } (.tup (vs.toArray.toList.map toV)))) = _
  rw [if_pos (beq_self_eq_true _)]
theorem hoOf_tup (vs : List Value) : hoOf { cls := .type "tuple", data := .seq vs.toArray } = some (.frz { cls := .type "tuple", data := .seq vs.toArray } (.tup (vs.map toV))) := by
  show (if (Value.type "tuple" == Value.type "list") = true then some (HO.frz { cls := .type "tuple", data := .seq vs.toArray } (.lst (vs.toArray.toList.map toV))) else some (HO.frz { cls := .type "tuple", data := .seq vs.toArray } (.tup (vs.toArray.toList.map toV)))) = _
  rw [if_neg (by decide)]
section
variable {P : Program} {w : World} {K : PySem.W.Frag} {h : Heap} {A : List Addr}
theorem argH_at {b : Addr} {o : Obj} (hb : b ∈ A) (hk : K.lookup b = none) (e : h.get? b = some o) : argH K h A b = hoOf o := by
  unfold argH
  rw [if_pos hb, hk, if_pos (show (none : Option Obj).isNone = true from rfl), e] <;> rfl
theorem of_argH {b : Addr} {u : HO} (q : argH K h A b = some u) : b ∈ A ∧ K.lookup b = none := by
  unfold argH at q
  by_cases hb : b ∈ A
  · rw [if_pos hb] at q
    cases hk : K.lookup b with
    | none => exact ⟨hb, rfl⟩
    | some o =>
      rw [hk, if_neg (by simp)] at q
      cases q
  · rw [if_neg hb] at q
    cases q
/-- what stands tracked -/
theorem argH_is (ar : ∀ a ∈ A, ArgOb h A a) {b : Addr} {u : HO} (q : argH K h A b = some u) : K.lookup b = none ∧ ∃ vs : List Value, vs.length ≤ sizeLine ∧ (∀ u ∈ vs, OkU A u) ∧
    ((h.get? b = some { cls := .type "list", data := .seq vs.toArray } ∧ u = .frz { cls := .type "list", data := .seq vs.toArray } (.lst (vs.map toV))) ∨
     (h.get? b = some { cls := .type "tuple", data := .seq vs.toArray } ∧ u = .frz { cls := .type "tuple", data := .seq vs.toArray } (.tup (vs.map toV)))) := by
  obtain ⟨hb, hk⟩ := of_argH q
  obtain ⟨vs, h1, h2, h3⟩ := ar b hb
  refine ⟨hk, vs, h1, h2, ?_⟩
  rcases h3 with e | e
  · rw [argH_at hb hk e, hoOf_lst] at q
    exact .inl ⟨e, (Option.some.inj q).symm⟩
  · rw [argH_at hb hk e, hoOf_tup] at q
    exact .inr ⟨e, (Option.some.inj q).symm⟩
theorem argH_only (ar : ∀ a ∈ A, ArgOb h A a) : OnlyF (argH K h A) := fun b => by
  cases q : argH K h A b with
  | none => exact .inl rfl
  | some u =>
    obtain ⟨_, vs, _, _, ⟨_, e⟩ | ⟨_, e⟩⟩ := argH_is ar q
    · exact .inr ⟨_, _, by rw [e]⟩
    · exact .inr ⟨_, _, by rw [e]⟩
theorem argH_ok (ar : ∀ a ∈ A, ArgOb h A a) : HOk P w (argH K h A) h := fun b u q => by
  obtain ⟨_, vs, h1, h2, ⟨e, rfl⟩ | ⟨e, rfl⟩⟩ := argH_is ar q
  · exact ⟨e, by rw [List.length_map]; exact h1, vs, _, vals_toV h2, e⟩
  · exact ⟨e, by rw [List.length_map]; exact h1, vs, vals_toV h2, _, e, rfl, _, rfl⟩
theorem seq_inj {c c' : Value} {vs us : List Value} (e : (some { cls := c, data := .seq vs.toArray } : Option Obj) = some { cls := c', data := .seq us.toArray }) : c = c' ∧ vs = us := by
  have e1 := Option.some.inj e
  have e2 : c = c' := congrArg Obj.cls e1
  have e3 : Data.seq vs.toArray = Data.seq us.toArray := congrArg Obj.data e1
  injection e3 with e4
  refine ⟨e2, ?_⟩
  have e5 := congrArg Array.toList e4
  simpa using e5
/-- a list argument -/
theorem argL (KX : K.In h) (ar : ∀ a ∈ A, ArgOb h A a) {a : Addr} {vs : List Value} (ha : a ∈ A) (e : h.get? a = some { cls := .type "list", data := .seq vs.toArray }) : (∀ u ∈ vs, OkU A u) ∧ SqL K (argH K h A) a (vs.map toV) := by
  obtain ⟨us, h1, h2, h3⟩ := ar a ha
  have hu : us = vs := by
    rcases h3 with q | q
    · rw [e] at q
      exact (seq_inj q).2.symm
    · rw [e] at q
      exact absurd (Value.type.inj (seq_inj q).1) (by decide)
  subst hu
  refine ⟨h2, ?_⟩
  cases hk : K.lookup a with
  | none => exact .inl (.inr ⟨_, by rw [argH_at ha hk e, hoOf_lst]⟩)
  | some o =>
    have e2 := KX a o hk
    rw [e] at e2
    obtain rfl := Option.some.inj e2
    exact .inr ⟨_, us.toArray, _, hk, rfl, rfl, rfl, by rw [List.size_toArray]; exact h1, by simpa using vals_toV h2⟩
theorem argT (KX : K.In h) (ar : ∀ a ∈ A, ArgOb h A a) {a : Addr} {vs : List Value} (ha : a ∈ A) (e : h.get? a = some { cls := .type "tuple", data := .seq vs.toArray }) : (∀ u ∈ vs, OkU A u) ∧ SqT K (argH K h A) a (vs.map toV) := by
  obtain ⟨us, h1, h2, h3⟩ := ar a ha
  have hu : us = vs := by
    rcases h3 with q | q
    · rw [e] at q
      exact absurd (Value.type.inj (seq_inj q).1) (by decide)
    · rw [e] at q
      exact (seq_inj q).2.symm
  subst hu
  refine ⟨h2, ?_⟩
  cases hk : K.lookup a with
  | none => exact .inl (.inr ⟨_, by rw [argH_at ha hk e, hoOf_tup]⟩)
  | some o =>
    have e2 := KX a o hk
    rw [e] at e2
    obtain rfl := Option.some.inj e2
    exact .inr ⟨_, us.toArray, _, hk, rfl, rfl, by rw [List.size_toArray]; exact h1, by simpa using vals_toV h2⟩
mutual
theorem dw_one {Pm : Params} (KX : K.In h) (ar : ∀ a ∈ A, ArgOb h A a) : ∀ (d : WData) (v : Value), Well Pm h v d → plW d = true → OkU A v → Dw K (argH K h A) (toV v) d
  | .none, _, x, _, _ => by
    cases x
    exact .non
  | .bool b, _, x, _, _ => by
    cases x
    exact .bl b
  | .int i, _, x, _, _ => by
    cases x
    exact .int i
  | .str s, _, x, _, _ => by
    cases x
    exact .str s
  | .bytes b, _, x, _, _ => by
    cases x
    have z := Dw.byt (K := K) (H := argH K h A) b.toArray
    exact z
  | .list ds, _, x, p, hu => by
    obtain ⟨a, vs, rfl, ho, hall⟩ := well_list x
    obtain ⟨h2, hs⟩ := argL KX ar hu ho
    exact .lst hs (dw_all KX ar ds _ hall p h2)
  | .tuple ds, _, x, p, hu => by
    obtain ⟨a, vs, rfl, ho, hall⟩ := well_tuple x
    obtain ⟨h2, hs⟩ := argT KX ar hu ho
    exact .tup hs (dw_all KX ar ds _ hall p h2)
  | .float _, _, _, p, _ => Bool.noConfusion (show false = true from p)
  | .dict _, _, _, p, _ => Bool.noConfusion (show false = true from p)
  | .bytearray _, _, _, p, _ => Bool.noConfusion (show false = true from p)
  | .set _, _, _, p, _ => Bool.noConfusion (show false = true from p)
  | .frozenset _, _, _, p, _ => Bool.noConfusion (show false = true from p)
  | .obj _ _, _, _, p, _ => Bool.noConfusion (show false = true from p)
theorem dw_all {Pm : Params} (KX : K.In h) (ar : ∀ a ∈ A, ArgOb h A a) : ∀ (ds : List WData) (vs : List Value), WellAll Pm h vs ds → plWs ds = true → (∀ u ∈ vs, OkU A u) → DwAll K (argH K h A) (vs.map toV) ds
  | [], _, x, _, _ => by
    cases x
    exact .nil
  | d :: ds, _, x, p, hu => by
    obtain ⟨v, vs, rfl, x1, x2⟩ := well_cons x
    have q : plW d = true ∧ plWs ds = true := Bool.and_eq_true_iff.mp p
    exact .cons (dw_one KX ar d v x1 q.1 (hu _ (List.mem_cons_self ..))) (dw_all KX ar ds vs x2 q.2 fun u m => hu u (List.mem_cons_of_mem _ m))
end
end
/-! ### the call -/
/-! ### the row -/
theorem layable_weight {ds : List WData} (h : WData.layableAll ds = true) : ∀ d ∈ ds, d.weight ≤ 1048576 := fun d hd =>
  (PySem.W.layableW_iff.mp (List.all_eq_true.mp h d hd)).2.2
theorem encAll_len : ∀ (cs : List Codec) (a : Codec.denoteAll cs), (Codec.encAll cs a).length = cs.length
  | [], _ => rfl
  | c :: cs, a => by
    show (Codec.encAll cs a.2).length + 1 = cs.length + 1
    rw [encAll_len cs a.2]
end L2
end
/-! SHORT WORDS over the layer: a def of the text, its body, what a loop and a test want. -/
namespace L2
open PySem PySem.Spec PyProof.Rows
/-! ### the text by places -/
/-- the j-th statement of a class's body -/
def inClass (s : Stmt) (j : Nat) : Stmt := match s with
  | .ClassDef _ _ _ body _ _ _ _ _ _ _ => body.getD j (.Pass ⟨0, 0, 0, 0⟩)
  | _ => .Pass ⟨0, 0, 0, 0⟩
def defArgs (s : Stmt) : Arguments := match s with
  | .FunctionDef _ a _ _ _ _ _ _ _ _ => a
  | _ => { posonlyargs := [], args := [], vararg := none, kwonlyargs := [], kw_defaults := [], kwarg := none, defaults := [] }
def defBody (s : Stmt) : List Stmt := match s with
  | .FunctionDef _ _ b _ _ _ _ _ _ _ => b
  | _ => []
def defScope (s : Stmt) : Scope := match s with
  | .FunctionDef _ _ _ _ _ _ sc _ _ _ => sc
  | _ => { kind := .function, names := [], isGenerator := false, isCoroutine := false }
/-! ### no exception leaves a def -/
abbrev CX0 : CXT := fun _ _ _ _ _ _ => False
abbrev E0 : XK := fun _ _ _ => False
theorem pass0 {X : Cx} : Passes CX0 X E0 := fun _ _ _ _ _ _ _ h => h.elim
/-! ### a def (or method) of the text as it stands behind the top -/
structure Fun (K : PySem.W.Frag) (x qual : Str) (st : Stmt) (f : Addr) (fd : FuncData) : Prop where
  ex : ∃ (oc : Value) (od : Option Addr) (kV doc pm : Value) (an : Option Addr) (cdv ct : Value) (osl : Array (Option Value)),
    fd = PySem.W.fnOf x qual (defArgs st) (defBody st) (defScope st) .none kV doc pm an cdv ct ∧ K.lookup f = some ⟨oc, od, .func fd, osl⟩ ∧ PySem.W.codeIn K cdv qual = true
  kp : PySem.W.keepIn K (.ref f) = true
section
variable {P : Program} {w : World} {K : PySem.W.Frag} {mg : Str → Option Value} {base : Heap}
/-- THE RULE for a def: its body as a term of rules, and the reading of that term -/
theorem Fun.ok {x qual : Str} {st : Stmt} {f : Addr} {fd : FuncData} {N ps : List Str} {k : Nat} {sp : Sp} (F : Fun K x qual st f fd) (S : FnScope N ps (defScope st)) (len : ∀ vs H Q E, sp vs H Q E → vs.length = ps.length)
    (hbody : ∀ (cdv : Value) (A : Around) (outer : List Env) (s : Shared) (H : Hp) (vs : List V) (Q : VK) (E : XK), Room k (A.deeper (envOfC qual (defScope st) s.heap.objs.size f cdv)) → sp vs H Q E →
      ∃ t, PSs (cxOf CX0 P w K mg base N qual (defScope st) f cdv A outer s H E).nox (defBody st) t ∧ t { nx := fun _ H' => Q .non H', rt := Q } (start N vs) H) : FnOk P w K mg base CX0 (k + 1) f fd ps sp := by
  obtain ⟨oc, od, kV, doc, pm, an, cdv, ct, osl, rfl, lk, hcd⟩ := F.ex
  refine fn_of lk hcd S len fun A outer s H vs Q E hr hsp => ?_
  obtain ⟨t, h, q⟩ := hbody cdv A outer s H vs Q E hr hsp
  exact ⟨t, h.nox, q⟩
/-- how its arguments bind (no defaults): h is «fun _ _ _ _ _ _ us hl => match us, hl with | [_, _], _ => rfl», one _ a parameter -/
theorem Fun.binds {x qual : Str} {st : Stmt} {f : Addr} {fd : FuncData} {ps : List Str} (F : Fun K x qual st f fd)
    (h : ∀ (kV doc pm : Value) (an : Option Addr) (cdv ct : Value) (us : List Value), us.length = ps.length → bindArgs (PySem.W.fnOf x qual (defArgs st) (defBody st) (defScope st) .none kV doc pm an cdv ct) ⟨us, []⟩ = pure (ps.zip us)) : Binds K fd ps [] := by
  obtain ⟨oc, od, kV, doc, pm, an, cdv, ct, osl, rfl, lk, hcd⟩ := F.ex
  exact .all (h kV doc pm an cdv ct)
theorem fun_mk {x qual : Str} {st : Stmt} {f : Addr} {oc : Value} {od an : Option Addr} {osl : Array (Option Value)} {kV doc pm cdv ct : Value} (l : K.lookup f = some ⟨oc, od, .func (PySem.W.fnOf x qual (defArgs st) (defBody st) (defScope st) .none kV doc pm an cdv ct), osl⟩)
    (c : PySem.W.codeIn K cdv qual = true) (k : PySem.W.keepIn K (.ref f) = true) : Fun K x qual st f (PySem.W.fnOf x qual (defArgs st) (defBody st) (defScope st) .none kV doc pm an cdv ct) := ⟨⟨oc, od, kV, doc, pm, an, cdv, ct, osl, rfl, l, c⟩, k⟩
end
/-! ### expressions in short: the name that stands in the i-th slot -/
section
variable {X : Cx}
theorem pv (i : Nat) {x : Str} {pos : Pos} (hN : X.N[i]? = some x := by rfl) (hv : Vis X.env.scope x := by first | exact Or.inl rfl | exact Or.inr (Or.inl rfl) | exact Or.inr (Or.inr rfl)) (hd : (x == ("__debug__" : Str)) = false := by decide)
    (hcd : (x == ("__classdict__" : Str)) = false := by decide) : PE X (.Name x pos) (tVar i) := pe_var hN hv hd hcd
end
/-! ### tests -/
theorem iteF {A B : Prop} (h : B) : if false = true then A else B := by
  rw [if_neg Bool.false_ne_true]
  exact h
theorem iteT {A B : Prop} (h : A) : if true = true then A else B := by
  rw [if_pos rfl]
  exact h
/-! ### heaps -/
/-- all that was tracked is as it was -/
def Same (H H' : Hp) : Prop := ∀ b o, H b = some o → H' b = some o
theorem Same.refl (H : Hp) : Same H H := fun _ _ h => h
theorem Same.trans {H H1 H2 : Hp} (a : Same H H1) (b : Same H1 H2) : Same H H2 := fun c o h => b c o (a c o h)
theorem Same.free {H H' : Hp} (e : Same H H') {l : Addr} (h : H' l = Option.none) : H l = Option.none := by
  cases q : H l with
  | none => rfl
  | some o =>
    rw [e l o q] at h
    cases h
theorem Same.seq {K : PySem.W.Frag} {H H' : Hp} {a : Addr} {xs : List V} (e : Same H H') (h : SqL K H a xs) : SqL K H' a xs := by
  rcases h with (h | ⟨o, h⟩) | h
  · exact .inl (.inl (e _ _ h))
  · exact .inl (.inr ⟨o, e _ _ h⟩)
  · exact .inr h
/-! ### a dict's pairs: keys that differ -/
section
variable {κ : Type} [DecidableEq κ]
end
/-! ### lists -/
theorem at_of {xs : List V} {z : Int} {j : Nat} {v : V} (e : z = (j : Int)) (h : xs[j]? = some v) : atI xs z = some v := by
  rw [e]
  exact atI_nat h
theorem nd_ix {α : Type} {l : List α} (hN : l.Nodup) {i j : Nat} {x : α} (a : l[i]? = some x) (b : l[j]? = some x) : i = j := by
  obtain ⟨h1, e1⟩ := List.getElem?_eq_some_iff.mp a
  obtain ⟨h2, e2⟩ := List.getElem?_eq_some_iff.mp b
  exact (List.getElem_inj hN).mp (e1.trans e2.symm)
end L2
end
section
set_option Elab.async false
set_option linter.all false
set_option maxRecDepth 100000
set_option maxHeartbeats 2000000
/-! Words of my own over the hand layer: great numbers, names of the file's top, calls in one bundle, new objects. -/
namespace L2
open PySem PySem.Spec PyProof.Rows
/-! ### great numbers -/
theorem intBits_le {k : Int} {n : Nat} (h : k.natAbs < 2 ^ n) : Builtin.Int.intBits k ≤ n := by
  unfold Builtin.Int.intBits
  split
  · exact Nat.zero_le _
  · rcases Nat.eq_zero_or_pos k.natAbs with h0 | hp
    · rename_i hk
      exact absurd (Int.natAbs_eq_zero.mp h0) (by simpa using hk)
    · have : k.natAbs.log2 < n := (Nat.log2_lt (Nat.ne_of_gt hp)).mpr h
      omega
def Bg (i : Int) : Prop := i.natAbs ≤ 10 ^ 100
theorem Bg.lt {i : Int} (h : Bg i) : i.natAbs < 2 ^ 400 := Nat.lt_of_le_of_lt h (by decide +kernel)
theorem Bg.mul {i j : Int} (h : Bg i) (h' : Bg j) : IntMulOk i j := by
  have a := intBits_le h.lt
  have b := intBits_le h'.lt
  unfold IntMulOk
  have : Builtin.Int.intTooBig ((Builtin.Int.intBits i + Builtin.Int.intBits j : Nat) : Int) = false := by
    unfold Builtin.Int.intTooBig
    rw [decide_eq_false_iff_not]
    have e : ((bitsLine : Nat) : Int) = 134217728 := by decide +kernel
    rw [e]
    omega
  intro q
  rw [Bool.and_eq_true] at q
  have q2 := q.2
  first
    | (rw [this] at q2; cases q2)
    | (have q3 : Builtin.Int.intTooBig ((Builtin.Int.intBits i + Builtin.Int.intBits j : Nat) : Int) = true := by simpa using q2
       rw [this] at q3; cases q3)
def CMulB (i j : Int) : Prop := Bg i ∧ Bg j
def CDivB (_ j : Int) : Prop := 0 < j ∧ Bg j
section
variable {X : Cx}
theorem op_mulB : OpR X (binaryOp .Mult) (rI CMulB fun i j => .int (i * j)) := opI fun _ _ _ _ _ _ _ hc q => mul_int q (hc.1.mul hc.2)
theorem op_fdivB : OpR X (binaryOp .FloorDiv) (rI CDivB fun i j => .int (i / j)) := opI fun i j _ _ _ _ _ hc q => by
  have h1 : (0 : Int) < j := hc.1
  have h2 : j.natAbs.log2 < 9000 := by
    have := (Nat.log2_lt (show j.natAbs ≠ 0 by omega)).mpr hc.2.lt
    omega
  exact floordiv_int (by omega) (by rw [Int.fdiv_eq_ediv_of_nonneg i (by omega)]; exact q) (.inl (PyProof.noPylong_of_log2 h2))
/-! ### names of the file's top -/
def CInt (mg : Str → Option Value) (x : Str) (c : Int) : Prop := ∃ t, mg x = some (.int c t)
theorem gk {x : Str} {c : Int} {pos : Pos} (h : CInt X.mg x c) (hg : Gl X x := by rfl) (hd : (x == ("__debug__" : Str)) = false := by decide) : PE X (.Name x pos) (tC (.int c)) := by
  obtain ⟨t, h⟩ := h
  exact pe_glob hg h ⟨t, rfl⟩ hd
theorem gr {x : Str} {a : Addr} {pos : Pos} (h : X.mg x = some (.ref a)) (hg : Gl X x := by rfl) (hd : (x == ("__debug__" : Str)) = false := by decide) : PE X (.Name x pos) (tC (.ref a)) := pe_glob hg h rfl hd
end
/-! ### a def that may be called by its name -/
structure Cal (P : Program) (w : World) (K : PySem.W.Frag) (mg : Str → Option Value) (base : Heap) (x : Str) (k : Nat) (ps : List Str) (sp : Sp) : Prop where
  ex : ∃ (f : Addr) (fd : FuncData), FnOk P w K mg base CX0 k f fd ps sp ∧ mg x = some (.ref f) ∧ PySem.W.keepIn K (.ref f) = true ∧ Binds K fd ps []
/-- a class that may be made by its name -/
structure Kls (P : Program) (w : World) (K : PySem.W.Frag) (mg : Str → Option Value) (base : Heap) (x : Str) (C : Addr) (k : Nat) (ps : List Str) (sp : Sp) : Prop where
  ex : ∃ (f : Addr) (fd : FuncData), Mk K C f ∧ FnOk P w K mg base CX0 k f fd ps sp ∧ mg x = some (.ref C) ∧ Binds K fd ps []
/-- a method -/
structure Mth (P : Program) (w : World) (K : PySem.W.Frag) (mg : Str → Option Value) (base : Heap) (C : Addr) (m : Str) (k : Nat) (ps : List Str) (sp : Sp) : Prop where
  ex : ∃ (f : Addr) (fd : FuncData), Cls K C ∧ Meth K C m f ∧ FnOk P w K mg base CX0 k f fd ps sp ∧ Binds K fd ps []
section
variable {X : Cx} {k : Nat} {x m : Str} {C : Addr} {ps : List Str} {sp : Sp} {p pos apos : Pos} {e o : Expr} {es : List Expr} {t : TA} {ta : TE}
theorem pcl (c : Cal X.prog X.w X.K X.mg X.base x k ps sp) (hr : Room k X.A) (ha : PA X (e :: es) t) (hg : Gl X x := by rfl) (hdb : (x == ("__debug__" : Str)) = false := by decide)
    (he : starEach (e :: es) X.env = (false, eval e X.env) :: starEach es X.env := by rfl) (hpl : (backTo pos (starEach es X.env)).any (·.1) = false := by rfl) : PE X (.Call (.Name x p) (e :: es) [] pos) (tCall sp [] E0 t) := by
  obtain ⟨f, fd, F, hm, hk, hb⟩ := c.ex
  exact pe_call F hr hg hm hk hb .nil pass0 ha hdb he hpl
/-- behind the arguments of C(..): a new instance, then __init__ -/
structure MkEnd (C : Addr) (sp : Sp) (vs : List V) (H1 : Hp) (Q : VK) : Prop where
  run : ∀ x dx, H1 x = none → H1 dx = none → dx ≠ x → sp (.ref x :: (vs ++ [])) (upd (upd H1 dx (.own x)) x (.ins C dx [])) (fun v H2 => v = .non ∧ Q (.ref x) H2) E0
def tMk (C : Addr) (sp : Sp) (t : TA) : TE := fun σ H Q => t σ H fun vs H1 => MkEnd C sp vs H1 Q
theorem pmk (c : Kls X.prog X.w X.K X.mg X.base x C k ps sp) (hr : Room (k + 1) X.A) (ha : PA X (e :: es) t) (hg : Gl X x := by rfl) (hdb : (x == ("__debug__" : Str)) = false := by decide)
    (he : starEach (e :: es) X.env = (false, eval e X.env) :: starEach es X.env := by rfl) (hpl : (backTo pos (starEach es X.env)).any (·.1) = false := by rfl) : PE X (.Call (.Name x p) (e :: es) [] pos) (tMk C sp t) := by
  obtain ⟨f, fd, M, F, hm, hb⟩ := c.ex
  intro pins s σ H Q I h
  refine wpAny_Call_Name_kw (ld_glob I hg hm ?_ hdb)
  refine PySem.W.callWith_K (h₀ := X.base) I.ok.mod.kin M.kp (thn (ha pos pins s σ H _ I h) fun us s1 ⟨vs, H1, I1, r, q⟩ => ⟨I1.kIn, ?_⟩) he hpl
  exact run_make M F hr hb .nil pass0 I1 r q.run
theorem pmt {pl : Sem Bool} (c : Mth X.prog X.w X.K X.mg X.base C m k ps sp) (hr : Room k X.A) (he : PE X o ta) (ha : PA X (e :: es) t)
    (hst : starEach (e :: es) X.env = (false, eval e X.env) :: starEach es X.env := by rfl) (hpl : (backTo pos (starEach es X.env)).any (·.1) = false := by rfl)
    (ht : eval (.Call (.Attribute o m apos) (e :: es) [] pos) X.env = (do
      let ov ← eval o X.env
      standAt apos.atName
      let (f, first) ← holding [ov] (getMethod ov m pl)
      callWith pos f first (backTo pos (starEach (e :: es) X.env)) (backToKw pos (keywordEach [] X.env))) := by rfl) :
    PE X (.Call (.Attribute o m apos) (e :: es) [] pos) (tMeth C m sp [] E0 ta t) := by
  obtain ⟨f, fd, cl, M, F, hb⟩ := c.ex
  exact pe_meth (pl := pl) he cl M F hr hb .nil pass0 ha hst hpl ht
end
/-! ### heaps: what is tracked stays (the tables of code aside) -/
def isTbl : HO → Bool
  | .tbl _ => true
  | _ => false
/-- all that was tracked is as it was, but the tables of code -/
def Kp (H H' : Hp) : Prop := ∀ b o, H b = some o → isTbl o = false → H' b = some o
theorem Kp.trans {H H1 H2 : Hp} (a : Kp H H1) (b : Kp H1 H2) : Kp H H2 := fun c o h n => b c o (a c o h n) n
theorem Kp.of {H H' : Hp} (h : Same H H') : Kp H H' := fun b o e _ => h b o e
theorem Same.new {H : Hp} {p : Addr} {o : HO} (h : H p = none) : Same H (upd H p o) := fun b u e => by rw [upd_ne (ne_of_none e h)]; exact e
/-- a new object of a class whose __init__ stores what it is told -/
def spNew (C : Addr) (pre : List V → Hp → Prop) (fields : List V → List (Str × V)) : Sp := fun vs H Q _ => ∃ (x dx : Addr) (as : List V), vs = .ref x :: as ∧ H x = some (.ins C dx []) ∧ pre as H ∧
  ∀ H' : Hp, (∀ b o, H b = some o → b ≠ x → H' b = some o) → H' x = some (.ins C dx (fields as)) → Q .non H'
theorem made_end {C : Addr} {pre : List V → Hp → Prop} {fields : List V → List (Str × V)} {as : List V} {H1 : Hp} {Q : VK} (hp : ∀ H', Same H1 H' → pre as H')
    (h : ∀ x dx H2, H1 x = none → Same H1 H2 → H2 x = some (.ins C dx (fields as)) → Q (.ref x) H2) : MkEnd C (spNew C pre fields) as H1 Q := by
  constructor
  intro x dx nx nd ne
  have s1 : Same H1 (upd (upd H1 dx (.own x)) x (.ins C dx [])) := fun b o e => by
    rw [upd_ne (ne_of_none e nx), upd_ne (ne_of_none e nd)]
    exact e
  exact ⟨x, dx, as, by rw [List.append_nil], upd_same, hp _ s1, fun H' kp hx => ⟨rfl, h x dx H' nx (fun b o e => kp b o (s1 b o e) (ne_of_none e nx)) hx⟩⟩
end L2
end
section
set_option Elab.async false
set_option linter.all false
set_option maxRecDepth 100000
set_option maxHeartbeats 2000000
/-! The program's objects on the abstract heap. -/
namespace Fs
open PySem PySem.Spec PyProof.Rows L2
theorem look_eq (f : Str) (v : V) (r : List (Str × V)) : ((f, v) :: r).lookup f = some v := by
  simp only [List.lookup, beq_self_eq_true]
theorem look_ne {f g : Str} {v : V} {r : List (Str × V)} (h : ¬ f = g) : ((g, v) :: r).lookup f = r.lookup f := by
  have hb : (f == g) = false := beq_eq_false_iff_ne.mpr h
  simp only [List.lookup, hb]
theorem put_nil {f : Str} {v : V} : putF f v [] = [(f, v)] := rfl
theorem put_eq {f : Str} {v x : V} {r : List (Str × V)} : putF f v ((f, x) :: r) = (f, v) :: r := by
  rw [show putF f v ((f, x) :: r) = (if f = f then (f, v) :: r else (f, x) :: putF f v r) from rfl, if_pos rfl]
theorem put_ne {f g : Str} {v x : V} {r : List (Str × V)} (h : ¬ g = f) : putF f v ((g, x) :: r) = (g, x) :: putF f v r := by
  rw [show putF f v ((g, x) :: r) = (if g = f then (g, v) :: r else (g, x) :: putF f v r) from rfl, if_neg h]
theorem ne_amount_kind : ¬ ("amount" : Str) = "kind" := by decide +kernel
theorem ne_amount_number : ¬ ("amount" : Str) = "number" := by decide +kernel
theorem ne_buy_tiers_last_number : ¬ ("buy_tiers" : Str) = "last_number" := by decide +kernel
theorem ne_buy_tiers_orders : ¬ ("buy_tiers" : Str) = "orders" := by decide +kernel
theorem ne_buy_tiers_outcomes : ¬ ("buy_tiers" : Str) = "outcomes" := by decide +kernel
theorem ne_buy_tiers_policy : ¬ ("buy_tiers" : Str) = "policy" := by decide +kernel
theorem ne_buy_tiers_sell_tiers : ¬ ("buy_tiers" : Str) = "sell_tiers" := by decide +kernel
theorem ne_buy_tiers_units : ¬ ("buy_tiers" : Str) = "units" := by decide +kernel
theorem ne_buy_tiers_value : ¬ ("buy_tiers" : Str) = "value" := by decide +kernel
theorem ne_cost_lacking : ¬ ("cost" : Str) = "lacking" := by decide +kernel
theorem ne_cost_outcomes : ¬ ("cost" : Str) = "outcomes" := by decide +kernel
theorem ne_cost_side : ¬ ("cost" : Str) = "side" := by decide +kernel
theorem ne_cost_swing : ¬ ("cost" : Str) = "swing" := by decide +kernel
theorem ne_cost_units : ¬ ("cost" : Str) = "units" := by decide +kernel
theorem ne_cost_value : ¬ ("cost" : Str) = "value" := by decide +kernel
theorem ne_enough_flow : ¬ ("enough" : Str) = "flow" := by decide +kernel
theorem ne_enough_plain : ¬ ("enough" : Str) = "plain" := by decide +kernel
theorem ne_enough_side : ¬ ("enough" : Str) = "side" := by decide +kernel
theorem ne_factor_fixed_in : ¬ ("factor" : Str) = "fixed_in" := by decide +kernel
theorem ne_factor_fixed_out : ¬ ("factor" : Str) = "fixed_out" := by decide +kernel
theorem ne_factor_greatest : ¬ ("factor" : Str) = "greatest" := by decide +kernel
theorem ne_factor_mode : ¬ ("factor" : Str) = "mode" := by decide +kernel
theorem ne_factor_threshold : ¬ ("factor" : Str) = "threshold" := by decide +kernel
theorem ne_fixed_in_factor : ¬ ("fixed_in" : Str) = "factor" := by decide +kernel
theorem ne_fixed_in_fixed_out : ¬ ("fixed_in" : Str) = "fixed_out" := by decide +kernel
theorem ne_fixed_in_greatest : ¬ ("fixed_in" : Str) = "greatest" := by decide +kernel
theorem ne_fixed_in_mode : ¬ ("fixed_in" : Str) = "mode" := by decide +kernel
theorem ne_fixed_in_threshold : ¬ ("fixed_in" : Str) = "threshold" := by decide +kernel
theorem ne_fixed_out_factor : ¬ ("fixed_out" : Str) = "factor" := by decide +kernel
theorem ne_fixed_out_fixed_in : ¬ ("fixed_out" : Str) = "fixed_in" := by decide +kernel
theorem ne_fixed_out_greatest : ¬ ("fixed_out" : Str) = "greatest" := by decide +kernel
theorem ne_fixed_out_mode : ¬ ("fixed_out" : Str) = "mode" := by decide +kernel
theorem ne_fixed_out_threshold : ¬ ("fixed_out" : Str) = "threshold" := by decide +kernel
theorem ne_flow_enough : ¬ ("flow" : Str) = "enough" := by decide +kernel
theorem ne_flow_plain : ¬ ("flow" : Str) = "plain" := by decide +kernel
theorem ne_flow_side : ¬ ("flow" : Str) = "side" := by decide +kernel
theorem ne_going_in_going_out : ¬ ("going_in" : Str) = "going_out" := by decide +kernel
theorem ne_going_in_over : ¬ ("going_in" : Str) = "over" := by decide +kernel
theorem ne_going_out_going_in : ¬ ("going_out" : Str) = "going_in" := by decide +kernel
theorem ne_going_out_over : ¬ ("going_out" : Str) = "over" := by decide +kernel
theorem ne_greatest_factor : ¬ ("greatest" : Str) = "factor" := by decide +kernel
theorem ne_greatest_fixed_in : ¬ ("greatest" : Str) = "fixed_in" := by decide +kernel
theorem ne_greatest_fixed_out : ¬ ("greatest" : Str) = "fixed_out" := by decide +kernel
theorem ne_greatest_mode : ¬ ("greatest" : Str) = "mode" := by decide +kernel
theorem ne_greatest_threshold : ¬ ("greatest" : Str) = "threshold" := by decide +kernel
theorem ne_kind_amount : ¬ ("kind" : Str) = "amount" := by decide +kernel
theorem ne_kind_number : ¬ ("kind" : Str) = "number" := by decide +kernel
theorem ne_lacking_cost : ¬ ("lacking" : Str) = "cost" := by decide +kernel
theorem ne_lacking_outcomes : ¬ ("lacking" : Str) = "outcomes" := by decide +kernel
theorem ne_lacking_side : ¬ ("lacking" : Str) = "side" := by decide +kernel
theorem ne_lacking_swing : ¬ ("lacking" : Str) = "swing" := by decide +kernel
theorem ne_lacking_units : ¬ ("lacking" : Str) = "units" := by decide +kernel
theorem ne_lacking_value : ¬ ("lacking" : Str) = "value" := by decide +kernel
theorem ne_last_number_buy_tiers : ¬ ("last_number" : Str) = "buy_tiers" := by decide +kernel
theorem ne_last_number_orders : ¬ ("last_number" : Str) = "orders" := by decide +kernel
theorem ne_last_number_outcomes : ¬ ("last_number" : Str) = "outcomes" := by decide +kernel
theorem ne_last_number_policy : ¬ ("last_number" : Str) = "policy" := by decide +kernel
theorem ne_last_number_sell_tiers : ¬ ("last_number" : Str) = "sell_tiers" := by decide +kernel
theorem ne_last_number_units : ¬ ("last_number" : Str) = "units" := by decide +kernel
theorem ne_last_number_value : ¬ ("last_number" : Str) = "value" := by decide +kernel
theorem ne_levy_money : ¬ ("levy" : Str) = "money" := by decide +kernel
theorem ne_levy_number : ¬ ("levy" : Str) = "number" := by decide +kernel
theorem ne_levy_units : ¬ ("levy" : Str) = "units" := by decide +kernel
theorem ne_mode_factor : ¬ ("mode" : Str) = "factor" := by decide +kernel
theorem ne_mode_fixed_in : ¬ ("mode" : Str) = "fixed_in" := by decide +kernel
theorem ne_mode_fixed_out : ¬ ("mode" : Str) = "fixed_out" := by decide +kernel
theorem ne_mode_greatest : ¬ ("mode" : Str) = "greatest" := by decide +kernel
theorem ne_mode_threshold : ¬ ("mode" : Str) = "threshold" := by decide +kernel
theorem ne_money_levy : ¬ ("money" : Str) = "levy" := by decide +kernel
theorem ne_money_number : ¬ ("money" : Str) = "number" := by decide +kernel
theorem ne_money_units : ¬ ("money" : Str) = "units" := by decide +kernel
theorem ne_number_amount : ¬ ("number" : Str) = "amount" := by decide +kernel
theorem ne_number_kind : ¬ ("number" : Str) = "kind" := by decide +kernel
theorem ne_number_levy : ¬ ("number" : Str) = "levy" := by decide +kernel
theorem ne_number_money : ¬ ("number" : Str) = "money" := by decide +kernel
theorem ne_number_units : ¬ ("number" : Str) = "units" := by decide +kernel
theorem ne_orders_buy_tiers : ¬ ("orders" : Str) = "buy_tiers" := by decide +kernel
theorem ne_orders_last_number : ¬ ("orders" : Str) = "last_number" := by decide +kernel
theorem ne_orders_outcomes : ¬ ("orders" : Str) = "outcomes" := by decide +kernel
theorem ne_orders_policy : ¬ ("orders" : Str) = "policy" := by decide +kernel
theorem ne_orders_sell_tiers : ¬ ("orders" : Str) = "sell_tiers" := by decide +kernel
theorem ne_orders_units : ¬ ("orders" : Str) = "units" := by decide +kernel
theorem ne_orders_value : ¬ ("orders" : Str) = "value" := by decide +kernel
theorem ne_outcomes_buy_tiers : ¬ ("outcomes" : Str) = "buy_tiers" := by decide +kernel
theorem ne_outcomes_cost : ¬ ("outcomes" : Str) = "cost" := by decide +kernel
theorem ne_outcomes_lacking : ¬ ("outcomes" : Str) = "lacking" := by decide +kernel
theorem ne_outcomes_last_number : ¬ ("outcomes" : Str) = "last_number" := by decide +kernel
theorem ne_outcomes_orders : ¬ ("outcomes" : Str) = "orders" := by decide +kernel
theorem ne_outcomes_policy : ¬ ("outcomes" : Str) = "policy" := by decide +kernel
theorem ne_outcomes_sell_tiers : ¬ ("outcomes" : Str) = "sell_tiers" := by decide +kernel
theorem ne_outcomes_side : ¬ ("outcomes" : Str) = "side" := by decide +kernel
theorem ne_outcomes_swing : ¬ ("outcomes" : Str) = "swing" := by decide +kernel
theorem ne_outcomes_units : ¬ ("outcomes" : Str) = "units" := by decide +kernel
theorem ne_outcomes_value : ¬ ("outcomes" : Str) = "value" := by decide +kernel
theorem ne_over_going_in : ¬ ("over" : Str) = "going_in" := by decide +kernel
theorem ne_over_going_out : ¬ ("over" : Str) = "going_out" := by decide +kernel
theorem ne_plain_enough : ¬ ("plain" : Str) = "enough" := by decide +kernel
theorem ne_plain_flow : ¬ ("plain" : Str) = "flow" := by decide +kernel
theorem ne_plain_side : ¬ ("plain" : Str) = "side" := by decide +kernel
theorem ne_policy_buy_tiers : ¬ ("policy" : Str) = "buy_tiers" := by decide +kernel
theorem ne_policy_last_number : ¬ ("policy" : Str) = "last_number" := by decide +kernel
theorem ne_policy_orders : ¬ ("policy" : Str) = "orders" := by decide +kernel
theorem ne_policy_outcomes : ¬ ("policy" : Str) = "outcomes" := by decide +kernel
theorem ne_policy_sell_tiers : ¬ ("policy" : Str) = "sell_tiers" := by decide +kernel
theorem ne_policy_units : ¬ ("policy" : Str) = "units" := by decide +kernel
theorem ne_policy_value : ¬ ("policy" : Str) = "value" := by decide +kernel
theorem ne_rate_start : ¬ ("rate" : Str) = "start" := by decide +kernel
theorem ne_renew_buy_tiers : ¬ ("renew" : Str) = "buy_tiers" := by decide +kernel
theorem ne_renew_last_number : ¬ ("renew" : Str) = "last_number" := by decide +kernel
theorem ne_renew_orders : ¬ ("renew" : Str) = "orders" := by decide +kernel
theorem ne_renew_outcomes : ¬ ("renew" : Str) = "outcomes" := by decide +kernel
theorem ne_renew_policy : ¬ ("renew" : Str) = "policy" := by decide +kernel
theorem ne_renew_sell_tiers : ¬ ("renew" : Str) = "sell_tiers" := by decide +kernel
theorem ne_renew_units : ¬ ("renew" : Str) = "units" := by decide +kernel
theorem ne_renew_value : ¬ ("renew" : Str) = "value" := by decide +kernel
theorem ne_sell_tiers_buy_tiers : ¬ ("sell_tiers" : Str) = "buy_tiers" := by decide +kernel
theorem ne_sell_tiers_last_number : ¬ ("sell_tiers" : Str) = "last_number" := by decide +kernel
theorem ne_sell_tiers_orders : ¬ ("sell_tiers" : Str) = "orders" := by decide +kernel
theorem ne_sell_tiers_outcomes : ¬ ("sell_tiers" : Str) = "outcomes" := by decide +kernel
theorem ne_sell_tiers_policy : ¬ ("sell_tiers" : Str) = "policy" := by decide +kernel
theorem ne_sell_tiers_units : ¬ ("sell_tiers" : Str) = "units" := by decide +kernel
theorem ne_sell_tiers_value : ¬ ("sell_tiers" : Str) = "value" := by decide +kernel
theorem ne_side_cost : ¬ ("side" : Str) = "cost" := by decide +kernel
theorem ne_side_enough : ¬ ("side" : Str) = "enough" := by decide +kernel
theorem ne_side_flow : ¬ ("side" : Str) = "flow" := by decide +kernel
theorem ne_side_lacking : ¬ ("side" : Str) = "lacking" := by decide +kernel
theorem ne_side_outcomes : ¬ ("side" : Str) = "outcomes" := by decide +kernel
theorem ne_side_plain : ¬ ("side" : Str) = "plain" := by decide +kernel
theorem ne_side_swing : ¬ ("side" : Str) = "swing" := by decide +kernel
theorem ne_side_units : ¬ ("side" : Str) = "units" := by decide +kernel
theorem ne_side_value : ¬ ("side" : Str) = "value" := by decide +kernel
theorem ne_start_rate : ¬ ("start" : Str) = "rate" := by decide +kernel
theorem ne_swing_cost : ¬ ("swing" : Str) = "cost" := by decide +kernel
theorem ne_swing_lacking : ¬ ("swing" : Str) = "lacking" := by decide +kernel
theorem ne_swing_outcomes : ¬ ("swing" : Str) = "outcomes" := by decide +kernel
theorem ne_swing_side : ¬ ("swing" : Str) = "side" := by decide +kernel
theorem ne_swing_units : ¬ ("swing" : Str) = "units" := by decide +kernel
theorem ne_swing_value : ¬ ("swing" : Str) = "value" := by decide +kernel
theorem ne_threshold_factor : ¬ ("threshold" : Str) = "factor" := by decide +kernel
theorem ne_threshold_fixed_in : ¬ ("threshold" : Str) = "fixed_in" := by decide +kernel
theorem ne_threshold_fixed_out : ¬ ("threshold" : Str) = "fixed_out" := by decide +kernel
theorem ne_threshold_greatest : ¬ ("threshold" : Str) = "greatest" := by decide +kernel
theorem ne_threshold_mode : ¬ ("threshold" : Str) = "mode" := by decide +kernel
theorem ne_units_buy_tiers : ¬ ("units" : Str) = "buy_tiers" := by decide +kernel
theorem ne_units_cost : ¬ ("units" : Str) = "cost" := by decide +kernel
theorem ne_units_lacking : ¬ ("units" : Str) = "lacking" := by decide +kernel
theorem ne_units_last_number : ¬ ("units" : Str) = "last_number" := by decide +kernel
theorem ne_units_levy : ¬ ("units" : Str) = "levy" := by decide +kernel
theorem ne_units_money : ¬ ("units" : Str) = "money" := by decide +kernel
theorem ne_units_number : ¬ ("units" : Str) = "number" := by decide +kernel
theorem ne_units_orders : ¬ ("units" : Str) = "orders" := by decide +kernel
theorem ne_units_outcomes : ¬ ("units" : Str) = "outcomes" := by decide +kernel
theorem ne_units_policy : ¬ ("units" : Str) = "policy" := by decide +kernel
theorem ne_units_sell_tiers : ¬ ("units" : Str) = "sell_tiers" := by decide +kernel
theorem ne_units_side : ¬ ("units" : Str) = "side" := by decide +kernel
theorem ne_units_swing : ¬ ("units" : Str) = "swing" := by decide +kernel
theorem ne_units_value : ¬ ("units" : Str) = "value" := by decide +kernel
theorem ne_value_buy_tiers : ¬ ("value" : Str) = "buy_tiers" := by decide +kernel
theorem ne_value_cost : ¬ ("value" : Str) = "cost" := by decide +kernel
theorem ne_value_lacking : ¬ ("value" : Str) = "lacking" := by decide +kernel
theorem ne_value_last_number : ¬ ("value" : Str) = "last_number" := by decide +kernel
theorem ne_value_orders : ¬ ("value" : Str) = "orders" := by decide +kernel
theorem ne_value_outcomes : ¬ ("value" : Str) = "outcomes" := by decide +kernel
theorem ne_value_policy : ¬ ("value" : Str) = "policy" := by decide +kernel
theorem ne_value_sell_tiers : ¬ ("value" : Str) = "sell_tiers" := by decide +kernel
theorem ne_value_side : ¬ ("value" : Str) = "side" := by decide +kernel
theorem ne_value_swing : ¬ ("value" : Str) = "swing" := by decide +kernel
theorem ne_value_units : ¬ ("value" : Str) = "units" := by decide +kernel
def polF (a0 : Int) (a1 : Int) (a2 : Int) (a3 : Int) (a4 : Int) (a5 : Int) : List (Str × V) := [(("mode" : Str), V.int a0), (("fixed_in" : Str), V.int a1), (("fixed_out" : Str), V.int a2), (("factor" : Str), V.int a3), (("threshold" : Str), V.int a4), (("greatest" : Str), V.int a5)]
theorem polF_mode (a0 : Int) (a1 : Int) (a2 : Int) (a3 : Int) (a4 : Int) (a5 : Int) : (polF a0 a1 a2 a3 a4 a5).lookup ("mode" : Str) = some (V.int a0) := by
  unfold polF
  exact look_eq _ _ _
theorem polF_fixed_in (a0 : Int) (a1 : Int) (a2 : Int) (a3 : Int) (a4 : Int) (a5 : Int) : (polF a0 a1 a2 a3 a4 a5).lookup ("fixed_in" : Str) = some (V.int a1) := by
  unfold polF
  rw [look_ne ne_fixed_in_mode]
  exact look_eq _ _ _
theorem polF_fixed_out (a0 : Int) (a1 : Int) (a2 : Int) (a3 : Int) (a4 : Int) (a5 : Int) : (polF a0 a1 a2 a3 a4 a5).lookup ("fixed_out" : Str) = some (V.int a2) := by
  unfold polF
  rw [look_ne ne_fixed_out_mode]
  rw [look_ne ne_fixed_out_fixed_in]
  exact look_eq _ _ _
theorem polF_factor (a0 : Int) (a1 : Int) (a2 : Int) (a3 : Int) (a4 : Int) (a5 : Int) : (polF a0 a1 a2 a3 a4 a5).lookup ("factor" : Str) = some (V.int a3) := by
  unfold polF
  rw [look_ne ne_factor_mode]
  rw [look_ne ne_factor_fixed_in]
  rw [look_ne ne_factor_fixed_out]
  exact look_eq _ _ _
theorem polF_threshold (a0 : Int) (a1 : Int) (a2 : Int) (a3 : Int) (a4 : Int) (a5 : Int) : (polF a0 a1 a2 a3 a4 a5).lookup ("threshold" : Str) = some (V.int a4) := by
  unfold polF
  rw [look_ne ne_threshold_mode]
  rw [look_ne ne_threshold_fixed_in]
  rw [look_ne ne_threshold_fixed_out]
  rw [look_ne ne_threshold_factor]
  exact look_eq _ _ _
theorem polF_greatest (a0 : Int) (a1 : Int) (a2 : Int) (a3 : Int) (a4 : Int) (a5 : Int) : (polF a0 a1 a2 a3 a4 a5).lookup ("greatest" : Str) = some (V.int a5) := by
  unfold polF
  rw [look_ne ne_greatest_mode]
  rw [look_ne ne_greatest_fixed_in]
  rw [look_ne ne_greatest_fixed_out]
  rw [look_ne ne_greatest_factor]
  rw [look_ne ne_greatest_threshold]
  exact look_eq _ _ _
theorem polF_put (a0 : Int) (a1 : Int) (a2 : Int) (a3 : Int) (a4 : Int) (a5 : Int) : putF "greatest" (V.int a5) (putF "threshold" (V.int a4) (putF "factor" (V.int a3) (putF "fixed_out" (V.int a2) (putF "fixed_in" (V.int a1) (putF "mode" (V.int a0) ([])))))) = polF a0 a1 a2 a3 a4 a5 := by
  unfold polF
  simp only [put_nil, put_ne ne_mode_fixed_in, put_ne ne_mode_fixed_out, put_ne ne_fixed_in_fixed_out, put_ne ne_mode_factor, put_ne ne_fixed_in_factor, put_ne ne_fixed_out_factor, put_ne ne_mode_threshold, put_ne ne_fixed_in_threshold, put_ne ne_fixed_out_threshold, put_ne ne_factor_threshold, put_ne ne_mode_greatest, put_ne ne_fixed_in_greatest, put_ne ne_fixed_out_greatest, put_ne ne_factor_greatest, put_ne ne_threshold_greatest]
def ordF (a0 : Int) (a1 : Int) (a2 : Int) : List (Str × V) := [(("number" : Str), V.int a0), (("kind" : Str), V.int a1), (("amount" : Str), V.int a2)]
theorem ordF_number (a0 : Int) (a1 : Int) (a2 : Int) : (ordF a0 a1 a2).lookup ("number" : Str) = some (V.int a0) := by
  unfold ordF
  exact look_eq _ _ _
theorem ordF_kind (a0 : Int) (a1 : Int) (a2 : Int) : (ordF a0 a1 a2).lookup ("kind" : Str) = some (V.int a1) := by
  unfold ordF
  rw [look_ne ne_kind_number]
  exact look_eq _ _ _
theorem ordF_amount (a0 : Int) (a1 : Int) (a2 : Int) : (ordF a0 a1 a2).lookup ("amount" : Str) = some (V.int a2) := by
  unfold ordF
  rw [look_ne ne_amount_number]
  rw [look_ne ne_amount_kind]
  exact look_eq _ _ _
theorem ordF_put (a0 : Int) (a1 : Int) (a2 : Int) : putF "amount" (V.int a2) (putF "kind" (V.int a1) (putF "number" (V.int a0) ([]))) = ordF a0 a1 a2 := by
  unfold ordF
  simp only [put_nil, put_ne ne_number_kind, put_ne ne_number_amount, put_ne ne_kind_amount]
def outF (a0 : Int) (a1 : Int) (a2 : Int) (a3 : Int) : List (Str × V) := [(("number" : Str), V.int a0), (("levy" : Str), V.int a1), (("money" : Str), V.int a2), (("units" : Str), V.int a3)]
theorem outF_number (a0 : Int) (a1 : Int) (a2 : Int) (a3 : Int) : (outF a0 a1 a2 a3).lookup ("number" : Str) = some (V.int a0) := by
  unfold outF
  exact look_eq _ _ _
theorem outF_levy (a0 : Int) (a1 : Int) (a2 : Int) (a3 : Int) : (outF a0 a1 a2 a3).lookup ("levy" : Str) = some (V.int a1) := by
  unfold outF
  rw [look_ne ne_levy_number]
  exact look_eq _ _ _
theorem outF_money (a0 : Int) (a1 : Int) (a2 : Int) (a3 : Int) : (outF a0 a1 a2 a3).lookup ("money" : Str) = some (V.int a2) := by
  unfold outF
  rw [look_ne ne_money_number]
  rw [look_ne ne_money_levy]
  exact look_eq _ _ _
theorem outF_units (a0 : Int) (a1 : Int) (a2 : Int) (a3 : Int) : (outF a0 a1 a2 a3).lookup ("units" : Str) = some (V.int a3) := by
  unfold outF
  rw [look_ne ne_units_number]
  rw [look_ne ne_units_levy]
  rw [look_ne ne_units_money]
  exact look_eq _ _ _
theorem outF_put (a0 : Int) (a1 : Int) (a2 : Int) (a3 : Int) : putF "units" (V.int a3) (putF "money" (V.int a2) (putF "levy" (V.int a1) (putF "number" (V.int a0) ([])))) = outF a0 a1 a2 a3 := by
  unfold outF
  simp only [put_nil, put_ne ne_number_levy, put_ne ne_number_money, put_ne ne_levy_money, put_ne ne_number_units, put_ne ne_levy_units, put_ne ne_money_units]
def fundF (a0 : Int) (a1 : Int) (a2 : Addr) (a3 : Addr) (a4 : Addr) (a5 : Addr) (a6 : Int) (a7 : Addr) : List (Str × V) := [(("value" : Str), V.int a0), (("units" : Str), V.int a1), (("buy_tiers" : Str), V.ref a2), (("sell_tiers" : Str), V.ref a3), (("policy" : Str), V.ref a4), (("orders" : Str), V.ref a5), (("last_number" : Str), V.int a6), (("outcomes" : Str), V.ref a7)]
theorem fundF_value (a0 : Int) (a1 : Int) (a2 : Addr) (a3 : Addr) (a4 : Addr) (a5 : Addr) (a6 : Int) (a7 : Addr) : (fundF a0 a1 a2 a3 a4 a5 a6 a7).lookup ("value" : Str) = some (V.int a0) := by
  unfold fundF
  exact look_eq _ _ _
theorem fundF_units (a0 : Int) (a1 : Int) (a2 : Addr) (a3 : Addr) (a4 : Addr) (a5 : Addr) (a6 : Int) (a7 : Addr) : (fundF a0 a1 a2 a3 a4 a5 a6 a7).lookup ("units" : Str) = some (V.int a1) := by
  unfold fundF
  rw [look_ne ne_units_value]
  exact look_eq _ _ _
theorem fundF_buy_tiers (a0 : Int) (a1 : Int) (a2 : Addr) (a3 : Addr) (a4 : Addr) (a5 : Addr) (a6 : Int) (a7 : Addr) : (fundF a0 a1 a2 a3 a4 a5 a6 a7).lookup ("buy_tiers" : Str) = some (V.ref a2) := by
  unfold fundF
  rw [look_ne ne_buy_tiers_value]
  rw [look_ne ne_buy_tiers_units]
  exact look_eq _ _ _
theorem fundF_sell_tiers (a0 : Int) (a1 : Int) (a2 : Addr) (a3 : Addr) (a4 : Addr) (a5 : Addr) (a6 : Int) (a7 : Addr) : (fundF a0 a1 a2 a3 a4 a5 a6 a7).lookup ("sell_tiers" : Str) = some (V.ref a3) := by
  unfold fundF
  rw [look_ne ne_sell_tiers_value]
  rw [look_ne ne_sell_tiers_units]
  rw [look_ne ne_sell_tiers_buy_tiers]
  exact look_eq _ _ _
theorem fundF_policy (a0 : Int) (a1 : Int) (a2 : Addr) (a3 : Addr) (a4 : Addr) (a5 : Addr) (a6 : Int) (a7 : Addr) : (fundF a0 a1 a2 a3 a4 a5 a6 a7).lookup ("policy" : Str) = some (V.ref a4) := by
  unfold fundF
  rw [look_ne ne_policy_value]
  rw [look_ne ne_policy_units]
  rw [look_ne ne_policy_buy_tiers]
  rw [look_ne ne_policy_sell_tiers]
  exact look_eq _ _ _
theorem fundF_orders (a0 : Int) (a1 : Int) (a2 : Addr) (a3 : Addr) (a4 : Addr) (a5 : Addr) (a6 : Int) (a7 : Addr) : (fundF a0 a1 a2 a3 a4 a5 a6 a7).lookup ("orders" : Str) = some (V.ref a5) := by
  unfold fundF
  rw [look_ne ne_orders_value]
  rw [look_ne ne_orders_units]
  rw [look_ne ne_orders_buy_tiers]
  rw [look_ne ne_orders_sell_tiers]
  rw [look_ne ne_orders_policy]
  exact look_eq _ _ _
theorem fundF_last_number (a0 : Int) (a1 : Int) (a2 : Addr) (a3 : Addr) (a4 : Addr) (a5 : Addr) (a6 : Int) (a7 : Addr) : (fundF a0 a1 a2 a3 a4 a5 a6 a7).lookup ("last_number" : Str) = some (V.int a6) := by
  unfold fundF
  rw [look_ne ne_last_number_value]
  rw [look_ne ne_last_number_units]
  rw [look_ne ne_last_number_buy_tiers]
  rw [look_ne ne_last_number_sell_tiers]
  rw [look_ne ne_last_number_policy]
  rw [look_ne ne_last_number_orders]
  exact look_eq _ _ _
theorem fundF_outcomes (a0 : Int) (a1 : Int) (a2 : Addr) (a3 : Addr) (a4 : Addr) (a5 : Addr) (a6 : Int) (a7 : Addr) : (fundF a0 a1 a2 a3 a4 a5 a6 a7).lookup ("outcomes" : Str) = some (V.ref a7) := by
  unfold fundF
  rw [look_ne ne_outcomes_value]
  rw [look_ne ne_outcomes_units]
  rw [look_ne ne_outcomes_buy_tiers]
  rw [look_ne ne_outcomes_sell_tiers]
  rw [look_ne ne_outcomes_policy]
  rw [look_ne ne_outcomes_orders]
  rw [look_ne ne_outcomes_last_number]
  exact look_eq _ _ _
theorem fundF_put (a0 : Int) (a1 : Int) (a2 : Addr) (a3 : Addr) (a4 : Addr) (a5 : Addr) (a6 : Int) (a7 : Addr) : putF "outcomes" (V.ref a7) (putF "last_number" (V.int a6) (putF "orders" (V.ref a5) (putF "policy" (V.ref a4) (putF "sell_tiers" (V.ref a3) (putF "buy_tiers" (V.ref a2) (putF "units" (V.int a1) (putF "value" (V.int a0) ([])))))))) = fundF a0 a1 a2 a3 a4 a5 a6 a7 := by
  unfold fundF
  simp only [put_nil, put_ne ne_value_units, put_ne ne_value_buy_tiers, put_ne ne_units_buy_tiers, put_ne ne_value_sell_tiers, put_ne ne_units_sell_tiers, put_ne ne_buy_tiers_sell_tiers, put_ne ne_value_policy, put_ne ne_units_policy, put_ne ne_buy_tiers_policy, put_ne ne_sell_tiers_policy, put_ne ne_value_orders, put_ne ne_units_orders, put_ne ne_buy_tiers_orders, put_ne ne_sell_tiers_orders, put_ne ne_policy_orders, put_ne ne_value_last_number, put_ne ne_units_last_number, put_ne ne_buy_tiers_last_number, put_ne ne_sell_tiers_last_number, put_ne ne_policy_last_number, put_ne ne_orders_last_number, put_ne ne_value_outcomes, put_ne ne_units_outcomes, put_ne ne_buy_tiers_outcomes, put_ne ne_sell_tiers_outcomes, put_ne ne_policy_outcomes, put_ne ne_orders_outcomes, put_ne ne_last_number_outcomes]
theorem fundF_set_value (a0 : Int) (a1 : Int) (a2 : Addr) (a3 : Addr) (a4 : Addr) (a5 : Addr) (a6 : Int) (a7 : Addr) (b : Int) : putF "value" (V.int b) (fundF a0 a1 a2 a3 a4 a5 a6 a7) = fundF b a1 a2 a3 a4 a5 a6 a7 := by
  unfold fundF
  simp only [put_eq]
theorem fundF_set_units (a0 : Int) (a1 : Int) (a2 : Addr) (a3 : Addr) (a4 : Addr) (a5 : Addr) (a6 : Int) (a7 : Addr) (b : Int) : putF "units" (V.int b) (fundF a0 a1 a2 a3 a4 a5 a6 a7) = fundF a0 b a2 a3 a4 a5 a6 a7 := by
  unfold fundF
  simp only [put_ne ne_value_units, put_eq]
theorem fundF_set_buy_tiers (a0 : Int) (a1 : Int) (a2 : Addr) (a3 : Addr) (a4 : Addr) (a5 : Addr) (a6 : Int) (a7 : Addr) (b : Addr) : putF "buy_tiers" (V.ref b) (fundF a0 a1 a2 a3 a4 a5 a6 a7) = fundF a0 a1 b a3 a4 a5 a6 a7 := by
  unfold fundF
  simp only [put_ne ne_value_buy_tiers, put_ne ne_units_buy_tiers, put_eq]
theorem fundF_set_sell_tiers (a0 : Int) (a1 : Int) (a2 : Addr) (a3 : Addr) (a4 : Addr) (a5 : Addr) (a6 : Int) (a7 : Addr) (b : Addr) : putF "sell_tiers" (V.ref b) (fundF a0 a1 a2 a3 a4 a5 a6 a7) = fundF a0 a1 a2 b a4 a5 a6 a7 := by
  unfold fundF
  simp only [put_ne ne_value_sell_tiers, put_ne ne_units_sell_tiers, put_ne ne_buy_tiers_sell_tiers, put_eq]
theorem fundF_set_policy (a0 : Int) (a1 : Int) (a2 : Addr) (a3 : Addr) (a4 : Addr) (a5 : Addr) (a6 : Int) (a7 : Addr) (b : Addr) : putF "policy" (V.ref b) (fundF a0 a1 a2 a3 a4 a5 a6 a7) = fundF a0 a1 a2 a3 b a5 a6 a7 := by
  unfold fundF
  simp only [put_ne ne_value_policy, put_ne ne_units_policy, put_ne ne_buy_tiers_policy, put_ne ne_sell_tiers_policy, put_eq]
theorem fundF_set_orders (a0 : Int) (a1 : Int) (a2 : Addr) (a3 : Addr) (a4 : Addr) (a5 : Addr) (a6 : Int) (a7 : Addr) (b : Addr) : putF "orders" (V.ref b) (fundF a0 a1 a2 a3 a4 a5 a6 a7) = fundF a0 a1 a2 a3 a4 b a6 a7 := by
  unfold fundF
  simp only [put_ne ne_value_orders, put_ne ne_units_orders, put_ne ne_buy_tiers_orders, put_ne ne_sell_tiers_orders, put_ne ne_policy_orders, put_eq]
theorem fundF_set_last_number (a0 : Int) (a1 : Int) (a2 : Addr) (a3 : Addr) (a4 : Addr) (a5 : Addr) (a6 : Int) (a7 : Addr) (b : Int) : putF "last_number" (V.int b) (fundF a0 a1 a2 a3 a4 a5 a6 a7) = fundF a0 a1 a2 a3 a4 a5 b a7 := by
  unfold fundF
  simp only [put_ne ne_value_last_number, put_ne ne_units_last_number, put_ne ne_buy_tiers_last_number, put_ne ne_sell_tiers_last_number, put_ne ne_policy_last_number, put_ne ne_orders_last_number, put_eq]
theorem fundF_set_outcomes (a0 : Int) (a1 : Int) (a2 : Addr) (a3 : Addr) (a4 : Addr) (a5 : Addr) (a6 : Int) (a7 : Addr) (b : Addr) : putF "outcomes" (V.ref b) (fundF a0 a1 a2 a3 a4 a5 a6 a7) = fundF a0 a1 a2 a3 a4 a5 a6 b := by
  unfold fundF
  simp only [put_ne ne_value_outcomes, put_ne ne_units_outcomes, put_ne ne_buy_tiers_outcomes, put_ne ne_sell_tiers_outcomes, put_ne ne_policy_outcomes, put_ne ne_orders_outcomes, put_ne ne_last_number_outcomes, put_eq]
theorem fundF_len (a0 : Int) (a1 : Int) (a2 : Addr) (a3 : Addr) (a4 : Addr) (a5 : Addr) (a6 : Int) (a7 : Addr) : (fundF a0 a1 a2 a3 a4 a5 a6 a7).length = 8 := rfl
def tierF (a0 : Int) (a1 : Int) : List (Str × V) := [(("start" : Str), V.int a0), (("rate" : Str), V.int a1)]
theorem tierF_start (a0 : Int) (a1 : Int) : (tierF a0 a1).lookup ("start" : Str) = some (V.int a0) := by
  unfold tierF
  exact look_eq _ _ _
theorem tierF_rate (a0 : Int) (a1 : Int) : (tierF a0 a1).lookup ("rate" : Str) = some (V.int a1) := by
  unfold tierF
  rw [look_ne ne_rate_start]
  exact look_eq _ _ _
theorem tierF_put (a0 : Int) (a1 : Int) : putF "rate" (V.int a1) (putF "start" (V.int a0) ([])) = tierF a0 a1 := by
  unfold tierF
  simp only [put_nil, put_ne ne_start_rate]
def priF (a0 : Int) (a1 : Int) (a2 : Int) : List (Str × V) := [(("going_in" : Str), V.int a0), (("going_out" : Str), V.int a1), (("over" : Str), V.int a2)]
theorem priF_going_in (a0 : Int) (a1 : Int) (a2 : Int) : (priF a0 a1 a2).lookup ("going_in" : Str) = some (V.int a0) := by
  unfold priF
  exact look_eq _ _ _
theorem priF_going_out (a0 : Int) (a1 : Int) (a2 : Int) : (priF a0 a1 a2).lookup ("going_out" : Str) = some (V.int a1) := by
  unfold priF
  rw [look_ne ne_going_out_going_in]
  exact look_eq _ _ _
theorem priF_over (a0 : Int) (a1 : Int) (a2 : Int) : (priF a0 a1 a2).lookup ("over" : Str) = some (V.int a2) := by
  unfold priF
  rw [look_ne ne_over_going_in]
  rw [look_ne ne_over_going_out]
  exact look_eq _ _ _
theorem priF_put (a0 : Int) (a1 : Int) (a2 : Int) : putF "over" (V.int a2) (putF "going_out" (V.int a1) (putF "going_in" (V.int a0) ([]))) = priF a0 a1 a2 := by
  unfold priF
  simp only [put_nil, put_ne ne_going_in_going_out, put_ne ne_going_in_over, put_ne ne_going_out_over]
def weiF (a0 : Addr) (a1 : Int) (a2 : Int) (a3 : Bool) : List (Str × V) := [(("plain" : Str), V.ref a0), (("flow" : Str), V.int a1), (("side" : Str), V.int a2), (("enough" : Str), V.bl a3)]
theorem weiF_plain (a0 : Addr) (a1 : Int) (a2 : Int) (a3 : Bool) : (weiF a0 a1 a2 a3).lookup ("plain" : Str) = some (V.ref a0) := by
  unfold weiF
  exact look_eq _ _ _
theorem weiF_flow (a0 : Addr) (a1 : Int) (a2 : Int) (a3 : Bool) : (weiF a0 a1 a2 a3).lookup ("flow" : Str) = some (V.int a1) := by
  unfold weiF
  rw [look_ne ne_flow_plain]
  exact look_eq _ _ _
theorem weiF_side (a0 : Addr) (a1 : Int) (a2 : Int) (a3 : Bool) : (weiF a0 a1 a2 a3).lookup ("side" : Str) = some (V.int a2) := by
  unfold weiF
  rw [look_ne ne_side_plain]
  rw [look_ne ne_side_flow]
  exact look_eq _ _ _
theorem weiF_enough (a0 : Addr) (a1 : Int) (a2 : Int) (a3 : Bool) : (weiF a0 a1 a2 a3).lookup ("enough" : Str) = some (V.bl a3) := by
  unfold weiF
  rw [look_ne ne_enough_plain]
  rw [look_ne ne_enough_flow]
  rw [look_ne ne_enough_side]
  exact look_eq _ _ _
def poiF (a0 : Int) (a1 : Int) (a2 : Int) (a3 : Addr) (a4 : Int) (a5 : Int) (a6 : Int) : List (Str × V) := [(("side" : Str), V.int a0), (("swing" : Str), V.int a1), (("cost" : Str), V.int a2), (("outcomes" : Str), V.ref a3), (("lacking" : Str), V.int a4), (("value" : Str), V.int a5), (("units" : Str), V.int a6)]
theorem poiF_side (a0 : Int) (a1 : Int) (a2 : Int) (a3 : Addr) (a4 : Int) (a5 : Int) (a6 : Int) : (poiF a0 a1 a2 a3 a4 a5 a6).lookup ("side" : Str) = some (V.int a0) := by
  unfold poiF
  exact look_eq _ _ _
theorem poiF_swing (a0 : Int) (a1 : Int) (a2 : Int) (a3 : Addr) (a4 : Int) (a5 : Int) (a6 : Int) : (poiF a0 a1 a2 a3 a4 a5 a6).lookup ("swing" : Str) = some (V.int a1) := by
  unfold poiF
  rw [look_ne ne_swing_side]
  exact look_eq _ _ _
theorem poiF_cost (a0 : Int) (a1 : Int) (a2 : Int) (a3 : Addr) (a4 : Int) (a5 : Int) (a6 : Int) : (poiF a0 a1 a2 a3 a4 a5 a6).lookup ("cost" : Str) = some (V.int a2) := by
  unfold poiF
  rw [look_ne ne_cost_side]
  rw [look_ne ne_cost_swing]
  exact look_eq _ _ _
theorem poiF_outcomes (a0 : Int) (a1 : Int) (a2 : Int) (a3 : Addr) (a4 : Int) (a5 : Int) (a6 : Int) : (poiF a0 a1 a2 a3 a4 a5 a6).lookup ("outcomes" : Str) = some (V.ref a3) := by
  unfold poiF
  rw [look_ne ne_outcomes_side]
  rw [look_ne ne_outcomes_swing]
  rw [look_ne ne_outcomes_cost]
  exact look_eq _ _ _
theorem poiF_lacking (a0 : Int) (a1 : Int) (a2 : Int) (a3 : Addr) (a4 : Int) (a5 : Int) (a6 : Int) : (poiF a0 a1 a2 a3 a4 a5 a6).lookup ("lacking" : Str) = some (V.int a4) := by
  unfold poiF
  rw [look_ne ne_lacking_side]
  rw [look_ne ne_lacking_swing]
  rw [look_ne ne_lacking_cost]
  rw [look_ne ne_lacking_outcomes]
  exact look_eq _ _ _
theorem poiF_value (a0 : Int) (a1 : Int) (a2 : Int) (a3 : Addr) (a4 : Int) (a5 : Int) (a6 : Int) : (poiF a0 a1 a2 a3 a4 a5 a6).lookup ("value" : Str) = some (V.int a5) := by
  unfold poiF
  rw [look_ne ne_value_side]
  rw [look_ne ne_value_swing]
  rw [look_ne ne_value_cost]
  rw [look_ne ne_value_outcomes]
  rw [look_ne ne_value_lacking]
  exact look_eq _ _ _
theorem poiF_units (a0 : Int) (a1 : Int) (a2 : Int) (a3 : Addr) (a4 : Int) (a5 : Int) (a6 : Int) : (poiF a0 a1 a2 a3 a4 a5 a6).lookup ("units" : Str) = some (V.int a6) := by
  unfold poiF
  rw [look_ne ne_units_side]
  rw [look_ne ne_units_swing]
  rw [look_ne ne_units_cost]
  rw [look_ne ne_units_outcomes]
  rw [look_ne ne_units_lacking]
  rw [look_ne ne_units_value]
  exact look_eq _ _ _
theorem poiF_put (a0 : Int) (a1 : Int) (a2 : Int) (a3 : Addr) (a4 : Int) (a5 : Int) (a6 : Int) : putF "units" (V.int a6) (putF "value" (V.int a5) (putF "lacking" (V.int a4) (putF "outcomes" (V.ref a3) (putF "cost" (V.int a2) (putF "swing" (V.int a1) (putF "side" (V.int a0) ([]))))))) = poiF a0 a1 a2 a3 a4 a5 a6 := by
  unfold poiF
  simp only [put_nil, put_ne ne_side_swing, put_ne ne_side_cost, put_ne ne_swing_cost, put_ne ne_side_outcomes, put_ne ne_swing_outcomes, put_ne ne_cost_outcomes, put_ne ne_side_lacking, put_ne ne_swing_lacking, put_ne ne_cost_lacking, put_ne ne_outcomes_lacking, put_ne ne_side_value, put_ne ne_swing_value, put_ne ne_cost_value, put_ne ne_outcomes_value, put_ne ne_lacking_value, put_ne ne_side_units, put_ne ne_swing_units, put_ne ne_cost_units, put_ne ne_outcomes_units, put_ne ne_lacking_units, put_ne ne_value_units]
theorem fundF_renew (a0 a1 : Int) (a2 a3 a4 a5 : Addr) (a6 : Int) (a7 : Addr) : (fundF a0 a1 a2 a3 a4 a5 a6 a7).lookup ("renew" : Str) = none := by
  unfold fundF
  rw [look_ne ne_renew_value]
  rw [look_ne ne_renew_units]
  rw [look_ne ne_renew_buy_tiers]
  rw [look_ne ne_renew_sell_tiers]
  rw [look_ne ne_renew_policy]
  rw [look_ne ne_renew_orders]
  rw [look_ne ne_renew_last_number]
  rw [look_ne ne_renew_outcomes]
  rfl
/-! ### what stands where -/
/-- the addresses of the classes, and of the table of codes that grows -/
structure Ad where
  pol : Addr
  ord : Addr
  out : Addr
  fund : Addr
  tier : Addr
  pri : Addr
  poi : Addr
  wei : Addr
  tab : Addr
/-- every object but a fund stays -/
def KpO (d : Ad) (H H' : Hp) : Prop := ∀ b C dx fs, C ≠ d.fund → H b = some (.ins C dx fs) → H' b = some (.ins C dx fs)
section
variable {d : Ad} {H H' H1 H2 : Hp}
theorem KpO.trans (a : KpO d H H1) (b : KpO d H1 H2) : KpO d H H2 := fun c C dx fs n e => b c C dx fs n (a c C dx fs n e)
theorem KpO.of (k : Kp H H') : KpO d H H' := fun b C dx fs _ e => k b _ e rfl
theorem KpO.same (k : Same H H') : KpO d H H' := fun b C dx fs _ e => k b _ e
theorem KpO.new {p : Addr} {o : HO} (h : H p = none) : KpO d H (upd H p o) := KpO.same (Same.new h)
theorem KpO.lst {l : Addr} {xs : List V} {o : HO} (h : H l = some (.lst xs)) : KpO d H (upd H l o) := fun b C dx fs _ e => by
  rw [upd_ne (ne_of e h (by intro z; cases z))]
  exact e
theorem KpO.fund {f dx : Addr} {fs : List (Str × V)} {o : HO} (h : H f = some (.ins d.fund dx fs)) : KpO d H (upd H f o) := fun b C dx' fs' n e => by
  rw [upd_ne (fun z => n (by subst z; rw [e] at h; cases h; rfl))]
  exact e
end
section
variable (d : Ad)
def OrdAt (H : Hp) (x : Addr) (o : Vbfuaf.Order) : Prop := ∃ dx, H x = some (.ins d.ord dx (ordF o.num o.kind o.amount))
def OutAt (H : Hp) (x : Addr) (r : Vbfuaf.Result) : Prop := ∃ dx, H x = some (.ins d.out dx (outF r.num r.levy r.money r.units))
def TierAt (H : Hp) (x : Addr) (t : Nat × Nat) : Prop := ∃ dx, H x = some (.ins d.tier dx (tierF t.1 t.2))
def PolAt (H : Hp) (x : Addr) (p : Vbfuaf.Policy) : Prop := ∃ dx, H x = some (.ins d.pol dx (polF p.mode p.fixedIn p.fixedOut p.factor p.threshold p.most))
/-- the classes are not the fund's -/
structure Apart : Prop where
  pol : d.pol ≠ d.fund
  ord : d.ord ≠ d.fund
  out : d.out ≠ d.fund
  tier : d.tier ≠ d.fund
  pri : d.pri ≠ d.fund
  poi : d.poi ≠ d.fund
  wei : d.wei ≠ d.fund
end
/-- a list of objects, each as it is told -/
def LsAt {α : Type} (R : Hp → Addr → α → Prop) (H : Hp) (l : Addr) (xs : List α) : Prop :=
  ∃ as : List Addr, H l = some (.lst (as.map V.ref)) ∧ as.length = xs.length ∧ ∀ (i : Nat) (a : Addr) (x : α), as[i]? = some a → xs[i]? = some x → R H a x
/-- a relation that lives by the objects alone -/
def Lives (d : Ad) {α : Type} (R : Hp → Addr → α → Prop) : Prop := ∀ H H' a x, KpO d H H' → R H a x → R H' a x
section
variable {d : Ad} (A : Apart d)
include A
theorem OrdAt.lives : Lives d (OrdAt d) := fun _ _ _ _ k ⟨dx, e⟩ => ⟨dx, k _ _ _ _ A.ord e⟩
theorem OutAt.lives : Lives d (OutAt d) := fun _ _ _ _ k ⟨dx, e⟩ => ⟨dx, k _ _ _ _ A.out e⟩
theorem TierAt.lives : Lives d (TierAt d) := fun _ _ _ _ k ⟨dx, e⟩ => ⟨dx, k _ _ _ _ A.tier e⟩
theorem PolAt.lives : Lives d (PolAt d) := fun _ _ _ _ k ⟨dx, e⟩ => ⟨dx, k _ _ _ _ A.pol e⟩
end
theorem LsAt.keep {d : Ad} {α : Type} {R : Hp → Addr → α → Prop} (L : Lives d R) {H H' : Hp} {l : Addr} {xs : List α} (k : KpO d H H') (kl : ∀ ys, H l = some (.lst ys) → H' l = some (.lst ys)) (h : LsAt R H l xs) : LsAt R H' l xs := by
  obtain ⟨as, e, hl, hr⟩ := h
  exact ⟨as, kl _ e, hl, fun i a x h1 h2 => L _ _ _ _ k (hr i a x h1 h2)⟩
theorem LsAt.kp {d : Ad} {α : Type} {R : Hp → Addr → α → Prop} (L : Lives d R) {H H' : Hp} {l : Addr} {xs : List α} (k : Kp H H') (h : LsAt R H l xs) : LsAt R H' l xs := h.keep L (.of k) fun ys e => k _ _ e rfl
theorem LsAt.nil {α : Type} {R : Hp → Addr → α → Prop} {H : Hp} {l : Addr} (h : H l = some (.lst [])) : LsAt R H l [] := ⟨[], h, rfl, fun i a x h1 _ => by simp at h1⟩
/-- one more at the end -/
theorem LsAt.snoc {d : Ad} {α : Type} {R : Hp → Addr → α → Prop} (L : Lives d R) {H H' : Hp} {l a : Addr} {as : List Addr} {xs : List α} {x : α} (e : H' l = some (.lst ((as ++ [a]).map V.ref))) (hl : as.length = xs.length)
    (hr : ∀ (i : Nat) (b : Addr) (y : α), as[i]? = some b → xs[i]? = some y → R H b y) (k : KpO d H H') (h : R H' a x) : LsAt R H' l (xs ++ [x]) := by
  refine ⟨as ++ [a], e, by simp [hl], fun i b y h1 h2 => ?_⟩
  by_cases hi : i < as.length
  · rw [List.getElem?_append_left hi] at h1
    rw [List.getElem?_append_left (by omega)] at h2
    exact L _ _ _ _ k (hr i b y h1 h2)
  · rw [List.getElem?_append_right (by omega)] at h1
    rw [List.getElem?_append_right (by omega)] at h2
    have h0 : i - as.length = 0 := by
      by_cases z : i - as.length = 0
      · exact z
      · rw [List.getElem?_eq_none (by simp; omega)] at h1
        cases h1
    have h0' : i - xs.length = 0 := by omega
    rw [h0] at h1
    rw [h0'] at h2
    cases h1
    cases h2
    exact h
/-- the fund at f: the orders' list at ol -/
structure FundAt (d : Ad) (H : Hp) (f ol : Addr) (s : Vbfuaf.State) : Prop where
  ex : ∃ dx tb ts po oc : Addr, H f = some (.ins d.fund dx (fundF s.value s.units tb ts po ol ((s.next : Int) - 1) oc)) ∧ LsAt (TierAt d) H tb s.buys ∧ LsAt (TierAt d) H ts s.sells ∧ PolAt d H po s.policy ∧
    LsAt (OrdAt d) H ol s.orders ∧ LsAt (OutAt d) H oc s.results ∧ ol ≠ tb ∧ ol ≠ ts ∧ ol ≠ oc
theorem FundAt.keep {d : Ad} (A : Apart d) {H H' : Hp} {f ol : Addr} {s : Vbfuaf.State} (k : Kp H H') (h : FundAt d H f ol s) : FundAt d H' f ol s := by
  obtain ⟨dx, tb, ts, po, oc, e, h1, h2, h3, h4, h5, h6⟩ := h.ex
  exact ⟨dx, tb, ts, po, oc, k _ _ e rfl, h1.kp (TierAt.lives A) k, h2.kp (TierAt.lives A) k, PolAt.lives A _ _ _ _ (.of k) h3, h4.kp (OrdAt.lives A) k, h5.kp (OutAt.lives A) k, h6⟩
end Fs
end
section
set_option Elab.async false
set_option linter.all false
set_option maxRecDepth 100000
set_option maxHeartbeats 2000000
/-! The text by places (printed from the linked program), and what is asked of the file's top. -/
namespace Fs
open PySem PySem.Spec PyProof.Rows L2
def top (i : Nat) : Stmt := PySem.Challenge.pw_fundswings_s01_answers.main.body.getD i (.Pass ⟨0, 0, 0, 0⟩)
abbrev s_rounded_up : Stmt := top 1
abbrev p_rounded_up : List Str := ["number", "divisor"]
abbrev n_rounded_up : List Str := ["number", "divisor"]
theorem sc_rounded_up : FnScope n_rounded_up p_rounded_up (defScope s_rounded_up) := ⟨rfl, rfl, rfl, by decide +kernel, rfl, by decide +kernel, by decide +kernel⟩
abbrev s_Policy_init : Stmt := inClass (top 3) 0
abbrev p_Policy_init : List Str := ["self", "mode", "fixed_in", "fixed_out", "factor", "threshold", "greatest"]
abbrev n_Policy_init : List Str := ["self", "mode", "fixed_in", "fixed_out", "factor", "threshold", "greatest"]
theorem sc_Policy_init : FnScope n_Policy_init p_Policy_init (defScope s_Policy_init) := ⟨rfl, rfl, rfl, by decide +kernel, rfl, by decide +kernel, by decide +kernel⟩
abbrev s_Order_init : Stmt := inClass (top 4) 0
abbrev p_Order_init : List Str := ["self", "number", "kind", "amount"]
abbrev n_Order_init : List Str := ["self", "number", "kind", "amount"]
theorem sc_Order_init : FnScope n_Order_init p_Order_init (defScope s_Order_init) := ⟨rfl, rfl, rfl, by decide +kernel, rfl, by decide +kernel, by decide +kernel⟩
abbrev s_Outcome_init : Stmt := inClass (top 5) 0
abbrev p_Outcome_init : List Str := ["self", "number", "levy", "money", "units"]
abbrev n_Outcome_init : List Str := ["self", "number", "levy", "money", "units"]
theorem sc_Outcome_init : FnScope n_Outcome_init p_Outcome_init (defScope s_Outcome_init) := ⟨rfl, rfl, rfl, by decide +kernel, rfl, by decide +kernel, by decide +kernel⟩
abbrev s_Fund_init : Stmt := inClass (top 6) 0
abbrev p_Fund_init : List Str := ["self", "value", "units"]
abbrev n_Fund_init : List Str := ["self", "value", "units"]
theorem sc_Fund_init : FnScope n_Fund_init p_Fund_init (defScope s_Fund_init) := ⟨rfl, rfl, rfl, by decide +kernel, rfl, by decide +kernel, by decide +kernel⟩
abbrev s_Fund_renew : Stmt := inClass (top 6) 1
abbrev p_Fund_renew : List Str := ["self", "value", "units"]
abbrev n_Fund_renew : List Str := ["self", "value", "units"]
theorem sc_Fund_renew : FnScope n_Fund_renew p_Fund_renew (defScope s_Fund_renew) := ⟨rfl, rfl, rfl, by decide +kernel, rfl, by decide +kernel, by decide +kernel⟩
abbrev s_Tier_init : Stmt := inClass (top 12) 0
abbrev p_Tier_init : List Str := ["self", "start", "rate"]
abbrev n_Tier_init : List Str := ["self", "start", "rate"]
theorem sc_Tier_init : FnScope n_Tier_init p_Tier_init (defScope s_Tier_init) := ⟨rfl, rfl, rfl, by decide +kernel, rfl, by decide +kernel, by decide +kernel⟩
abbrev s_tiers_of : Stmt := top 13
abbrev p_tiers_of : List Str := ["row"]
abbrev n_tiers_of : List Str := ["row", "tiers", "place", "tier"]
theorem sc_tiers_of : FnScope n_tiers_of p_tiers_of (defScope s_tiers_of) := ⟨rfl, rfl, rfl, by decide +kernel, rfl, by decide +kernel, by decide +kernel⟩
abbrev s_tier_within : Stmt := top 14
abbrev p_tier_within : List Str := ["tier"]
abbrev n_tier_within : List Str := ["tier"]
theorem sc_tier_within : FnScope n_tier_within p_tier_within (defScope s_tier_within) := ⟨rfl, rfl, rfl, by decide +kernel, rfl, by decide +kernel, by decide +kernel⟩
abbrev s_follows : Stmt := top 15
abbrev p_follows : List Str := ["before", "tier"]
abbrev n_follows : List Str := ["before", "tier"]
theorem sc_follows : FnScope n_follows p_follows (defScope s_follows) := ⟨rfl, rfl, rfl, by decide +kernel, rfl, by decide +kernel, by decide +kernel⟩
abbrev s_trading_cost : Stmt := top 16
abbrev p_trading_cost : List Str := ["tiers", "amount"]
abbrev n_trading_cost : List Str := ["tiers", "amount", "total", "place", "tier", "end"]
theorem sc_trading_cost : FnScope n_trading_cost p_trading_cost (defScope s_trading_cost) := ⟨rfl, rfl, rfl, by decide +kernel, rfl, by decide +kernel, by decide +kernel⟩
abbrev s_Prices_init : Stmt := inClass (top 26) 0
abbrev p_Prices_init : List Str := ["self", "fund", "swing_in", "swing_out"]
abbrev n_Prices_init : List Str := ["self", "fund", "swing_in", "swing_out"]
theorem sc_Prices_init : FnScope n_Prices_init p_Prices_init (defScope s_Prices_init) := ⟨rfl, rfl, rfl, by decide +kernel, rfl, by decide +kernel, by decide +kernel⟩
abbrev s_done : Stmt := top 27
abbrev p_done : List Str := ["order", "prices", "levy"]
abbrev n_done : List Str := ["order", "prices", "levy", "amount", "money", "units"]
theorem sc_done : FnScope n_done p_done (defScope s_done) := ⟨rfl, rfl, rfl, by decide +kernel, rfl, by decide +kernel, by decide +kernel⟩
abbrev s_outcomes_at : Stmt := top 28
abbrev p_outcomes_at : List Str := ["fund", "side", "swing"]
abbrev n_outcomes_at : List Str := ["fund", "side", "swing", "prices", "order"]
theorem sc_outcomes_at : FnScope n_outcomes_at p_outcomes_at (defScope s_outcomes_at) := ⟨rfl, rfl, rfl, by decide +kernel, rfl, by decide +kernel, by decide +kernel⟩
abbrev s_levied_outcomes : Stmt := top 29
abbrev p_levied_outcomes : List Str := ["fund", "levies"]
abbrev n_levied_outcomes : List Str := ["fund", "levies", "prices", "order", "levy"]
theorem sc_levied_outcomes : FnScope n_levied_outcomes p_levied_outcomes (defScope s_levied_outcomes) := ⟨rfl, rfl, rfl, by decide +kernel, rfl, by decide +kernel, by decide +kernel⟩
abbrev s_flow_of : Stmt := top 30
abbrev p_flow_of : List Str := ["outcomes"]
abbrev n_flow_of : List Str := ["outcomes", "outcome"]
theorem sc_flow_of : FnScope n_flow_of p_flow_of (defScope s_flow_of) := ⟨rfl, rfl, rfl, by decide +kernel, rfl, by decide +kernel, by decide +kernel⟩
abbrev s_units_of : Stmt := top 31
abbrev p_units_of : List Str := ["outcomes"]
abbrev n_units_of : List Str := ["outcomes", "outcome"]
theorem sc_units_of : FnScope n_units_of p_units_of (defScope s_units_of) := ⟨rfl, rfl, rfl, by decide +kernel, rfl, by decide +kernel, by decide +kernel⟩
abbrev s_cost_of : Stmt := top 32
abbrev p_cost_of : List Str := ["fund", "side", "outcomes"]
abbrev n_cost_of : List Str := ["fund", "side", "outcomes"]
theorem sc_cost_of : FnScope n_cost_of p_cost_of (defScope s_cost_of) := ⟨rfl, rfl, rfl, by decide +kernel, rfl, by decide +kernel, by decide +kernel⟩
abbrev s_kept_of : Stmt := top 33
abbrev p_kept_of : List Str := ["fund", "outcomes"]
abbrev n_kept_of : List Str := ["fund", "outcomes"]
theorem sc_kept_of : FnScope n_kept_of p_kept_of (defScope s_kept_of) := ⟨rfl, rfl, rfl, by decide +kernel, rfl, by decide +kernel, by decide +kernel⟩
abbrev s_covers : Stmt := top 35
abbrev p_covers : List Str := ["fund", "side", "swing"]
abbrev n_covers : List Str := ["fund", "side", "swing", "outcomes", "asked"]
theorem sc_covers : FnScope n_covers p_covers (defScope s_covers) := ⟨rfl, rfl, rfl, by decide +kernel, rfl, by decide +kernel, by decide +kernel⟩
abbrev s_found_swing : Stmt := top 36
abbrev p_found_swing : List Str := ["fund", "side"]
abbrev n_found_swing : List Str := ["fund", "side", "low", "high", "middle"]
theorem sc_found_swing : FnScope n_found_swing p_found_swing (defScope s_found_swing) := ⟨rfl, rfl, rfl, by decide +kernel, rfl, by decide +kernel, by decide +kernel⟩
abbrev s_lays_levies : Stmt := top 39
abbrev p_lays_levies : List Str := ["fund", "weighing"]
abbrev n_lays_levies : List Str := ["fund", "weighing"]
theorem sc_lays_levies : FnScope n_lays_levies p_lays_levies (defScope s_lays_levies) := ⟨rfl, rfl, rfl, by decide +kernel, rfl, by decide +kernel, by decide +kernel⟩
abbrev s_levies_of : Stmt := top 40
abbrev p_levies_of : List Str := ["fund", "weighing"]
abbrev n_levies_of : List Str := ["fund", "weighing", "order"]
theorem sc_levies_of : FnScope n_levies_of p_levies_of (defScope s_levies_of) := ⟨rfl, rfl, rfl, by decide +kernel, rfl, by decide +kernel, by decide +kernel⟩
abbrev s_weights_of : Stmt := top 41
abbrev p_weights_of : List Str := ["fund", "weighing"]
abbrev n_weights_of : List Str := ["fund", "weighing", "weights", "order", "outcome"]
theorem sc_weights_of : FnScope n_weights_of p_weights_of (defScope s_weights_of) := ⟨rfl, rfl, rfl, by decide +kernel, rfl, by decide +kernel, by decide +kernel⟩
abbrev s_side_of_order : Stmt := top 42
abbrev p_side_of_order : List Str := ["order"]
abbrev n_side_of_order : List Str := ["order"]
theorem sc_side_of_order : FnScope n_side_of_order p_side_of_order (defScope s_side_of_order) := ⟨rfl, rfl, rfl, by decide +kernel, rfl, by decide +kernel, by decide +kernel⟩
abbrev s_shared_out : Stmt := top 43
abbrev p_shared_out : List Str := ["coins", "weights"]
abbrev n_shared_out : List Str := ["coins", "weights", "whole", "shares", "weight", "remainders", "left", "ranked", "place"]
theorem sc_shared_out : FnScope n_shared_out p_shared_out (defScope s_shared_out) := ⟨rfl, rfl, rfl, by decide +kernel, rfl, by decide +kernel, by decide +kernel⟩
abbrev s_Weighing_init : Stmt := inClass (top 45) 0
abbrev p_Weighing_init : List Str := ["self", "fund"]
abbrev n_Weighing_init : List Str := ["self", "fund"]
theorem sc_Weighing_init : FnScope n_Weighing_init p_Weighing_init (defScope s_Weighing_init) := ⟨rfl, rfl, rfl, by decide +kernel, rfl, by decide +kernel, by decide +kernel⟩
abbrev s_side_of : Stmt := top 46
abbrev p_side_of : List Str := ["plain_flow"]
abbrev n_side_of : List Str := ["plain_flow"]
theorem sc_side_of : FnScope n_side_of p_side_of (defScope s_side_of) := ⟨rfl, rfl, rfl, by decide +kernel, rfl, by decide +kernel, by decide +kernel⟩
abbrev s_weighs_enough : Stmt := top 47
abbrev p_weighs_enough : List Str := ["fund", "plain_flow"]
abbrev n_weighs_enough : List Str := ["fund", "plain_flow"]
theorem sc_weighs_enough : FnScope n_weighs_enough p_weighs_enough (defScope s_weighs_enough) := ⟨rfl, rfl, rfl, by decide +kernel, rfl, by decide +kernel, by decide +kernel⟩
abbrev s_Point_init : Stmt := inClass (top 51) 0
abbrev p_Point_init : List Str := ["self", "fund", "side", "swing", "cost", "outcomes"]
abbrev n_Point_init : List Str := ["self", "fund", "side", "swing", "cost", "outcomes"]
theorem sc_Point_init : FnScope n_Point_init p_Point_init (defScope s_Point_init) := ⟨rfl, rfl, rfl, by decide +kernel, rfl, by decide +kernel, by decide +kernel⟩
abbrev s_point_of : Stmt := top 52
abbrev p_point_of : List Str := ["fund"]
abbrev n_point_of : List Str := ["fund", "weighing", "side", "cost", "swing", "outcomes"]
theorem sc_point_of : FnScope n_point_of p_point_of (defScope s_point_of) := ⟨rfl, rfl, rfl, by decide +kernel, rfl, by decide +kernel, by decide +kernel⟩
abbrev s_policy_swing : Stmt := top 53
abbrev p_policy_swing : List Str := ["fund", "side"]
abbrev n_policy_swing : List Str := ["fund", "side", "policy"]
theorem sc_policy_swing : FnScope n_policy_swing p_policy_swing (defScope s_policy_swing) := ⟨rfl, rfl, rfl, by decide +kernel, rfl, by decide +kernel, by decide +kernel⟩
abbrev s_lacking_of : Stmt := top 54
abbrev p_lacking_of : List Str := ["fund", "cost", "outcomes"]
abbrev n_lacking_of : List Str := ["fund", "cost", "outcomes"]
theorem sc_lacking_of : FnScope n_lacking_of p_lacking_of (defScope s_lacking_of) := ⟨rfl, rfl, rfl, by decide +kernel, rfl, by decide +kernel, by decide +kernel⟩
abbrev s_all_within : Stmt := top 73
abbrev p_all_within : List Str := ["numbers", "ranges"]
abbrev n_all_within : List Str := ["numbers", "ranges", "number", "bounds"]
theorem sc_all_within : FnScope n_all_within p_all_within (defScope s_all_within) := ⟨rfl, rfl, rfl, by decide +kernel, rfl, by decide +kernel, by decide +kernel⟩
abbrev s_one_if : Stmt := top 74
abbrev p_one_if : List Str := ["truth"]
abbrev n_one_if : List Str := ["truth"]
theorem sc_one_if : FnScope n_one_if p_one_if (defScope s_one_if) := ⟨rfl, rfl, rfl, by decide +kernel, rfl, by decide +kernel, by decide +kernel⟩
abbrev s_begin : Stmt := top 75
abbrev p_begin : List Str := ["fund", "numbers"]
abbrev n_begin : List Str := ["fund", "numbers"]
theorem sc_begin : FnScope n_begin p_begin (defScope s_begin) := ⟨rfl, rfl, rfl, by decide +kernel, rfl, by decide +kernel, by decide +kernel⟩
abbrev s_buys : Stmt := top 76
abbrev p_buys : List Str := ["fund", "row"]
abbrev n_buys : List Str := ["fund", "row", "tiers"]
theorem sc_buys : FnScope n_buys p_buys (defScope s_buys) := ⟨rfl, rfl, rfl, by decide +kernel, rfl, by decide +kernel, by decide +kernel⟩
abbrev s_sells : Stmt := top 77
abbrev p_sells : List Str := ["fund", "row"]
abbrev n_sells : List Str := ["fund", "row", "tiers"]
theorem sc_sells : FnScope n_sells p_sells (defScope s_sells) := ⟨rfl, rfl, rfl, by decide +kernel, rfl, by decide +kernel, by decide +kernel⟩
abbrev s_policy : Stmt := top 78
abbrev p_policy : List Str := ["fund", "numbers"]
abbrev n_policy : List Str := ["fund", "numbers"]
theorem sc_policy : FnScope n_policy p_policy (defScope s_policy) := ⟨rfl, rfl, rfl, by decide +kernel, rfl, by decide +kernel, by decide +kernel⟩
abbrev s_order : Stmt := top 79
abbrev p_order : List Str := ["fund", "numbers"]
abbrev n_order : List Str := ["fund", "numbers"]
theorem sc_order : FnScope n_order p_order (defScope s_order) := ⟨rfl, rfl, rfl, by decide +kernel, rfl, by decide +kernel, by decide +kernel⟩
abbrev s_withdraw : Stmt := top 80
abbrev p_withdraw : List Str := ["fund", "numbers"]
abbrev n_withdraw : List Str := ["fund", "numbers", "others", "each"]
theorem sc_withdraw : FnScope n_withdraw p_withdraw (defScope s_withdraw) := ⟨rfl, rfl, rfl, by decide +kernel, rfl, by decide +kernel, by decide +kernel⟩
abbrev s_result : Stmt := top 81
abbrev p_result : List Str := ["fund", "numbers"]
abbrev n_result : List Str := ["fund", "numbers", "value"]
theorem sc_result : FnScope n_result p_result (defScope s_result) := ⟨rfl, rfl, rfl, by decide +kernel, rfl, by decide +kernel, by decide +kernel⟩
abbrev s_point : Stmt := top 82
abbrev p_point : List Str := ["fund", "numbers"]
abbrev n_point : List Str := ["fund", "numbers", "dealt"]
theorem sc_point : FnScope n_point p_point (defScope s_point) := ⟨rfl, rfl, rfl, by decide +kernel, rfl, by decide +kernel, by decide +kernel⟩
abbrev s_try_at : Stmt := top 83
abbrev p_try_at : List Str := ["fund", "numbers"]
abbrev n_try_at : List Str := ["fund", "numbers", "swing", "side", "outcomes", "covering"]
theorem sc_try_at : FnScope n_try_at p_try_at (defScope s_try_at) := ⟨rfl, rfl, rfl, by decide +kernel, rfl, by decide +kernel, by decide +kernel⟩
abbrev s_found : Stmt := top 84
abbrev p_found : List Str := ["fund", "numbers"]
abbrev n_found : List Str := ["fund", "numbers", "weighing", "swing"]
theorem sc_found : FnScope n_found p_found (defScope s_found) := ⟨rfl, rfl, rfl, by decide +kernel, rfl, by decide +kernel, by decide +kernel⟩
abbrev s_cost : Stmt := top 85
abbrev p_cost : List Str := ["fund", "numbers"]
abbrev n_cost : List Str := ["fund", "numbers", "tiers"]
theorem sc_cost : FnScope n_cost p_cost (defScope s_cost) := ⟨rfl, rfl, rfl, by decide +kernel, rfl, by decide +kernel, by decide +kernel⟩
abbrev s_outcome : Stmt := top 86
abbrev p_outcome : List Str := ["fund", "numbers"]
abbrev n_outcome : List Str := ["fund", "numbers", "each"]
theorem sc_outcome : FnScope n_outcome p_outcome (defScope s_outcome) := ⟨rfl, rfl, rfl, by decide +kernel, rfl, by decide +kernel, by decide +kernel⟩
abbrev s_orders : Stmt := top 87
abbrev p_orders : List Str := ["fund", "numbers"]
abbrev n_orders : List Str := ["fund", "numbers", "told", "each"]
theorem sc_orders : FnScope n_orders p_orders (defScope s_orders) := ⟨rfl, rfl, rfl, by decide +kernel, rfl, by decide +kernel, by decide +kernel⟩
abbrev s_fund_now : Stmt := top 88
abbrev p_fund_now : List Str := ["fund", "numbers"]
abbrev n_fund_now : List Str := ["fund", "numbers"]
theorem sc_fund_now : FnScope n_fund_now p_fund_now (defScope s_fund_now) := ⟨rfl, rfl, rfl, by decide +kernel, rfl, by decide +kernel, by decide +kernel⟩
abbrev s_flow : Stmt := top 89
abbrev p_flow : List Str := ["fund", "numbers"]
abbrev n_flow : List Str := ["fund", "numbers", "weighing"]
theorem sc_flow : FnScope n_flow p_flow (defScope s_flow) := ⟨rfl, rfl, rfl, by decide +kernel, rfl, by decide +kernel, by decide +kernel⟩
abbrev s_weights : Stmt := top 90
abbrev p_weights : List Str := ["fund", "numbers"]
abbrev n_weights : List Str := ["fund", "numbers", "weighing", "told", "weight", "levy"]
theorem sc_weights : FnScope n_weights p_weights (defScope s_weights) := ⟨rfl, rfl, rfl, by decide +kernel, rfl, by decide +kernel, by decide +kernel⟩
abbrev s_answer_of : Stmt := top 92
abbrev p_answer_of : List Str := ["fund", "call", "numbers"]
abbrev n_answer_of : List Str := ["fund", "call", "numbers"]
theorem sc_answer_of : FnScope n_answer_of p_answer_of (defScope s_answer_of) := ⟨rfl, rfl, rfl, by decide +kernel, rfl, by decide +kernel, by decide +kernel⟩
abbrev s_answers : Stmt := top 98
abbrev p_answers : List Str := ["calls"]
abbrev n_answers : List Str := ["calls", "fund", "told", "place", "call", "start", "end", "answer"]
theorem sc_answers : FnScope n_answers p_answers (defScope s_answers) := ⟨rfl, rfl, rfl, by decide +kernel, rfl, by decide +kernel, by decide +kernel⟩
abbrev s_numbers_start : Stmt := top 99
abbrev p_numbers_start : List Str := ["call", "place"]
abbrev n_numbers_start : List Str := ["call", "place"]
theorem sc_numbers_start : FnScope n_numbers_start p_numbers_start (defScope s_numbers_start) := ⟨rfl, rfl, rfl, by decide +kernel, rfl, by decide +kernel, by decide +kernel⟩
abbrev s_numbers_count : Stmt := top 100
abbrev p_numbers_count : List Str := ["calls", "place"]
abbrev n_numbers_count : List Str := ["calls", "place"]
theorem sc_numbers_count : FnScope n_numbers_count p_numbers_count (defScope s_numbers_count) := ⟨rfl, rfl, rfl, by decide +kernel, rfl, by decide +kernel, by decide +kernel⟩
/-- a def of the file's top -/
def Dfn (K : PySem.W.Frag) (mg : Str → Option Value) (x : Str) (st : Stmt) (ps : List Str) : Prop := ∃ (f : Addr) (fd : FuncData), Fun K x x st f fd ∧ mg x = some (.ref f) ∧ Binds K fd ps []
theorem Dfn.cal {P : Program} {w : World} {K : PySem.W.Frag} {mg : Str → Option Value} {base : Heap} {x : Str} {st : Stmt} {ps : List Str} {k : Nat} {sp : Sp} (D : Dfn K mg x st ps)
    (h : ∀ f fd, Fun K x x st f fd → FnOk P w K mg base CX0 k f fd ps sp) : Cal P w K mg base x k ps sp := by
  obtain ⟨f, fd, F, hm, hb⟩ := D
  exact ⟨f, fd, h f fd F, hm, F.kp, hb⟩
/-- a class of the file's top, with its __init__ -/
def Kfn (K : PySem.W.Frag) (mg : Str → Option Value) (x q : Str) (C : Addr) (st : Stmt) (ps : List Str) : Prop := ∃ (f : Addr) (fd : FuncData), Mk K C f ∧ Fun K "__init__" q st f fd ∧ mg x = some (.ref C) ∧ Binds K fd ps []
theorem Kfn.kls {P : Program} {w : World} {K : PySem.W.Frag} {mg : Str → Option Value} {base : Heap} {x q : Str} {C : Addr} {st : Stmt} {ps : List Str} {k : Nat} {sp : Sp} (D : Kfn K mg x q C st ps)
    (h : ∀ f fd, Fun K "__init__" q st f fd → FnOk P w K mg base CX0 k f fd ps sp) : Kls P w K mg base x C k ps sp := by
  obtain ⟨f, fd, M, F, hm, hb⟩ := D
  exact ⟨f, fd, M, h f fd F, hm, hb⟩
/-- a method of a class -/
def Mfn (K : PySem.W.Frag) (m q : Str) (C : Addr) (st : Stmt) (ps : List Str) : Prop := ∃ (f : Addr) (fd : FuncData), Cls K C ∧ Meth K C m f ∧ Fun K m q st f fd ∧ Binds K fd ps []
theorem Mfn.mth {P : Program} {w : World} {K : PySem.W.Frag} {mg : Str → Option Value} {base : Heap} {m q : Str} {C : Addr} {st : Stmt} {ps : List Str} {k : Nat} {sp : Sp} (D : Mfn K m q C st ps)
    (h : ∀ f fd, Fun K m q st f fd → FnOk P w K mg base CX0 k f fd ps sp) : Mth P w K mg base C m k ps sp := by
  obtain ⟨f, fd, c, M, F, hb⟩ := D
  exact ⟨f, fd, c, M, h f fd F, hb⟩
structure Txt (K : PySem.W.Frag) (mg : Str → Option Value) (d : Ad) : Prop where
  ap : Apart d
  n_abs : mg "abs" = none
  n_enumerate : mg "enumerate" = none
  n_len : mg "len" = none
  n_max : mg "max" = none
  n_min : mg "min" = none
  n_range : mg "range" = none
  n_sorted : mg "sorted" = none
  n_sum : mg "sum" = none
  n_zip : mg "zip" = none
  c_MOST_TIERS : CInt mg "MOST_TIERS" 6
  c_GREATEST_FROM : CInt mg "GREATEST_FROM" 1000000000000
  c_GREATEST_RATE : CInt mg "GREATEST_RATE" 1000000
  c_RATE_WHOLE : CInt mg "RATE_WHOLE" 1000000
  c_MONEY_IN : CInt mg "MONEY_IN" 0
  c_UNITS_IN : CInt mg "UNITS_IN" 1
  c_UNITS_OUT : CInt mg "UNITS_OUT" 2
  c_NEITHER : CInt mg "NEITHER" 0
  c_SIDE_IN : CInt mg "SIDE_IN" 1
  c_SIDE_OUT : CInt mg "SIDE_OUT" 2
  c_SWING_WHOLE : CInt mg "SWING_WHOLE" 10000
  c_MILLION : CInt mg "MILLION" 1000000
  c_MODE_LEVIES : CInt mg "MODE_LEVIES" 3
  c_MODE_FIXED : CInt mg "MODE_FIXED" 1
  c_MODE_FOUND : CInt mg "MODE_FOUND" 2
  c_NOT_WITHIN : CInt mg "NOT_WITHIN" (-1)
  c_NOT_THE_FORM : CInt mg "NOT_THE_FORM" (-2)
  c_NOT_THERE : CInt mg "NOT_THERE" (-4)
  c_NO_ORDERS : CInt mg "NO_ORDERS" (-6)
  c_TOO_LITTLE : CInt mg "TOO_LITTLE" (-7)
  c_TOO_MUCH : CInt mg "TOO_MUCH" (-8)
  c_MOST_ORDERS : CInt mg "MOST_ORDERS" 40
  c_GREATEST_VALUE : CInt mg "GREATEST_VALUE" 1000000000000
  c_GREATEST_UNITS : CInt mg "GREATEST_UNITS" 1000000000000000000
  c_FIRST_VALUE : CInt mg "FIRST_VALUE" 1000000
  c_FIRST_UNITS : CInt mg "FIRST_UNITS" 1000000
  k_Policy : Cls K d.pol
  a_Policy_mode : NoAttr K d.pol "mode"
  a_Policy_fixed_in : NoAttr K d.pol "fixed_in"
  a_Policy_fixed_out : NoAttr K d.pol "fixed_out"
  a_Policy_factor : NoAttr K d.pol "factor"
  a_Policy_threshold : NoAttr K d.pol "threshold"
  a_Policy_greatest : NoAttr K d.pol "greatest"
  k_Order : Cls K d.ord
  a_Order_number : NoAttr K d.ord "number"
  a_Order_kind : NoAttr K d.ord "kind"
  a_Order_amount : NoAttr K d.ord "amount"
  k_Outcome : Cls K d.out
  a_Outcome_number : NoAttr K d.out "number"
  a_Outcome_levy : NoAttr K d.out "levy"
  a_Outcome_money : NoAttr K d.out "money"
  a_Outcome_units : NoAttr K d.out "units"
  k_Fund : Cls K d.fund
  a_Fund_value : NoAttr K d.fund "value"
  a_Fund_units : NoAttr K d.fund "units"
  a_Fund_buy_tiers : NoAttr K d.fund "buy_tiers"
  a_Fund_sell_tiers : NoAttr K d.fund "sell_tiers"
  a_Fund_policy : NoAttr K d.fund "policy"
  a_Fund_orders : NoAttr K d.fund "orders"
  a_Fund_last_number : NoAttr K d.fund "last_number"
  a_Fund_outcomes : NoAttr K d.fund "outcomes"
  k_Tier : Cls K d.tier
  a_Tier_start : NoAttr K d.tier "start"
  a_Tier_rate : NoAttr K d.tier "rate"
  k_Prices : Cls K d.pri
  a_Prices_going_in : NoAttr K d.pri "going_in"
  a_Prices_going_out : NoAttr K d.pri "going_out"
  a_Prices_over : NoAttr K d.pri "over"
  k_Weighing : Cls K d.wei
  a_Weighing_plain : NoAttr K d.wei "plain"
  a_Weighing_flow : NoAttr K d.wei "flow"
  a_Weighing_side : NoAttr K d.wei "side"
  a_Weighing_enough : NoAttr K d.wei "enough"
  k_Point : Cls K d.poi
  a_Point_side : NoAttr K d.poi "side"
  a_Point_swing : NoAttr K d.poi "swing"
  a_Point_cost : NoAttr K d.poi "cost"
  a_Point_outcomes : NoAttr K d.poi "outcomes"
  a_Point_lacking : NoAttr K d.poi "lacking"
  a_Point_value : NoAttr K d.poi "value"
  a_Point_units : NoAttr K d.poi "units"
end Fs
end
section
set_option Elab.async false
set_option linter.all false
set_option maxRecDepth 100000
set_option maxHeartbeats 2000000
/-! The one table of codes that grows: a lambda is made in shared_out. -/
namespace Fs
open PySem PySem.Spec PyProof.Rows L2
def asgVal : Stmt → Expr
  | .Assign _ v _ => v
  | _ => .Constant .none 0 ⟨0, 0, 0, 0⟩
def kwVal : Expr → Expr
  | .Call _ _ (k :: _) _ => k.value
  | _ => .Constant .none 0 ⟨0, 0, 0, 0⟩
def lamE : Expr := kwVal (asgVal ((defBody s_shared_out).getD 4 (.Pass ⟨0, 0, 0, 0⟩)))
def lamPos : Pos := match lamE with
  | .Lambda _ _ _ p => p
  | _ => ⟨0, 0, 0, 0⟩
def lamArgs : Arguments := match lamE with
  | .Lambda a _ _ _ => a
  | _ => defArgs (.Pass ⟨0, 0, 0, 0⟩)
def lamBody : Expr := match lamE with
  | .Lambda _ b _ _ => b
  | e => e
def lamScope : Scope := match lamE with
  | .Lambda _ _ s _ => s
  | _ => defScope (.Pass ⟨0, 0, 0, 0⟩)
def lamQual : Str := "shared_out.<locals>.<lambda>"
/-- the code record of the lambda, once it's made -/
def codeX (c : Addr) : HO := .ext fun h => h.CodeRec (.ref c) lamQual
/-- the table as it may stand -/
def TabOk (d : Ad) (H : Hp) : Prop := ∃ ps : Array Value, H d.tab = some (.tbl ps) ∧ TriplesOk ps.toList ∧
  (codeAmong lamPos ps.toList = none ∨ ∃ c, codeAmong lamPos ps.toList = some (.ref c) ∧ H c = some (codeX c))
/-- what a call leaves: all that was tracked, and the table as it may stand -/
structure Gr (d : Ad) (H H' : Hp) : Prop where
  kp : Kp H H'
  tab : TabOk d H → TabOk d H'
  fr : ∀ l, H' l = none → H l = none
section
variable {d : Ad} {H H1 H2 : Hp}
theorem TabOk.same (s : Same H H1) (t : TabOk d H) : TabOk d H1 := by
  obtain ⟨ps, e, h1, h2⟩ := t
  refine ⟨ps, s _ _ e, h1, ?_⟩
  rcases h2 with h2 | ⟨c, e1, e2⟩
  · exact .inl h2
  · exact .inr ⟨c, e1, s _ _ e2⟩
theorem Gr.of (s : Same H H1) : Gr d H H1 := ⟨.of s, fun t => t.same s, fun _ e => s.free e⟩
theorem Gr.refl (H : Hp) : Gr d H H := .of (Same.refl H)
theorem Gr.trans (a : Gr d H H1) (b : Gr d H1 H2) : Gr d H H2 := ⟨a.kp.trans b.kp, fun t => b.tab (a.tab t), fun l e => a.fr l (b.fr l e)⟩
/-- another object is written: no table, no code -/
theorem TabOk.upd {p : Addr} {o o' : HO} (h : H p = some o) (h1 : isTbl o = false) (h2 : ∀ φ, o ≠ .ext φ) (t : TabOk d H) : TabOk d (upd H p o') := by
  obtain ⟨ps, e, q1, q2⟩ := t
  refine ⟨ps, ?_, q1, ?_⟩
  · rw [upd_ne (ne_of e h (by intro z; rw [← z] at h1; cases h1))]
    exact e
  · rcases q2 with q2 | ⟨c, e1, e2⟩
    · exact .inl q2
    · refine .inr ⟨c, e1, ?_⟩
      rw [upd_ne (ne_of e2 h (by intro z; exact h2 _ z.symm))]
      exact e2
end
end Fs
end
section
set_option Elab.async false
set_option linter.all false
set_option maxRecDepth 100000
set_option maxHeartbeats 2000000
namespace Fs
open PySem PySem.Spec PyProof.Rows L2
theorem ifB {p : Bool} {A B : Prop} (h1 : p = true → A) (h2 : p = false → B) : if p = true then A else B := by
  cases p with
  | true => rw [if_pos rfl]; exact h1 rfl
  | false => rw [if_neg Bool.false_ne_true]; exact h2 rfl
section
variable {P : Program} {w : World} {K : PySem.W.Frag} {mg : Str → Option Value} {base : Heap} {d : Ad}
/-! ### rounded_up -/
def spUp : Sp := fun vs H Q _ => ∃ n b : Int, vs = [.int n, .int b] ∧ 0 < b ∧ Bg b ∧ Q (.int (-(-n / b))) H
theorem c_rounded_up (D : Dfn K mg "rounded_up" s_rounded_up p_rounded_up) : Cal P w K mg base "rounded_up" 1 p_rounded_up spUp := D.cal fun f fd F => by
  refine F.ok sc_rounded_up (fun vs H Q E h => ?_) (fun cdv A outer s H vs Q E hr h => ?_)
  · obtain ⟨n, b, rfl, _⟩ := h
    rfl
  · obtain ⟨n, b, rfl, h1, h2, k⟩ := h
    refine ⟨_, pss_one (ps_ret (pe_un un_neg (pe_op op_fdivB (pe_un un_neg (pv 0)) (pv 1)))), ?_⟩
    exact ⟨_, rfl, _, rfl, _, rfl, _, _, rfl, rfl, ⟨h1, h2⟩, _, rfl, k⟩
/-! ### a tier's look -/
def spWithin (d : Ad) : Sp := fun vs H Q _ => ∃ (x dx : Addr) (a r : Int), vs = [.ref x] ∧ H x = some (.ins d.tier dx (tierF a r)) ∧ Q (.bl (okP (a, r))) H
theorem c_tier_within (T : Txt K mg d) (D : Dfn K mg "tier_within" s_tier_within p_tier_within) : Cal P w K mg base "tier_within" 1 p_tier_within (spWithin d) := D.cal fun f fd F => by
  refine F.ok sc_tier_within (fun vs H Q E h => ?_) (fun cdv A outer s H vs Q E hr h => ?_)
  · obtain ⟨x, dx, a, r, rfl, _⟩ := h
    rfl
  · obtain ⟨x, dx, a, r, rfl, hx, k⟩ := h
    refine ⟨_, pss_one (ps_ret (pe_and (pe_chain op_le op_le pe_int (pe_fld (pv 0) rfl) (gk T.c_GREATEST_FROM)) (pe_one (pe_chain op_le op_le pe_int (pe_fld (pv 0) rfl) (gk T.c_GREATEST_RATE))))), ?_⟩
    have e : okP (a, r) = ((decide (0 ≤ a) && decide (a ≤ 1000000000000)) && (decide (0 ≤ r) && decide (r ≤ 1000000))) := rfl
    rw [e] at k
    refine ⟨_, rfl, x, _, dx, _, _, rfl, hx, T.k_Tier, T.a_Tier_start, tierF_start a r, _, _, rfl, rfl, _, rfl, ifB (fun h1 => ?_) fun h1 => ?_⟩
    · refine ⟨_, _, rfl, rfl, _, rfl, ifB (fun h2 => ?_) fun h2 => ?_⟩
      · refine ⟨_, rfl, x, _, dx, _, _, rfl, hx, T.k_Tier, T.a_Tier_rate, tierF_rate a r, _, _, rfl, rfl, _, rfl, ifB (fun h3 => ?_) fun h3 => ?_⟩
        · refine ⟨_, _, rfl, rfl, ?_⟩
          rw [h1, h2, h3] at k
          simpa using k
        · rw [h1, h2, h3] at k
          exact k
      · rw [h1, h2] at k
        exact k
    · refine ⟨_, rfl, ?_⟩
      rw [if_neg Bool.false_ne_true]
      rw [h1] at k
      exact k
end
end Fs
end
section
set_option Elab.async false
set_option linter.all false
set_option maxRecDepth 100000
set_option maxHeartbeats 2000000
namespace Fs
open PySem PySem.Spec PyProof.Rows L2
theorem len_put {f : Str} {v : V} {fs : List (Str × V)} {k : Nat} (h : fs.length ≤ k) : (putF f v fs).length ≤ k + 1 := Nat.le_trans (length_putF f v fs) (Nat.succ_le_succ h)
section
variable {P : Program} {w : World} {K : PySem.W.Frag} {mg : Str → Option Value} {base : Heap} {d : Ad}
/-! ### Policy.__init__ -/
def polFs : List V → List (Str × V)
  | [.int a0, .int a1, .int a2, .int a3, .int a4, .int a5] => polF a0 a1 a2 a3 a4 a5
  | _ => []
def polPre (as : List V) (_ : Hp) : Prop := ∃ a0 a1 a2 a3 a4 a5 : Int, as = [.int a0, .int a1, .int a2, .int a3, .int a4, .int a5]
theorem m_Policy {q : Str} (T : Txt K mg d) (D : Kfn K mg "Policy" q d.pol s_Policy_init p_Policy_init) : Kls P w K mg base "Policy" d.pol 1 p_Policy_init (spNew d.pol polPre polFs) := D.kls fun f fd F => by
  refine F.ok sc_Policy_init (fun vs H Q E h => ?_) (fun cdv A outer s H vs Q E hr h => ?_)
  · obtain ⟨x, dx, as, rfl, _, ⟨a0, a1, a2, a3, a4, a5, rfl⟩, _⟩ := h
    rfl
  · obtain ⟨x, dx, as, rfl, hx, ⟨a0, a1, a2, a3, a4, a5, rfl⟩, k⟩ := h
    refine ⟨_, (pss_cons (ps_fld (pv 0) (pv 1) rfl) (pss_cons (ps_fld (pv 0) (pv 2) rfl) (pss_cons (ps_fld (pv 0) (pv 3) rfl) (pss_cons (ps_fld (pv 0) (pv 4) rfl) (pss_cons (ps_fld (pv 0) (pv 5) rfl) (pss_one (ps_fld (pv 0) (pv 6) rfl))))))), ?_⟩
    refine ⟨_, rfl, _, rfl, x, d.pol, dx, _, rfl, hx, T.k_Policy, T.a_Policy_mode, (Nat.zero_lt_succ _),
      _, rfl, _, rfl, x, d.pol, dx, _, rfl, upd_same, T.k_Policy, T.a_Policy_fixed_in, (Nat.lt_of_le_of_lt (len_put (Nat.zero_le _ : ([] : List (Str × V)).length ≤ 0)) (by decide)),
      _, rfl, _, rfl, x, d.pol, dx, _, rfl, upd_same, T.k_Policy, T.a_Policy_fixed_out, (Nat.lt_of_le_of_lt (len_put (len_put (Nat.zero_le _ : ([] : List (Str × V)).length ≤ 0))) (by decide)),
      _, rfl, _, rfl, x, d.pol, dx, _, rfl, upd_same, T.k_Policy, T.a_Policy_factor, (Nat.lt_of_le_of_lt (len_put (len_put (len_put (Nat.zero_le _ : ([] : List (Str × V)).length ≤ 0)))) (by decide)),
      _, rfl, _, rfl, x, d.pol, dx, _, rfl, upd_same, T.k_Policy, T.a_Policy_threshold, (Nat.lt_of_le_of_lt (len_put (len_put (len_put (len_put (Nat.zero_le _ : ([] : List (Str × V)).length ≤ 0))))) (by decide)),
      _, rfl, _, rfl, x, d.pol, dx, _, rfl, upd_same, T.k_Policy, T.a_Policy_greatest, (Nat.lt_of_le_of_lt (len_put (len_put (len_put (len_put (len_put (Nat.zero_le _ : ([] : List (Str × V)).length ≤ 0)))))) (by decide)), ?_⟩
    exact k _ (fun b o e hb => by rw [upd_ne hb, upd_ne hb, upd_ne hb, upd_ne hb, upd_ne hb, upd_ne hb]; exact e) (by rw [upd_same, polF_put]; rfl)
/-! ### Order.__init__ -/
def ordFs : List V → List (Str × V)
  | [.int a0, .int a1, .int a2] => ordF a0 a1 a2
  | _ => []
def ordPre (as : List V) (_ : Hp) : Prop := ∃ a0 a1 a2 : Int, as = [.int a0, .int a1, .int a2]
theorem m_Order {q : Str} (T : Txt K mg d) (D : Kfn K mg "Order" q d.ord s_Order_init p_Order_init) : Kls P w K mg base "Order" d.ord 1 p_Order_init (spNew d.ord ordPre ordFs) := D.kls fun f fd F => by
  refine F.ok sc_Order_init (fun vs H Q E h => ?_) (fun cdv A outer s H vs Q E hr h => ?_)
  · obtain ⟨x, dx, as, rfl, _, ⟨a0, a1, a2, rfl⟩, _⟩ := h
    rfl
  · obtain ⟨x, dx, as, rfl, hx, ⟨a0, a1, a2, rfl⟩, k⟩ := h
    refine ⟨_, (pss_cons (ps_fld (pv 0) (pv 1) rfl) (pss_cons (ps_fld (pv 0) (pv 2) rfl) (pss_one (ps_fld (pv 0) (pv 3) rfl)))), ?_⟩
    refine ⟨_, rfl, _, rfl, x, d.ord, dx, _, rfl, hx, T.k_Order, T.a_Order_number, (Nat.zero_lt_succ _),
      _, rfl, _, rfl, x, d.ord, dx, _, rfl, upd_same, T.k_Order, T.a_Order_kind, (Nat.lt_of_le_of_lt (len_put (Nat.zero_le _ : ([] : List (Str × V)).length ≤ 0)) (by decide)),
      _, rfl, _, rfl, x, d.ord, dx, _, rfl, upd_same, T.k_Order, T.a_Order_amount, (Nat.lt_of_le_of_lt (len_put (len_put (Nat.zero_le _ : ([] : List (Str × V)).length ≤ 0))) (by decide)), ?_⟩
    exact k _ (fun b o e hb => by rw [upd_ne hb, upd_ne hb, upd_ne hb]; exact e) (by rw [upd_same, ordF_put]; rfl)
/-! ### Outcome.__init__ -/
def outFs : List V → List (Str × V)
  | [.int a0, .int a1, .int a2, .int a3] => outF a0 a1 a2 a3
  | _ => []
def outPre (as : List V) (_ : Hp) : Prop := ∃ a0 a1 a2 a3 : Int, as = [.int a0, .int a1, .int a2, .int a3]
theorem m_Outcome {q : Str} (T : Txt K mg d) (D : Kfn K mg "Outcome" q d.out s_Outcome_init p_Outcome_init) : Kls P w K mg base "Outcome" d.out 1 p_Outcome_init (spNew d.out outPre outFs) := D.kls fun f fd F => by
  refine F.ok sc_Outcome_init (fun vs H Q E h => ?_) (fun cdv A outer s H vs Q E hr h => ?_)
  · obtain ⟨x, dx, as, rfl, _, ⟨a0, a1, a2, a3, rfl⟩, _⟩ := h
    rfl
  · obtain ⟨x, dx, as, rfl, hx, ⟨a0, a1, a2, a3, rfl⟩, k⟩ := h
    refine ⟨_, (pss_cons (ps_fld (pv 0) (pv 1) rfl) (pss_cons (ps_fld (pv 0) (pv 2) rfl) (pss_cons (ps_fld (pv 0) (pv 3) rfl) (pss_one (ps_fld (pv 0) (pv 4) rfl))))), ?_⟩
    refine ⟨_, rfl, _, rfl, x, d.out, dx, _, rfl, hx, T.k_Outcome, T.a_Outcome_number, (Nat.zero_lt_succ _),
      _, rfl, _, rfl, x, d.out, dx, _, rfl, upd_same, T.k_Outcome, T.a_Outcome_levy, (Nat.lt_of_le_of_lt (len_put (Nat.zero_le _ : ([] : List (Str × V)).length ≤ 0)) (by decide)),
      _, rfl, _, rfl, x, d.out, dx, _, rfl, upd_same, T.k_Outcome, T.a_Outcome_money, (Nat.lt_of_le_of_lt (len_put (len_put (Nat.zero_le _ : ([] : List (Str × V)).length ≤ 0))) (by decide)),
      _, rfl, _, rfl, x, d.out, dx, _, rfl, upd_same, T.k_Outcome, T.a_Outcome_units, (Nat.lt_of_le_of_lt (len_put (len_put (len_put (Nat.zero_le _ : ([] : List (Str × V)).length ≤ 0)))) (by decide)), ?_⟩
    exact k _ (fun b o e hb => by rw [upd_ne hb, upd_ne hb, upd_ne hb, upd_ne hb]; exact e) (by rw [upd_same, outF_put]; rfl)
/-! ### Tier.__init__ -/
def tierFs : List V → List (Str × V)
  | [.int a0, .int a1] => tierF a0 a1
  | _ => []
def tierPre (as : List V) (_ : Hp) : Prop := ∃ a0 a1 : Int, as = [.int a0, .int a1]
theorem m_Tier {q : Str} (T : Txt K mg d) (D : Kfn K mg "Tier" q d.tier s_Tier_init p_Tier_init) : Kls P w K mg base "Tier" d.tier 1 p_Tier_init (spNew d.tier tierPre tierFs) := D.kls fun f fd F => by
  refine F.ok sc_Tier_init (fun vs H Q E h => ?_) (fun cdv A outer s H vs Q E hr h => ?_)
  · obtain ⟨x, dx, as, rfl, _, ⟨a0, a1, rfl⟩, _⟩ := h
    rfl
  · obtain ⟨x, dx, as, rfl, hx, ⟨a0, a1, rfl⟩, k⟩ := h
    refine ⟨_, (pss_cons (ps_fld (pv 0) (pv 1) rfl) (pss_one (ps_fld (pv 0) (pv 2) rfl))), ?_⟩
    refine ⟨_, rfl, _, rfl, x, d.tier, dx, _, rfl, hx, T.k_Tier, T.a_Tier_start, (Nat.zero_lt_succ _),
      _, rfl, _, rfl, x, d.tier, dx, _, rfl, upd_same, T.k_Tier, T.a_Tier_rate, (Nat.lt_of_le_of_lt (len_put (Nat.zero_le _ : ([] : List (Str × V)).length ≤ 0)) (by decide)), ?_⟩
    exact k _ (fun b o e hb => by rw [upd_ne hb, upd_ne hb]; exact e) (by rw [upd_same, tierF_put]; rfl)
/-! ### follows -/
def spFollows (d : Ad) : Sp := fun vs H Q _ => ∃ (x dx y dy : Addr) (a r b q : Int), vs = [.ref x, .ref y] ∧ H x = some (.ins d.tier dx (tierF a r)) ∧ H y = some (.ins d.tier dy (tierF b q)) ∧ Q (.bl (folP (a, r) (b, q))) H
theorem c_follows (T : Txt K mg d) (D : Dfn K mg "follows" s_follows p_follows) : Cal P w K mg base "follows" 1 p_follows (spFollows d) := D.cal fun f fd F => by
  refine F.ok sc_follows (fun vs H Q E h => ?_) (fun cdv A outer s H vs Q E hr h => ?_)
  · obtain ⟨x, dx, y, dy, a, r, b, q, rfl, _⟩ := h
    rfl
  · obtain ⟨x, dx, y, dy, a, r, b, q, rfl, hx, hy, k⟩ := h
    refine ⟨_, pss_one (ps_ret (pe_and (pe_cmpR op_gt (pe_fld (pv 1) rfl) (pe_fld (pv 0) rfl) (nomark _)) (pe_one (pe_cmpR op_ge (pe_fld (pv 1) rfl) (pe_fld (pv 0) rfl) (nomark _))))), ?_⟩
    have e : folP (a, r) (b, q) = (decide (a < b) && decide (r ≤ q)) := rfl
    rw [e] at k
    refine ⟨_, rfl, y, _, dy, _, _, rfl, hy, T.k_Tier, T.a_Tier_start, tierF_start b q, _, rfl, x, _, dx, _, _, rfl, hx, T.k_Tier, T.a_Tier_start, tierF_start a r, _, _, rfl, rfl, _, rfl, ifB (fun h1 => ?_) fun h1 => ?_⟩
    · refine ⟨_, rfl, y, _, dy, _, _, rfl, hy, T.k_Tier, T.a_Tier_rate, tierF_rate b q, _, rfl, x, _, dx, _, _, rfl, hx, T.k_Tier, T.a_Tier_rate, tierF_rate a r, _, _, rfl, rfl, ?_⟩
      rw [h1, Bool.true_and] at k
      exact k
    · rw [h1] at k
      exact k
end
end Fs
end
section
set_option Elab.async false
set_option linter.all false
set_option maxRecDepth 100000
set_option maxHeartbeats 2000000
namespace L2
open PySem PySem.Spec PyProof.Rows
/-- a walk over a list's items with their places, the list left as it is -/
theorem for_enum {K : PySem.W.Frag} {a : Addr} {xs : List V} {g : TG} {tb : TS} {D : Ends} {σ : St} {H : Hp} (Pv : Nat → St → Hp → Prop) (h0 : Pv 0 σ H) (hl : ∀ i σ H, i ≤ xs.length → Pv i σ H → SqL K H a xs)
    (hs : ∀ i x σ H T, xs[i]? = some x → Pv i σ H → H T = none → g (.ref T) σ (upd H T (.tup [.int (i : Nat), x])) fun σ2 H2 => tb { D with nx := Pv (i + 1), ct := Pv (i + 1), bk := D.nx } σ2 H2) (hd : ∀ σ H, Pv xs.length σ H → D.nx σ H) :
    ∃ W : Nat → Nat → St → Hp → Prop, (∃ m, W 0 m σ H) ∧ ∀ i m σ H, W i m σ H →
      ((Ite K a).stop i H ∧ D.nx σ H) ∨ ((Ite K a).go i H ∧ ∃ N : St → Hp → Prop, (∀ σ' H', N σ' H' → ∃ m', m' < m ∧ W (i + 1) m' σ' H') ∧ ∀ x H', (Ite K a).yld i H x H' → g x σ H' fun σ2 H2 => tb { D with nx := N, ct := N, bk := D.nx } σ2 H2) := by
  refine ⟨fun i m σ H => m = xs.length - i ∧ i ≤ xs.length ∧ Pv i σ H, ⟨xs.length, by simp, Nat.zero_le _, h0⟩, ?_⟩
  rintro i m σ H ⟨rfl, hi, pv0⟩
  have sq := hl i σ H hi pv0
  by_cases hlt : i < xs.length
  · refine .inr ⟨⟨xs, xs[i], sq, by simp [hlt]⟩, Pv (i + 1), fun σ' H' p' => ⟨xs.length - (i + 1), by omega, rfl, hlt, p'⟩, fun x H' y => ?_⟩
    obtain ⟨T, z, rfl, hT, rfl, hz⟩ := y
    exact hs i z σ H T (hz xs sq) pv0 hT
  · have e : i = xs.length := by omega
    subst e
    exact .inl ⟨⟨xs, sq, Nat.le_refl _⟩, hd σ H pv0⟩
end L2
namespace Fs
open PySem PySem.Spec PyProof.Rows L2
theorem bg_of {i : Int} {n : Nat} (h : i.natAbs ≤ n) (hn : n ≤ 10 ^ 100) : Bg i := Nat.le_trans h hn
section
variable {P : Program} {w : World} {K : PySem.W.Frag} {mg : Str → Option Value} {base : Heap} {d : Ad}
/-! ### trading_cost -/
def spTc (d : Ad) : Sp := fun vs H Q _ => ∃ (l : Addr) (ts : List (Nat × Nat)) (x : Nat), vs = [.ref l, .int x] ∧ LsAt (TierAt d) H l ts ∧ TW ts ∧ x ≤ 10 ^ 40 ∧ ∀ H', Same H H' → Q (.int (Vbfuaf.costOf ts x : Nat)) H'
theorem c_trading_cost (T : Txt K mg d) (D : Dfn K mg "trading_cost" s_trading_cost p_trading_cost) (c_rounded_up : Cal P w K mg base "rounded_up" 1 p_rounded_up spUp) :
    Cal P w K mg base "trading_cost" 2 p_trading_cost (spTc d) := D.cal fun f fd F => by
  refine F.ok sc_trading_cost (fun vs H Q E h => ?_) (fun cdv A outer s H vs Q E hr h => ?_)
  · obtain ⟨l, ts, x, rfl, _⟩ := h
    rfl
  · obtain ⟨l, ts, x, rfl, hl, tw, hx, k⟩ := h
    have nd := sc_trading_cost.nd
    refine ⟨_, (pss_cons (ps_set (i := 2) nd rfl (Or.inl rfl) pe_int)
    (pss_cons (ps_for PassesOwn.never rfl (pi_enum rfl T.n_enumerate (pa_cons (pv 0) pa_nil)) (pg_tup rfl (pgs_cons (pg_name (i := 3) nd rfl (Or.inl rfl)) (pgs_cons (pg_name (i := 4) nd rfl (Or.inl rfl)) pgs_nil)))
    (pss_cons (ps_set (i := 5) nd rfl (Or.inl rfl) (pv 1))
    (pss_cons (ps_if (pt_cmpR op_lt (pe_op op_add (pv 3) pe_int) (pe_callB call_len_seq (by rfl) T.n_len boot_len (pa_cons (pv 0) pa_nil)) (nomark _))
    (pss_one (ps_set (i := 5) nd rfl (Or.inl rfl) (pe_callB (call_min2 rfl) (by rfl) T.n_min boot_min (pa_cons (pv 1) (pa_cons (pe_fld (pe_ix ix_list (pv 0) (pe_op op_add (pv 3) pe_int) (fun _ _ => rfl)) rfl) pa_nil)))))
    pss_nil)
    (pss_one (ps_set (i := 2) nd rfl (Or.inl rfl) (pe_op op_add (pv 2) (pe_op op_mulB (pe_callB (call_max2 rfl) (by rfl) T.n_max boot_max (pa_cons pe_int (pa_cons (pe_op op_sub (pv 5) (pe_fld (pv 4) rfl)) pa_nil))) (pe_fld (pv 4) rfl))))))))
    (pss_one (ps_ret (pcl c_rounded_up (hr.mono (by decide)) (pa_cons (pv 2) (pa_cons (gk T.c_RATE_WHOLE) pa_nil))))))), ?_⟩
    obtain ⟨as, e0, hlen, hat⟩ := hl
    have elen : (as.map V.ref).length = ts.length := by rw [List.length_map, hlen]
    refine ⟨_, rfl, l, _, rfl, SqL.of e0, for_enum (K := K) (a := l) (xs := as.map V.ref) (fun i σ H' => Same H H' ∧ ∃ (tot : Int) (v3 v4 v5 : Option V), σ = [some (.ref l), some (.int x), some (.int tot), v3, v4, v5] ∧
      tot + (Vbfuaf.exactCost x (ts.drop i) : Int) = (Vbfuaf.exactCost x ts : Int)) ⟨Same.refl H, 0, none, none, none, rfl, by simp⟩ (fun i σ H' _ ⟨s1, _⟩ => SqL.of (s1 _ _ e0)) ?_ ?_⟩
    · rintro i y σ H' t hy ⟨s1, tot, v3, v4, v5, rfl, ht⟩ hT
      rw [List.getElem?_map] at hy
      cases q : as[i]? with
      | none => rw [q] at hy; cases hy
      | some a =>
        rw [q] at hy
        cases hy
        have hi : i < ts.length := by
          have := (List.getElem?_eq_some_iff.mp q).1
          omega
        obtain ⟨da, ha⟩ := hat i a _ q (List.getElem?_eq_getElem hi)
        have s2 : Same H (upd H' t (.tup [.int (i : Nat), .ref a])) := s1.trans (Same.new hT)
        have hx2 := exact_drop (x := x) (List.getElem?_eq_getElem hi : ts[i]? = some ts[i])
        have hmem := tw.all _ (List.getElem_mem hi)
        refine ⟨t, _, rfl, SqT.of upd_same, rfl, _, _, rfl, _, _, rfl, rfl, _, rfl, _, rfl, _, _, rfl, rfl, _, rfl, l, _, rfl, .inl (SqL.of (s2 _ _ e0)), _, _, rfl, rfl, _, rfl, ifB (fun h1 => ?_) fun h1 => ?_⟩
        · rw [decide_eq_true_eq, elen] at h1
          have hi1 : i + 1 < ts.length := by omega
          obtain ⟨b, hb⟩ : ∃ b, as[i + 1]? = some b := ⟨_, List.getElem?_eq_getElem (by omega)⟩
          obtain ⟨db, hbb⟩ := hat (i + 1) b _ hb (List.getElem?_eq_getElem hi1)
          refine ⟨_, rfl, _, rfl, _, rfl, _, _, rfl, rfl, l, _, _, _, rfl, rfl, SqL.of (s2 _ _ e0), at_of (j := i + 1) (v := .ref b) (by omega) (by rw [List.getElem?_map, hb]; rfl), b, _, db, _, _, rfl, s2 _ _ hbb, T.k_Tier, T.a_Tier_start, tierF_start _ _, _, _, rfl, ?_⟩
          have hmem1 := tw.all _ (List.getElem_mem hi1)
          refine ⟨_, rfl, _, rfl, _, rfl, a, _, da, _, _, rfl, s2 _ _ ha, T.k_Tier, T.a_Tier_start, tierF_start _ _, _, _, rfl, rfl, _, _, rfl, _, rfl, a, _, da, _, _, rfl, s2 _ _ ha, T.k_Tier, T.a_Tier_rate, tierF_rate _ _, _, _, rfl, rfl, ⟨?_, ?_⟩, _, _, rfl, rfl, ?_⟩
          · refine bg_of (n := 10 ^ 41) ?_ (by decide)
            (repeat' split) <;> omega
          · refine bg_of (n := 1000000) ?_ (by decide)
            omega
          · refine ⟨s2, _, _, _, _, rfl, ?_⟩
            rw [← ht, hx2, List.getElem?_eq_getElem hi1]
            unfold tierPart posP tierEnd
            dsimp only
            rw [Int.add_assoc]
        · rw [decide_eq_false_iff_not, elen] at h1
          refine ⟨_, rfl, _, rfl, _, rfl, a, _, da, _, _, rfl, s2 _ _ ha, T.k_Tier, T.a_Tier_start, tierF_start _ _, _, _, rfl, rfl, _, _, rfl, _, rfl, a, _, da, _, _, rfl, s2 _ _ ha, T.k_Tier, T.a_Tier_rate, tierF_rate _ _, _, _, rfl, rfl, ⟨?_, ?_⟩, _, _, rfl, rfl, ?_⟩
          · refine bg_of (n := 10 ^ 41) ?_ (by decide)
            split <;> omega
          · refine bg_of (n := 1000000) ?_ (by decide)
            omega
          · refine ⟨s2, _, _, _, _, rfl, ?_⟩
            rw [← ht, hx2, List.getElem?_eq_none (show ts.length ≤ i + 1 by omega)]
            unfold tierPart posP tierEnd
            dsimp only
            rw [Int.add_assoc]
    · rintro σ H' ⟨s1, tot, v3, v4, v5, rfl, ht⟩
      rw [elen, List.drop_length] at ht
      have e1 : tot = (Vbfuaf.exactCost x ts : Int) := by
        have : (Vbfuaf.exactCost x [] : Int) = 0 := rfl
        omega
      subst e1
      refine ⟨_, rfl, _, _, rfl, by decide, bg_of (n := 1000000) (by decide) (by decide), ?_⟩
      have := up_neg (a := Vbfuaf.exactCost x ts) (b := 1000000) (by decide)
      have e2 : -(-(Vbfuaf.exactCost x ts : Int) / 1000000) = ((Vbfuaf.costOf ts x : Nat) : Int) := this
      rw [e2]
      exact k H' s1
end
end Fs
end
section
set_option Elab.async false
set_option linter.all false
set_option maxRecDepth 100000
set_option maxHeartbeats 2000000
namespace Fs
open PySem PySem.Spec PyProof.Rows L2
section
variable {P : Program} {w : World} {K : PySem.W.Frag} {mg : Str → Option Value} {base : Heap} {d : Ad}
/-! ### Prices.__init__ -/
def priOf (st : Vbfuaf.State) (a b : Nat) : List (Str × V) := priF ((st.value : Int) * (10000 + (a : Int))) ((st.value : Int) * (10000 - (b : Int))) ((st.units : Int) * 10000)
def spPri (d : Ad) : Sp := fun vs H Q _ => ∃ (x dx f ol : Addr) (st : Vbfuaf.State) (a b : Nat), vs = [.ref x, .ref f, .int a, .int b] ∧ H x = some (.ins d.pri dx []) ∧ FundAt d H f ol st ∧ WF st ∧ a ≤ 2000 ∧ b ≤ 2000 ∧
  ∀ H' : Hp, (∀ b o, H b = some o → b ≠ x → H' b = some o) → H' x = some (.ins d.pri dx (priOf st a b)) → Q .non H'
theorem m_Prices {q : Str} (T : Txt K mg d) (D : Kfn K mg "Prices" q d.pri s_Prices_init p_Prices_init) : Kls P w K mg base "Prices" d.pri 1 p_Prices_init (spPri d) := D.kls fun f fd F => by
  refine F.ok sc_Prices_init (fun vs H Q E h => ?_) (fun cdv A outer s H vs Q E hr h => ?_)
  · obtain ⟨x, dx, f, ol, st, a, b, rfl, _⟩ := h
    rfl
  · obtain ⟨x, dx, fu, ol, st, a, b, rfl, hx, hF, W, ha, hb, k⟩ := h
    refine ⟨_, (pss_cons (ps_fld (pv 0) (pe_op op_mulB (pe_fld (pv 1) rfl) (pe_op op_add (gk T.c_SWING_WHOLE) (pv 2))) rfl)
    (pss_cons (ps_fld (pv 0) (pe_op op_mulB (pe_fld (pv 1) rfl) (pe_op op_sub (gk T.c_SWING_WHOLE) (pv 3))) rfl)
    (pss_one (ps_fld (pv 0) (pe_op op_mulB (pe_fld (pv 1) rfl) (gk T.c_SWING_WHOLE)) rfl)))), ?_⟩
    obtain ⟨df, tb, ts, po, oc, ef, _⟩ := hF.ex
    have ne : fu ≠ x := ne_of ef hx (fun z => T.ap.pri (HO.ins.inj z).1.symm)
    have hv2 := W.v2
    have hu2 := W.u2
    refine ⟨_, rfl, fu, _, df, _, _, rfl, ef, T.k_Fund, T.a_Fund_value, fundF_value .., _, rfl, _, _, rfl, rfl, _, _, rfl, rfl, ⟨bg_of (n := 1000000000000) (by omega) (by decide), bg_of (n := 12000) (by omega) (by decide)⟩, _, rfl, x, _, dx, _, rfl, hx, T.k_Prices, T.a_Prices_going_in, (Nat.zero_lt_succ _), ?_⟩
    refine ⟨_, rfl, fu, _, df, _, _, rfl, (by rw [upd_ne ne]; exact ef), T.k_Fund, T.a_Fund_value, fundF_value .., _, rfl, _, _, rfl, rfl, _, _, rfl, rfl, ⟨bg_of (n := 1000000000000) (by omega) (by decide), bg_of (n := 12000) (by omega) (by decide)⟩, _, rfl, x, _, dx, _, rfl, upd_same, T.k_Prices, T.a_Prices_going_out,
      (Nat.lt_of_le_of_lt (len_put (Nat.zero_le _ : ([] : List (Str × V)).length ≤ 0)) (by decide)), ?_⟩
    refine ⟨_, rfl, fu, _, df, _, _, rfl, (by rw [upd_ne ne, upd_ne ne]; exact ef), T.k_Fund, T.a_Fund_units, fundF_units .., _, _, rfl, rfl, ⟨bg_of (n := 1000000000000000000) (by omega) (by decide), bg_of (n := 10000) (by decide) (by decide)⟩, _, rfl, x, _, dx, _, rfl, upd_same, T.k_Prices, T.a_Prices_over,
      (Nat.lt_of_le_of_lt (len_put (len_put (Nat.zero_le _ : ([] : List (Str × V)).length ≤ 0))) (by decide)), ?_⟩
    exact k _ (fun b o e hb => by rw [upd_ne hb, upd_ne hb, upd_ne hb]; exact e) (by rw [upd_same, priF_put]; rfl)
theorem made_pri {H1 : Hp} {Q : VK} {f ol : Addr} {st : Vbfuaf.State} {a b : Nat} (A : Apart d) (hF : FundAt d H1 f ol st) (W : WF st) (ha : a ≤ 2000) (hb : b ≤ 2000)
    (h : ∀ x dx H2, H1 x = none → Same H1 H2 → H2 x = some (.ins d.pri dx (priOf st a b)) → Q (.ref x) H2) :
    MkEnd d.pri (spPri d) [.ref f, .int a, .int b] H1 Q := by
  constructor
  intro x dx nx nd ne
  have s1 : Same H1 (upd (upd H1 dx (.own x)) x (.ins d.pri dx [])) := fun b o e => by
    rw [upd_ne (ne_of_none e nx), upd_ne (ne_of_none e nd)]
    exact e
  exact ⟨x, dx, f, ol, st, a, b, rfl, upd_same, hF.keep A (.of s1), W, ha, hb, fun H' kp hx => ⟨rfl, h x dx H' nx (fun b o e => kp b o (s1 b o e) (ne_of_none e nx)) hx⟩⟩
/-! ### done -/
def spDone (d : Ad) : Sp := fun vs H Q _ => ∃ (x y dy : Addr) (o : Vbfuaf.Order) (st : Vbfuaf.State) (a b l : Nat), vs = [.ref x, .ref y, .int l] ∧ OrdAt d H x o ∧ H y = some (.ins d.pri dy (priOf st a b)) ∧ WF st ∧ WO o ∧ a ≤ 2000 ∧ b ≤ 2000 ∧ l ≤ 10 ^ 32 ∧
  ∀ (H' : Hp) (z : Addr), Same H H' → H z = none → OutAt d H' z (Vbfuaf.done st a b l o) → Q (.ref z) H'
theorem c_done (T : Txt K mg d) (D : Dfn K mg "done" s_done p_done) (c_rounded_up : Cal P w K mg base "rounded_up" 1 p_rounded_up spUp)
    (m_Outcome : Kls P w K mg base "Outcome" d.out 1 p_Outcome_init (spNew d.out outPre outFs)) : Cal P w K mg base "done" 3 p_done (spDone d) := D.cal fun f fd F => by
  refine F.ok sc_done (fun vs H Q E h => ?_) (fun cdv A outer s H vs Q E hr h => ?_)
  · obtain ⟨x, y, dy, o, st, a, b, l, rfl, _⟩ := h
    rfl
  · obtain ⟨x, y, dy, o, st, a, b, l, rfl, ⟨dx, hx⟩, hy, W, O, ha, hb, hl, k⟩ := h
    have nd := sc_done.nd
    refine ⟨_, (pss_cons (ps_set (i := 3) nd rfl (Or.inl rfl) (pe_fld (pv 0) rfl))
    (pss_cons (ps_if (pt_cmpR op_eq (pe_fld (pv 0) rfl) (gk T.c_MONEY_IN) (nomark _))
    (pss_cons (ps_set (i := 4) nd rfl (Or.inl rfl) (pv 3))
    (pss_one (ps_set (i := 5) nd rfl (Or.inl rfl) (pe_op op_fdivB (pe_op op_mulB (pe_callB (call_max2 rfl) (by rfl) T.n_max boot_max (pa_cons pe_int (pa_cons (pe_op op_sub (pv 3) (pv 2)) pa_nil))) (pe_fld (pv 1) rfl)) (pe_fld (pv 1) rfl)))))
    (pss_one (ps_if (pt_cmpR op_eq (pe_fld (pv 0) rfl) (gk T.c_UNITS_IN) (nomark _))
    (pss_cons (ps_set (i := 4) nd rfl (Or.inl rfl) (pe_op op_add (pcl c_rounded_up (hr.mono (by decide)) (pa_cons (pe_op op_mulB (pv 3) (pe_fld (pv 1) rfl)) (pa_cons (pe_fld (pv 1) rfl) pa_nil))) (pv 2)))
    (pss_one (ps_set (i := 5) nd rfl (Or.inl rfl) (pv 3))))
    (pss_one (ps_if (pt_cmpR op_eq (pe_fld (pv 0) rfl) (gk T.c_UNITS_OUT) (nomark _))
    (pss_cons (ps_set (i := 4) nd rfl (Or.inl rfl) (pe_un un_neg (pe_callB (call_max2 rfl) (by rfl) T.n_max boot_max (pa_cons pe_int (pa_cons (pe_op op_sub (pe_op op_fdivB (pe_op op_mulB (pv 3) (pe_fld (pv 1) rfl)) (pe_fld (pv 1) rfl)) (pv 2)) pa_nil)))))
    (pss_one (ps_set (i := 5) nd rfl (Or.inl rfl) (pe_un un_neg (pv 3)))))
    (pss_cons (ps_set (i := 4) nd rfl (Or.inl rfl) (pe_un un_neg (pv 3)))
    (pss_one (ps_set (i := 5) nd rfl (Or.inl rfl) (pe_un un_neg (pcl c_rounded_up (hr.mono (by decide)) (pa_cons (pe_op op_mulB (pe_op op_add (pv 3) (pv 2)) (pe_fld (pv 1) rfl)) (pa_cons (pe_fld (pv 1) rfl) pa_nil))))))))))))
    (pss_one (ps_ret (pmk m_Outcome (hr.mono (by decide)) (pa_cons (pe_fld (pv 0) rfl) (pa_cons (pv 2) (pa_cons (pv 4) (pa_cons (pv 5) pa_nil))))))))), ?_⟩
    have hv1 := W.v1
    have hv2 := W.v2
    have hu1 := W.u1
    have hu2 := W.u2
    have ho2 := O.hi
    have bin : Bg ((st.value : Int) * (10000 + (a : Int))) := by
      refine bg_of (n := 1000000000000 * 12000) ?_ (by decide)
      rw [Int.natAbs_mul]
      exact Nat.mul_le_mul (by omega) (by omega)
    have bout : Bg ((st.value : Int) * (10000 - (b : Int))) := by
      refine bg_of (n := 1000000000000 * 12000) ?_ (by decide)
      rw [Int.natAbs_mul]
      exact Nat.mul_le_mul (by omega) (by omega)
    have pin : 0 < (st.value : Int) * (10000 + (a : Int)) := Int.mul_pos (by omega) (by omega)
    have pout : 0 < (st.value : Int) * (10000 - (b : Int)) := Int.mul_pos (by omega) (by omega)
    have bov : Bg ((st.units : Int) * 10000) := bg_of (n := 10000000000000000000000) (by omega) (by decide)
    have bam : Bg (o.amount : Int) := bg_of (n := 1000000000000) (by omega) (by decide)
    have fin : ∀ (m u : Int), (Vbfuaf.done st a b l o).money = m → (Vbfuaf.done st a b l o).units = u → (Vbfuaf.done st a b l o).num = o.num → (Vbfuaf.done st a b l o).levy = l →
        MkEnd d.out (spNew d.out outPre outFs) [.int o.num, .int l, .int m, .int u] H Q := by
      intro m u e1 e2 e3 e4
      refine made_end (fun H' _ => ⟨_, _, _, _, rfl⟩) fun z dz H2 nz s2 hz => k H2 z s2 nz ⟨dz, ?_⟩
      rw [e1, e2, e3, e4]
      exact hz
    refine ⟨_, rfl, x, _, dx, _, _, rfl, hx, T.k_Order, T.a_Order_amount, ordF_amount .., _, rfl, x, _, dx, _, _, rfl, hx, T.k_Order, T.a_Order_kind, ordF_kind .., rfl, _, rfl, ifB (fun h0 => ?_) fun h0 => ?_⟩
    · -- money in
      have e0 : o.kind = 0 := by
        rw [decide_eq_true_eq] at h0
        injection h0 with z
        omega
      refine ⟨_, rfl, _, rfl, _, rfl, _, _, rfl, rfl, _, _, rfl, _, rfl, y, _, dy, _, _, rfl, hy, T.k_Prices, T.a_Prices_over, priF_over .., _, _, rfl, rfl, ⟨?_, bov⟩, _, rfl, y, _, dy, _, _, rfl, hy, T.k_Prices, T.a_Prices_going_in, priF_going_in .., _, _, rfl, rfl, ⟨pin, bin⟩,
        _, rfl, x, _, dx, _, _, rfl, hx, T.k_Order, T.a_Order_number, ordF_number .., _, rfl, _, rfl, _, rfl, fin _ _ ?_ ?_ ?_ ?_⟩
      · refine bg_of (n := 1000000000000) ?_ (by decide)
        split <;> omega
      all_goals rw [done0 e0]
      exact (dn0 o.amount l st.units st.value a).symm
    · have n0 : o.kind ≠ 0 := by
        rw [decide_eq_false_iff_not] at h0
        intro z
        exact h0 (by rw [z]; rfl)
      refine ⟨_, rfl, x, _, dx, _, _, rfl, hx, T.k_Order, T.a_Order_kind, ordF_kind .., rfl, _, rfl, ifB (fun h1 => ?_) fun h1 => ?_⟩
      · have e1 : o.kind = 1 := by
          rw [decide_eq_true_eq] at h1
          injection h1 with z
          omega
        refine ⟨_, rfl, _, rfl, y, _, dy, _, _, rfl, hy, T.k_Prices, T.a_Prices_going_in, priF_going_in .., _, _, rfl, rfl, ⟨bam, bin⟩, _, rfl, y, _, dy, _, _, rfl, hy, T.k_Prices, T.a_Prices_over, priF_over .., _, _, rfl, by omega, bov, _, rfl, _, _, rfl, rfl, _, rfl,
          _, rfl, x, _, dx, _, _, rfl, hx, T.k_Order, T.a_Order_number, ordF_number .., _, rfl, _, rfl, _, rfl, fin _ _ ?_ ?_ ?_ ?_⟩
        all_goals rw [done1 e1]
        exact (dn1 o.amount l st.units st.value a hu1).symm
      · have n1 : o.kind ≠ 1 := by
          rw [decide_eq_false_iff_not] at h1
          intro z
          exact h1 (by rw [z]; rfl)
        refine ⟨_, rfl, x, _, dx, _, _, rfl, hx, T.k_Order, T.a_Order_kind, ordF_kind .., rfl, _, rfl, ifB (fun h2 => ?_) fun h2 => ?_⟩
        · have e2 : o.kind = 2 := by
            rw [decide_eq_true_eq] at h2
            injection h2 with z
            omega
          refine ⟨_, rfl, _, rfl, y, _, dy, _, _, rfl, hy, T.k_Prices, T.a_Prices_going_out, priF_going_out .., _, _, rfl, rfl, ⟨bam, bout⟩, _, rfl, y, _, dy, _, _, rfl, hy, T.k_Prices, T.a_Prices_over, priF_over .., _, _, rfl, rfl, ⟨by omega, bov⟩, _, rfl, _, _, rfl, rfl, _, _, rfl, _, rfl,
            _, rfl, _, rfl, _, rfl, x, _, dx, _, _, rfl, hx, T.k_Order, T.a_Order_number, ordF_number .., _, rfl, _, rfl, _, rfl, fin _ _ ?_ ?_ ?_ ?_⟩
          all_goals rw [done2 e2]
          exact (dn2 o.amount l st.units st.value b hb).symm
        · have n2 : o.kind ≠ 2 := by
            rw [decide_eq_false_iff_not] at h2
            intro z
            exact h2 (by rw [z]; rfl)
          have e3 : o.kind = 3 := by
            have := O.kind
            omega
          refine ⟨_, rfl, _, rfl, _, rfl, _, rfl, _, _, rfl, rfl, _, rfl, y, _, dy, _, _, rfl, hy, T.k_Prices, T.a_Prices_over, priF_over .., _, _, rfl, rfl, ⟨?_, bov⟩, _, rfl, y, _, dy, _, _, rfl, hy, T.k_Prices, T.a_Prices_going_out, priF_going_out .., _, _, rfl, pout, bout, _, rfl,
            _, rfl, x, _, dx, _, _, rfl, hx, T.k_Order, T.a_Order_number, ordF_number .., _, rfl, _, rfl, _, rfl, fin _ _ ?_ ?_ ?_ ?_⟩
          · refine bg_of (n := 10 ^ 33) ?_ (by decide)
            omega
          all_goals rw [done3 e3]
          exact (dn3 o.amount l st.units st.value b hv1 hb).symm
end
end Fs
end
section
set_option Elab.async false
set_option linter.all false
set_option maxRecDepth 100000
set_option maxHeartbeats 2000000
namespace Fs
open PySem PySem.Spec PyProof.Rows L2
/-- a list comprehension without tests, over any iterator: element by element -/
theorem lc_gen {d : Ad} {J : It} {g : TG} {te : TE} {vs : List Nat} {σ : L2.St} {H1 : Hp} {D : Addr} {Qd : Hp → Prop} (n : Nat) (E : Nat → V → Hp → Prop) (hE : ∀ i v H H', KpO d H H' → E i v H → E i v H') (hD : H1 D = none) (hn : n < sizeLine)
    (hgo : ∀ i H, i < n → Same H1 H → J.go i H) (hstop : ∀ H, Same H1 H → J.stop n H)
    (hs : ∀ i H x H' (Qn : VK), i < n → Same H1 H → J.yld i H x H' → (∀ v H4, Same H H4 → E i v H4 → Qn v H4) → g x (wipe σ vs) H' fun σ2 H2 => wipe σ2 vs = wipe σ vs ∧ te σ2 H2 Qn)
    (hd : ∀ H ws, Same H1 H → H D = some (.lst ws) → ws.length = n → (∀ i v, ws[i]? = some v → E i v H) → Qd H) :
    ∃ W : Nat → Nat → Hp → Prop, (∃ m, W 0 m (upd H1 D (.lst []))) ∧ ∀ i m H, W i m H →
      (J.stop i H ∧ Qd H) ∨ (J.go i H ∧ ∃ Nx : Hp → Prop, (∀ H', Nx H' → ∃ m', m' < m ∧ W (i + 1) m' H') ∧ ∀ x H', J.yld i H x H' → g x (wipe σ vs) H' fun σ2 H2 => wipe σ2 vs = wipe σ vs ∧ tYes σ2 H2 fun b H3 =>
        if b = true then te σ2 H3 fun y H4 => ∃ acc, H4 D = some (.lst acc) ∧ acc.length < sizeLine ∧ Nx (upd H4 D (.lst (acc ++ [y]))) else Nx H3) := by
  refine ⟨fun i m H => m = n - i ∧ i ≤ n ∧ Same H1 H ∧ ∃ ws, H D = some (.lst ws) ∧ ws.length = i ∧ ∀ j v, ws[j]? = some v → E j v H, ⟨n, by simp, Nat.zero_le _, Same.new hD, [], upd_same, rfl, fun j v h => by simp at h⟩, ?_⟩
  rintro i m H ⟨rfl, hi, s1, ws, e1, e2, e3⟩
  by_cases hlt : i < n
  · refine .inr ⟨hgo i H hlt s1, fun H' => i + 1 ≤ n ∧ Same H1 H' ∧ ∃ ws, H' D = some (.lst ws) ∧ ws.length = i + 1 ∧ ∀ j v, ws[j]? = some v → E j v H', fun H' q => ⟨n - (i + 1), by omega, rfl, q⟩, fun x H' y => ?_⟩
    refine hs i H x H' _ hlt s1 y fun v H4 s4 e4 => ?_
    have eD : H4 D = some (.lst ws) := s4 _ _ e1
    refine ⟨ws, eD, by omega, hlt, fun b o e => ?_, ws ++ [v], upd_same, by rw [List.length_append, e2]; rfl, fun j u hu => ?_⟩
    · rw [upd_ne (ne_of_none e hD)]
      exact s4 _ _ (s1 _ _ e)
    · have k1 : KpO d H4 (upd H4 D (.lst (ws ++ [v]))) := .lst eD
      by_cases hj : j < ws.length
      · rw [List.getElem?_append_left hj] at hu
        exact hE j u _ _ (KpO.trans (.same s4) k1) (e3 j u hu)
      · rw [List.getElem?_append_right (by omega)] at hu
        have h0 : j - ws.length = 0 := by
          by_cases z : j - ws.length = 0
          · exact z
          · rw [List.getElem?_eq_none (by simp; omega)] at hu
            cases hu
        rw [h0] at hu
        cases hu
        have ej : j = i := by omega
        subst ej
        exact hE j v _ _ k1 e4
  · have e : i = n := by omega
    subst e
    exact .inl ⟨hstop H s1, hd H ws s1 e1 e2 e3⟩
/-- over a list that stays: made objects -/
theorem lc_objs {d : Ad} {K : PySem.W.Frag} {a : Addr} {xs : List V} {g : TG} {te : TE} {vs : List Nat} {σ : L2.St} {H1 : Hp} {D : Addr} {Qd : Hp → Prop} {α : Type} {R : Hp → Addr → α → Prop} (L : Lives d R) (ys : List α) (hl : xs.length = ys.length) (hD : H1 D = none) (hn : ys.length < sizeLine) (sq : SqL K H1 a xs)
    (hs : ∀ (i : Nat) H x y (Qn : VK), xs[i]? = some x → ys[i]? = some y → Same H1 H → (∀ b H4, Same H H4 → R H4 b y → Qn (.ref b) H4) → g x (wipe σ vs) H fun σ2 H2 => wipe σ2 vs = wipe σ vs ∧ te σ2 H2 Qn)
    (hd : ∀ H, Same H1 H → LsAt R H D ys → Qd H) :
    ∃ W : Nat → Nat → Hp → Prop, (∃ m, W 0 m (upd H1 D (.lst []))) ∧ ∀ i m H, W i m H →
      ((Itl K a).stop i H ∧ Qd H) ∨ ((Itl K a).go i H ∧ ∃ Nx : Hp → Prop, (∀ H', Nx H' → ∃ m', m' < m ∧ W (i + 1) m' H') ∧ ∀ x H', (Itl K a).yld i H x H' → g x (wipe σ vs) H' fun σ2 H2 => wipe σ2 vs = wipe σ vs ∧ tYes σ2 H2 fun b H3 =>
        if b = true then te σ2 H3 fun y H4 => ∃ acc, H4 D = some (.lst acc) ∧ acc.length < sizeLine ∧ Nx (upd H4 D (.lst (acc ++ [y]))) else Nx H3) := by
  refine lc_gen (d := d) ys.length (fun i v H => ∃ b y, v = .ref b ∧ ys[i]? = some y ∧ R H b y) (fun i v H H' k ⟨b, y, e, e2, r⟩ => ⟨b, y, e, e2, L _ _ _ _ k r⟩) hD hn (fun i H hi s => ⟨xs, xs[i]'(by omega), s.seq sq, List.getElem?_eq_getElem (by omega)⟩)
    (fun H s => ⟨xs, s.seq sq, by omega⟩) (fun i H x H' Qn hi s y q => ?_) fun H ws s e hw hr => hd H s ?_
  · obtain ⟨rfl, y⟩ := y
    have hy : ys[i]? = some (ys[i]'hi) := List.getElem?_eq_getElem hi
    exact hs i H' x _ Qn (y xs (s.seq sq)) hy s fun b H4 s4 r => q _ H4 s4 ⟨b, _, rfl, hy, r⟩
  · have hall : ∀ v ∈ ws, ∃ b, v = V.ref b := fun v hv => by
      obtain ⟨i, hi⟩ := List.getElem?_of_mem hv
      obtain ⟨b, y, e, _⟩ := hr i v hi
      exact ⟨b, e⟩
    have hmap : ∃ as : List Addr, ws = as.map V.ref := by
      clear hr hw e
      induction ws with
      | nil => exact ⟨[], rfl⟩
      | cons v r ih =>
        obtain ⟨b, rfl⟩ := hall v (by simp)
        obtain ⟨as, rfl⟩ := ih fun u hu => hall u (List.mem_cons_of_mem _ hu)
        exact ⟨b :: as, rfl⟩
    obtain ⟨as, rfl⟩ := hmap
    refine ⟨as, e, by simpa using hw, fun i b y h1 h2 => ?_⟩
    obtain ⟨b', y', e1, e2, r⟩ := hr i (.ref b) (by rw [List.getElem?_map, h1]; rfl)
    cases e1
    rw [h2] at e2
    cases e2
    exact r
/-- a list of ints, element by element -/
theorem ints_of {ws : List V} {ys : List Int} (hw : ws.length = ys.length) (h : ∀ (i : Nat) (v : V), ws[i]? = some v → ∃ y, v = V.int y ∧ ys[i]? = some y) : ws = ys.map V.int := by
  apply List.ext_getElem?
  intro i
  by_cases hi : i < ws.length
  · obtain ⟨y, e1, e2⟩ := h i _ (List.getElem?_eq_getElem hi)
    rw [List.getElem?_eq_getElem hi, List.getElem?_map, e2, e1]
    rfl
  · rw [List.getElem?_eq_none (by omega), List.getElem?_eq_none (by rw [List.length_map]; omega)]
/-- over a list that stays: ints -/
theorem lc_ints {d : Ad} {K : PySem.W.Frag} {a : Addr} {xs : List V} {g : TG} {te : TE} {vs : List Nat} {σ : L2.St} {H1 : Hp} {D : Addr} {Qd : Hp → Prop} (ys : List Int) (hl : xs.length = ys.length) (hD : H1 D = none) (hn : ys.length < sizeLine) (sq : SqL K H1 a xs)
    (hs : ∀ (i : Nat) H x y (Qn : VK), xs[i]? = some x → ys[i]? = some y → Same H1 H → (∀ H4, Same H H4 → Qn (.int y) H4) → g x (wipe σ vs) H fun σ2 H2 => wipe σ2 vs = wipe σ vs ∧ te σ2 H2 Qn)
    (hd : ∀ H, Same H1 H → H D = some (.lst (ys.map V.int)) → Qd H) :
    ∃ W : Nat → Nat → Hp → Prop, (∃ m, W 0 m (upd H1 D (.lst []))) ∧ ∀ i m H, W i m H →
      ((Itl K a).stop i H ∧ Qd H) ∨ ((Itl K a).go i H ∧ ∃ Nx : Hp → Prop, (∀ H', Nx H' → ∃ m', m' < m ∧ W (i + 1) m' H') ∧ ∀ x H', (Itl K a).yld i H x H' → g x (wipe σ vs) H' fun σ2 H2 => wipe σ2 vs = wipe σ vs ∧ tYes σ2 H2 fun b H3 =>
        if b = true then te σ2 H3 fun y H4 => ∃ acc, H4 D = some (.lst acc) ∧ acc.length < sizeLine ∧ Nx (upd H4 D (.lst (acc ++ [y]))) else Nx H3) := by
  refine lc_gen (d := d) ys.length (fun i v _ => ∃ y, v = .int y ∧ ys[i]? = some y) (fun _ _ _ _ _ h => h) hD hn (fun i H hi s => ⟨xs, xs[i]'(by omega), s.seq sq, List.getElem?_eq_getElem (by omega)⟩)
    (fun H s => ⟨xs, s.seq sq, by omega⟩) (fun i H x H' Qn hi s y q => ?_) fun H ws s e hw hr => hd H s ?_
  · obtain ⟨rfl, y⟩ := y
    have hy : ys[i]? = some (ys[i]'hi) := List.getElem?_eq_getElem hi
    exact hs i H' x _ Qn (y xs (s.seq sq)) hy s fun H4 s4 => q _ H4 s4 ⟨_, rfl, hy⟩
  · rw [ints_of hw hr] at e
    exact e
/-- the same over two lists, hand in hand -/
theorem lc_zip_objs {d : Ad} {K : PySem.W.Frag} {a a2 : Addr} {xs zs : List V} {g : TG} {te : TE} {vs : List Nat} {σ : L2.St} {H1 : Hp} {D : Addr} {Qd : Hp → Prop} {α : Type} {R : Hp → Addr → α → Prop} (L : Lives d R) (ys : List α) (hl : xs.length = ys.length) (hl2 : zs.length = ys.length) (hD : H1 D = none) (hn : ys.length < sizeLine)
    (sq : SqL K H1 a xs) (sq2 : SqL K H1 a2 zs)
    (hs : ∀ (i : Nat) H x z y T (Qn : VK), xs[i]? = some x → zs[i]? = some z → ys[i]? = some y → Same H1 H → H T = none → (∀ b H4, Same (upd H T (.tup [x, z])) H4 → R H4 b y → Qn (.ref b) H4) → g (.ref T) (wipe σ vs) (upd H T (.tup [x, z])) fun σ2 H2 => wipe σ2 vs = wipe σ vs ∧ te σ2 H2 Qn)
    (hd : ∀ H, Same H1 H → LsAt R H D ys → Qd H) :
    ∃ W : Nat → Nat → Hp → Prop, (∃ m, W 0 m (upd H1 D (.lst []))) ∧ ∀ i m H, W i m H →
      ((Itz K a a2).stop i H ∧ Qd H) ∨ ((Itz K a a2).go i H ∧ ∃ Nx : Hp → Prop, (∀ H', Nx H' → ∃ m', m' < m ∧ W (i + 1) m' H') ∧ ∀ x H', (Itz K a a2).yld i H x H' → g x (wipe σ vs) H' fun σ2 H2 => wipe σ2 vs = wipe σ vs ∧ tYes σ2 H2 fun b H3 =>
        if b = true then te σ2 H3 fun y H4 => ∃ acc, H4 D = some (.lst acc) ∧ acc.length < sizeLine ∧ Nx (upd H4 D (.lst (acc ++ [y]))) else Nx H3) := by
  refine lc_gen (d := d) ys.length (fun i v H => ∃ b y, v = .ref b ∧ ys[i]? = some y ∧ R H b y) (fun i v H H' k ⟨b, y, e, e2, r⟩ => ⟨b, y, e, e2, L _ _ _ _ k r⟩) hD hn
    (fun i H hi s => ⟨xs, zs, xs[i]'(by omega), zs[i]'(by omega), s.seq sq, s.seq sq2, List.getElem?_eq_getElem (by omega), List.getElem?_eq_getElem (by omega)⟩)
    (fun H s => ⟨xs, zs, s.seq sq, s.seq sq2, .inl (by omega)⟩) (fun i H x H' Qn hi s y q => ?_) fun H ws s e hw hr => hd H s ?_
  · obtain ⟨T, u, z, rfl, hT, rfl, h1, h2⟩ := y
    have hy : ys[i]? = some (ys[i]'hi) := List.getElem?_eq_getElem hi
    exact hs i H u z _ T Qn (h1 xs (s.seq sq)) (h2 zs (s.seq sq2)) hy s hT fun b H4 s4 r => q _ H4 ((Same.new hT).trans s4) ⟨b, _, rfl, hy, r⟩
  · have hall : ∀ v ∈ ws, ∃ b, v = V.ref b := fun v hv => by
      obtain ⟨i, hi⟩ := List.getElem?_of_mem hv
      obtain ⟨b, y, e, _⟩ := hr i v hi
      exact ⟨b, e⟩
    have hmap : ∃ as : List Addr, ws = as.map V.ref := by
      clear hr hw e
      induction ws with
      | nil => exact ⟨[], rfl⟩
      | cons v r ih =>
        obtain ⟨b, rfl⟩ := hall v (by simp)
        obtain ⟨as, rfl⟩ := ih fun u hu => hall u (List.mem_cons_of_mem _ hu)
        exact ⟨b :: as, rfl⟩
    obtain ⟨as, rfl⟩ := hmap
    refine ⟨as, e, by simpa using hw, fun i b y h1 h2 => ?_⟩
    obtain ⟨b', y', e1, e2, r⟩ := hr i (.ref b) (by rw [List.getElem?_map, h1]; rfl)
    cases e1
    rw [h2] at e2
    cases e2
    exact r
end Fs
end
section
set_option Elab.async false
set_option linter.all false
set_option maxRecDepth 100000
set_option maxHeartbeats 2000000
namespace Fs
open PySem PySem.Spec PyProof.Rows L2
theorem line40 {n : Nat} (h : n ≤ 40) : n < sizeLine := Nat.lt_of_le_of_lt h (by decide)
theorem vint_dec {i j : Nat} : decide (V.int (i : Int) = V.int (j : Int)) = decide (i = j) := by
  apply decide_eq_decide.mpr
  constructor
  · intro h
    injection h with z
    omega
  · intro h
    rw [h]
section
variable {P : Program} {w : World} {K : PySem.W.Frag} {mg : Str → Option Value} {base : Heap} {d : Ad}
/-! ### outcomes_at -/
def spAt (d : Ad) : Sp := fun vs H Q _ => ∃ (f ol : Addr) (st : Vbfuaf.State) (side sw : Nat), vs = [.ref f, .int side, .int sw] ∧ FundAt d H f ol st ∧ WF st ∧ sw ≤ 2000 ∧
  ∀ (H' : Hp) (l : Addr), Same H H' → H l = none → LsAt (OutAt d) H' l (st.orders.map (Vbfuaf.done st (if side = 1 then sw else 0) (if side = 2 then sw else 0) 0)) → Q (.ref l) H'
theorem pickV {i j w n : Nat} {σ : L2.St} {Q : VK} {H : Hp} (hv : σ[n]? = some (some (.int w))) (h : Q (.int ((if i = j then w else 0 : Nat) : Int)) H) : if decide (V.int (i : Int) = V.int (j : Int)) = true then tVar n σ H Q else tC (.int 0) σ H Q := by
  rw [vint_dec]
  by_cases e : i = j
  · rw [if_pos (decide_eq_true e)]
    rw [if_pos e] at h
    exact ⟨_, hv, h⟩
  · rw [if_neg (by rw [decide_eq_false e]; exact Bool.false_ne_true)]
    rw [if_neg e] at h
    exact h
theorem pe_fldK (K : PySem.W.Frag) {X : Cx} {e : Expr} {ta : TE} {f : Str} {pos : Pos} (hK : X.K = K) (he : PE X e ta) (hb : attributeBase e f X.env (eval e X.env) = eval e X.env) : PE X (.Attribute e f pos) (tFld K ta f) := by
  subst hK
  exact pe_fld he hb
theorem c_outcomes_at (T : Txt K mg d) (D : Dfn K mg "outcomes_at" s_outcomes_at p_outcomes_at) (c_done : Cal P w K mg base "done" 3 p_done (spDone d))
    (m_Prices : Kls P w K mg base "Prices" d.pri 1 p_Prices_init (spPri d)) : Cal P w K mg base "outcomes_at" 4 p_outcomes_at (spAt d) := D.cal fun f fd F => by
  refine F.ok sc_outcomes_at (fun vs H Q E h => ?_) (fun cdv A outer s H vs Q E hr h => ?_)
  · obtain ⟨fu, ol, st, side, sw, rfl, _⟩ := h
    rfl
  · obtain ⟨fu, ol, st, side, sw, rfl, hF, W, hw, k⟩ := h
    have nd := sc_outcomes_at.nd
    refine ⟨_, (pss_cons (ps_set (i := 3) nd rfl (Or.inr rfl) (pmk m_Prices (hr.mono (by decide)) (pa_cons (pv 0) (pa_cons (pe_ifExp (pt_cmpR op_eq (pv 1) (gk T.c_SIDE_IN) (nomark _)) (pv 2) pe_int) (pa_cons (pe_ifExp (pt_cmpR op_eq (pv 1) (gk T.c_SIDE_OUT) (nomark _)) (pv 2) pe_int) pa_nil)))))
    (pss_one (ps_ret (pe_lc rfl nd (pi_list (pe_fld (pv 0) rfl)) (blkOk_by (own := [("order", 4)]) (by rfl)) (fun _ _ _ _ _ => (pg_name (i := 4) nd rfl (Or.inl rfl))) (fun _ _ _ _ _ => pts_nil) (fun _ _ _ _ _ => (pcl c_done (hr.mono (by decide)) (pa_cons (pv 4) (pa_cons (pv 3) (pa_cons pe_int pa_nil))))))))), ?_⟩
    refine ⟨_, rfl, _, rfl, rfl, _, rfl, pickV (i := side) (j := 1) rfl ?_⟩
    refine ⟨_, rfl, rfl, _, rfl, pickV (i := side) (j := 2) rfl ?_⟩
    refine made_pri (a := if side = 1 then sw else 0) (b := if side = 2 then sw else 0) T.ap hF W (by split <;> omega) (by split <;> omega) fun x dx H2 nx s2 hx => ?_
    obtain ⟨df, tb, ts, po, oc, ef, _, _, _, ho, _⟩ := hF.ex
    obtain ⟨as, eo, hlen, hat⟩ := ho
    refine ⟨_, rfl, fu, _, df, _, _, rfl, s2 _ _ ef, T.k_Fund, T.a_Fund_orders, fundF_orders .., ol, rfl, ⟨_, SqL.of (s2 _ _ eo)⟩, fun D hD => ?_⟩
    refine lc_objs (OutAt.lives T.ap) (st.orders.map (Vbfuaf.done st (if side = 1 then sw else 0) (if side = 2 then sw else 0) 0)) (by simp [hlen]) hD (line40 (by rw [List.length_map]; exact W.olen)) (SqL.of (s2 _ _ eo)) (fun i H3 v y Qn hv hy s3 q => ?_) fun H3 s3 h3 => ?_
    · rw [List.getElem?_map] at hv hy
      cases qa : as[i]? with
      | none => rw [qa] at hv; cases hv
      | some a =>
        cases qo : st.orders[i]? with
        | none => rw [qo] at hy; cases hy
        | some o =>
          rw [qa] at hv
          rw [qo] at hy
          cases hv
          cases hy
          obtain ⟨da, ha⟩ := hat i a o qa qo
          refine ⟨rfl, _, rfl, _, rfl, a, x, dx, o, st, (if side = 1 then sw else 0), (if side = 2 then sw else 0), 0, rfl, ⟨da, s3 _ _ (s2 _ _ ha)⟩, s3 _ _ hx, W, W.ord o (List.mem_of_getElem? qo), (by split <;> omega), (by split <;> omega), Nat.zero_le _, fun H4 z s4 _ hz => q z H4 s4 hz⟩
    · exact k H3 D (s2.trans s3) (s2.free hD) h3
/-! ### flow_of, units_of -/
def spSumM (d : Ad) : Sp := fun vs H Q _ => ∃ (l : Addr) (rs : List Vbfuaf.Result), vs = [.ref l] ∧ LsAt (OutAt d) H l rs ∧ rs.length ≤ 40 ∧ ∀ H' : Hp, Same H H' → Q (.int (Vbfuaf.flowOf rs)) H'
def spSumU (d : Ad) : Sp := fun vs H Q _ => ∃ (l : Addr) (rs : List Vbfuaf.Result), vs = [.ref l] ∧ LsAt (OutAt d) H l rs ∧ rs.length ≤ 40 ∧ ∀ H' : Hp, Same H H' → Q (.int (Vbfuaf.unitsOf rs)) H'
theorem c_flow_of (T : Txt K mg d) (D : Dfn K mg "flow_of" s_flow_of p_flow_of) : Cal P w K mg base "flow_of" 1 p_flow_of (spSumM d) := D.cal fun f fd F => by
  refine F.ok sc_flow_of (fun vs H Q E h => ?_) (fun cdv A outer s H vs Q E hr h => ?_)
  · obtain ⟨l, rs, rfl, _⟩ := h
    rfl
  · obtain ⟨l, rs, rfl, ⟨as, eo, hlen, hat⟩, hl, k⟩ := h
    have nd := sc_flow_of.nd
    refine ⟨_, (pss_one (ps_ret (pe_callB (cr_sum rfl) (by rfl) T.n_sum boot_sum (pa_cons (pe_lc rfl nd (pi_list (pv 0)) (blkOk_by (own := [("outcome", 1)]) (by rfl)) (fun _ _ _ _ _ => (pg_name (i := 1) nd rfl (Or.inl rfl))) (fun _ _ _ _ _ => pts_nil) (fun _ _ _ _ _ => (pe_fldK K rfl (pv 1) rfl))) pa_nil)))), ?_⟩
    refine ⟨_, rfl, l, rfl, ⟨_, SqL.of eo⟩, fun D hD => ?_⟩
    refine lc_ints (d := d) (rs.map fun r => r.money) (by simp [hlen]) hD (line40 (by rw [List.length_map]; exact hl)) (SqL.of eo) (fun i H3 v y Qn hv hy s3 q => ?_) fun H3 s3 h3 => ?_
    · rw [List.getElem?_map] at hv hy
      cases qa : as[i]? with
      | none => rw [qa] at hv; cases hv
      | some a =>
        cases qo : rs[i]? with
        | none => rw [qo] at hy; cases hy
        | some o =>
          rw [qa] at hv
          rw [qo] at hy
          cases hv
          cases hy
          obtain ⟨da, ha⟩ := hat i a o qa qo
          exact ⟨rfl, _, rfl, a, _, da, _, _, rfl, s3 _ _ ha, T.k_Outcome, T.a_Outcome_money, outF_money .., q H3 (Same.refl H3)⟩
    · refine ⟨D, _, rfl, SqL.of h3, ?_⟩
      have := k H3 s3
      unfold Vbfuaf.flowOf at this
      rw [← isum_sum] at this
      exact this
theorem c_units_of (T : Txt K mg d) (D : Dfn K mg "units_of" s_units_of p_units_of) : Cal P w K mg base "units_of" 1 p_units_of (spSumU d) := D.cal fun f fd F => by
  refine F.ok sc_units_of (fun vs H Q E h => ?_) (fun cdv A outer s H vs Q E hr h => ?_)
  · obtain ⟨l, rs, rfl, _⟩ := h
    rfl
  · obtain ⟨l, rs, rfl, ⟨as, eo, hlen, hat⟩, hl, k⟩ := h
    have nd := sc_units_of.nd
    refine ⟨_, (pss_one (ps_ret (pe_callB (cr_sum rfl) (by rfl) T.n_sum boot_sum (pa_cons (pe_lc rfl nd (pi_list (pv 0)) (blkOk_by (own := [("outcome", 1)]) (by rfl)) (fun _ _ _ _ _ => (pg_name (i := 1) nd rfl (Or.inl rfl))) (fun _ _ _ _ _ => pts_nil) (fun _ _ _ _ _ => (pe_fldK K rfl (pv 1) rfl))) pa_nil)))), ?_⟩
    refine ⟨_, rfl, l, rfl, ⟨_, SqL.of eo⟩, fun D hD => ?_⟩
    refine lc_ints (d := d) (rs.map fun r => r.units) (by simp [hlen]) hD (line40 (by rw [List.length_map]; exact hl)) (SqL.of eo) (fun i H3 v y Qn hv hy s3 q => ?_) fun H3 s3 h3 => ?_
    · rw [List.getElem?_map] at hv hy
      cases qa : as[i]? with
      | none => rw [qa] at hv; cases hv
      | some a =>
        cases qo : rs[i]? with
        | none => rw [qo] at hy; cases hy
        | some o =>
          rw [qa] at hv
          rw [qo] at hy
          cases hv
          cases hy
          obtain ⟨da, ha⟩ := hat i a o qa qo
          exact ⟨rfl, _, rfl, a, _, da, _, _, rfl, s3 _ _ ha, T.k_Outcome, T.a_Outcome_units, outF_units .., q H3 (Same.refl H3)⟩
    · refine ⟨D, _, rfl, SqL.of h3, ?_⟩
      have := k H3 s3
      unfold Vbfuaf.unitsOf at this
      rw [← isum_sum] at this
      exact this
end
end Fs
end
section
set_option Elab.async false
set_option linter.all false
set_option maxRecDepth 100000
set_option maxHeartbeats 2000000
namespace Fs
open PySem PySem.Spec PyProof.Rows L2
section
variable {P : Program} {w : World} {K : PySem.W.Frag} {mg : Str → Option Value} {base : Heap} {d : Ad}
/-! ### side_of -/
def spSide : Sp := fun vs H Q _ => ∃ z : Int, vs = [.int z] ∧ Q (.int (sideN z : Nat)) H
theorem c_side_of (T : Txt K mg d) (D : Dfn K mg "side_of" s_side_of p_side_of) : Cal P w K mg base "side_of" 1 p_side_of spSide := D.cal fun f fd F => by
  refine F.ok sc_side_of (fun vs H Q E h => ?_) (fun cdv A outer s H vs Q E hr h => ?_)
  · obtain ⟨z, rfl, _⟩ := h
    rfl
  · obtain ⟨z, rfl, k⟩ := h
    refine ⟨_, (pss_cons (ps_if (pt_cmpR op_gt (pv 0) pe_int (nomark _)) (pss_one (ps_ret (gk T.c_SIDE_IN))) pss_nil)
      (pss_cons (ps_if (pt_cmpR op_lt (pv 0) pe_int (nomark _)) (pss_one (ps_ret (gk T.c_SIDE_OUT))) pss_nil) (pss_one (ps_ret (gk T.c_NEITHER))))), ?_⟩
    unfold sideN at k
    refine ⟨_, rfl, _, _, rfl, rfl, _, rfl, ifB (fun h1 => ?_) fun h1 => ⟨_, rfl, _, _, rfl, rfl, _, rfl, ifB (fun h2 => ?_) fun h2 => ?_⟩⟩
    · rw [decide_eq_true_eq] at h1
      rw [if_pos h1] at k
      exact k
    · rw [decide_eq_true_eq] at h2
      rw [decide_eq_false_iff_not] at h1
      rw [if_neg h1, if_pos h2] at k
      exact k
    · rw [decide_eq_false_iff_not] at h1 h2
      rw [if_neg h1, if_neg h2] at k
      exact k
/-! ### weighs_enough -/
def spEnough (d : Ad) : Sp := fun vs H Q _ => ∃ (f ol : Addr) (st : Vbfuaf.State) (z : Int), vs = [.ref f, .int z] ∧ FundAt d H f ol st ∧ WF st ∧ z = Vbfuaf.flowOf (Vbfuaf.plain st) ∧ Q (.bl (Vbfuaf.heavy st)) H
theorem c_weighs_enough (T : Txt K mg d) (D : Dfn K mg "weighs_enough" s_weighs_enough p_weighs_enough) : Cal P w K mg base "weighs_enough" 1 p_weighs_enough (spEnough d) := D.cal fun f fd F => by
  refine F.ok sc_weighs_enough (fun vs H Q E h => ?_) (fun cdv A outer s H vs Q E hr h => ?_)
  · obtain ⟨fu, ol, st, z, rfl, _⟩ := h
    rfl
  · obtain ⟨fu, ol, st, z, rfl, hF, W, ez, k⟩ := h
    refine ⟨_, (pss_one (ps_ret (pe_cmpR op_gt (pe_op op_mulB (pe_callB call_abs (by rfl) T.n_abs boot_abs (pa_cons (pv 1) pa_nil)) (gk T.c_MILLION)) (pe_op op_mulB (pe_fld (pe_fld (pv 0) rfl) rfl) (pe_fld (pv 0) rfl)) (nomark _)))), ?_⟩
    obtain ⟨df, tb, ts, po, oc, ef, _, _, ⟨dp, ep⟩, _⟩ := hF.ex
    have hz := (rb_plain W).flow
    rw [← ez] at hz
    have ht := W.pol.thr
    have hv := W.v2
    refine ⟨_, rfl, _, rfl, _, _, rfl, rfl, ⟨?_, bg_of (n := 1000000) (by decide) (by decide)⟩, _, rfl, fu, _, df, _, _, rfl, ef, T.k_Fund, T.a_Fund_policy, fundF_policy .., po, _, dp, _, _, rfl, ep, T.k_Policy, T.a_Policy_threshold, polF_threshold ..,
      _, rfl, fu, _, df, _, _, rfl, ef, T.k_Fund, T.a_Fund_value, fundF_value .., _, _, rfl, rfl, ⟨bg_of (n := 1000000) (by omega) (by decide), bg_of (n := 1000000000000) (by omega) (by decide)⟩, _, _, rfl, rfl, ?_⟩
    · refine bg_of (n := 10 ^ 35) ?_ (by decide)
      rw [abs_eq]
      omega
    · show Q (V.bl (decide (((st.policy.threshold : Int) * (st.value : Int)) < ((if z < 0 then -z else z) * 1000000)))) H
      rw [abs_eq, heavy_dec st z ez]
      exact k
/-! ### cost_of -/
def spCost (d : Ad) : Sp := fun vs H Q _ => ∃ (f ol l : Addr) (st : Vbfuaf.State) (side : Nat) (rs : List Vbfuaf.Result), vs = [.ref f, .int side, .ref l] ∧ FundAt d H f ol st ∧ WF st ∧ LsAt (OutAt d) H l rs ∧ RB rs ∧
  ∀ H' : Hp, Same H H' → Q (.int (Vbfuaf.costAt st side (Vbfuaf.flowOf rs) : Nat)) H'
theorem c_cost_of (T : Txt K mg d) (D : Dfn K mg "cost_of" s_cost_of p_cost_of) (c_trading_cost : Cal P w K mg base "trading_cost" 2 p_trading_cost (spTc d)) (c_flow_of : Cal P w K mg base "flow_of" 1 p_flow_of (spSumM d)) :
    Cal P w K mg base "cost_of" 3 p_cost_of (spCost d) := D.cal fun f fd F => by
  refine F.ok sc_cost_of (fun vs H Q E h => ?_) (fun cdv A outer s H vs Q E hr h => ?_)
  · obtain ⟨fu, ol, l, st, side, rs, rfl, _⟩ := h
    rfl
  · obtain ⟨fu, ol, l, st, side, rs, rfl, hF, W, hL, B, k⟩ := h
    refine ⟨_, (pss_cons (ps_if (pt_cmpR op_eq (pv 1) (gk T.c_SIDE_IN) (nomark _))
    (pss_one (ps_ret (pcl c_trading_cost (hr.mono (by decide)) (pa_cons (pe_fld (pv 0) rfl) (pa_cons (pe_callB (call_max2 rfl) (by rfl) T.n_max boot_max (pa_cons pe_int (pa_cons (pcl c_flow_of (hr.mono (by decide)) (pa_cons (pv 2) pa_nil)) pa_nil))) pa_nil)))))
    pss_nil)
    (pss_cons (ps_if (pt_cmpR op_eq (pv 1) (gk T.c_SIDE_OUT) (nomark _))
    (pss_one (ps_ret (pcl c_trading_cost (hr.mono (by decide)) (pa_cons (pe_fld (pv 0) rfl) (pa_cons (pe_callB (call_max2 rfl) (by rfl) T.n_max boot_max (pa_cons pe_int (pa_cons (pe_un un_neg (pcl c_flow_of (hr.mono (by decide)) (pa_cons (pv 2) pa_nil))) pa_nil))) pa_nil)))))
    pss_nil)
    (pss_one (ps_ret pe_int)))), ?_⟩
    obtain ⟨df, tb, ts, po, oc, ef, h1, h2, _⟩ := hF.ex
    have hz := B.flow
    unfold Vbfuaf.costAt at k
    refine ⟨_, rfl, rfl, _, rfl, ifB (fun q1 => ?_) fun q1 => ?_⟩
    · have e1 : side = 1 := by
        rw [decide_eq_true_eq] at q1
        injection q1 with z
        omega
      refine ⟨_, rfl, fu, _, df, _, _, rfl, ef, T.k_Fund, T.a_Fund_buy_tiers, fundF_buy_tiers .., _, rfl, l, rs, rfl, hL, B.len, fun H1 s1 => ⟨_, _, rfl, tb, st.buys, (Vbfuaf.flowOf rs).toNat, ?_, h1.kp (TierAt.lives T.ap) (.of s1), W.buys, by omega, fun H2 s2 => ?_⟩⟩
      · rw [← posP_toNat]
        rfl
      · have := k H2 (s1.trans s2)
        rw [if_pos e1] at this
        exact this
    · have n1 : side ≠ 1 := by
        rw [decide_eq_false_iff_not] at q1
        intro z
        exact q1 (by rw [z]; rfl)
      refine ⟨_, rfl, rfl, _, rfl, ifB (fun q2 => ?_) fun q2 => ?_⟩
      · have e2 : side = 2 := by
          rw [decide_eq_true_eq] at q2
          injection q2 with z
          omega
        refine ⟨_, rfl, fu, _, df, _, _, rfl, ef, T.k_Fund, T.a_Fund_sell_tiers, fundF_sell_tiers .., _, rfl, l, rs, rfl, hL, B.len, fun H1 s1 => ⟨_, rfl, _, _, rfl, ts, st.sells, (-Vbfuaf.flowOf rs).toNat, ?_, h2.kp (TierAt.lives T.ap) (.of s1), W.sells, by omega, fun H2 s2 => ?_⟩⟩
        · rw [← posP_toNat]
          rfl
        · have := k H2 (s1.trans s2)
          rw [if_neg n1, if_pos e2] at this
          exact this
      · have n2 : side ≠ 2 := by
          rw [decide_eq_false_iff_not] at q2
          intro z
          exact q2 (by rw [z]; rfl)
        have := k H (Same.refl H)
        rw [if_neg n1, if_neg n2] at this
        exact this
/-! ### kept_of -/
def spKept (d : Ad) : Sp := fun vs H Q _ => ∃ (f ol l : Addr) (st : Vbfuaf.State) (rs : List Vbfuaf.Result), vs = [.ref f, .ref l] ∧ FundAt d H f ol st ∧ WF st ∧ LsAt (OutAt d) H l rs ∧ RB rs ∧
  ∀ H' : Hp, Same H H' → Q (.int (Vbfuaf.kept st rs)) H'
theorem c_kept_of (T : Txt K mg d) (D : Dfn K mg "kept_of" s_kept_of p_kept_of) (c_flow_of : Cal P w K mg base "flow_of" 1 p_flow_of (spSumM d)) (c_units_of : Cal P w K mg base "units_of" 1 p_units_of (spSumU d)) :
    Cal P w K mg base "kept_of" 2 p_kept_of (spKept d) := D.cal fun f fd F => by
  refine F.ok sc_kept_of (fun vs H Q E h => ?_) (fun cdv A outer s H vs Q E hr h => ?_)
  · obtain ⟨fu, ol, l, st, rs, rfl, _⟩ := h
    rfl
  · obtain ⟨fu, ol, l, st, rs, rfl, hF, W, hL, B, k⟩ := h
    refine ⟨_, (pss_one (ps_ret (pe_op op_sub (pe_op op_mulB (pe_fld (pv 0) rfl) (pcl c_flow_of (hr.mono (by decide)) (pa_cons (pv 1) pa_nil))) (pe_op op_mulB (pe_fld (pv 0) rfl) (pcl c_units_of (hr.mono (by decide)) (pa_cons (pv 1) pa_nil)))))), ?_⟩
    obtain ⟨df, tb, ts, po, oc, ef, _⟩ := hF.ex
    have hv := W.v2
    have hu := W.u2
    refine ⟨_, rfl, fu, _, df, _, _, rfl, ef, T.k_Fund, T.a_Fund_units, fundF_units .., _, rfl, l, rs, rfl, hL, B.len, fun H1 s1 => ⟨_, _, rfl, rfl, ⟨bg_of (n := 1000000000000000000) (by omega) (by decide), bg_of B.flow (by decide)⟩,
      _, rfl, fu, _, df, _, _, rfl, s1 _ _ ef, T.k_Fund, T.a_Fund_value, fundF_value .., _, rfl, l, rs, rfl, hL.kp (OutAt.lives T.ap) (.of s1), B.len, fun H2 s2 => ⟨_, _, rfl, rfl, ⟨bg_of (n := 1000000000000) (by omega) (by decide), bg_of B.units (by decide)⟩, _, _, rfl, rfl, k H2 (s1.trans s2)⟩⟩⟩
/-! ### covers -/
def spCovers (d : Ad) : Sp := fun vs H Q _ => ∃ (f ol : Addr) (st : Vbfuaf.State) (sw : Nat), vs = [.ref f, .int (Vbfuaf.sideOf st : Nat), .int sw] ∧ FundAt d H f ol st ∧ WF st ∧ sw ≤ 2000 ∧
  ∀ H' : Hp, Same H H' → Q (.bl (Vbfuaf.covers st sw)) H'
theorem c_covers (T : Txt K mg d) (D : Dfn K mg "covers" s_covers p_covers) (c_outcomes_at : Cal P w K mg base "outcomes_at" 4 p_outcomes_at (spAt d)) (c_cost_of : Cal P w K mg base "cost_of" 3 p_cost_of (spCost d)) (c_kept_of : Cal P w K mg base "kept_of" 2 p_kept_of (spKept d)) :
    Cal P w K mg base "covers" 5 p_covers (spCovers d) := D.cal fun f fd F => by
  refine F.ok sc_covers (fun vs H Q E h => ?_) (fun cdv A outer s H vs Q E hr h => ?_)
  · obtain ⟨fu, ol, st, sw, rfl, _⟩ := h
    rfl
  · obtain ⟨fu, ol, st, sw, rfl, hF, W, hw, k⟩ := h
    have nd := sc_covers.nd
    refine ⟨_, (pss_cons (ps_set (i := 3) nd rfl (Or.inl rfl) (pcl c_outcomes_at (hr.mono (by decide)) (pa_cons (pv 0) (pa_cons (pv 1) (pa_cons (pv 2) pa_nil)))))
    (pss_cons (ps_set (i := 4) nd rfl (Or.inl rfl) (pe_op op_mulB (pe_op op_mulB (pe_fld (pe_fld (pv 0) rfl) rfl) (pe_fld (pv 0) rfl)) (pcl c_cost_of (hr.mono (by decide)) (pa_cons (pv 0) (pa_cons (pv 1) (pa_cons (pv 3) pa_nil))))))
    (pss_one (ps_ret (pe_cmpR op_le (pv 4) (pe_op op_mulB (gk T.c_MILLION) (pcl c_kept_of (hr.mono (by decide)) (pa_cons (pv 0) (pa_cons (pv 3) pa_nil)))) (nomark _)))))), ?_⟩
    refine ⟨_, rfl, _, rfl, _, rfl, fu, ol, st, Vbfuaf.sideOf st, sw, rfl, hF, W, hw, fun H1 l s1 nl hl => ?_⟩
    have hF1 := hF.keep T.ap (.of s1)
    have B : RB (Vbfuaf.swung st sw) := rb_swung W hw
    obtain ⟨df, tb, ts, po, oc, ef, _, _, ⟨dp, ep⟩, _⟩ := hF1.ex
    have hfa := W.pol.fac
    have hu := W.u2
    have hl' : LsAt (OutAt d) H1 l (Vbfuaf.swung st sw) := hl
    have hc := cost_big W B (Vbfuaf.sideOf st)
    refine ⟨_, rfl, fu, _, df, _, _, rfl, ef, T.k_Fund, T.a_Fund_policy, fundF_policy .., po, _, dp, _, _, rfl, ep, T.k_Policy, T.a_Policy_factor, polF_factor .., _, rfl, fu, _, df, _, _, rfl, ef, T.k_Fund, T.a_Fund_units, fundF_units ..,
      _, _, rfl, rfl, ⟨bg_of (n := 1000000) (by omega) (by decide), bg_of (n := 1000000000000000000) (by omega) (by decide)⟩, _, rfl, _, rfl, _, rfl, fu, ol, l, st, Vbfuaf.sideOf st, _, rfl, hF1, W, hl', B, fun H2 s2 => ?_⟩
    have b1 : Bg ((st.policy.factor : Int) * (st.units : Int)) := by
      refine bg_of (n := 1000000 * 1000000000000000000) ?_ (by decide)
      rw [Int.natAbs_mul]
      exact Nat.mul_le_mul (by omega) (by omega)
    refine ⟨_, _, rfl, rfl, ⟨b1, bg_of (n := 10 ^ 35) (by omega) (by decide)⟩, _, rfl, _, rfl, _, rfl, fu, ol, l, st, _, rfl, hF1.keep T.ap (.of s2), W, hl'.kp (OutAt.lives T.ap) (.of s2), B, fun H3 s3 => ?_⟩
    refine ⟨_, _, rfl, rfl, ⟨bg_of (n := 1000000) (by decide) (by decide), bg_of (kept_bd W B) (by decide)⟩, _, _, rfl, rfl, ?_⟩
    have := k H3 ((s1.trans s2).trans s3)
    rw [← covers_dec] at this
    exact this
/-! ### found_swing -/
def spFound (d : Ad) : Sp := fun vs H Q _ => ∃ (f ol : Addr) (st : Vbfuaf.State), vs = [.ref f, .int (Vbfuaf.sideOf st : Nat)] ∧ FundAt d H f ol st ∧ WF st ∧
  ∀ H' : Hp, Same H H' → Q (.int (Vbfuaf.foundSwing st : Nat)) H'
theorem c_found_swing (T : Txt K mg d) (D : Dfn K mg "found_swing" s_found_swing p_found_swing) (c_covers : Cal P w K mg base "covers" 5 p_covers (spCovers d)) :
    Cal P w K mg base "found_swing" 6 p_found_swing (spFound d) := D.cal fun f fd F => by
  refine F.ok sc_found_swing (fun vs H Q E h => ?_) (fun cdv A outer s H vs Q E hr h => ?_)
  · obtain ⟨fu, ol, st, rfl, _⟩ := h
    rfl
  · obtain ⟨fu, ol, st, rfl, hF, W, k⟩ := h
    have nd := sc_found_swing.nd
    refine ⟨_, (pss_cons (ps_set (i := 2) nd rfl (Or.inl rfl) pe_int)
    (pss_cons (ps_set (i := 3) nd rfl (Or.inl rfl) (pe_fld (pe_fld (pv 0) rfl) rfl))
    (pss_cons (ps_while PassesOwn.never (pt_cmpR op_lt (pv 2) (pv 3) (nomark _))
    (pss_cons (ps_set (i := 4) nd rfl (Or.inl rfl) (pe_op op_fdivB (pe_op op_add (pv 2) (pv 3)) pe_int))
    (pss_one (ps_if (pt_val (pcl c_covers (hr.mono (by decide)) (pa_cons (pv 0) (pa_cons (pv 1) (pa_cons (pv 4) pa_nil)))))
    (pss_one (ps_set (i := 3) nd rfl (Or.inl rfl) (pv 4)))
    (pss_one (ps_set (i := 2) nd rfl (Or.inl rfl) (pe_op op_add (pv 4) pe_int)))))))
    (pss_one (ps_ret (pv 2)))))), ?_⟩
    obtain ⟨df, tb, ts, po, oc, ef, _, _, ⟨dp, ep⟩, _⟩ := hF.ex
    have hm := W.pol.most
    refine ⟨_, rfl, fu, _, df, _, _, rfl, ef, T.k_Fund, T.a_Fund_policy, fundF_policy .., po, _, dp, _, _, rfl, ep, T.k_Policy, T.a_Policy_greatest, polF_greatest .., ?_⟩
    refine while_by (fun σ H' => Same H H' ∧ ∃ (lo hi : Nat) (v4 : Option V), σ = [some (.ref fu), some (.int (Vbfuaf.sideOf st : Nat)), some (.int lo), some (.int hi), v4] ∧ Halv st lo hi)
      (fun σ _ => match σ with | [_, _, some (.int lo), some (.int hi), _] => (hi - lo).toNat | _ => 0) ⟨Same.refl H, 0, st.policy.most, none, rfl, Halv.start st⟩ ?_ ?_
    · rintro σ H' ⟨s1, lo, hi, v4, rfl, hv⟩
      refine ⟨_, rfl, _, rfl, _, _, rfl, rfl, _, rfl, ifB (fun q => ?_) fun q => ?_⟩
      · rw [decide_eq_true_eq] at q
        have hlt : lo < hi := by omega
        have htop := hv.top
        obtain ⟨m, em⟩ : ∃ m : Nat, ((lo : Int) + (hi : Int)) / 2 = (m : Int) := ⟨(lo + hi) / 2, by omega⟩
        refine ⟨_, rfl, _, rfl, _, _, rfl, rfl, _, _, rfl, rfl, ⟨by decide, bg_of (n := 2) (by decide) (by decide)⟩, ?_⟩
        refine ⟨_, rfl, _, rfl, _, rfl, fu, ol, st, m, (by show [V.ref fu, V.int (Vbfuaf.sideOf st : Nat), V.int (((lo : Int) + (hi : Int)) / 2)] = _; rw [em]), hF.keep T.ap (.of s1), W, (by omega), fun H2 s2 => ⟨_, rfl, ifB (fun c => ?_) fun c => ?_⟩⟩
        · refine ⟨_, rfl, ⟨s1.trans s2, lo, m, _, (by show [some (V.ref fu), some (V.int (Vbfuaf.sideOf st : Nat)), some (V.int (lo : Int)), some (V.int (((lo : Int) + (hi : Int)) / 2)), some (V.int (((lo : Int) + (hi : Int)) / 2))] = _; rw [em]), hv.down (by omega) (by omega) c⟩, ?_⟩
          show ((((lo : Int) + (hi : Int)) / 2) - (lo : Int)).toNat < ((hi : Int) - (lo : Int)).toNat
          omega
        · refine ⟨_, rfl, _, _, rfl, rfl, ⟨s1.trans s2, m + 1, hi, _, (by show [some (V.ref fu), some (V.int (Vbfuaf.sideOf st : Nat)), some (V.int (((lo : Int) + (hi : Int)) / 2 + 1)), some (V.int (hi : Int)), some (V.int (((lo : Int) + (hi : Int)) / 2))] = _; rw [em]; rfl), hv.up W (by omega) (by omega) c⟩, ?_⟩
          show ((hi : Int) - (((lo : Int) + (hi : Int)) / 2 + 1)).toNat < ((hi : Int) - (lo : Int)).toNat
          omega
      · rw [decide_eq_false_iff_not] at q
        refine ⟨_, rfl, ?_⟩
        have := k H' s1
        rw [hv.done (by omega)] at this
        exact this
    · rintro σ H' Q1 Q2 hq ⟨v, e, v', e', i, j, e1, e2, z, e3, q⟩
      exact ⟨v, e, v', e', i, j, e1, e2, z, e3, hq _ _ q⟩
end
end Fs
end
section
set_option Elab.async false
set_option linter.all false
set_option maxRecDepth 100000
set_option maxHeartbeats 2000000
namespace Fs
open PySem PySem.Spec PyProof.Rows L2
/-- the swing by the policy where it weighs enough -/
def polSw (st : Vbfuaf.State) : Nat := if st.policy.mode = 1 then (if Vbfuaf.sideOf st = 1 then st.policy.fixedIn else st.policy.fixedOut) else if st.policy.mode = 2 then Vbfuaf.foundSwing st else 0
theorem polSw_le {st : Vbfuaf.State} (W : WF st) : polSw st ≤ 2000 := by
  have h1 := W.pol.fin
  have h2 := W.pol.fout
  have h3 := W.pol.most
  have h4 := found_le st
  unfold polSw
  split
  · split <;> omega
  · split <;> omega
section
variable {P : Program} {w : World} {K : PySem.W.Frag} {mg : Str → Option Value} {base : Heap} {d : Ad}
/-! ### policy_swing -/
def spPsw (d : Ad) : Sp := fun vs H Q _ => ∃ (f ol : Addr) (st : Vbfuaf.State), vs = [.ref f, .int (Vbfuaf.sideOf st : Nat)] ∧ FundAt d H f ol st ∧ WF st ∧ ∀ H' : Hp, Same H H' → Q (.int (polSw st : Nat)) H'
theorem c_policy_swing (T : Txt K mg d) (D : Dfn K mg "policy_swing" s_policy_swing p_policy_swing) (c_found_swing : Cal P w K mg base "found_swing" 6 p_found_swing (spFound d)) :
    Cal P w K mg base "policy_swing" 7 p_policy_swing (spPsw d) := D.cal fun f fd F => by
  refine F.ok sc_policy_swing (fun vs H Q E h => ?_) (fun cdv A outer s H vs Q E hr h => ?_)
  · obtain ⟨fu, ol, st, rfl, _⟩ := h
    rfl
  · obtain ⟨fu, ol, st, rfl, hF, W, k⟩ := h
    have nd := sc_policy_swing.nd
    refine ⟨_, (pss_cons (ps_set (i := 2) nd rfl (Or.inl rfl) (pe_fld (pv 0) rfl))
    (pss_cons (ps_if (pt_cmpR op_eq (pe_fld (pv 2) rfl) (gk T.c_MODE_FIXED) (nomark _))
    (pss_one (ps_ret (pe_ifExp (pt_cmpR op_eq (pv 1) (gk T.c_SIDE_IN) (nomark _)) (pe_fld (pv 2) rfl) (pe_fld (pv 2) rfl))))
    pss_nil)
    (pss_cons (ps_if (pt_cmpR op_eq (pe_fld (pv 2) rfl) (gk T.c_MODE_FOUND) (nomark _))
    (pss_one (ps_ret (pcl c_found_swing (hr.mono (by decide)) (pa_cons (pv 0) (pa_cons (pv 1) pa_nil)))))
    pss_nil)
    (pss_one (ps_ret pe_int))))), ?_⟩
    obtain ⟨df, tb, ts, po, oc, ef, _, _, ⟨dp, ep⟩, _⟩ := hF.ex
    unfold polSw at k
    refine ⟨_, rfl, fu, _, df, _, _, rfl, ef, T.k_Fund, T.a_Fund_policy, fundF_policy .., _, rfl, po, _, dp, _, _, rfl, ep, T.k_Policy, T.a_Policy_mode, polF_mode .., rfl, _, rfl, ifB (fun q1 => ?_) fun q1 => ?_⟩
    · have q1' := (vint_dec (i := st.policy.mode) (j := 1)).symm.trans q1
      rw [decide_eq_true_eq] at q1'
      refine ⟨_, rfl, rfl, _, rfl, ifB (fun q2 => ?_) fun q2 => ?_⟩
      · have q2' := (vint_dec (i := Vbfuaf.sideOf st) (j := 1)).symm.trans q2
        rw [decide_eq_true_eq] at q2'
        refine ⟨_, rfl, po, _, dp, _, _, rfl, ep, T.k_Policy, T.a_Policy_fixed_in, polF_fixed_in .., ?_⟩
        have := k H (Same.refl H)
        rw [if_pos q1', if_pos q2'] at this
        exact this
      · have q2' := (vint_dec (i := Vbfuaf.sideOf st) (j := 1)).symm.trans q2
        rw [decide_eq_false_iff_not] at q2'
        refine ⟨_, rfl, po, _, dp, _, _, rfl, ep, T.k_Policy, T.a_Policy_fixed_out, polF_fixed_out .., ?_⟩
        have := k H (Same.refl H)
        rw [if_pos q1', if_neg q2'] at this
        exact this
    · have q1' := (vint_dec (i := st.policy.mode) (j := 1)).symm.trans q1
      rw [decide_eq_false_iff_not] at q1'
      refine ⟨_, rfl, po, _, dp, _, _, rfl, ep, T.k_Policy, T.a_Policy_mode, polF_mode .., rfl, _, rfl, ifB (fun q2 => ?_) fun q2 => ?_⟩
      · have q2' := (vint_dec (i := st.policy.mode) (j := 2)).symm.trans q2
        rw [decide_eq_true_eq] at q2'
        refine ⟨_, rfl, _, rfl, fu, ol, st, rfl, hF, W, fun H1 s1 => ?_⟩
        have := k H1 s1
        rw [if_neg q1', if_pos q2'] at this
        exact this
      · have q2' := (vint_dec (i := st.policy.mode) (j := 2)).symm.trans q2
        rw [decide_eq_false_iff_not] at q2'
        have := k H (Same.refl H)
        rw [if_neg q1', if_neg q2'] at this
        exact this
/-! ### side_of_order -/
def spSoo (d : Ad) : Sp := fun vs H Q _ => ∃ (x : Addr) (o : Vbfuaf.Order), vs = [.ref x] ∧ OrdAt d H x o ∧ ∀ H' : Hp, Same H H' → Q (.int ((if Vbfuaf.isIn o = true then 1 else 2 : Nat) : Int)) H'
theorem in_kind (k : Nat) : inV (.int (k : Int)) [.int 0, .int 1] = decide (k ≤ 1) := by
  unfold inV
  show (eqV (.int 0) (.int (k : Int)) || (eqV (.int 1) (.int (k : Int)) || false)) = _
  have h0 : eqV (.int 0) (.int (k : Int)) = decide ((0 : Int) = (k : Int)) := by
    unfold eqV
    first | rfl | simp
  have h1 : eqV (.int 1) (.int (k : Int)) = decide ((1 : Int) = (k : Int)) := by
    unfold eqV
    first | rfl | simp
  rw [h0, h1, Bool.or_false, ← Bool.decide_or]
  apply decide_eq_decide.mpr
  omega
theorem c_side_of_order (T : Txt K mg d) (D : Dfn K mg "side_of_order" s_side_of_order p_side_of_order) : Cal P w K mg base "side_of_order" 1 p_side_of_order (spSoo d) := D.cal fun f fd F => by
  refine F.ok sc_side_of_order (fun vs H Q E h => ?_) (fun cdv A outer s H vs Q E hr h => ?_)
  · obtain ⟨x, o, rfl, _⟩ := h
    rfl
  · obtain ⟨x, o, rfl, ⟨dx, hx⟩, k⟩ := h
    refine ⟨_, (pss_one (ps_ret (pe_ifExp (pt_cmpR op_in_seq (pe_fld (pv 0) rfl) (pe_tup (pa_cons (gk T.c_MONEY_IN) (pa_cons (gk T.c_UNITS_IN) pa_nil))) (by with_unfolding_all rfl)) (gk T.c_SIDE_IN) (gk T.c_SIDE_OUT)))), ?_⟩
    refine ⟨_, rfl, x, _, dx, _, _, rfl, hx, T.k_Order, T.a_Order_kind, ordF_kind .., (by show 2 ≤ sizeLine; decide), fun p hp => ?_⟩
    refine ⟨p, _, rfl, .inr (SqT.of upd_same), rfl, rfl, _, rfl, ?_⟩
    have := k _ (Same.new (o := .tup [.int 0, .int 1]) hp)
    unfold Vbfuaf.isIn at this
    refine ifB (fun q => ?_) fun q => ?_
    · have q' : inV (.int (o.kind : Int)) [.int 0, .int 1] = true := q
      rw [in_kind] at q'
      rw [if_pos q'] at this
      exact this
    · have q' : inV (.int (o.kind : Int)) [.int 0, .int 1] = false := q
      rw [in_kind] at q'
      rw [if_neg (by rw [q']; exact Bool.false_ne_true)] at this
      exact this
/-! ### lacking_of -/
def spLack (d : Ad) : Sp := fun vs H Q _ => ∃ (f ol l : Addr) (st : Vbfuaf.State) (c : Nat) (rs : List Vbfuaf.Result), vs = [.ref f, .int c, .ref l] ∧ FundAt d H f ol st ∧ WF st ∧ LsAt (OutAt d) H l rs ∧ RB rs ∧ c ≤ 10 ^ 35 ∧
  ∀ H' : Hp, Same H H' → Q (.int (Vbfuaf.lacking st rs c : Nat)) H'
theorem c_lacking_of (T : Txt K mg d) (D : Dfn K mg "lacking_of" s_lacking_of p_lacking_of) (c_rounded_up : Cal P w K mg base "rounded_up" 1 p_rounded_up spUp) (c_kept_of : Cal P w K mg base "kept_of" 2 p_kept_of (spKept d)) :
    Cal P w K mg base "lacking_of" 3 p_lacking_of (spLack d) := D.cal fun f fd F => by
  refine F.ok sc_lacking_of (fun vs H Q E h => ?_) (fun cdv A outer s H vs Q E hr h => ?_)
  · obtain ⟨fu, ol, l, st, c, rs, rfl, _⟩ := h
    rfl
  · obtain ⟨fu, ol, l, st, c, rs, rfl, hF, W, hL, B, hc, k⟩ := h
    refine ⟨_, (pss_one (ps_ret (pcl c_rounded_up (hr.mono (by decide)) (pa_cons (pe_callB (call_max2 rfl) (by rfl) T.n_max boot_max (pa_cons pe_int (pa_cons (pe_op op_sub (pe_op op_mulB (pe_fld (pv 0) rfl) (pv 1)) (pcl c_kept_of (hr.mono (by decide)) (pa_cons (pv 0) (pa_cons (pv 2) pa_nil)))) pa_nil))) (pa_cons (pe_fld (pv 0) rfl) pa_nil))))), ?_⟩
    obtain ⟨df, tb, ts, po, oc, ef, _⟩ := hF.ex
    have hu := W.u2
    have hu1 := W.u1
    refine ⟨_, rfl, fu, _, df, _, _, rfl, ef, T.k_Fund, T.a_Fund_units, fundF_units .., _, rfl, _, _, rfl, rfl, ⟨bg_of (n := 1000000000000000000) (by omega) (by decide), bg_of (n := 10 ^ 35) (by omega) (by decide)⟩, _, rfl, _, rfl, fu, ol, l, st, rs, rfl, hF, W, hL, B, fun H1 s1 => ?_⟩
    refine ⟨_, _, rfl, rfl, _, _, rfl, _, rfl, fu, _, df, _, _, rfl, s1 _ _ ef, T.k_Fund, T.a_Fund_units, fundF_units .., _, _, rfl, by omega, bg_of (n := 1000000000000000000) (by omega) (by decide), ?_⟩
    have := k H1 s1
    unfold Vbfuaf.lacking at this
    rw [← up_neg (by omega), ← posP_toNat] at this
    exact this
theorem weight_eq (st : Vbfuaf.State) (o : Vbfuaf.Order) : ((Vbfuaf.weightOf st o : Nat) : Int) = if decide (V.int ((if Vbfuaf.isIn o = true then 1 else 2 : Nat) : Int) = V.int (Vbfuaf.sideOf st : Nat)) = true then (((Vbfuaf.done st 0 0 0 o).money.natAbs : Nat) : Int) else 0 := by
  rw [vint_dec]
  unfold Vbfuaf.weightOf
  have hs := side_le st
  by_cases h : Vbfuaf.isIn o = true
  · rw [if_pos h]
    by_cases e : Vbfuaf.sideOf st = 1
    · rw [if_pos (.inl ⟨e, h⟩), if_pos (decide_eq_true e.symm)]
    · rw [if_neg (by rintro (⟨z, _⟩ | ⟨_, z⟩); · exact e z
                     · rw [h] at z; cases z), if_neg (by rw [decide_eq_false (fun z => e z.symm)]; exact Bool.false_ne_true)]
      rfl
  · rw [if_neg h]
    have h' : Vbfuaf.isIn o = false := by simpa using h
    by_cases e : Vbfuaf.sideOf st = 2
    · rw [if_pos (.inr ⟨e, h'⟩), if_pos (decide_eq_true e.symm)]
    · rw [if_neg (by rintro (⟨_, z⟩ | ⟨z, _⟩); · exact h z
                     · exact e z), if_neg (by rw [decide_eq_false (fun z => e z.symm)]; exact Bool.false_ne_true)]
      rfl
end
end Fs
end
section
set_option Elab.async false
set_option linter.all false
set_option maxRecDepth 100000
set_option maxHeartbeats 2000000
namespace Fs
open PySem PySem.Spec PyProof.Rows L2
section
variable {P : Program} {w : World} {K : PySem.W.Frag} {mg : Str → Option Value} {base : Heap} {d : Ad}
/-! ### levied_outcomes -/
def spLev (d : Ad) : Sp := fun vs H Q _ => ∃ (f ol lv : Addr) (st : Vbfuaf.State) (ls : List Nat), vs = [.ref f, .ref lv] ∧ FundAt d H f ol st ∧ WF st ∧ H lv = some (.lst ((ls.map fun n : Nat => (n : Int)).map V.int)) ∧ ls.length = st.orders.length ∧ (∀ l ∈ ls, l ≤ 10 ^ 32) ∧
  ∀ (H' : Hp) (p : Addr), Same H H' → H p = none → LsAt (OutAt d) H' p ((st.orders.zip ls).map fun x => Vbfuaf.done st 0 0 x.2 x.1) → Q (.ref p) H'
theorem c_levied_outcomes (T : Txt K mg d) (D : Dfn K mg "levied_outcomes" s_levied_outcomes p_levied_outcomes) (c_done : Cal P w K mg base "done" 3 p_done (spDone d)) (m_Prices : Kls P w K mg base "Prices" d.pri 1 p_Prices_init (spPri d)) :
    Cal P w K mg base "levied_outcomes" 4 p_levied_outcomes (spLev d) := D.cal fun f fd F => by
  refine F.ok sc_levied_outcomes (fun vs H Q E h => ?_) (fun cdv A outer s H vs Q E hr h => ?_)
  · obtain ⟨fu, ol, lv, st, ls, rfl, _⟩ := h
    rfl
  · obtain ⟨fu, ol, lv, st, ls, rfl, hF, W, hlv, hll, hlb, k⟩ := h
    have nd := sc_levied_outcomes.nd
    refine ⟨_, (pss_cons (ps_set (i := 2) nd rfl (Or.inr rfl) (pmk m_Prices (hr.mono (by decide)) (pa_cons (pv 0) (pa_cons pe_int (pa_cons pe_int pa_nil)))))
    (pss_one (ps_ret (pe_lc rfl nd (pi_zip rfl T.n_zip (pa_cons (pe_fld (pv 0) rfl) (pa_cons (pv 1) pa_nil))) (blkOk_by (own := [("order", 3), ("levy", 4)]) (by rfl)) (g := gTup K 2 (gCons (gName 3) (gCons (gName 4) gNil))) (fun _ _ _ _ _ => (pg_tup rfl (pgs_cons (pg_name (i := 3) nd rfl (Or.inl rfl)) (pgs_cons (pg_name (i := 4) nd rfl (Or.inl rfl)) pgs_nil)))) (fun _ _ _ _ _ => pts_nil) (fun _ _ _ _ _ => (pcl c_done (hr.mono (by decide)) (pa_cons (pv 3) (pa_cons (pv 2) (pa_cons (pv 4) pa_nil))))))))), ?_⟩
    obtain ⟨df, tb, ts, po, oc, ef, _, _, _, ⟨as, eo, hlen, hat⟩, _⟩ := hF.ex
    refine ⟨_, rfl, made_pri (a := 0) (b := 0) T.ap hF W (Nat.zero_le _) (Nat.zero_le _) fun x dx H2 nx s2 hx => ?_⟩
    refine ⟨_, rfl, fu, _, df, _, _, rfl, s2 _ _ ef, T.k_Fund, T.a_Fund_orders, fundF_orders .., _, rfl, ol, lv, _, _, rfl, SqL.of (s2 _ _ eo), SqL.of (s2 _ _ hlv), fun D hD => ?_⟩
    refine lc_zip_objs (OutAt.lives T.ap) ((st.orders.zip ls).map fun x => Vbfuaf.done st 0 0 x.2 x.1) (by simp [hlen, hll]) (by simp [hll]) hD (line40 (by rw [List.length_map, List.length_zip, hll, Nat.min_self]; exact W.olen)) (SqL.of (s2 _ _ eo)) (SqL.of (s2 _ _ hlv)) (fun i H3 v z y t Qn hv hz hy s3 ht q => ?_) fun H3 s3 h3 => ?_
    · rw [List.getElem?_map] at hv hz hy
      rw [List.getElem?_map] at hz
      cases qa : as[i]? with
      | none => rw [qa] at hv; cases hv
      | some a =>
        cases qb : ls[i]? with
        | none => rw [qb] at hz; cases hz
        | some lvy =>
          cases qo : st.orders[i]? with
          | none =>
            have hle : st.orders.length ≤ i := List.getElem?_eq_none_iff.mp qo
            have hz0 : (st.orders.zip ls)[i]? = none := List.getElem?_eq_none (by rw [List.length_zip]; omega)
            rw [hz0] at hy
            cases hy
          | some o =>
            have hzip : (st.orders.zip ls)[i]? = some (o, lvy) := List.getElem?_zip_eq_some.mpr ⟨qo, qb⟩
            rw [qa] at hv
            rw [qb] at hz
            rw [hzip] at hy
            cases hv
            cases hz
            cases hy
            have s4 : Same H2 (upd H3 t (.tup [.ref a, .int (lvy : Nat)])) := s3.trans (Same.new ht)
            obtain ⟨da, ha⟩ := hat i a o qa qo
            refine ⟨t, _, rfl, SqT.of upd_same, rfl, _, _, rfl, _, _, rfl, rfl, rfl, _, rfl, _, rfl, _, rfl, a, x, dx, o, st, 0, 0, lvy, rfl, ⟨da, s4 _ _ (s2 _ _ ha)⟩, s4 _ _ hx, W, W.ord o (List.mem_of_getElem? qo), Nat.zero_le _, Nat.zero_le _, hlb lvy (List.mem_of_getElem? qb), fun H5 z s5 _ hz => q z H5 s5 hz⟩
    · exact k H3 D (s2.trans s3) (s2.free hD) h3
/-! ### Point.__init__ -/
def poiOf (st : Vbfuaf.State) (side sw c : Nat) (l : Addr) (rs : List Vbfuaf.Result) : List (Str × V) :=
  poiF side sw c l (Vbfuaf.lacking st rs c : Nat) ((st.value : Int) + Vbfuaf.flowOf rs - (c : Int)) ((st.units : Int) + Vbfuaf.unitsOf rs)
def spPoi (d : Ad) : Sp := fun vs H Q _ => ∃ (x dx f ol l : Addr) (st : Vbfuaf.State) (side sw c : Nat) (rs : List Vbfuaf.Result), vs = [.ref x, .ref f, .int side, .int sw, .int c, .ref l] ∧ H x = some (.ins d.poi dx []) ∧ FundAt d H f ol st ∧ WF st ∧ LsAt (OutAt d) H l rs ∧ RB rs ∧ c ≤ 10 ^ 35 ∧
  ∀ H' : Hp, (∀ b o, H b = some o → b ≠ x → H' b = some o) → H' x = some (.ins d.poi dx (poiOf st side sw c l rs)) → Q .non H'
/-- all but x stays -/
def But (x : Addr) (H H' : Hp) : Prop := ∀ b o, H b = some o → b ≠ x → H' b = some o
theorem But.fund {x dx : Addr} {H H' : Hp} {f ol : Addr} {st : Vbfuaf.State} {C : Addr} {fs : List (Str × V)} (A : Apart d) (hC : C ≠ d.fund) (hx : H x = some (.ins C dx fs)) (hn : C ≠ d.pol) (hn2 : C ≠ d.ord) (hn3 : C ≠ d.out) (hn4 : C ≠ d.tier) (k : But x H H') (h : FundAt d H f ol st) : FundAt d H' f ol st := by
  obtain ⟨df, tb, ts, po, oc, e, h1, h2, ⟨dp, ep⟩, h4, h5, h6⟩ := h.ex
  have nl : ∀ {l : Addr} {xs : List V}, H l = some (.lst xs) → l ≠ x := fun e => ne_of e hx (by intro z; cases z)
  have nc : ∀ {b D dy : Addr} {gs : List (Str × V)}, H b = some (.ins D dy gs) → D ≠ C → b ≠ x := fun e hD => ne_of e hx (fun z => hD (HO.ins.inj z).1)
  have ls : ∀ {α : Type} {R : Hp → Addr → α → Prop} {l : Addr} {xs : List α}, (∀ a y, R H a y → R H' a y) → LsAt R H l xs → LsAt R H' l xs := fun hR ⟨as, ea, hl, hr⟩ => ⟨as, k _ _ ea (nl ea), hl, fun i a y q1 q2 => hR a y (hr i a y q1 q2)⟩
  refine ⟨df, tb, ts, po, oc, k _ _ e (nc e (Ne.symm hC)), ls (fun a y ⟨dy, q⟩ => ⟨dy, k _ _ q (nc q (Ne.symm hn4))⟩) h1, ls (fun a y ⟨dy, q⟩ => ⟨dy, k _ _ q (nc q (Ne.symm hn4))⟩) h2, ⟨dp, k _ _ ep (nc ep (Ne.symm hn))⟩,
    ls (fun a y ⟨dy, q⟩ => ⟨dy, k _ _ q (nc q (Ne.symm hn2))⟩) h4, ls (fun a y ⟨dy, q⟩ => ⟨dy, k _ _ q (nc q (Ne.symm hn3))⟩) h5, h6⟩
theorem But.outs {x dx : Addr} {H H' : Hp} {l : Addr} {rs : List Vbfuaf.Result} {C : Addr} {fs : List (Str × V)} (hx : H x = some (.ins C dx fs)) (hn3 : C ≠ d.out) (k : But x H H') (h : LsAt (OutAt d) H l rs) : LsAt (OutAt d) H' l rs := by
  obtain ⟨as, ea, hl, hr⟩ := h
  refine ⟨as, k _ _ ea (ne_of ea hx (by intro z; cases z)), hl, fun i a y q1 q2 => ?_⟩
  obtain ⟨dy, q⟩ := hr i a y q1 q2
  exact ⟨dy, k _ _ q (ne_of q hx (fun z => hn3 (HO.ins.inj z).1.symm))⟩
/-- the point's class is none of the others -/
structure PoiAp (d : Ad) : Prop where
  pol : d.poi ≠ d.pol
  ord : d.poi ≠ d.ord
  out : d.poi ≠ d.out
  tier : d.poi ≠ d.tier
theorem m_Point {q : Str} (T : Txt K mg d) (Z : PoiAp d) (D : Kfn K mg "Point" q d.poi s_Point_init p_Point_init) (c_lacking_of : Cal P w K mg base "lacking_of" 3 p_lacking_of (spLack d)) (c_flow_of : Cal P w K mg base "flow_of" 1 p_flow_of (spSumM d)) (c_units_of : Cal P w K mg base "units_of" 1 p_units_of (spSumU d)) :
    Kls P w K mg base "Point" d.poi 4 p_Point_init (spPoi d) := D.kls fun f fd F => by
  refine F.ok sc_Point_init (fun vs H Q E h => ?_) (fun cdv A outer s H vs Q E hr h => ?_)
  · obtain ⟨x, dx, fu, ol, l, st, side, sw, c, rs, rfl, _⟩ := h
    rfl
  · obtain ⟨x, dx, fu, ol, l, st, side, sw, c, rs, rfl, hx, hF, W, hL, B, hc, k⟩ := h
    refine ⟨_, (pss_cons (ps_fld (pv 0) (pv 2) rfl)
    (pss_cons (ps_fld (pv 0) (pv 3) rfl)
    (pss_cons (ps_fld (pv 0) (pv 4) rfl)
    (pss_cons (ps_fld (pv 0) (pv 5) rfl)
    (pss_cons (ps_fld (pv 0) (pcl c_lacking_of (hr.mono (by decide)) (pa_cons (pv 1) (pa_cons (pv 4) (pa_cons (pv 5) pa_nil)))) rfl)
    (pss_cons (ps_fld (pv 0) (pe_op op_sub (pe_op op_add (pe_fld (pv 1) rfl) (pcl c_flow_of (hr.mono (by decide)) (pa_cons (pv 5) pa_nil))) (pv 4)) rfl)
    (pss_one (ps_fld (pv 0) (pe_op op_add (pe_fld (pv 1) rfl) (pcl c_units_of (hr.mono (by decide)) (pa_cons (pv 5) pa_nil))) rfl)))))))), ?_⟩
    have L0 : ([] : List (Str × V)).length ≤ 0 := Nat.le_refl _
    refine ⟨_, rfl, _, rfl, x, d.poi, dx, _, rfl, hx, T.k_Point, T.a_Point_side, (Nat.zero_lt_succ _),
      _, rfl, _, rfl, x, d.poi, dx, _, rfl, upd_same, T.k_Point, T.a_Point_swing, (Nat.lt_of_le_of_lt (len_put L0) (by decide)),
      _, rfl, _, rfl, x, d.poi, dx, _, rfl, upd_same, T.k_Point, T.a_Point_cost, (Nat.lt_of_le_of_lt (len_put (len_put L0)) (by decide)),
      _, rfl, _, rfl, x, d.poi, dx, _, rfl, upd_same, T.k_Point, T.a_Point_outcomes, (Nat.lt_of_le_of_lt (len_put (len_put (len_put L0))) (by decide)), ?_⟩
    have k4 : ∀ {o : HO}, But x H (upd (upd (upd (upd H x (.ins d.poi dx (putF "side" (.int side) []))) x (.ins d.poi dx (putF "swing" (.int sw) (putF "side" (.int side) [])))) x (.ins d.poi dx (putF "cost" (.int c) (putF "swing" (.int sw) (putF "side" (.int side) []))))) x o) := fun b o e hb => by
      rw [upd_ne hb, upd_ne hb, upd_ne hb, upd_ne hb]
      exact e
    have F4 := fun {o : HO} => But.fund T.ap T.ap.poi hx Z.pol Z.ord Z.out Z.tier (k4 (o := o)) hF
    have L4 := fun {o : HO} => But.outs hx Z.out (k4 (o := o)) hL
    refine ⟨_, rfl, _, rfl, _, rfl, fu, ol, l, st, c, rs, rfl, F4, W, L4, B, hc, fun H5 s5 => ?_⟩
    have e5 := s5 _ _ (upd_same (H := upd (upd (upd H x (.ins d.poi dx (putF "side" (.int side) []))) x (.ins d.poi dx (putF "swing" (.int sw) (putF "side" (.int side) [])))) x (.ins d.poi dx (putF "cost" (.int c) (putF "swing" (.int sw) (putF "side" (.int side) [])))))
      (a := x) (o := .ins d.poi dx (putF "outcomes" (.ref l) (putF "cost" (.int c) (putF "swing" (.int sw) (putF "side" (.int side) []))))))
    refine ⟨_, rfl, x, d.poi, dx, _, rfl, e5, T.k_Point, T.a_Point_lacking, (Nat.lt_of_le_of_lt (len_put (len_put (len_put (len_put L0)))) (by decide)), ?_⟩
    have k5 : ∀ {o : HO}, But x H (upd H5 x o) := fun b o e hb => by
      rw [upd_ne hb]
      exact s5 _ _ (k4 b o e hb)
    have F5 := fun {o : HO} => But.fund T.ap T.ap.poi hx Z.pol Z.ord Z.out Z.tier (k5 (o := o)) hF
    have L5 := fun {o : HO} => But.outs hx Z.out (k5 (o := o)) hL
    obtain ⟨df, tb, ts, po, oc, ef, _⟩ := (F5 (o := .ins d.poi dx (putF "lacking" (.int (Vbfuaf.lacking st rs c : Nat)) (putF "outcomes" (.ref l) (putF "cost" (.int c) (putF "swing" (.int sw) (putF "side" (.int side) []))))))).ex
    refine ⟨_, rfl, fu, _, df, _, _, rfl, ef, T.k_Fund, T.a_Fund_value, fundF_value .., _, rfl, l, rs, rfl, L5, B.len, fun H6 s6 => ⟨_, _, rfl, rfl, _, rfl, _, _, rfl, rfl, _, rfl, x, d.poi, dx, _, rfl, s6 _ _ upd_same, T.k_Point, T.a_Point_value, (Nat.lt_of_le_of_lt (len_put (len_put (len_put (len_put (len_put L0))))) (by decide)), ?_⟩⟩
    have k6 : ∀ {o : HO}, But x H (upd H6 x o) := fun b o e hb => by
      rw [upd_ne hb]
      exact s6 _ _ (k5 b o e hb)
    have F6 := fun {o : HO} => But.fund T.ap T.ap.poi hx Z.pol Z.ord Z.out Z.tier (k6 (o := o)) hF
    have L6 := fun {o : HO} => But.outs hx Z.out (k6 (o := o)) hL
    obtain ⟨df6, tb6, ts6, po6, oc6, ef6, _⟩ := (F6 (o := .ins d.poi dx (putF "value" (.int ((st.value : Int) + Vbfuaf.flowOf rs - (c : Int))) (putF "lacking" (.int (Vbfuaf.lacking st rs c : Nat)) (putF "outcomes" (.ref l) (putF "cost" (.int c) (putF "swing" (.int sw) (putF "side" (.int side) [])))))))).ex
    refine ⟨_, rfl, fu, _, df6, _, _, rfl, ef6, T.k_Fund, T.a_Fund_units, fundF_units .., _, rfl, l, rs, rfl, L6, B.len, fun H7 s7 => ⟨_, _, rfl, rfl, _, rfl, x, d.poi, dx, _, rfl, s7 _ _ upd_same, T.k_Point, T.a_Point_units, (Nat.lt_of_le_of_lt (len_put (len_put (len_put (len_put (len_put (len_put L0)))))) (by decide)), ?_⟩⟩
    refine k _ (fun b o e hb => ?_) ?_
    · rw [upd_ne hb]
      exact s7 _ _ (k6 b o e hb)
    · rw [upd_same, poiF_put]
      rfl
end
end Fs
end
section
set_option Elab.async false
set_option linter.all false
set_option maxRecDepth 100000
set_option maxHeartbeats 2000000
/-! zip of a list and a tuple; a walk over both, the list the shorter one. -/
namespace FsZ
open PySem PyProof.Rows
section
variable {prog : Program} {w : World} {A : Around} {E : Value → Shared → Prop} {s : Shared}
/-- the next item of a walk over a tuple -/
theorem nextT {jt t : Addr} {i : Nat} {its : Array Value} {x : Value} {Q : Value → Shared → Prop} (hj : s.heap.IsTupleIter jt t i) (ht : s.heap.IsTuple t its) (hx : its[i]? = some x)
    (k : ∀ h', h'.IsTupleIter jt t (i + 1) → Heap.SameBut jt s.heap h' → Q x { s with heap := h' }) : wpAny (model prog w) A (Builtin.SmallTypes.nextOf (.ref jt)) Q E s := by
  obtain ⟨oj, gj, cj, dj⟩ := id hj
  obtain ⟨ot, gt, _, nt, dt⟩ := ht
  unfold Builtin.SmallTypes.nextOf
  refine wpAny_bind (wpAny_callSpecial?_slot (name := Str.ofString "__next__") hj.typeIs F.slot_tuple_iterator_next (wpAny_call_entry F.slot_tuple_iterator_next hj.typeIs F.entry_tuple_iterator_next ?_ (F.args_tuple_iterator_next_1 _)))
  show wpAny _ _ (field (.ref jt) 0 >>= _) _ _ s
  refine wpAny_bind (wpAny_field gj dj (x := .ref t) rfl ?_)
  show wpAny _ _ (if (Value.ref t == Value.none) = true then _ else _) _ _ s
  rw [if_neg (show ¬ ((Value.ref t == Value.none) = true) from Bool.false_ne_true)]
  show wpAny _ _ (field (.ref jt) 1 >>= _) _ _ s
  refine wpAny_bind (wpAny_field gj dj (x := .int i 0) rfl ?_)
  show wpAny _ _ (seqItems? (.ref t) >>= _) _ _ s
  refine wpAny_bind (wpAny_seqItems gt dt ?_)
  simp only [Int.toNat_natCast, hx]
  refine wpAny_bind (wpAny_setField gj dj (by simp) (wpAny_pure ⟨x, rfl, wpAny_pure (k _ ?_ (Heap.SameBut.update ..))⟩))
  refine ⟨_, Heap.get?_update_self _ gj (Obj.isFreed_of_fields (Obj.data_mapFields dj _)), (Obj.cls_mapFields ..).trans cj, ?_⟩
  rw [Obj.data_mapFields dj]
  simp [rawInt]
theorem itExt {h h' : Heap} {a t : Addr} {i : Nat} (x : h.IsTupleIter a t i) (k : ∀ o, h.get? a = some o → h'.get? a = some o) : h'.IsTupleIter a t i := let ⟨o, e, r⟩ := x; ⟨o, k o e, r⟩
theorem zipT_item {z TI TO i1 i2 l1 t2 : Addr} {k1 k2 : Nat} {xs ys : Array Value} {x y a b : Value} {Q : Value → Shared → Prop} (D : ZipApart z TI TO i1 i2 l1 t2) (gz : IsZip s.heap z TI TO .none) (gI : IsPair s.heap TI (.ref i1) (.ref i2))
    (gO : IsPair s.heap TO a b) (w1 : s.heap.IsListIter i1 l1 k1) (w2 : s.heap.IsTupleIter i2 t2 k2) (q1 : s.heap.IsList l1 xs) (q2 : s.heap.IsTuple t2 ys) (hx : xs[k1]? = some x) (hy : ys[k2]? = some y)
    (kk : ∀ h', IsZip h' z TI TO (rawInt s.heap.objs.size) → IsPair h' TO x y → h'.IsListIter i1 l1 (k1 + 1) → h'.IsTupleIter i2 t2 (k2 + 1) → IsPair h' s.heap.objs.size x y → h'.objs.size = s.heap.objs.size + 1 →
      (∀ c o, c ≠ z → c ≠ TO → c ≠ i1 → c ≠ i2 → s.heap.get? c = some o → h'.get? c = some o) → Q (.ref s.heap.objs.size) { s with heap := h' }) :
    wpAny (model prog w) A (Builtin.«zip.__next__» ⟨[.ref z], []⟩) (fun fin s' => ∃ v, fin = .done (.ret v) ∧ Q v s') E s := by
  show wpAny _ _ (field (.ref z) 2 >>= _) _ _ _
  refine wpAny_bind (wpAny_field gz rfl (x := .bool false) rfl ?_)
  show wpAny _ _ (field (.ref z) 3 >>= _) _ _ _
  refine wpAny_bind (wpAny_field gz rfl (x := .ref TI) rfl ?_)
  refine wpAny_bind (wpAny_seqItems gI rfl ?_)
  show wpAny _ _ (Builtin.SmallTypes.ownedTupleIsFree (.ref z) >>= _) _ _ _
  refine wpAny_bind ?_
  unfold Builtin.SmallTypes.ownedTupleIsFree
  refine wpAny_bind (wpAny_field gz rfl (x := .none) rfl (wpAny_pure ?_))
  simp only [if_true]
  refine wpAny_bind (wpAny_rule ?_)
  refine wpAny_bind (wpAny_field gz rfl (x := .ref TO) rfl ?_)
  refine wpAny_bind (wpAny_setField_rec gz (by simp) fun ha za sa => ?_)
  replace za : IsZip ha z TI TO .ellipsis := za
  refine wpAny_bind ?_
  simp only [List.zipIdx_cons, List.zipIdx_nil, List.forIn_cons, List.forIn_nil]
  -- the list's item
  refine wpAny_bind (wpAny_bind (wpAny_onRaise ?_))
  show wpAny _ _ (Builtin.SmallTypes.nextOf (.ref i1) >>= _) _ _ _
  refine wpAny_bind (wpAny_nextOf_list_item (w1.extBut sa.extBut D.i1z) (q1.extBut sa.extBut D.l1z) hx fun hb wb sb => wpAny_pure ?_)
  have Ob : IsPair hb TO a b := sb.extBut _ _ D.TOi1 (sa.extBut _ _ D.TOz gO)
  refine wpAny_bind (wpAny_seqItems Ob rfl ?_)
  refine wpAny_bind (wpAny_updateSeq_pair Ob fun hc Oc sc => ?_)
  replace Oc : IsPair hc TO x b := Oc
  refine wpAny_bind (wpAny_letGo (wpAny_pure ?_))
  -- the tuple's item
  refine wpAny_bind (wpAny_bind (wpAny_onRaise ?_))
  show wpAny _ _ (Builtin.SmallTypes.nextOf (.ref i2) >>= _) _ _ _
  refine wpAny_bind (nextT (((w2.extBut sa.extBut D.i2z).extBut sb.extBut D.i12.symm).extBut sc.extBut D.TOi2.symm) (((q2.extBut sa.extBut D.l2z).extBut sb.extBut D.l2i1).extBut sc.extBut D.l2TO) hy fun hd wd sd => wpAny_pure ?_)
  have Od : IsPair hd TO x b := sd.extBut _ _ D.TOi2 Oc
  refine wpAny_bind (wpAny_seqItems Od rfl ?_)
  refine wpAny_bind (wpAny_updateSeq_pair Od fun he Oe se => ?_)
  replace Oe : IsPair he TO x y := Oe
  refine wpAny_bind (wpAny_letGo (wpAny_pure (wpAny_pure ?_)))
  refine wpAny_bind (wpAny_seqItems Oe rfl ?_)
  refine wpAny_bind (wpAny_newTuple ?_)
  have sz : he.objs.size = s.heap.objs.size := by rw [se.1, sd.1, sc.1, sb.1, sa.1]
  have ze : IsZip he z TI TO .ellipsis := se.extBut _ _ D.TOz.symm (sd.extBut _ _ D.i2z.symm (sc.extBut _ _ D.TOz.symm (sb.extBut _ _ D.i1z.symm za)))
  have ke : ∀ c o, c ≠ z → c ≠ TO → c ≠ i1 → c ≠ i2 → s.heap.get? c = some o → he.get? c = some o := fun c o c1 c2 c3 c4 e => se.extBut _ _ c2 (sd.extBut _ _ c4 (sc.extBut _ _ c2 (sb.extBut _ _ c3 (sa.extBut _ _ c1 e))))
  have v1 : he.IsListIter i1 l1 (k1 + 1) := ((wb.extBut sc.extBut D.TOi1.symm).extBut sd.extBut D.i12).extBut se.extBut D.TOi1.symm
  have v2 : he.IsTupleIter i2 t2 (k2 + 1) := wd.extBut se.extBut D.TOi2.symm
  have zlt : z < he.objs.size := Heap.lt_size ze
  show wpAny _ _ (Builtin.SmallTypes.ownedTupleHandOut (.ref z) (.ref he.objs.size) >>= _) _ _ _
  refine wpAny_bind ?_
  unfold Builtin.SmallTypes.ownedTupleHandOut
  have zf : IsZip (he.push { cls := .type "tuple", data := .seq #[x, y] }) z TI TO .ellipsis := Heap.get?_push_of_some _ ze
  refine wpAny_bind (wpAny_setField_rec zf (by simp) fun hg zg sg => ?_)
  replace zg : IsZip hg z TI TO (rawInt he.objs.size) := zg
  refine wpAny_setField_rec zg (by simp) fun hh zh sh => ?_
  replace zh : IsZip hh z TI TO (rawInt he.objs.size) := zh
  have up : ∀ c o, c ≠ z → he.get? c = some o → hh.get? c = some o := fun c o c1 e => sh.extBut _ _ c1 (sg.extBut _ _ c1 (Heap.get?_push_of_some _ e))
  have Th : IsPair hh he.objs.size x y := sh.extBut _ _ (Nat.ne_of_gt zlt) (sg.extBut _ _ (Nat.ne_of_gt zlt) (Heap.get?_push_size _ rfl))
  have z8 : hh.objs.size = he.objs.size + 1 := by rw [sh.1, sg.1, Heap.size_push]
  rw [sz] at zh Th z8
  refine wpAny_pure ⟨_, rfl, ?_⟩
  show Q (.ref he.objs.size) _
  rw [sz]
  exact kk hh zh (up _ _ D.TOz Oe) (v1.at fun o e => up _ o D.i1z e) (itExt v2 fun o e => up _ o D.i2z e) Th z8 fun c o c1 c2 c3 c4 e => up c o c1 (ke c o c1 c2 c3 c4 e)
theorem zipT_stop {z TI TO i1 i2 l1 l2 : Addr} {k1 : Nat} {xs : Array Value} {a b : Value} {Q : Fin → Shared → Prop} (hh : A.handled = none) (D : ZipApart z TI TO i1 i2 l1 l2) (gz : IsZip s.heap z TI TO .none) (gI : IsPair s.heap TI (.ref i1) (.ref i2))
    (gO : IsPair s.heap TO a b) (w1 : s.heap.IsListIter i1 l1 k1) (q1 : s.heap.IsList l1 xs) (hend : xs[k1]? = none)
    (kE : ∀ h' e, (∀ c o, c ≠ z → c ≠ TO → c ≠ i1 → c ≠ i2 → s.heap.get? c = some o → h'.get? c = some o) → (∃ o, h'.get? e = some o ∧ o.cls = .type "StopIteration") → E (.ref e) { s with heap := h' }) :
    wpAny (model prog w) A (Builtin.«zip.__next__» ⟨[.ref z], []⟩) Q E s := by
  show wpAny _ _ (field (.ref z) 2 >>= _) _ _ _
  refine wpAny_bind (wpAny_field gz rfl (x := .bool false) rfl ?_)
  show wpAny _ _ (field (.ref z) 3 >>= _) _ _ _
  refine wpAny_bind (wpAny_field gz rfl (x := .ref TI) rfl ?_)
  refine wpAny_bind (wpAny_seqItems gI rfl ?_)
  show wpAny _ _ (Builtin.SmallTypes.ownedTupleIsFree (.ref z) >>= _) _ _ _
  refine wpAny_bind ?_
  unfold Builtin.SmallTypes.ownedTupleIsFree
  refine wpAny_bind (wpAny_field gz rfl (x := .none) rfl (wpAny_pure ?_))
  simp only [if_true]
  refine wpAny_bind (wpAny_rule ?_)
  refine wpAny_bind (wpAny_field gz rfl (x := .ref TO) rfl ?_)
  refine wpAny_bind (wpAny_setField_rec gz (by simp) fun ha za sa => ?_)
  replace za : IsZip ha z TI TO .ellipsis := za
  refine wpAny_bind ?_
  simp only [List.zipIdx_cons, List.zipIdx_nil, List.forIn_cons, List.forIn_nil]
  refine wpAny_bind (wpAny_bind (wpAny_onRaise ?_))
  show wpAny _ _ (Builtin.SmallTypes.nextOf (.ref i1) >>= _) _ _ _
  refine wpAny_bind (wpAny_nextOf_list_end hh (w1.extBut sa.extBut D.i1z) (q1.extBut sa.extBut D.l1z) hend fun hb e sb he => ?_)
  obtain ⟨oe, ge, ce⟩ := he
  have zb : IsZip hb z TI TO .ellipsis := sb _ _ D.i1z.symm za
  have ez : e ≠ z := fun q => by
    subst q
    rw [zb] at ge
    cases ge
    simp at ce
  exact wpAny_setField_rec zb (by simp) fun hc _ sc => kE hc e (fun c o c1 _ c3 _ q => sc.extBut _ _ c1 (sb _ _ c3 (sa.extBut _ _ c1 q))) ⟨oe, sc.extBut _ _ ez ge, ce⟩
theorem nextZ_item {z TI TO i1 i2 l1 t2 : Addr} {k1 k2 : Nat} {xs ys : Array Value} {x y a b : Value} {Q : Option Value → Shared → Prop} (D : ZipApart z TI TO i1 i2 l1 t2) (gz : IsZip s.heap z TI TO .none) (gI : IsPair s.heap TI (.ref i1) (.ref i2))
    (gO : IsPair s.heap TO a b) (w1 : s.heap.IsListIter i1 l1 k1) (w2 : s.heap.IsTupleIter i2 t2 k2) (q1 : s.heap.IsList l1 xs) (q2 : s.heap.IsTuple t2 ys) (hx : xs[k1]? = some x) (hy : ys[k2]? = some y)
    (kk : ∀ h', IsZip h' z TI TO (rawInt s.heap.objs.size) → IsPair h' TO x y → h'.IsListIter i1 l1 (k1 + 1) → h'.IsTupleIter i2 t2 (k2 + 1) → IsPair h' s.heap.objs.size x y → h'.objs.size = s.heap.objs.size + 1 →
      (∀ c o, c ≠ z → c ≠ TO → c ≠ i1 → c ≠ i2 → s.heap.get? c = some o → h'.get? c = some o) → Q (some (.ref s.heap.objs.size)) { s with heap := h' }) :
    wpAny (model prog w) A (pyNext (.ref z)) Q E s := by
  have ty : s.TypeIs (.ref z) "zip" := ⟨_, gz, rfl⟩
  unfold pyNext
  refine wpAny_bind (wpAny_attempt (wpAny_callSpecial?_slot (name := Str.ofString "__next__") ty F.slot_zip_next (wpAny_call_entry F.slot_zip_next ty F.entry_zip_next ?_ (F.args_zip_next_1 _))))
  exact zipT_item D gz gI gO w1 w2 q1 q2 hx hy fun h' a1 a2 a3 a4 a5 a6 a7 => wpAny_pure (kk h' a1 a2 a3 a4 a5 a6 a7)
theorem nextZ_stop {z TI TO i1 i2 l1 l2 : Addr} {k1 : Nat} {xs : Array Value} {a b : Value} {Q : Option Value → Shared → Prop} (hh : A.handled = none) (D : ZipApart z TI TO i1 i2 l1 l2) (gz : IsZip s.heap z TI TO .none) (gI : IsPair s.heap TI (.ref i1) (.ref i2))
    (gO : IsPair s.heap TO a b) (w1 : s.heap.IsListIter i1 l1 k1) (q1 : s.heap.IsList l1 xs) (hend : xs[k1]? = none)
    (kk : ∀ h', (∀ c o, c ≠ z → c ≠ TO → c ≠ i1 → c ≠ i2 → s.heap.get? c = some o → h'.get? c = some o) → Q none { s with heap := h' }) : wpAny (model prog w) A (pyNext (.ref z)) Q E s := by
  have ty : s.TypeIs (.ref z) "zip" := ⟨_, gz, rfl⟩
  unfold pyNext
  refine wpAny_bind (wpAny_attempt (wpAny_callSpecial?_slot (name := Str.ofString "__next__") ty F.slot_zip_next (wpAny_call_entry F.slot_zip_next ty F.entry_zip_next (zipT_stop hh D gz gI gO w1 q1 hend fun h' e ks he => ?_) (F.args_zip_next_1 _))))
  obtain ⟨o, go, co⟩ := he
  refine wpAny_bind (wpAny_isInstance (T := "StopIteration") (b := true) ⟨o, go, co⟩ isSubtype_stop ?_)
  exact wpAny_pure (kk _ ks)
end
abbrev zh1 (h : Heap) (l1 : Addr) : Heap := h.push { cls := .type "list_iterator", data := .fields #[.ref l1, .int 0 0] }
abbrev zh2 (h : Heap) (l1 t2 : Addr) : Heap := (zh1 h l1).push { cls := .type "tuple_iterator", data := .fields #[.ref t2, .int 0 0] }
abbrev zh3 (h : Heap) (l1 t2 : Addr) : Heap := (zh2 h l1 t2).push { cls := .type "tuple", data := .seq #[.ref h.objs.size, .ref (zh1 h l1).objs.size] }
abbrev zh4 (h : Heap) (l1 t2 : Addr) : Heap := (zh3 h l1 t2).push { cls := .type "tuple", data := .seq #[.none, .none] }
abbrev zh5 (h : Heap) (l1 t2 : Addr) : Heap := (zh4 h l1 t2).push { cls := .type "zip", data := .fields #[.none, .bool false, .bool false, .ref (zh2 h l1 t2).objs.size, .ref (zh3 h l1 t2).objs.size] }
theorem zip_newT (l1 t2 : Addr) (xs ys : Array Value) :
    Meets (Builtin.«zip.__new__» ⟨[.type "zip", .ref l1, .ref t2], []⟩) (fun _ R s => s.heap.IsList l1 xs ∧ s.heap.IsTuple t2 ys ∧ R (.ok (.ret (.ref (zh4 s.heap l1 t2).objs.size))) { s with heap := zh5 s.heap l1 t2 }) :=
  .of_wp fun prog w A R s h => by
    obtain ⟨hp, g, d, tk, os⟩ := s; obtain ⟨hl1, hl2, h⟩ := h
    have hsub := sub_zip
    have hL1 : Heap.IsList (Shared.heap ⟨hp, g, d, tk, os⟩) l1 xs := hl1
    have hL2 : Heap.IsTuple (Shared.heap ⟨hp.push { cls := .type "list_iterator", data := .fields #[.ref l1, .int 0 0] }, g, d, tk, os⟩) t2 ys := Heap.IsTuple.push hl2 _
    wp_walk using wpAny_pyIter_list hL1, wpAny_pyIter_tuple hL2
    exact ⟨_, rfl, h⟩
theorem call_zipT {prog : Program} {w : World} {A : Around} {E : Value → Shared → Prop} {s : Shared} {l1 t2 : Addr} {xs ys : Array Value} {Q : Value → Shared → Prop} (q1 : s.heap.IsList l1 xs) (q2 : s.heap.IsTuple t2 ys)
    (k : ∀ h', IsZip h' (s.heap.objs.size + 4) (s.heap.objs.size + 2) (s.heap.objs.size + 3) .none → IsPair h' (s.heap.objs.size + 2) (.ref s.heap.objs.size) (.ref (s.heap.objs.size + 1)) → IsPair h' (s.heap.objs.size + 3) .none .none →
      h'.IsListIter s.heap.objs.size l1 0 → h'.IsTupleIter (s.heap.objs.size + 1) t2 0 → h'.objs.size = s.heap.objs.size + 5 → (∀ c o, s.heap.get? c = some o → h'.get? c = some o) → Q (.ref (s.heap.objs.size + 4)) { s with heap := h' }) :
    wpAny (model prog w) A (call (.type "zip") [.ref l1, .ref t2]) Q E s := by
  refine callType_new F.called_zip (by decide) (F.typeCall_zip_2 _ _) (F.newCall_zip_2 _ _) (fun obj => F.args_object_init_3 obj _ _) F.entry_zip_new (zip_newT l1 t2 xs ys) ⟨q1, q2, ?_⟩
  have z1 : (zh1 s.heap l1).objs.size = s.heap.objs.size + 1 := Heap.size_push ..
  have z2 : (zh2 s.heap l1 t2).objs.size = s.heap.objs.size + 2 := by rw [Heap.size_push, z1]
  have z3 : (zh3 s.heap l1 t2).objs.size = s.heap.objs.size + 3 := by rw [Heap.size_push, z2]
  have z4 : (zh4 s.heap l1 t2).objs.size = s.heap.objs.size + 4 := by rw [Heap.size_push, z3]
  have z5 : (zh5 s.heap l1 t2).objs.size = s.heap.objs.size + 5 := by rw [Heap.size_push, z4]
  have g5 : (zh5 s.heap l1 t2).get? (zh4 s.heap l1 t2).objs.size = some _ := Heap.get?_push_size _ rfl
  have g4 : (zh5 s.heap l1 t2).get? (zh3 s.heap l1 t2).objs.size = some _ := Heap.get?_push_of_some _ (Heap.get?_push_size _ rfl)
  have g3 : (zh5 s.heap l1 t2).get? (zh2 s.heap l1 t2).objs.size = some _ := Heap.get?_push_of_some _ (Heap.get?_push_of_some _ (Heap.get?_push_size _ rfl))
  have g2 : (zh5 s.heap l1 t2).get? (zh1 s.heap l1).objs.size = some _ := Heap.get?_push_of_some _ (Heap.get?_push_of_some _ (Heap.get?_push_of_some _ (Heap.get?_push_size _ rfl)))
  have g1 : (zh5 s.heap l1 t2).get? s.heap.objs.size = some _ := Heap.get?_push_of_some _ (Heap.get?_push_of_some _ (Heap.get?_push_of_some _ (Heap.get?_push_of_some _ (Heap.get?_push_size _ rfl))))
  show _ ∧ _
  rw [z2, z3, z4] at g5
  rw [z1, z2] at g3
  rw [z3] at g4
  rw [z1] at g2
  rw [z4]
  exact ⟨⟨_, g5, rfl⟩, k _ g5 g3 g4 ⟨_, g1, rfl, rfl⟩ ⟨_, g2, rfl, rfl⟩ z5 fun c o q => Heap.get?_push_of_some _ (Heap.get?_push_of_some _ (Heap.get?_push_of_some _ (Heap.get?_push_of_some _ (Heap.get?_push_of_some _ q))))⟩
end FsZ
namespace L2
open PySem PySem.Spec PyProof.Rows FsZ
/-- the list at a and the tuple at b as they stand at each turn; the list ends first -/
def Izt (K : PySem.W.Frag) (a b : Addr) : It :=
  ⟨fun i H => ∃ (xs ys : List V) (x y : V), SqL K H a xs ∧ SqT K H b ys ∧ xs[i]? = some x ∧ ys[i]? = some y,
    fun i H v H' => ∃ T x y, v = .ref T ∧ H T = none ∧ H' = upd H T (.tup [x, y]) ∧ (∀ xs, SqL K H a xs → xs[i]? = some x) ∧ ∀ ys, SqT K H b ys → ys[i]? = some y,
    fun i H => ∃ xs : List V, SqL K H a xs ∧ xs.length ≤ i⟩
theorem turn_zipT {P : Program} {w : World} {K : PySem.W.Frag} {elts : List Expr} {kk : Nat} {tpos : Pos} {a b z TI TO i1 i2 : Addr} (D : ZipApart z TI TO i1 i2 a b) :
    Turn P w K (.Tuple elts kk tpos) (Izt K a b) [z, TI, TO, i1, i2] z (fun i h => IsZip h z TI TO .none ∧ IsPair h TI (.ref i1) (.ref i2) ∧ (∃ x y, IsPair h TO x y) ∧ h.IsListIter i1 a i ∧ h.IsTupleIter i2 b i) where
  mem := by simp
  obj := fun i h st c hc => by
    obtain ⟨gz, gI, ⟨x, y, gO⟩, ⟨o1, e1, _, d1⟩, ⟨o2, e2, _, d2⟩⟩ := st
    have e' : c = z ∨ c = TI ∨ c = TO ∨ c = i1 ∨ c = i2 := by simpa using hc
    rcases e' with q | q | q | q | q
    · rw [q]; exact ⟨_, gz, fun v q => nomatch q⟩
    · rw [q]; exact ⟨_, gI, fun v q => nomatch q⟩
    · rw [q]; exact ⟨_, gO, fun v q => nomatch q⟩
    · rw [q]; exact ⟨o1, e1, fun v q => by rw [d1] at q; cases q⟩
    · rw [q]; exact ⟨o2, e2, fun v q => by rw [d2] at q; cases q⟩
  keep := fun i h h' st k => by
    obtain ⟨gz, gI, ⟨x, y, gO⟩, h1, h2⟩ := st
    exact ⟨k z (by simp) _ gz, k TI (by simp) _ gI, ⟨x, y, k TO (by simp) _ gO⟩, h1.at fun o q => k i1 (by simp) o q, itExt h2 fun o q => k i2 (by simp) o q⟩
  item := by
    intro X hP hw hK hc i pins s σ H E I hf st hg
    subst hP hw hK
    obtain ⟨gz, gI, ⟨x0, y0, gO⟩, h1, h2⟩ := st
    obtain ⟨xs, ys, x, y, hqx, hqy, hx, hy⟩ := hg
    obtain ⟨its, rv, p, _⟩ := I.list hqx
    obtain ⟨its2, rv2, p2, _⟩ := I.tuple hqy
    obtain ⟨u, hu, ru⟩ := rv.get hx
    obtain ⟨u2, hu2, ru2⟩ := rv2.get hy
    have hzl : z < s.heap.objs.size := Heap.lt_size gz
    refine nextZ_item D gz gI gO h1 h2 p.isList p2 (x := u) (y := u2) (by simpa using hu) (by simpa using hu2) fun h' z' TO' h1' h2' hT hsz hk => ?_
    refine ⟨_, rfl, wpAny_letOwnedTupleGo_zip (s := { s with heap := h' }) z' fun h'' z'' sb => ?_⟩
    have hT2 : h''.get? s.heap.objs.size = some { cls := .type "tuple", data := .seq #[u, u2] } := (sb.2 _ (Nat.ne_of_gt hzl)).trans hT
    have new : ObjOk X.prog X.w (upd H s.heap.objs.size (.tup [x, y])) h'' s.heap.objs.size (.tup [x, y]) :=
      ⟨by show 2 ≤ sizeLine; decide, [u, u2], .cons ru (.cons ru2 .nil), ⟨_, hT2, rfl, _, rfl⟩⟩
    have I1 : Inv X pins σ (upd H s.heap.objs.size (.tup [x, y])) { s with heap := h'' } :=
      I.turnedNew (t' := s.toks) (ch := [z, TI, TO, i1, i2]) (fun c o hb q => (sb.2 c (fun q' => hb (by simp [q']))).trans (hk c o (fun q' => hb (by simp [q'])) (fun q' => hb (by simp [q'])) (fun q' => hb (by simp [q'])) (fun q' => hb (by simp [q'])) q)) hf (Nat.le_refl _) new
    refine ⟨.ref s.heap.objs.size, _, I1, rfl, ⟨_, x, y, rfl, I.hok.fresh (Nat.le_refl _), rfl, fun l hl => by rw [I.list_inj hl hqx]; exact hx, fun l hl => by rw [I.tuple_inj hl hqy]; exact hy⟩, ⟨z'', ?_, ⟨u, u2, ?_⟩, ?_, ?_⟩, fun c hcm => ?_⟩
    · exact (sb.2 _ D.TIz).trans (hk _ _ D.TIz D.TITO D.TIi1 D.TIi2 gI)
    · exact (sb.2 _ D.TOz).trans TO'
    · exact h1'.at fun o q => (sb.2 _ D.i1z).trans q
    · exact itExt h2' fun o q => (sb.2 _ D.i2z).trans q
    · have hlt : c < s.heap.objs.size := by
        have e' : c = z ∨ c = TI ∨ c = TO ∨ c = i1 ∨ c = i2 := by simpa using hcm
        rcases e' with q | q | q | q | q
        · rw [q]; exact hzl
        · rw [q]; exact Heap.lt_size gI
        · rw [q]; exact Heap.lt_size gO
        · rw [q]; obtain ⟨_, e1, _⟩ := h1; exact Heap.lt_size e1
        · rw [q]; obtain ⟨_, e2, _⟩ := h2; exact Heap.lt_size e2
      rw [upd_ne (Nat.ne_of_lt hlt)]
      exact (hf c hcm).1
  done := by
    intro X hP hw hK hc i pins s σ H E I hf st hg
    subst hP hw hK
    obtain ⟨gz, gI, ⟨x0, y0, gO⟩, h1, h2⟩ := st
    obtain ⟨xs, hqx, hend⟩ := hg
    obtain ⟨its, rv, p, _⟩ := I.list hqx
    have l1 := rv.length
    have he : its.toArray[i]? = none := by simp; omega
    exact nextZ_stop (I.ok.hd hc) D gz gI gO h1 p.isList he fun h' hk => ⟨rfl, I.turnedL (t' := s.toks) (ch := [z, TI, TO, i1, i2]) (fun c o hb q =>
      hk c o (fun q' => hb (by simp [q'])) (fun q' => hb (by simp [q'])) (fun q' => hb (by simp [q'])) (fun q' => hb (by simp [q'])) q) hf⟩
  self := fun A i s Q E st h => wpAny_pyIter_zip st.1 h
def iZipT (K : PySem.W.Frag) (ta : TA) : TI := fun σ H R => ta σ H fun vs H1 => ∃ a b xs ys, vs = [.ref a, .ref b] ∧ SqL K H1 a xs ∧ SqT K H1 b ys ∧ R (Izt K a b) H1
theorem pi_zipT {X : Cx} {e e2 : Expr} {ta : TA} {p pos tpos : Pos} {elts : List Expr} {kk : Nat} (hg : Gl X "zip") (hm : X.mg "zip" = none) (ha : PA X [e, e2] ta)
    (hs : starEach [e, e2] X.env = (false, eval e X.env) :: starEach [e2] X.env := by rfl) (hpl : (backTo pos (starEach [e2] X.env)).any (·.1) = false := by rfl) :
    PI X (.Tuple elts kk tpos) (.Call (.Name "zip" p) [e, e2] [] pos) (iZipT X.K ta) := by
  intro pins s σ H R I h
  refine Call_ (ld_blt I hg hm boot_zip5 (PyProof.Rows.callWith_type1 (thn (ha pos pins s σ H _ I h) fun us s1 ⟨vs, H1, I1, r1, q1⟩ => ?_) hs hpl))
  obtain ⟨a, b, xs, ys, ex, hqx, hqy, q⟩ := q1
  subst ex
  cases r1 with
  | cons r rr =>
    cases rr with
    | cons r' rr =>
      cases rr
      cases r
      cases r'
      obtain ⟨its, rv, p1, _⟩ := I1.list hqx
      obtain ⟨its2, rv2, p2, _⟩ := I1.tuple hqy
      have la : a < s1.heap.objs.size := p1.lt
      have lb : b < s1.heap.objs.size := p2.lt
      refine call_zipT p1.isList p2 fun h' hz hTI hTO h1 h2 hsz hk => wpAny_pyIter_zip hz ?_
      have I2 : Inv X pins σ H1 { s1 with heap := h' } := I1.kept (t' := s1.toks) hk
      refine ⟨s1.heap.objs.size + 4, [s1.heap.objs.size + 4, s1.heap.objs.size + 2, s1.heap.objs.size + 3, s1.heap.objs.size, s1.heap.objs.size + 1], _, _, H1, rfl, I2, turn_zipT (PySem.W.ktu_apart s1.heap.objs.size a b la lb), ⟨hz, hTI, ⟨_, _, hTO⟩, h1, h2⟩, fun c hcm => ?_, q⟩
      have e' : c = s1.heap.objs.size + 4 ∨ c = s1.heap.objs.size + 2 ∨ c = s1.heap.objs.size + 3 ∨ c = s1.heap.objs.size ∨ c = s1.heap.objs.size + 1 := by simpa using hcm
      have hle : s1.heap.objs.size ≤ c := by
        rcases e' with z | z | z | z | z
        · rw [z]; exact Nat.le_add_right _ _
        · rw [z]; exact Nat.le_add_right _ _
        · rw [z]; exact Nat.le_add_right _ _
        · rw [z]; exact Nat.le_refl _
        · rw [z]; exact Nat.le_add_right _ _
      exact I1.fpOk hle (I1.hok.fresh hle)
/-- a walk over both, item by item -/
theorem for_zipT {K : PySem.W.Frag} {a b : Addr} {xs ys : List V} {g : TG} {tb : TS} {D : Ends} {σ : St} {H : Hp} (Pv : Nat → St → Hp → Prop) (hlen : xs.length ≤ ys.length) (h0 : Pv 0 σ H) (hl : ∀ i σ H, i ≤ xs.length → Pv i σ H → SqL K H a xs ∧ SqT K H b ys)
    (hs : ∀ i x y σ H T, xs[i]? = some x → ys[i]? = some y → Pv i σ H → H T = none → g (.ref T) σ (upd H T (.tup [x, y])) fun σ2 H2 => tb { D with nx := Pv (i + 1), ct := Pv (i + 1), bk := D.nx } σ2 H2) (hd : ∀ σ H, Pv xs.length σ H → D.nx σ H) :
    ∃ W : Nat → Nat → St → Hp → Prop, (∃ m, W 0 m σ H) ∧ ∀ i m σ H, W i m σ H →
      ((Izt K a b).stop i H ∧ D.nx σ H) ∨ ((Izt K a b).go i H ∧ ∃ N : St → Hp → Prop, (∀ σ' H', N σ' H' → ∃ m', m' < m ∧ W (i + 1) m' σ' H') ∧ ∀ x H', (Izt K a b).yld i H x H' → g x σ H' fun σ2 H2 => tb { D with nx := N, ct := N, bk := D.nx } σ2 H2) := by
  refine ⟨fun i m σ H => m = xs.length - i ∧ i ≤ xs.length ∧ Pv i σ H, ⟨xs.length, by simp, Nat.zero_le _, h0⟩, ?_⟩
  rintro i m σ H ⟨rfl, hi, pv0⟩
  obtain ⟨sq, st⟩ := hl i σ H hi pv0
  by_cases hlt : i < xs.length
  · refine .inr ⟨⟨xs, ys, xs[i], ys[i]'(by omega), sq, st, by simp [hlt], List.getElem?_eq_getElem (by omega)⟩, Pv (i + 1), fun σ' H' p' => ⟨xs.length - (i + 1), by omega, rfl, hlt, p'⟩, fun x H' y => ?_⟩
    obtain ⟨T, u, v, rfl, hT, rfl, hu, hv⟩ := y
    exact hs i u v σ H T (hu xs sq) (hv ys st) pv0 hT
  · have e : i = xs.length := by omega
    subst e
    exact .inl ⟨⟨xs, sq, Nat.le_refl _⟩, hd σ H pv0⟩
end L2
end
section
set_option Elab.async false
set_option linter.all false
set_option maxRecDepth 100000
set_option maxHeartbeats 2000000
namespace L2
open PySem PySem.Spec PyProof.Rows
/-- a walk over two lists, item by item -/
theorem for_zip {K : PySem.W.Frag} {a b : Addr} {xs ys : List V} {g : TG} {tb : TS} {D : Ends} {σ : St} {H : Hp} (Pv : Nat → St → Hp → Prop) (hlen : xs.length ≤ ys.length) (h0 : Pv 0 σ H) (hl : ∀ i σ H, i ≤ xs.length → Pv i σ H → SqL K H a xs ∧ SqL K H b ys)
    (hs : ∀ i x y σ H T, xs[i]? = some x → ys[i]? = some y → Pv i σ H → H T = none → g (.ref T) σ (upd H T (.tup [x, y])) fun σ2 H2 => tb { D with nx := Pv (i + 1), ct := Pv (i + 1), bk := D.nx } σ2 H2) (hd : ∀ σ H, Pv xs.length σ H → D.nx σ H) :
    ∃ W : Nat → Nat → St → Hp → Prop, (∃ m, W 0 m σ H) ∧ ∀ i m σ H, W i m σ H →
      ((Itz K a b).stop i H ∧ D.nx σ H) ∨ ((Itz K a b).go i H ∧ ∃ N : St → Hp → Prop, (∀ σ' H', N σ' H' → ∃ m', m' < m ∧ W (i + 1) m' σ' H') ∧ ∀ x H', (Itz K a b).yld i H x H' → g x σ H' fun σ2 H2 => tb { D with nx := N, ct := N, bk := D.nx } σ2 H2) := by
  refine ⟨fun i m σ H => m = xs.length - i ∧ i ≤ xs.length ∧ Pv i σ H, ⟨xs.length, by simp, Nat.zero_le _, h0⟩, ?_⟩
  rintro i m σ H ⟨rfl, hi, pv0⟩
  obtain ⟨sq, st⟩ := hl i σ H hi pv0
  by_cases hlt : i < xs.length
  · refine .inr ⟨⟨xs, ys, xs[i], ys[i]'(by omega), sq, st, by simp [hlt], List.getElem?_eq_getElem (by omega)⟩, Pv (i + 1), fun σ' H' p' => ⟨xs.length - (i + 1), by omega, rfl, hlt, p'⟩, fun x H' y => ?_⟩
    obtain ⟨T, u, v, rfl, hT, rfl, hu, hv⟩ := y
    exact hs i u v σ H T (hu xs sq) (hv ys st) pv0 hT
  · have e : i = xs.length := by omega
    subst e
    exact .inl ⟨⟨xs, ys, sq, st, .inl (Nat.le_refl _)⟩, hd σ H pv0⟩
end L2
namespace Fs
open PySem PySem.Spec PyProof.Rows L2
theorem But.trans {x : Addr} {H H1 H2 : Hp} (a : But x H H1) (b : But x H1 H2) : But x H H2 := fun c o e n => b c o (a c o e n) n
theorem But.upd {x : Addr} {H : Hp} {o : HO} : But x H (upd H x o) := fun b u e n => by rw [upd_ne n]; exact e
theorem But.of {x : Addr} {H H1 : Hp} (s : Same H H1) : But x H H1 := fun b u e _ => s b u e
section
variable {P : Program} {w : World} {K : PySem.W.Frag} {mg : Str → Option Value} {base : Heap} {d : Ad}
/-! ### Weighing.__init__ -/
/-- the weighing's class is none of the others -/
structure WeiAp (d : Ad) : Prop where
  pol : d.wei ≠ d.pol
  ord : d.wei ≠ d.ord
  out : d.wei ≠ d.out
  tier : d.wei ≠ d.tier
def weiOf (st : Vbfuaf.State) (l : Addr) : List (Str × V) := weiF l (Vbfuaf.flowOf (Vbfuaf.plain st)) (Vbfuaf.sideOf st : Nat) (Vbfuaf.heavy st)
/-- how the orders of a fund weigh -/
def WeiAt (d : Ad) (H : Hp) (x : Addr) (st : Vbfuaf.State) : Prop := ∃ dx l, H x = some (.ins d.wei dx (weiOf st l)) ∧ LsAt (OutAt d) H l (Vbfuaf.plain st)
theorem WeiAt.kp (A : Apart d) {H H' : Hp} {x : Addr} {st : Vbfuaf.State} (k : Kp H H') (h : WeiAt d H x st) : WeiAt d H' x st := by
  obtain ⟨dx, l, e, hl⟩ := h
  exact ⟨dx, l, k _ _ e rfl, hl.kp (OutAt.lives A) k⟩
def spWei (d : Ad) : Sp := fun vs H Q _ => ∃ (x dx f ol : Addr) (st : Vbfuaf.State), vs = [.ref x, .ref f] ∧ H x = some (.ins d.wei dx []) ∧ FundAt d H f ol st ∧ WF st ∧
  ∀ H' : Hp, But x H H' → WeiAt d H' x st → Q .non H'
theorem m_Weighing {q : Str} (T : Txt K mg d) (Z : WeiAp d) (D : Kfn K mg "Weighing" q d.wei s_Weighing_init p_Weighing_init) (c_outcomes_at : Cal P w K mg base "outcomes_at" 4 p_outcomes_at (spAt d)) (c_flow_of : Cal P w K mg base "flow_of" 1 p_flow_of (spSumM d))
    (c_side_of : Cal P w K mg base "side_of" 1 p_side_of spSide) (c_weighs_enough : Cal P w K mg base "weighs_enough" 1 p_weighs_enough (spEnough d)) : Kls P w K mg base "Weighing" d.wei 5 p_Weighing_init (spWei d) := D.kls fun f fd F => by
  refine F.ok sc_Weighing_init (fun vs H Q E h => ?_) (fun cdv A outer s H vs Q E hr h => ?_)
  · obtain ⟨x, dx, fu, ol, st, rfl, _⟩ := h
    rfl
  · obtain ⟨x, dx, fu, ol, st, rfl, hx, hF, W, k⟩ := h
    refine ⟨_, (pss_cons (ps_fld (pv 0) (pcl c_outcomes_at (hr.mono (by decide)) (pa_cons (pv 1) (pa_cons (gk T.c_NEITHER) (pa_cons pe_int pa_nil)))) rfl)
    (pss_cons (ps_fld (pv 0) (pcl c_flow_of (hr.mono (by decide)) (pa_cons (pe_fld (pv 0) rfl) pa_nil)) rfl)
    (pss_cons (ps_fld (pv 0) (pcl c_side_of (hr.mono (by decide)) (pa_cons (pe_fld (pv 0) rfl) pa_nil)) rfl)
    (pss_one (ps_fld (pv 0) (pcl c_weighs_enough (hr.mono (by decide)) (pa_cons (pv 1) (pa_cons (pe_fld (pv 0) rfl) pa_nil))) rfl))))), ?_⟩
    have L0 : ([] : List (Str × V)).length ≤ 0 := Nat.zero_le _
    have f1 : putF "plain" (V.ref 0) [] = putF "plain" (V.ref 0) [] := rfl
    refine ⟨_, rfl, fu, ol, st, 0, 0, rfl, hF, W, Nat.zero_le _, fun H1 l s1 nl hl0 => ?_⟩
    have hl : LsAt (OutAt d) H1 l (Vbfuaf.plain st) := hl0
    have hx1 := s1 _ _ hx
    refine ⟨_, rfl, x, d.wei, dx, _, rfl, hx1, T.k_Weighing, T.a_Weighing_plain, (Nat.lt_of_le_of_lt L0 (by decide)), ?_⟩
    generalize hH2 : L2.upd H1 x _ = H2
    have x2 : H2 x = some (.ins d.wei dx (putF "plain" (.ref l) [])) := by rw [← hH2]; exact upd_same
    have b2 : But x H1 H2 := by rw [← hH2]; exact But.upd
    clear hH2
    have Bp := rb_plain W
    refine ⟨_, rfl, x, _, dx, _, _, rfl, x2, T.k_Weighing, T.a_Weighing_plain, look_eq _ _ _, l, _, rfl, But.outs hx1 Z.out b2 hl, Bp.len, fun H3 s3 => ?_⟩
    refine ⟨_, rfl, x, d.wei, dx, _, rfl, s3 _ _ x2, T.k_Weighing, T.a_Weighing_flow, (Nat.lt_of_le_of_lt (len_put L0) (by decide)), ?_⟩
    have e3 : putF "flow" (V.int (Vbfuaf.flowOf (Vbfuaf.plain st))) (putF "plain" (.ref l) []) = [(("plain" : Str), V.ref l), (("flow" : Str), V.int (Vbfuaf.flowOf (Vbfuaf.plain st)))] := by
      simp only [put_nil, put_ne ne_plain_flow]
    rw [e3]
    generalize hH4 : L2.upd H3 x _ = H4
    have x4 : H4 x = some (.ins d.wei dx [(("plain" : Str), V.ref l), (("flow" : Str), V.int (Vbfuaf.flowOf (Vbfuaf.plain st)))]) := by rw [← hH4]; exact upd_same
    have b4 : But x H1 H4 := by rw [← hH4]; exact b2.trans ((But.of s3).trans But.upd)
    clear hH4
    refine ⟨_, rfl, x, _, dx, _, _, rfl, x4, T.k_Weighing, T.a_Weighing_flow, (by rw [look_ne ne_flow_plain]; exact look_eq _ _ _), _, rfl, ?_⟩
    refine ⟨_, rfl, x, d.wei, dx, _, rfl, x4, T.k_Weighing, T.a_Weighing_side, (show 2 < _ by decide), ?_⟩
    have e5 : putF "side" (V.int (sideN (Vbfuaf.flowOf (Vbfuaf.plain st)) : Nat)) [(("plain" : Str), V.ref l), (("flow" : Str), V.int (Vbfuaf.flowOf (Vbfuaf.plain st)))] = [(("plain" : Str), V.ref l), (("flow" : Str), V.int (Vbfuaf.flowOf (Vbfuaf.plain st))), (("side" : Str), V.int (Vbfuaf.sideOf st : Nat))] := by
      simp only [put_nil, put_ne ne_plain_side, put_ne ne_flow_side]
      rfl
    rw [e5]
    generalize hH5 : L2.upd H4 x _ = H5
    have x5 : H5 x = some (.ins d.wei dx [(("plain" : Str), V.ref l), (("flow" : Str), V.int (Vbfuaf.flowOf (Vbfuaf.plain st))), (("side" : Str), V.int (Vbfuaf.sideOf st : Nat))]) := by rw [← hH5]; exact upd_same
    have b5 : But x H1 H5 := by rw [← hH5]; exact b4.trans But.upd
    clear hH5
    have hF5 := But.fund T.ap T.ap.wei hx1 Z.pol Z.ord Z.out Z.tier b5 (hF.keep T.ap (.of s1))
    refine ⟨_, rfl, _, rfl, x, _, dx, _, _, rfl, x5, T.k_Weighing, T.a_Weighing_flow, (by rw [look_ne ne_flow_plain]; exact look_eq _ _ _), fu, ol, st, _, rfl, hF5, W, rfl, ?_⟩
    refine ⟨_, rfl, x, d.wei, dx, _, rfl, x5, T.k_Weighing, T.a_Weighing_enough, (show 3 < _ by decide), ?_⟩
    have e6 : putF "enough" (V.bl (Vbfuaf.heavy st)) [(("plain" : Str), V.ref l), (("flow" : Str), V.int (Vbfuaf.flowOf (Vbfuaf.plain st))), (("side" : Str), V.int (Vbfuaf.sideOf st : Nat))] = weiOf st l := by
      simp only [put_nil, put_ne ne_plain_enough, put_ne ne_flow_enough, put_ne ne_side_enough]
      rfl
    rw [e6]
    have b6 : But x H1 (upd H5 x (.ins d.wei dx (weiOf st l))) := b5.trans But.upd
    exact k _ ((But.of s1).trans b6) ⟨dx, l, upd_same, But.outs hx1 Z.out b6 hl⟩
theorem made_wei {H1 : Hp} {Q : VK} {f ol : Addr} {st : Vbfuaf.State} (A : Apart d) (hF : FundAt d H1 f ol st) (W : WF st) (h : ∀ x H2, H1 x = none → Same H1 H2 → WeiAt d H2 x st → Q (.ref x) H2) : MkEnd d.wei (spWei d) [.ref f] H1 Q := by
  constructor
  intro x dx nx nd ne
  have s1 : Same H1 (upd (upd H1 dx (.own x)) x (.ins d.wei dx [])) := fun b o e => by
    rw [upd_ne (ne_of_none e nx), upd_ne (ne_of_none e nd)]
    exact e
  exact ⟨x, dx, f, ol, st, rfl, upd_same, hF.keep A (.of s1), W, fun H' b hw => ⟨rfl, h x H' nx (fun c o e => b c o (s1 c o e) (ne_of_none e nx)) hw⟩⟩
/-- a list of natural numbers -/
def natsV (ns : List Nat) : List V := (ns.map fun n : Nat => (n : Int)).map V.int
theorem natsV_snoc (ns : List Nat) (n : Nat) : natsV (ns ++ [n]) = natsV ns ++ [.int (n : Int)] := by simp [natsV]
theorem natsV_len (ns : List Nat) : (natsV ns).length = ns.length := by simp [natsV]
/-! ### weights_of -/
def spWts (d : Ad) : Sp := fun vs H Q _ => ∃ (f ol x : Addr) (st : Vbfuaf.State), vs = [.ref f, .ref x] ∧ FundAt d H f ol st ∧ WF st ∧ WeiAt d H x st ∧
  ∀ (H' : Hp) (p : Addr), Same H H' → H p = none → H' p = some (.lst (natsV (st.orders.map (Vbfuaf.weightOf st)))) → Q (.ref p) H'
theorem c_weights_of (T : Txt K mg d) (D : Dfn K mg "weights_of" s_weights_of p_weights_of) (c_side_of_order : Cal P w K mg base "side_of_order" 1 p_side_of_order (spSoo d)) :
    Cal P w K mg base "weights_of" 2 p_weights_of (spWts d) := D.cal fun f fd F => by
  refine F.ok sc_weights_of (fun vs H Q E h => ?_) (fun cdv A outer s H vs Q E hr h => ?_)
  · obtain ⟨fu, ol, x, st, rfl, _⟩ := h
    rfl
  · obtain ⟨fu, ol, x, st, rfl, hF, W, ⟨dx, l, hx, hL⟩, k⟩ := h
    have nd := sc_weights_of.nd
    refine ⟨_, (pss_cons (ps_set (i := 2) nd rfl (Or.inl rfl) (pe_lst pa_nil))
    (pss_cons (ps_for PassesOwn.never rfl (pi_zip rfl T.n_zip (pa_cons (pe_fld (pv 0) rfl) (pa_cons (pe_fld (pv 1) rfl) pa_nil))) (pg_tup rfl (pgs_cons (pg_name (i := 3) nd rfl (Or.inl rfl)) (pgs_cons (pg_name (i := 4) nd rfl (Or.inl rfl)) pgs_nil)))
    (pss_one (ps_expr (pe_bm PySem.F.plainAttrs_list PySem.F.slot_list_append PySem.F.type_list_append mt_append (pv 2) (pa_cons (pe_ifExp (pt_cmpR op_eq (pcl c_side_of_order (hr.mono (by decide)) (pa_cons (pv 3) pa_nil)) (pe_fld (pv 1) rfl) (nomark _)) (pe_callB call_abs (by rfl) T.n_abs boot_abs (pa_cons (pe_fld (pv 4) rfl) pa_nil)) pe_int) pa_nil)))))
    (pss_one (ps_ret (pv 2))))), ?_⟩
    obtain ⟨df, tb, ts, po, oc, ef, _, _, _, ⟨as, eo, hlen, hat⟩, _⟩ := hF.ex
    obtain ⟨bs, el, hlen2, hat2⟩ := hL
    have elen2 : bs.length = st.orders.length := by rw [hlen2]; unfold Vbfuaf.plain; rw [List.length_map]
    have hw := W.olen
    refine ⟨Nat.zero_le _, fun p hp => ?_⟩
    have s1 : Same H (upd H p (.lst [])) := Same.new hp
    refine ⟨_, rfl, fu, _, df, _, _, rfl, s1 _ _ ef, T.k_Fund, T.a_Fund_orders, fundF_orders .., _, rfl, x, _, dx, _, _, rfl, s1 _ _ hx, T.k_Weighing, T.a_Weighing_plain, weiF_plain .., ol, l, _, _, rfl, SqL.of (s1 _ _ eo), SqL.of (s1 _ _ el),
      for_zip (K := K) (xs := as.map V.ref) (ys := bs.map V.ref) (fun i σ H' => Same H H' ∧ (∃ v3 v4 : Option V, σ = [some (.ref fu), some (.ref x), some (.ref p), v3, v4]) ∧ H' p = some (.lst (natsV ((st.orders.take i).map (Vbfuaf.weightOf st)))))
      (by rw [List.length_map, List.length_map]; omega) ⟨s1, ⟨none, none, rfl⟩, upd_same⟩ (fun i σ H' _ ⟨s2, _⟩ => ⟨SqL.of (s2 _ _ eo), SqL.of (s2 _ _ el)⟩) ?_ ?_⟩
    · rintro i y z σ H' t hy hz ⟨s2, ⟨v3, v4, rfl⟩, hpl⟩ ht
      rw [List.getElem?_map] at hy hz
      cases qa : as[i]? with
      | none => rw [qa] at hy; cases hy
      | some a =>
        cases qb : bs[i]? with
        | none => rw [qb] at hz; cases hz
        | some b =>
          rw [qa] at hy
          rw [qb] at hz
          cases hy
          cases hz
          have hi : i < st.orders.length := by
            have := (List.getElem?_eq_some_iff.mp qa).1
            omega
          have qo : st.orders[i]? = some (st.orders[i]'hi) := List.getElem?_eq_getElem hi
          generalize st.orders[i]'hi = o at qo
          obtain ⟨da, ha⟩ := hat i a o qa qo
          obtain ⟨db, hb⟩ := hat2 i b (Vbfuaf.done st 0 0 0 o) qb (by unfold Vbfuaf.plain; rw [List.getElem?_map, qo]; rfl)
          have s3 : Same H' (upd H' t (.tup [.ref a, .ref b])) := Same.new ht
          have s4 := s2.trans s3
          refine ⟨t, _, rfl, SqT.of upd_same, rfl, _, _, rfl, _, _, rfl, rfl, _, rfl, .inl ⟨rfl, _, SqL.of (s3 _ _ hpl)⟩, _, rfl, a, o, rfl, ⟨da, s4 _ _ ha⟩, fun H5 s5 => ⟨_, rfl, x, _, dx, _, _, rfl, s5 _ _ (s4 _ _ hx), T.k_Weighing, T.a_Weighing_side, weiF_side .., rfl, _, rfl, ?_⟩⟩
          have hp5 := s5 _ _ (s3 _ _ hpl)
          have fin : ∀ n : Int, n = (Vbfuaf.weightOf st o : Nat) → ∃ (l : Addr) (xs : List V) (y : V), V.ref p = .ref l ∧ [V.int n] = [y] ∧ H5 l = some (.lst xs) ∧ xs.length < sizeLine ∧
              (Same H (upd H5 l (.lst (xs ++ [y]))) ∧ (∃ v3 v4 : Option V, [some (.ref fu), some (.ref x), some (.ref p), some (.ref a), some (.ref b)] = [some (V.ref fu), some (.ref x), some (.ref p), v3, v4]) ∧ upd H5 l (.lst (xs ++ [y])) p = some (.lst (natsV ((st.orders.take (i + 1)).map (Vbfuaf.weightOf st))))) := by
            rintro n rfl
            refine ⟨p, _, _, rfl, rfl, hp5, line40 (by rw [natsV_len, List.length_map, List.length_take]; omega), ?_, ⟨_, _, rfl⟩, ?_⟩
            · intro c u e
              rw [upd_ne (ne_of_none e hp)]
              exact s5 _ _ (s4 _ _ e)
            · rw [upd_same, take_snoc qo, List.map_append]
              show some (HO.lst _) = some (.lst (natsV (_ ++ [Vbfuaf.weightOf st o])))
              rw [natsV_snoc]
          have wq := weight_eq st o
          refine ifB (fun c => ?_) fun c => ?_
          · rw [if_pos c] at wq
            refine ⟨_, rfl, b, _, db, _, _, rfl, s5 _ _ (s4 _ _ hb), T.k_Outcome, T.a_Outcome_money, outF_money .., _, rfl, ?_⟩
            exact fin _ (by rw [wq, ← abs_eq])
          · rw [if_neg (by rw [c]; exact Bool.false_ne_true)] at wq
            exact fin _ wq.symm
    · rintro σ H' ⟨s2, ⟨v3, v4, rfl⟩, hpl⟩
      rw [List.length_map, hlen, List.take_length] at hpl
      exact ⟨_, rfl, k H' p s2 hp hpl⟩
end
end Fs
end
section
set_option Elab.async false
set_option linter.all false
set_option maxRecDepth 100000
set_option maxHeartbeats 2000000
namespace Fs
open PySem PySem.Spec PyProof.Rows L2
section
variable {P : Program} {w : World} {K : PySem.W.Frag} {mg : Str → Option Value} {base : Heap} {d : Ad}
def spShare (d : Ad) : Sp := fun vs H Q _ => ∃ (l : Addr) (c : Nat) (ws : List Nat), vs = [.int c, .ref l] ∧ H l = some (.lst (natsV ws)) ∧ 0 < Vbfuaf.sum ws ∧ ws.length ≤ 40 ∧ c ≤ 10 ^ 35 ∧ (∀ x ∈ ws, x ≤ 10 ^ 35) ∧ TabOk d H ∧
  ∀ (H' : Hp) (p : Addr), Gr d H H' → H p = none → H' p = some (.lst (natsV (Vbfuaf.parts c ws))) → Q (.ref p) H'
theorem made_poi {H1 : Hp} {Q : VK} {f ol l : Addr} {st : Vbfuaf.State} {side sw c : Nat} {rs : List Vbfuaf.Result} (A : Apart d) (hF : FundAt d H1 f ol st) (W : WF st) (hL : LsAt (OutAt d) H1 l rs) (B : RB rs) (hc : c ≤ 10 ^ 35)
    (h : ∀ x dx H2, H1 x = none → Same H1 H2 → H2 x = some (.ins d.poi dx (poiOf st side sw c l rs)) → Q (.ref x) H2) :
    MkEnd d.poi (spPoi d) [.ref f, .int side, .int sw, .int c, .ref l] H1 Q := by
  constructor
  intro x dx nx nd ne
  have s1 : Same H1 (upd (upd H1 dx (.own x)) x (.ins d.poi dx [])) := fun b o e => by
    rw [upd_ne (ne_of_none e nx), upd_ne (ne_of_none e nd)]
    exact e
  exact ⟨x, dx, f, ol, l, st, side, sw, c, rs, rfl, upd_same, hF.keep A (.of s1), W, hL.kp (OutAt.lives A) (.of s1), B, hc, fun H' kp hx => ⟨rfl, h x dx H' nx (fun b o e => kp b o (s1 b o e) (ne_of_none e nx)) hx⟩⟩
theorem swing_heavy {st : Vbfuaf.State} (h : Vbfuaf.heavy st = true) : Vbfuaf.swingOf st = polSw st := by
  unfold Vbfuaf.swingOf polSw
  rw [if_neg (by rw [h]; decide)]
/-! ### point_of -/
def spPt (d : Ad) : Sp := fun vs H Q _ => ∃ (f ol : Addr) (st : Vbfuaf.State), vs = [.ref f] ∧ FundAt d H f ol st ∧ WF st ∧ TabOk d H ∧
  ∀ (H' : Hp) (x dx l : Addr), Gr d H H' → H x = none → H l = none → H' x = some (.ins d.poi dx (poiOf st (Vbfuaf.sideOf st) (Vbfuaf.swingOf st) (Vbfuaf.dealt st).2 l (Vbfuaf.dealt st).1)) → LsAt (OutAt d) H' l (Vbfuaf.dealt st).1 → Q (.ref x) H'
theorem weight_bd {st : Vbfuaf.State} (W : WF st) {x : Nat} (h : x ∈ st.orders.map (Vbfuaf.weightOf st)) : x ≤ 10 ^ 35 := by
  obtain ⟨o, ho, rfl⟩ := List.mem_map.mp h
  unfold Vbfuaf.weightOf
  split
  · have := (done_rb W (W.ord o ho) (Nat.zero_le _) (Nat.zero_le _) (Nat.zero_le _) (a := 0) (b := 0) (l := 0)).1
    omega
  · exact Nat.zero_le _
/-! ### lays_levies -/
def spLays (d : Ad) : Sp := fun vs H Q _ => ∃ (f ol x : Addr) (st : Vbfuaf.State), vs = [.ref f, .ref x] ∧ FundAt d H f ol st ∧ WeiAt d H x st ∧ Q (.bl (decide (st.policy.mode = 3) && Vbfuaf.heavy st)) H
theorem c_lays_levies (T : Txt K mg d) (D : Dfn K mg "lays_levies" s_lays_levies p_lays_levies) : Cal P w K mg base "lays_levies" 1 p_lays_levies (spLays d) := D.cal fun f fd F => by
  refine F.ok sc_lays_levies (fun vs H Q E h => ?_) (fun cdv A outer s H vs Q E hr h => ?_)
  · obtain ⟨fu, ol, x, st, rfl, _⟩ := h
    rfl
  · obtain ⟨fu, ol, x, st, rfl, hF, ⟨dx, l, hx, _⟩, k⟩ := h
    refine ⟨_, (pss_one (ps_ret (pe_and (pe_cmpR op_eq (pe_fld (pe_fld (pv 0) rfl) rfl) (gk T.c_MODE_LEVIES) (nomark _)) (pe_one (pe_fld (pv 1) rfl))))), ?_⟩
    obtain ⟨df, tb, ts, po, oc, ef, _, _, ⟨dp, ep⟩, _⟩ := hF.ex
    refine ⟨_, rfl, fu, _, df, _, _, rfl, ef, T.k_Fund, T.a_Fund_policy, fundF_policy .., po, _, dp, _, _, rfl, ep, T.k_Policy, T.a_Policy_mode, polF_mode .., rfl, _, rfl, ifB (fun q => ?_) fun q => ?_⟩
    · have q' := (vint_dec (i := st.policy.mode) (j := 3)).symm.trans q
      rw [q', Bool.true_and] at k
      exact ⟨_, rfl, x, _, dx, _, _, rfl, hx, T.k_Weighing, T.a_Weighing_enough, weiF_enough .., k⟩
    · have q' := (vint_dec (i := st.policy.mode) (j := 3)).symm.trans q
      rw [q', Bool.false_and] at k
      exact k
/-! ### levies_of -/
def spLevs (d : Ad) : Sp := fun vs H Q _ => ∃ (f ol x : Addr) (st : Vbfuaf.State), vs = [.ref f, .ref x] ∧ FundAt d H f ol st ∧ WF st ∧ WeiAt d H x st ∧ TabOk d H ∧
  ∀ (H' : Hp) (p : Addr), Gr d H H' → H p = none → H' p = some (.lst (natsV (Vbfuaf.levies st))) → Q (.ref p) H'
theorem c_levies_of (T : Txt K mg d) (D : Dfn K mg "levies_of" s_levies_of p_levies_of) (c_lays_levies : Cal P w K mg base "lays_levies" 1 p_lays_levies (spLays d)) (c_cost_of : Cal P w K mg base "cost_of" 3 p_cost_of (spCost d))
    (c_shared_out : Cal P w K mg base "shared_out" 3 p_shared_out (spShare d)) (c_weights_of : Cal P w K mg base "weights_of" 2 p_weights_of (spWts d)) : Cal P w K mg base "levies_of" 4 p_levies_of (spLevs d) := D.cal fun f fd F => by
  refine F.ok sc_levies_of (fun vs H Q E h => ?_) (fun cdv A outer s H vs Q E hr h => ?_)
  · obtain ⟨fu, ol, x, st, rfl, _⟩ := h
    rfl
  · obtain ⟨fu, ol, x, st, rfl, hF, W, hW, hT, k⟩ := h
    have nd := sc_levies_of.nd
    refine ⟨_, (pss_cons (ps_if (pt_not (pt_val (pcl c_lays_levies (hr.mono (by decide)) (pa_cons (pv 0) (pa_cons (pv 1) pa_nil)))))
    (pss_one (ps_ret (pe_lc rfl nd (pi_list (pe_fld (pv 0) rfl)) (blkOk_by (own := [("order", 2)]) (by rfl)) (fun _ _ _ _ _ => (pg_name (i := 2) nd rfl (Or.inl rfl))) (fun _ _ _ _ _ => pts_nil) (fun _ _ _ _ _ => pe_int))))
    pss_nil)
    (pss_one (ps_ret (pcl c_shared_out (hr.mono (by decide)) (pa_cons (pcl c_cost_of (hr.mono (by decide)) (pa_cons (pv 0) (pa_cons (pe_fld (pv 1) rfl) (pa_cons (pe_fld (pv 1) rfl) pa_nil)))) (pa_cons (pcl c_weights_of (hr.mono (by decide)) (pa_cons (pv 0) (pa_cons (pv 1) pa_nil))) pa_nil)))))), ?_⟩
    refine ⟨_, rfl, _, rfl, fu, ol, x, st, rfl, hF, hW, _, rfl, ifB (fun c => ?_) fun c => ?_⟩
    · have hno : ¬ (st.policy.mode = 3 ∧ Vbfuaf.heavy st = true) := fun z => by
        rw [z.2, decide_eq_true z.1] at c
        cases c
      obtain ⟨df, tb, ts, po, oc, ef, _, _, _, ⟨as, eo, hlen, hat⟩, _⟩ := hF.ex
      refine ⟨_, rfl, fu, _, df, _, _, rfl, ef, T.k_Fund, T.a_Fund_orders, fundF_orders .., ol, rfl, ⟨_, SqL.of eo⟩, fun D hD => ?_⟩
      refine lc_ints (d := d) (st.orders.map fun _ => (0 : Int)) (by simp [hlen]) hD (line40 (by rw [List.length_map]; exact W.olen)) (SqL.of eo) (fun i H3 v y Qn hv hy s3 q => ?_) fun H3 s3 h3 => ?_
      · rw [List.getElem?_map] at hy
        cases qo : st.orders[i]? with
        | none => rw [qo] at hy; cases hy
        | some o =>
          rw [qo] at hy
          cases hy
          exact ⟨rfl, q H3 (Same.refl H3)⟩
      · refine k H3 D (.of s3) hD ?_
        unfold Vbfuaf.levies
        rw [if_neg hno, h3]
        simp [natsV, List.map_map, Function.comp_def]
    · have hyes : st.policy.mode = 3 ∧ Vbfuaf.heavy st = true := by
        have c' : (decide (st.policy.mode = 3) && Vbfuaf.heavy st) = true := by simpa using c
        rw [Bool.and_eq_true, decide_eq_true_eq] at c'
        exact c'
      obtain ⟨dx, l, hx, hl⟩ := id hW
      have Bp := rb_plain W
      refine ⟨_, rfl, _, rfl, x, _, dx, _, _, rfl, hx, T.k_Weighing, T.a_Weighing_side, weiF_side .., _, rfl, x, _, dx, _, _, rfl, hx, T.k_Weighing, T.a_Weighing_plain, weiF_plain .., fu, ol, l, st, Vbfuaf.sideOf st, _, rfl, hF, W, hl, Bp, fun H3 s3 => ?_⟩
      have hF3 := hF.keep T.ap (.of s3)
      have hcb : Vbfuaf.costWith st (Vbfuaf.plain st) ≤ 10 ^ 35 := cost_big W Bp _
      refine ⟨_, rfl, _, rfl, fu, ol, x, st, rfl, hF3, W, hW.kp T.ap (.of s3), fun H4 lw s4 nlw hlw => ?_⟩
      have sAll : Same H H4 := s3.trans s4
      refine ⟨lw, Vbfuaf.costWith st (Vbfuaf.plain st), st.orders.map (Vbfuaf.weightOf st), rfl, hlw, weights_pos hyes.2, by rw [List.length_map]; exact W.olen, hcb, fun x hx => weight_bd W hx, hT.same sAll, fun H5 lv g5 nlv hlv => ?_⟩
      have el : Vbfuaf.levies st = Vbfuaf.parts (Vbfuaf.costWith st (Vbfuaf.plain st)) (st.orders.map (Vbfuaf.weightOf st)) := by
        unfold Vbfuaf.levies
        rw [if_pos hyes]
      rw [← el] at hlv
      exact k H5 lv ((Gr.of sAll).trans g5) (sAll.free nlv) hlv
/-! ### point_of -/
theorem c_point_of (T : Txt K mg d) (D : Dfn K mg "point_of" s_point_of p_point_of) (m_Weighing : Kls P w K mg base "Weighing" d.wei 5 p_Weighing_init (spWei d)) (c_cost_of : Cal P w K mg base "cost_of" 3 p_cost_of (spCost d))
    (c_lays_levies : Cal P w K mg base "lays_levies" 1 p_lays_levies (spLays d)) (c_levies_of : Cal P w K mg base "levies_of" 4 p_levies_of (spLevs d)) (c_levied_outcomes : Cal P w K mg base "levied_outcomes" 4 p_levied_outcomes (spLev d))
    (c_policy_swing : Cal P w K mg base "policy_swing" 7 p_policy_swing (spPsw d)) (c_outcomes_at : Cal P w K mg base "outcomes_at" 4 p_outcomes_at (spAt d)) (m_Point : Kls P w K mg base "Point" d.poi 4 p_Point_init (spPoi d)) :
    Cal P w K mg base "point_of" 8 p_point_of (spPt d) := D.cal fun f fd F => by
  refine F.ok sc_point_of (fun vs H Q E h => ?_) (fun cdv A outer s H vs Q E hr h => ?_)
  · obtain ⟨fu, ol, st, rfl, _⟩ := h
    rfl
  · obtain ⟨fu, ol, st, rfl, hF, W, hT, k⟩ := h
    have nd := sc_point_of.nd
    refine ⟨_, (pss_cons (ps_set (i := 1) nd rfl (Or.inl rfl) (pmk m_Weighing (hr.mono (by decide)) (pa_cons (pv 0) pa_nil)))
    (pss_cons (ps_set (i := 2) nd rfl (Or.inl rfl) (pe_fld (pv 1) rfl))
    (pss_cons (ps_if (pt_val (pcl c_lays_levies (hr.mono (by decide)) (pa_cons (pv 0) (pa_cons (pv 1) pa_nil))))
    (pss_cons (ps_set (i := 3) nd rfl (Or.inl rfl) (pcl c_cost_of (hr.mono (by decide)) (pa_cons (pv 0) (pa_cons (pv 2) (pa_cons (pe_fld (pv 1) rfl) pa_nil)))))
    (pss_one (ps_ret (pmk m_Point (hr.mono (by decide)) (pa_cons (pv 0) (pa_cons (pv 2) (pa_cons pe_int (pa_cons (pv 3) (pa_cons (pcl c_levied_outcomes (hr.mono (by decide)) (pa_cons (pv 0) (pa_cons (pcl c_levies_of (hr.mono (by decide)) (pa_cons (pv 0) (pa_cons (pv 1) pa_nil))) pa_nil))) pa_nil)))))))))
    pss_nil)
    (pss_cons (ps_set (i := 4) nd rfl (Or.inl rfl) (pe_ifExp (pt_val (pe_fld (pv 1) rfl)) (pcl c_policy_swing (hr.mono (by decide)) (pa_cons (pv 0) (pa_cons (pv 2) pa_nil))) pe_int))
    (pss_cons (ps_set (i := 5) nd rfl (Or.inl rfl) (pcl c_outcomes_at (hr.mono (by decide)) (pa_cons (pv 0) (pa_cons (pv 2) (pa_cons (pv 4) pa_nil)))))
    (pss_one (ps_ret (pmk m_Point (hr.mono (by decide)) (pa_cons (pv 0) (pa_cons (pv 2) (pa_cons (pv 4) (pa_cons (pcl c_cost_of (hr.mono (by decide)) (pa_cons (pv 0) (pa_cons (pv 2) (pa_cons (pv 5) pa_nil)))) (pa_cons (pv 5) pa_nil))))))))))))), ?_⟩
    refine ⟨_, rfl, made_wei T.ap hF W fun x H2 nx s2 hW => ?_⟩
    have hF2 := hF.keep T.ap (.of s2)
    obtain ⟨dx, lp, hx, hlp⟩ := id hW
    have Bp := rb_plain W
    refine ⟨_, rfl, x, _, dx, _, _, rfl, hx, T.k_Weighing, T.a_Weighing_side, weiF_side .., ?_⟩
    refine ⟨_, rfl, _, rfl, fu, ol, x, st, rfl, hF2, hW, _, rfl, ifB (fun c => ?_) fun c => ?_⟩
    · have hyes : st.policy.mode = 3 ∧ Vbfuaf.heavy st = true := by
        have c' : (decide (st.policy.mode = 3) && Vbfuaf.heavy st) = true := c
        rw [Bool.and_eq_true, decide_eq_true_eq] at c'
        exact c'
      obtain ⟨m3, hv⟩ := hyes
      refine ⟨_, rfl, _, rfl, _, rfl, x, _, dx, _, _, rfl, hx, T.k_Weighing, T.a_Weighing_plain, weiF_plain .., fu, ol, lp, st, Vbfuaf.sideOf st, _, rfl, hF2, W, hlp, Bp, fun H3 s3 => ?_⟩
      have hF3 := hF2.keep T.ap (.of s3)
      have hcb : Vbfuaf.costWith st (Vbfuaf.plain st) ≤ 10 ^ 35 := cost_big W Bp _
      have sAll : Same H H3 := s2.trans s3
      refine ⟨_, rfl, _, rfl, _, rfl, _, rfl, _, rfl, _, rfl, fu, ol, x, st, rfl, hF3, W, hW.kp T.ap (.of s3), hT.same sAll, fun H5 lv g5 nlv hlv => ?_⟩
      have hF5 := hF3.keep T.ap g5.kp
      refine ⟨fu, ol, lv, st, Vbfuaf.levies st, rfl, hF5, W, hlv, levies_len st, fun l hl => levy_bd W hl, fun H6 l6 s6 nl6 hl6 => ?_⟩
      refine made_poi T.ap (hF5.keep T.ap (.of s6)) W hl6 (rb_levied W) hcb fun y dy H7 ny s7 hy => ?_
      have gAll : Gr d H H5 := (Gr.of sAll).trans g5
      have ed : Vbfuaf.dealt st = ((st.orders.zip (Vbfuaf.levies st)).map (fun x => Vbfuaf.done st 0 0 x.2 x.1), Vbfuaf.costWith st (Vbfuaf.plain st)) := by
        unfold Vbfuaf.dealt
        rw [if_pos ⟨m3, hv⟩]
      have es : Vbfuaf.swingOf st = 0 := by
        unfold Vbfuaf.swingOf
        rw [if_neg (by rw [hv]; decide), if_neg (by omega), if_neg (by omega)]
      refine k H7 y dy l6 (gAll.trans (.of (s6.trans s7))) (gAll.fr _ (s6.free ny)) (gAll.fr _ nl6) ?_ ?_
      · rw [ed, es]
        exact hy
      · rw [ed]
        exact hl6.kp (OutAt.lives T.ap) (.of s7)
    · have hno : ¬ (st.policy.mode = 3 ∧ Vbfuaf.heavy st = true) := fun z => by
        rw [z.2, decide_eq_true z.1] at c
        cases c
      have fin : ∀ (sw : Nat) (H3 : Hp), sw = Vbfuaf.swingOf st → Same H2 H3 → sw ≤ 2000 →
          tSeq (tAsg (tCall (spAt d) [] E0 (tCons (tVar 0) (tCons (tVar 2) (tCons (tVar 4) tNil)))) (gName 5))
            (tRet (tMk d.poi (spPoi d) (tCons (tVar 0) (tCons (tVar 2) (tCons (tVar 4) (tCons (tCall (spCost d) [] E0 (tCons (tVar 0) (tCons (tVar 2) (tCons (tVar 5) tNil)))) (tCons (tVar 5) tNil)))))))
          { nx := fun _ H' => Q .non H', rt := Q } [some (.ref fu), some (.ref x), some (.int (Vbfuaf.sideOf st : Nat)), none, some (.int sw), none] H3 := by
        intro sw H3 esw s3 hsw
        refine ⟨_, rfl, _, rfl, _, rfl, fu, ol, st, Vbfuaf.sideOf st, sw, rfl, hF2.keep T.ap (.of s3), W, hsw, fun H4 l4 s4 nl4 hl4 => ?_⟩
        have hl4' : LsAt (OutAt d) H4 l4 (Vbfuaf.swung st sw) := hl4
        have B4 := rb_swung W hsw
        have hF4 := (hF2.keep T.ap (.of s3)).keep T.ap (.of s4)
        refine ⟨_, rfl, _, rfl, _, rfl, _, rfl, _, rfl, _, rfl, fu, ol, l4, st, Vbfuaf.sideOf st, _, rfl, hF4, W, hl4', B4, fun H5 s5 => ?_⟩
        refine ⟨_, rfl, made_poi T.ap (hF4.keep T.ap (.of s5)) W (hl4'.kp (OutAt.lives T.ap) (.of s5)) B4 (cost_big W B4 _) fun y dy H6 ny s6 hy => ?_⟩
        have ed : Vbfuaf.dealt st = (Vbfuaf.swung st sw, Vbfuaf.costAt st (Vbfuaf.sideOf st) (Vbfuaf.flowOf (Vbfuaf.swung st sw))) := by
          unfold Vbfuaf.dealt
          rw [if_neg hno, esw]
          rfl
        have sAll : Same H H5 := ((s2.trans s3).trans s4).trans s5
        refine k H6 y dy l4 (.of (sAll.trans s6)) (sAll.free ny) ((s2.trans s3).free nl4) ?_ ?_
        · rw [ed, ← esw]
          exact hy
        · rw [ed]
          exact hl4'.kp (OutAt.lives T.ap) (.of (s5.trans s6))
      refine ⟨_, rfl, x, _, dx, _, _, rfl, hx, T.k_Weighing, T.a_Weighing_enough, weiF_enough .., _, rfl, ifB (fun c2 => ?_) fun c2 => ?_⟩
      · refine ⟨_, rfl, _, rfl, fu, ol, st, rfl, hF2, W, fun H3 s3 => ?_⟩
        exact fin (polSw st) H3 (swing_heavy c2).symm s3 (polSw_le W)
      · refine fin 0 H2 ?_ (Same.refl H2) (Nat.zero_le _)
        unfold Vbfuaf.swingOf
        rw [if_pos c2]
end
end Fs
end
section
set_option Elab.async false
set_option linter.all false
set_option maxRecDepth 100000
set_option maxHeartbeats 2000000
namespace Fs
open PySem PySem.Spec PyProof.Rows L2
/-! ### ranges: tuples of the file's top -/
def RngAt (K : PySem.W.Frag) (a : Addr) (bs : List (Int × Int)) : Prop := ∃ as : List Addr, as.length = bs.length ∧ (∀ H, SqT K H a (as.map V.ref)) ∧ ∀ (i : Nat) (b : Addr) (r : Int × Int), as[i]? = some b → bs[i]? = some r → ∀ H, SqT K H b [.int r.1, .int r.2]
def Rng (K : PySem.W.Frag) (mg : Str → Option Value) (x : Str) (bs : List (Int × Int)) : Prop := ∃ a, mg x = some (.ref a) ∧ RngAt K a bs
def inR (n : Int) (r : Int × Int) : Bool := decide (r.1 ≤ n) && decide (n ≤ r.2)
def allIn (ns : List Int) (bs : List (Int × Int)) : Bool := (ns.zip bs).all fun x => inR x.1 x.2
theorem allIn_true {ns : List Int} {bs : List (Int × Int)} (h : ∀ (i : Nat) n r, ns[i]? = some n → bs[i]? = some r → inR n r = true) : allIn ns bs = true := by
  unfold allIn
  rw [List.all_eq_true]
  rintro ⟨n, r⟩ hx
  obtain ⟨i, hi⟩ := List.getElem?_of_mem hx
  obtain ⟨h1, h2⟩ := List.getElem?_zip_eq_some.mp hi
  exact h i n r h1 h2
theorem allIn_false {ns : List Int} {bs : List (Int × Int)} {i : Nat} {n : Int} {r : Int × Int} (h1 : ns[i]? = some n) (h2 : bs[i]? = some r) (h : inR n r = false) : allIn ns bs = false := by
  unfold allIn
  rw [← Bool.not_eq_true, List.all_eq_true]
  intro z
  have := z (n, r) (List.mem_of_getElem? (i := i) (List.getElem?_zip_eq_some.mpr ⟨h1, h2⟩))
  rw [h] at this
  cases this
section
variable {P : Program} {w : World} {K : PySem.W.Frag} {mg : Str → Option Value} {base : Heap} {d : Ad}
/-! ### all_within -/
def spAw (K : PySem.W.Frag) : Sp := fun vs H Q _ => ∃ (l t : Addr) (ns : List Int) (bs : List (Int × Int)), vs = [.ref l, .ref t] ∧ SqL K H l (ns.map V.int) ∧ RngAt K t bs ∧ ns.length = bs.length ∧ ∀ H' : Hp, Same H H' → Q (.bl (allIn ns bs)) H'
theorem c_all_within (T : Txt K mg d) (D : Dfn K mg "all_within" s_all_within p_all_within) : Cal P w K mg base "all_within" 1 p_all_within (spAw K) := D.cal fun f fd F => by
  refine F.ok sc_all_within (fun vs H Q E h => ?_) (fun cdv A outer s H vs Q E hr h => ?_)
  · obtain ⟨l, t, ns, bs, rfl, _⟩ := h
    rfl
  · obtain ⟨l, t, ns, bs, rfl, hl, ⟨as, ea, hst, hat⟩, hlen, k⟩ := h
    have nd := sc_all_within.nd
    refine ⟨_, (pss_cons (ps_for PassesOwn.never rfl (pi_zipT rfl T.n_zip (pa_cons (pv 0) (pa_cons (pv 1) pa_nil))) (pg_tup rfl (pgs_cons (pg_name (i := 2) nd rfl (Or.inl rfl)) (pgs_cons (pg_name (i := 3) nd rfl (Or.inl rfl)) pgs_nil)))
    (pss_one (ps_if (PW.pt (pw_or (pt_cmpR op_lt (pv 2) (pe_ix ix_tup (pv 3) pe_int (fun _ _ => rfl)) (nomark _)) (pw_or1 (pt_cmpR op_gt (pv 2) (pe_ix ix_tup (pv 3) pe_int (fun _ _ => rfl)) (nomark _)))))
    (pss_one (ps_ret pe_bl))
    pss_nil)))
    (pss_one (ps_ret pe_bl))), ?_⟩
    refine ⟨_, rfl, _, rfl, l, t, _, _, rfl, hl, hst H, for_zipT (K := K) (xs := ns.map V.int) (ys := as.map V.ref) (fun i σ H' => Same H H' ∧ (∃ v2 v3 : Option V, σ = [some (.ref l), some (.ref t), v2, v3]) ∧ ∀ (j : Nat) n r, j < i → ns[j]? = some n → bs[j]? = some r → inR n r = true)
      (by rw [List.length_map, List.length_map]; omega) ⟨Same.refl H, ⟨none, none, rfl⟩, fun j n r h => absurd h (Nat.not_lt_zero _)⟩ (fun i σ H' _ ⟨s1, _⟩ => ⟨s1.seq hl, hst H'⟩) ?_ ?_⟩
    · rintro i x y σ H' u hx hy ⟨s1, ⟨v2, v3, rfl⟩, hall⟩ hu
      rw [List.getElem?_map] at hx hy
      cases qn : ns[i]? with
      | none => rw [qn] at hx; cases hx
      | some n =>
        cases qa : as[i]? with
        | none => rw [qa] at hy; cases hy
        | some a =>
          rw [qn] at hx
          rw [qa] at hy
          cases hx
          cases hy
          have hi : i < bs.length := by
            have := (List.getElem?_eq_some_iff.mp qn).1
            omega
          have qb : bs[i]? = some (bs[i]'hi) := List.getElem?_eq_getElem hi
          have hb := hat i a _ qa qb
          have s2 : Same H (upd H' u (.tup [.int n, .ref a])) := s1.trans (Same.new hu)
          refine ⟨u, _, rfl, SqT.of upd_same, rfl, _, _, rfl, _, _, rfl, rfl, _, rfl, _, rfl, a, _, _, _, rfl, rfl, hb _, at_of (j := 0) rfl rfl, _, _, rfl, rfl, _, rfl, ifB (fun c => ?_) fun c => ?_⟩
          · refine iteT ?_
            have := k _ s2
            rw [decide_eq_true_eq] at c
            rw [allIn_false qn qb (by unfold inR; rw [decide_eq_false (by omega)]; rfl)] at this
            exact this
          · rw [decide_eq_false_iff_not] at c
            refine ⟨_, rfl, _, rfl, a, _, _, _, rfl, rfl, hb _, at_of (j := 1) rfl rfl, _, _, rfl, rfl, _, rfl, ifB (fun c2 => ?_) fun c2 => ?_⟩
            · have := k _ s2
              rw [decide_eq_true_eq] at c2
              rw [allIn_false qn qb (by unfold inR; rw [decide_eq_false (p := n ≤ _) (by omega), Bool.and_false])] at this
              exact this
            · rw [decide_eq_false_iff_not] at c2
              refine ⟨s2, ⟨_, _, rfl⟩, fun j m r hj hm hr => ?_⟩
              by_cases e : j = i
              · subst e
                rw [qn] at hm
                rw [qb] at hr
                cases hm
                cases hr
                unfold inR
                rw [decide_eq_true (by omega), decide_eq_true (by omega)]
                rfl
              · exact hall j m r (by omega) hm hr
    · rintro σ H' ⟨s1, ⟨v2, v3, rfl⟩, hall⟩
      have := k H' s1
      rw [allIn_true (fun i n r h1 h2 => hall i n r (by rw [List.length_map]; exact (List.getElem?_eq_some_iff.mp h1).1) h1 h2)] at this
      exact this
end
end Fs
end
section
set_option Elab.async false
set_option linter.all false
set_option maxRecDepth 100000
set_option maxHeartbeats 2000000
namespace Fs
open PySem PySem.Spec PyProof.Rows L2
def TierI (d : Ad) (H : Hp) (x : Addr) (p : Int × Int) : Prop := ∃ dx, H x = some (.ins d.tier dx (tierF p.1 p.2))
theorem TierI.lives {d : Ad} (A : Apart d) : Lives d (TierI d) := fun _ _ _ _ k ⟨dx, e⟩ => ⟨dx, k _ _ _ _ A.tier e⟩
theorem pairs_some {l : List Int} {i : Nat} (h : i < (pairs l).length) : ∃ p, (pairs l)[i]? = some p ∧ l[2 * i]? = some p.1 ∧ l[2 * i + 1]? = some p.2 := by
  have e : (pairs l)[i]? = some ((pairs l)[i]'h) := List.getElem?_eq_getElem h
  exact ⟨_, e, pairs_get l i _ e⟩
theorem rSize (n : Nat) (h : n % 2 = 0) : Builtin.Range.rangeSize 0 (n : Int) 2 = ((n / 2 : Nat) : Int) := by
  unfold Builtin.Range.rangeSize
  rw [if_pos (by decide)]
  split <;> omega
/-- a comprehension over a step range: made objects -/
theorem lc_rngC {d : Ad} {lo c : Int} {n : Nat} {g : TG} {te : TE} {vs : List Nat} {σ : L2.St} {H1 : Hp} {D : Addr} {Qd : Hp → Prop} {α : Type} {R : Hp → Addr → α → Prop} (L : Lives d R) (ys : List α) (hl : n = ys.length) (hD : H1 D = none) (hn : ys.length < sizeLine)
    (hs : ∀ (i : Nat) H y (Qn : VK), ys[i]? = some y → Same H1 H → (∀ b H4, Same H H4 → R H4 b y → Qn (.ref b) H4) → g (.int (lo + (i : Nat) * c)) (wipe σ vs) H fun σ2 H2 => wipe σ2 vs = wipe σ vs ∧ te σ2 H2 Qn)
    (hd : ∀ H, Same H1 H → LsAt R H D ys → Qd H) :
    ∃ W : Nat → Nat → Hp → Prop, (∃ m, W 0 m (upd H1 D (.lst []))) ∧ ∀ i m H, W i m H →
      ((Itc lo c n).stop i H ∧ Qd H) ∨ ((Itc lo c n).go i H ∧ ∃ Nx : Hp → Prop, (∀ H', Nx H' → ∃ m', m' < m ∧ W (i + 1) m' H') ∧ ∀ x H', (Itc lo c n).yld i H x H' → g x (wipe σ vs) H' fun σ2 H2 => wipe σ2 vs = wipe σ vs ∧ tYes σ2 H2 fun b H3 =>
        if b = true then te σ2 H3 fun y H4 => ∃ acc, H4 D = some (.lst acc) ∧ acc.length < sizeLine ∧ Nx (upd H4 D (.lst (acc ++ [y]))) else Nx H3) := by
  subst hl
  refine lc_gen (d := d) ys.length (fun i v H => ∃ b y, v = .ref b ∧ ys[i]? = some y ∧ R H b y) (fun i v H H' k ⟨b, y, e, e2, r⟩ => ⟨b, y, e, e2, L _ _ _ _ k r⟩) hD hn (fun i H hi s => hi)
    (fun H s => Nat.le_refl _) (fun i H x H' Qn hi s y q => ?_) fun H ws s e hw hr => hd H s ?_
  · obtain ⟨rfl, rfl⟩ := y
    have hy : ys[i]? = some (ys[i]'hi) := List.getElem?_eq_getElem hi
    exact hs i H' _ Qn hy s fun b H4 s4 r => q _ H4 s4 ⟨b, _, rfl, hy, r⟩
  · have hall : ∀ v ∈ ws, ∃ b, v = V.ref b := fun v hv => by
      obtain ⟨i, hi⟩ := List.getElem?_of_mem hv
      obtain ⟨b, y, e, _⟩ := hr i v hi
      exact ⟨b, e⟩
    have hmap : ∃ as : List Addr, ws = as.map V.ref := by
      clear hr hw e
      induction ws with
      | nil => exact ⟨[], rfl⟩
      | cons v r ih =>
        obtain ⟨b, rfl⟩ := hall v (by simp)
        obtain ⟨as, rfl⟩ := ih fun u hu => hall u (List.mem_cons_of_mem _ hu)
        exact ⟨b :: as, rfl⟩
    obtain ⟨as, rfl⟩ := hmap
    refine ⟨as, e, by simpa using hw, fun i b y h1 h2 => ?_⟩
    obtain ⟨b', y', e1, e2, r⟩ := hr i (.ref b) (by rw [List.getElem?_map, h1]; rfl)
    cases e1
    rw [h2] at e2
    cases e2
    exact r
section
variable {P : Program} {w : World} {K : PySem.W.Frag} {mg : Str → Option Value} {base : Heap} {d : Ad}
/-! ### tiers_of -/
def spTo (d : Ad) : Sp := fun vs H Q _ => ∃ (l : Addr) (ns : List Int), vs = [.ref l] ∧ H l = some (.lst (ns.map V.int)) ∧ (Vbfuaf.goodTiers ns = none → ∀ H' : Hp, Same H H' → Q .non H') ∧
  (∀ ts, Vbfuaf.goodTiers ns = some ts → ∀ (H' : Hp) (p : Addr), Same H H' → H p = none → LsAt (TierAt d) H' p ts → Q (.ref p) H')
theorem c_tiers_of (T : Txt K mg d) (D : Dfn K mg "tiers_of" s_tiers_of p_tiers_of) (c_tier_within : Cal P w K mg base "tier_within" 1 p_tier_within (spWithin d)) (c_follows : Cal P w K mg base "follows" 1 p_follows (spFollows d))
    (m_Tier : Kls P w K mg base "Tier" d.tier 1 p_Tier_init (spNew d.tier tierPre tierFs)) : Cal P w K mg base "tiers_of" 3 p_tiers_of (spTo d) := D.cal fun f fd F => by
  refine F.ok sc_tiers_of (fun vs H Q E h => ?_) (fun cdv A outer s H vs Q E hr h => ?_)
  · obtain ⟨l, ns, rfl, _⟩ := h
    rfl
  · obtain ⟨l, ns, rfl, hl, k0, k1⟩ := h
    have nd := sc_tiers_of.nd
    refine ⟨_, (pss_cons (ps_if (PW.pt (pw_or (pt_cmpR op_ne (pe_op op_mod (pe_callB call_len_seq (by rfl) T.n_len boot_len (pa_cons (pv 0) pa_nil)) pe_int) pe_int (nomark _)) (pw_or1 (pt_cmpR op_gt (pe_callB call_len_seq (by rfl) T.n_len boot_len (pa_cons (pv 0) pa_nil)) (pe_op op_mulB pe_int (gk T.c_MOST_TIERS)) (nomark _)))))
    (pss_one (ps_ret pe_non))
    pss_nil)
    (pss_cons (ps_setLc (i := 1) rfl nd rfl rfl (sw_true rfl rfl rfl rfl) (pi_range3 rfl T.n_range (pa_cons pe_int (pa_cons (pe_callB call_len_seq (by rfl) T.n_len boot_len (pa_cons (pv 0) pa_nil)) (pa_cons pe_int pa_nil)))) (blkOk_by (own := [("place", 2)]) (by rfl)) (fun _ _ _ _ _ => (pg_name (i := 2) nd rfl (Or.inl rfl))) (fun _ _ _ _ _ => pts_nil)
      (fun _ _ _ _ _ => (pmk m_Tier (hr.mono (by decide)) (pa_cons (pe_ix (r := rIxL K) ix_list (pv 0) (pv 2) (fun _ _ => rfl)) (pa_cons (pe_ix (r := rIxL K) ix_list (pv 0) (pe_op op_add (pv 2) pe_int) (fun _ _ => rfl)) pa_nil)))))
    (pss_cons (ps_for PassesOwn.never rfl (pi_enum rfl T.n_enumerate (pa_cons (pv 1) pa_nil)) (pg_tup rfl (pgs_cons (pg_name (i := 2) nd rfl (Or.inl rfl)) (pgs_cons (pg_name (i := 3) nd rfl (Or.inl rfl)) pgs_nil)))
    (pss_cons (ps_if (pt_not (pt_val (pcl c_tier_within (hr.mono (by decide)) (pa_cons (pv 3) pa_nil))))
    (pss_one (ps_ret pe_non))
    pss_nil)
    (pss_one (ps_if (PW.pt (pw_and (pt_cmpR op_gt (pv 2) pe_int (nomark _)) (pw_and1 (pt_not (pt_val (pcl c_follows (hr.mono (by decide)) (pa_cons (pe_ix ix_list (pv 1) (pe_op op_sub (pv 2) pe_int) (fun _ _ => rfl)) (pa_cons (pv 3) pa_nil))))))))
    (pss_one (ps_ret pe_non))
    pss_nil))))
    (pss_one (ps_ret (pv 1)))))), ?_⟩
    have elen : (ns.map V.int).length = ns.length := List.length_map ..
    refine ⟨_, rfl, l, _, rfl, .inl (SqL.of hl), _, _, rfl, rfl, (show (0 : Int) < 2 by decide), rfl, _, rfl, ifB (fun c => ?_) fun c => ?_⟩
    · refine iteT ?_
      refine k0 (goodTiers_none fun z => ?_) H (Same.refl H)
      rw [elen] at c
      have c' : (!decide (V.int ((ns.length : Int) % 2) = V.int 0)) = true := c
      rw [Bool.not_eq_true', decide_eq_false_iff_not] at c'
      exact c' (congrArg V.int (by omega))
    · rw [elen] at c
      have c' : (!decide (V.int ((ns.length : Int) % 2) = V.int 0)) = false := c
      rw [Bool.not_eq_false', decide_eq_true_eq] at c'
      have heven : ns.length % 2 = 0 := by
        injection c' with z
        omega
      refine ⟨_, rfl, l, _, rfl, .inl (SqL.of hl), _, _, rfl, rfl, ⟨bg_of (n := 2) (by decide) (by decide), bg_of (n := 6) (by decide) (by decide)⟩, _, _, rfl, rfl, _, rfl, ifB (fun c2 => ?_) fun c2 => ?_⟩
      · rw [decide_eq_true_eq, elen] at c2
        exact k0 (goodTiers_none fun z => by have := z.2.1; omega) H (Same.refl H)
      · rw [decide_eq_false_iff_not, elen] at c2
        have hle : ns.length ≤ 12 := by omega
        have hpl : (pairs ns).length = ns.length / 2 := pairs_len ns
        refine ⟨_, rfl, l, _, rfl, .inl (SqL.of hl), 0, (ns.length : Int), 2, ns.length / 2, (by show [V.int 0, V.int ((ns.map V.int).length : Int), V.int 2] = _; rw [elen]), ?_, fun D hD => ?_⟩
        · refine ⟨by decide, by decide, ?_, rSize _ heven⟩
          have hs : ∀ n : Nat, n ≤ 12 → Builtin.Range.small 0 (n : Int) 2 = true := by decide +kernel
          exact hs _ hle
        refine lc_rngC (TierI.lives T.ap) (pairs ns) hpl.symm hD (line40 (by omega)) (fun i H3 y Qn hy s3 q => ?_) fun H3 s3 hL => ?_
        · obtain ⟨y1, y2⟩ := pairs_get ns i y hy
          refine ⟨rfl, _, rfl, _, rfl, l, _, _, _, rfl, rfl, SqL.of (s3 _ _ hl), at_of (j := 2 * i) (v := .int y.1) (by omega) (by rw [List.getElem?_map, y1]; rfl), _, rfl, _, rfl, _, _, rfl, rfl, l, _, _, _, rfl, rfl, SqL.of (s3 _ _ hl), at_of (j := 2 * i + 1) (v := .int y.2) (by omega) (by rw [List.getElem?_map, y2]; rfl), ?_⟩
          exact made_end (fun H' _ => ⟨_, _, rfl⟩) fun z dz H4 nz s4 hz => q z H4 s4 ⟨dz, hz⟩
        · -- the look at the tiers
          obtain ⟨as, ea, hal, hat⟩ := hL
          refine ⟨_, rfl, D, _, rfl, SqL.of ea, for_enum (K := K) (a := D) (xs := as.map V.ref) (fun i σ H' => Same H3 H' ∧ (∃ v2 v3 : Option V, σ = [some (.ref l), some (.ref D), v2, v3]) ∧
            ∀ j p, j < i → (pairs ns)[j]? = some p → okP p = true ∧ ∀ q, 0 < j → (pairs ns)[j - 1]? = some q → folP q p = true) ⟨Same.refl H3, ⟨none, none, rfl⟩, fun j p h => absurd h (Nat.not_lt_zero _)⟩ (fun i σ H' _ ⟨s4, _⟩ => SqL.of (s4 _ _ ea)) ?_ ?_⟩
          · rintro i y σ H' t hy ⟨s4, ⟨v2, v3, rfl⟩, hall⟩ hT
            rw [List.getElem?_map] at hy
            cases qa : as[i]? with
            | none => rw [qa] at hy; cases hy
            | some a =>
              rw [qa] at hy
              cases hy
              have hi : i < (pairs ns).length := by
                have := (List.getElem?_eq_some_iff.mp qa).1
                omega
              obtain ⟨p, ep, _⟩ := pairs_some hi
              obtain ⟨da, ha⟩ := hat i a p qa ep
              have s5 : Same H3 (upd H' t (.tup [.int (i : Nat), .ref a])) := s4.trans (Same.new hT)
              have sAll : Same H (upd H' t (.tup [.int (i : Nat), .ref a])) := s3.trans s5
              refine ⟨t, _, rfl, SqT.of upd_same, rfl, _, _, rfl, _, _, rfl, rfl, _, rfl, a, da, p.1, p.2, rfl, s5 _ _ ha, _, rfl, ifB (fun c3 => ?_) fun c3 => ?_⟩
              · refine k0 (goodTiers_none fun z => ?_) _ sAll
                have := (z.2.2 i p ep).1
                rw [show okP (p.1, p.2) = okP p from rfl, this] at c3
                cases c3
              · have okp : okP p = true := by
                  rw [show okP (p.1, p.2) = okP p from rfl] at c3
                  simpa using c3
                -- behind the one before
                refine ⟨_, rfl, _, _, rfl, rfl, _, rfl, ifB (fun c4 => ?_) fun c4 => ?_⟩
                · rw [decide_eq_true_eq] at c4
                  have hi0 : 0 < i := by omega
                  obtain ⟨b, hb⟩ : ∃ b, as[i - 1]? = some b := ⟨_, List.getElem?_eq_getElem (by omega)⟩
                  obtain ⟨r, er, _⟩ := pairs_some (l := ns) (i := i - 1) (by omega)
                  obtain ⟨db, hbb⟩ := hat (i - 1) b r hb er
                  refine ⟨_, rfl, _, rfl, _, _, rfl, rfl, D, _, _, _, rfl, rfl, SqL.of (s5 _ _ ea), at_of (j := i - 1) (v := .ref b) (by omega) (by rw [List.getElem?_map, hb]; rfl), _, rfl, b, db, a, da, r.1, r.2, p.1, p.2, rfl, s5 _ _ hbb, s5 _ _ ha, _, rfl, ?_⟩
                  refine ifB (fun c5 => ?_) fun c5 => ?_
                  · refine k0 (goodTiers_none fun z => ?_) _ sAll
                    have := (z.2.2 i p ep).2 r hi0 er
                    rw [show folP (r.1, r.2) (p.1, p.2) = folP r p from rfl, this] at c5
                    cases c5
                  · have fol : folP r p = true := by
                      rw [show folP (r.1, r.2) (p.1, p.2) = folP r p from rfl] at c5
                      simpa using c5
                    refine ⟨s5, ⟨_, _, rfl⟩, fun j u hj hu => ?_⟩
                    by_cases e : j = i
                    · subst e
                      rw [ep] at hu
                      cases hu
                      refine ⟨okp, fun q' _ hq' => ?_⟩
                      rw [er] at hq'
                      cases hq'
                      exact fol
                    · exact hall j u (by omega) hu
                · rw [decide_eq_false_iff_not] at c4
                  refine iteF ?_
                  refine ⟨s5, ⟨_, _, rfl⟩, fun j u hj hu => ?_⟩
                  by_cases e : j = i
                  · subst e
                    rw [ep] at hu
                    cases hu
                    exact ⟨okp, fun q' h0 => absurd h0 (by omega)⟩
                  · exact hall j u (by omega) hu
          · rintro σ H' ⟨s4, ⟨v2, v3, rfl⟩, hall⟩
            have hg : goodP (pairs ns) := fun i p ep => hall i p (by rw [List.length_map, hal]; exact (List.getElem?_eq_some_iff.mp ep).1) ep
            refine ⟨_, rfl, k1 _ (goodTiers_some heven hle hg) H' D (s3.trans s4) hD ?_⟩
            refine ⟨as, s4 _ _ ea, by rw [List.length_map]; exact hal, fun i a t h1 h2 => ?_⟩
            rw [List.getElem?_map] at h2
            cases ep : (pairs ns)[i]? with
            | none => rw [ep] at h2; cases h2
            | some p =>
              rw [ep] at h2
              cases h2
              obtain ⟨da, ha⟩ := hat i a p h1 ep
              refine ⟨da, ?_⟩
              have okp := (hg i p ep).1
              unfold okP Vbfuaf.inside at okp
              simp only [Bool.and_eq_true, decide_eq_true_eq] at okp
              have e1 : ((natP p).1 : Int) = p.1 := Int.toNat_of_nonneg (by omega)
              have e2 : ((natP p).2 : Int) = p.2 := Int.toNat_of_nonneg (by omega)
              rw [e1, e2]
              exact s4 _ _ ha
end
end Fs
end
section
set_option Elab.async false
set_option linter.all false
set_option maxRecDepth 100000
set_option maxHeartbeats 2000000
namespace Fs
open PySem PySem.Spec PyProof.Rows L2
section
variable {P : Program} {w : World} {K : PySem.W.Frag} {mg : Str → Option Value} {base : Heap} {d : Ad}
/-! ### Fund.renew -/
def isFundF (fs : List (Str × V)) : Prop := fs = [] ∨ ∃ (a0 a1 : Int) (a2 a3 a4 a5 : Addr) (a6 : Int) (a7 : Addr), fs = fundF a0 a1 a2 a3 a4 a5 a6 a7
theorem renewed {fs : List (Str × V)} (h : isFundF fs) (a0 a1 : Int) (a2 a3 a4 a5 : Addr) (a6 : Int) (a7 : Addr) :
    putF "outcomes" (V.ref a7) (putF "last_number" (V.int a6) (putF "orders" (V.ref a5) (putF "policy" (V.ref a4) (putF "sell_tiers" (V.ref a3) (putF "buy_tiers" (V.ref a2) (putF "units" (V.int a1) (putF "value" (V.int a0) fs))))))) = fundF a0 a1 a2 a3 a4 a5 a6 a7 := by
  rcases h with rfl | ⟨b0, b1, b2, b3, b4, b5, b6, b7, rfl⟩
  · exact fundF_put ..
  · rw [fundF_set_value, fundF_set_units, fundF_set_buy_tiers, fundF_set_sell_tiers, fundF_set_policy, fundF_set_orders, fundF_set_last_number, fundF_set_outcomes]
theorem isFundF.len {fs : List (Str × V)} (h : isFundF fs) : fs.length ≤ 8 := by
  rcases h with rfl | ⟨b0, b1, b2, b3, b4, b5, b6, b7, rfl⟩
  · exact Nat.zero_le _
  · exact Nat.le_of_eq (fundF_len ..)
/-- a is none of the fund's lists -/
def Av (H : Hp) (f a : Addr) : Prop := ∀ C dx fs, H f = some (.ins C dx fs) → fs.lookup ("buy_tiers" : Str) ≠ some (.ref a) ∧ fs.lookup ("sell_tiers" : Str) ≠ some (.ref a) ∧ fs.lookup ("orders" : Str) ≠ some (.ref a) ∧ fs.lookup ("outcomes" : Str) ≠ some (.ref a)
theorem Av.of {H : Hp} {f a dx tb ts po ol oc : Addr} {v u n : Int} (h : H f = some (.ins d.fund dx (fundF v u tb ts po ol n oc))) (c : tb ≠ a ∧ ts ≠ a ∧ ol ≠ a ∧ oc ≠ a) : Av H f a := by
  intro C dy fs e
  rw [h] at e
  cases e
  rw [fundF_buy_tiers, fundF_sell_tiers, fundF_orders, fundF_outcomes]
  exact ⟨fun z => c.1 (V.ref.inj (Option.some.inj z)), fun z => c.2.1 (V.ref.inj (Option.some.inj z)), fun z => c.2.2.1 (V.ref.inj (Option.some.inj z)), fun z => c.2.2.2 (V.ref.inj (Option.some.inj z))⟩
theorem Av.is {H : Hp} {f a dx tb ts po ol oc : Addr} {v u n : Int} (av : Av H f a) (h : H f = some (.ins d.fund dx (fundF v u tb ts po ol n oc))) : tb ≠ a ∧ ts ≠ a ∧ ol ≠ a ∧ oc ≠ a := by
  have q := av _ _ _ h
  rw [fundF_buy_tiers, fundF_sell_tiers, fundF_orders, fundF_outcomes] at q
  exact ⟨fun z => q.1 (by rw [z]), fun z => q.2.1 (by rw [z]), fun z => q.2.2.1 (by rw [z]), fun z => q.2.2.2 (by rw [z])⟩
theorem Av.kp {H H1 : Hp} {f ol a : Addr} {st : Vbfuaf.State} (k : ∀ o, H f = some o → isTbl o = false → H1 f = some o) (hF : FundAt d H f ol st) (av : Av H f a) : Av H1 f a := fun C dx fs e => by
  obtain ⟨df, tb, ts, po, oc, ef, _⟩ := hF.ex
  rw [k _ ef rfl] at e
  exact av C dx fs (by rw [ef]; exact e)
theorem Av.put {H H1 H' : Hp} {f ol0 dx tb ts po ol oc dx' tb' ts' po' ol' oc' : Addr} {v u n v' u' n' : Int} {st : Vbfuaf.State} (k : ∀ o, H f = some o → isTbl o = false → H1 f = some o) (hF : FundAt d H f ol0 st) (h : H1 f = some (.ins d.fund dx (fundF v u tb ts po ol n oc)))
    (h' : H' f = some (.ins d.fund dx' (fundF v' u' tb' ts' po' ol' n' oc'))) (c1 : tb' = tb ∨ H tb' = none) (c2 : ts' = ts ∨ H ts' = none) (c3 : ol' = ol ∨ H ol' = none) (c4 : oc' = oc ∨ H oc' = none) : ∀ a o, H a = some o → Av H f a → Av H' f a := by
  intro a o e av
  have q := (Av.kp k hF av).is h
  have one : ∀ {x y : Addr}, y = x ∨ H y = none → x ≠ a → y ≠ a := fun {x y} c n => by
    rcases c with rfl | c
    · exact n
    · intro z
      rw [z, e] at c
      cases c
  exact .of h' ⟨one c1 q.1, one c2 q.2.1, one c3 q.2.2.1, one c4 q.2.2.2⟩
theorem But.fresh {x p : Addr} {H H1 : Hp} (b : But x H H1) (n : p ≠ x) (h : H1 p = none) : H p = none := by
  cases q : H p with
  | none => rfl
  | some o => rw [b p o q n] at h; cases h
def spRenew (d : Ad) : Sp := fun vs H Q _ => ∃ (x dx : Addr) (fs : List (Str × V)) (v u : Nat), vs = [.ref x, .int v, .int u] ∧ H x = some (.ins d.fund dx fs) ∧ isFundF fs ∧
  ∀ (H' : Hp) (ol : Addr), But x H H' → H ol = none → (∀ l, H' l = none → H l = none) → (∀ a o, H a = some o → Av H' x a) → FundAt d H' x ol (Vbfuaf.newFund v u) → Q .non H'
theorem m_renew (T : Txt K mg d) (D : Mfn K "renew" "Fund.renew" d.fund s_Fund_renew p_Fund_renew) (m_Policy : Kls P w K mg base "Policy" d.pol 1 p_Policy_init (spNew d.pol polPre polFs)) :
    Mth P w K mg base d.fund "renew" 3 p_Fund_renew (spRenew d) := D.mth fun f fd F => by
  refine F.ok sc_Fund_renew (fun vs H Q E h => ?_) (fun cdv A outer s H vs Q E hr h => ?_)
  · obtain ⟨x, dx, fs, v, u, rfl, _⟩ := h
    rfl
  · obtain ⟨x, dx, fs, v, u, rfl, hx, hf, k⟩ := h
    refine ⟨_, (pss_cons (ps_fld (pv 0) (pv 1) rfl)
    (pss_cons (ps_fld (pv 0) (pv 2) rfl)
    (pss_cons (ps_fld (pv 0) (pe_lst pa_nil) rfl)
    (pss_cons (ps_fld (pv 0) (pe_lst pa_nil) rfl)
    (pss_cons (ps_fld (pv 0) (pmk m_Policy (hr.mono (by decide)) (pa_cons pe_int (pa_cons pe_int (pa_cons pe_int (pa_cons pe_int (pa_cons pe_int (pa_cons pe_int pa_nil))))))) rfl)
    (pss_cons (ps_fld (pv 0) (pe_lst pa_nil) rfl)
    (pss_cons (ps_fld (pv 0) pe_int rfl)
    (pss_one (ps_fld (pv 0) (pe_lst pa_nil) rfl))))))))), ?_⟩
    have L0 := hf.len
    have sm : ∀ {n m : Nat} {gs : List (Str × V)}, gs.length ≤ n → n ≤ 100 → gs.length < 1000 := fun h1 h2 => by omega
    refine ⟨_, rfl, _, rfl, x, d.fund, dx, _, rfl, hx, T.k_Fund, T.a_Fund_value, sm (m := 0) L0 (by decide), ?_⟩
    refine ⟨_, rfl, _, rfl, x, d.fund, dx, _, rfl, upd_same, T.k_Fund, T.a_Fund_units, sm (m := 0) (len_put L0) (by decide), ?_⟩
    -- buy_tiers
    refine ⟨Nat.zero_le _, fun p1 n1 => ⟨_, rfl, x, d.fund, dx, _, rfl, (by rw [upd_ne (ne_of_none upd_same n1)]; exact upd_same), T.k_Fund, T.a_Fund_buy_tiers, sm (m := 0) (len_put (len_put L0)) (by decide), ?_⟩⟩
    generalize hH3 : L2.upd (L2.upd (L2.upd (L2.upd H x _) x _) p1 _) x _ = H3
    have x3 : H3 x = some (.ins d.fund dx (putF "buy_tiers" (.ref p1) (putF "units" (.int u) (putF "value" (.int v) fs)))) := by rw [← hH3]; exact upd_same
    have np1 : p1 ≠ x := fun e => by rw [e, upd_same] at n1; cases n1
    have e1 : H3 p1 = some (.lst []) := by rw [← hH3, upd_ne np1]; exact upd_same
    have b3 : But x H H3 := by
      rw [← hH3]
      exact (But.upd.trans But.upd).trans ((But.of (Same.new n1)).trans But.upd)
    clear hH3
    -- sell_tiers
    refine ⟨Nat.zero_le _, fun p2 n2 => ⟨_, rfl, x, d.fund, dx, _, rfl, (by rw [upd_ne (ne_of_none x3 n2)]; exact x3), T.k_Fund, T.a_Fund_sell_tiers, sm (m := 0) (len_put (len_put (len_put L0))) (by decide), ?_⟩⟩
    generalize hH4 : L2.upd (L2.upd H3 p2 _) x _ = H4
    have x4 : H4 x = some (.ins d.fund dx (putF "sell_tiers" (.ref p2) (putF "buy_tiers" (.ref p1) (putF "units" (.int u) (putF "value" (.int v) fs))))) := by rw [← hH4]; exact upd_same
    have np2 : p2 ≠ x := fun e => by rw [e, x3] at n2; cases n2
    have b34 : But x H3 H4 := by
      rw [← hH4]
      exact (But.of (Same.new n2)).trans But.upd
    have e2 : H4 p2 = some (.lst []) := by rw [← hH4, upd_ne np2]; exact upd_same
    have e1' := b34 _ _ e1 np1
    have b4 := b3.trans b34
    clear hH4
    -- policy
    refine made_end (fun H' _ => ⟨_, _, _, _, _, _, rfl⟩) fun po dp H5 n5 s5 h5 => ?_
    refine ⟨_, rfl, x, d.fund, dx, _, rfl, s5 _ _ x4, T.k_Fund, T.a_Fund_policy, sm (m := 0) (len_put (len_put (len_put (len_put L0)))) (by decide), ?_⟩
    generalize hH6 : L2.upd H5 x _ = H6
    have x6 : H6 x = some (.ins d.fund dx (putF "policy" (.ref po) (putF "sell_tiers" (.ref p2) (putF "buy_tiers" (.ref p1) (putF "units" (.int u) (putF "value" (.int v) fs)))))) := by rw [← hH6]; exact upd_same
    have npo : po ≠ x := fun e => by rw [e, x4] at n5; cases n5
    have b56 : But x H4 H6 := by
      rw [← hH6]
      exact (But.of s5).trans But.upd
    have epo : H6 po = some (.ins d.pol dp (polFs [.int 0, .int 0, .int 0, .int 1000000, .int 0, .int 2000])) := by rw [← hH6, upd_ne npo]; exact h5
    have e1'' := b56 _ _ e1' np1
    have e2'' := b56 _ _ e2 np2
    have b6 := b4.trans b56
    clear hH6
    -- orders
    refine ⟨Nat.zero_le _, fun p3 n3 => ⟨_, rfl, x, d.fund, dx, _, rfl, (by rw [upd_ne (ne_of_none x6 n3)]; exact x6), T.k_Fund, T.a_Fund_orders, sm (m := 0) (len_put (len_put (len_put (len_put (len_put L0))))) (by decide), ?_⟩⟩
    refine ⟨_, rfl, x, d.fund, dx, _, rfl, upd_same, T.k_Fund, T.a_Fund_last_number, sm (m := 0) (len_put (len_put (len_put (len_put (len_put (len_put L0)))))) (by decide), ?_⟩
    generalize hH8 : L2.upd (L2.upd (L2.upd H6 p3 _) x _) x _ = H8
    have x8 : H8 x = some (.ins d.fund dx (putF "last_number" (.int 0) (putF "orders" (.ref p3) (putF "policy" (.ref po) (putF "sell_tiers" (.ref p2) (putF "buy_tiers" (.ref p1) (putF "units" (.int u) (putF "value" (.int v) fs)))))))) := by rw [← hH8]; exact upd_same
    have np3 : p3 ≠ x := fun e => by rw [e, x6] at n3; cases n3
    have b68 : But x H6 H8 := by
      rw [← hH8]
      exact ((But.of (Same.new n3)).trans But.upd).trans But.upd
    have e3 : H8 p3 = some (.lst []) := by rw [← hH8, upd_ne np3, upd_ne np3]; exact upd_same
    have f1 := b68 _ _ e1'' np1
    have f2 := b68 _ _ e2'' np2
    have fpo := b68 _ _ epo npo
    have b8 := b6.trans b68
    have n31 : p3 ≠ p1 := fun e => by rw [e, e1''] at n3; cases n3
    have n32 : p3 ≠ p2 := fun e => by rw [e, e2''] at n3; cases n3
    clear hH8
    -- outcomes
    refine ⟨Nat.zero_le _, fun p4 n4 => ⟨_, rfl, x, d.fund, dx, _, rfl, (by rw [upd_ne (ne_of_none x8 n4)]; exact x8), T.k_Fund, T.a_Fund_outcomes, sm (m := 0) (len_put (len_put (len_put (len_put (len_put (len_put (len_put L0))))))) (by decide), ?_⟩⟩
    generalize hH9 : L2.upd (L2.upd H8 p4 _) x _ = H9
    have x9 : H9 x = some (.ins d.fund dx (fundF v u p1 p2 po p3 0 p4)) := by
      rw [← hH9, upd_same, renewed hf]
    have np4 : p4 ≠ x := fun e => by rw [e, x8] at n4; cases n4
    have b89 : But x H8 H9 := by
      rw [← hH9]
      exact (But.of (Same.new n4)).trans But.upd
    have e4 : H9 p4 = some (.lst []) := by rw [← hH9, upd_ne np4]; exact upd_same
    have n34 : p3 ≠ p4 := fun e => by rw [← e, e3] at n4; cases n4
    have b9 := b8.trans b89
    refine k H9 p3 b9 ?_ (fun l hl => ?_) (fun a o e => .of x9 ⟨fun z => ?_, fun z => ?_, fun z => ?_, fun z => ?_⟩) ⟨dx, p1, p2, po, p4, ?_, .nil (b89 _ _ f1 np1), .nil (b89 _ _ f2 np2), ⟨dp, b89 _ _ fpo npo⟩, .nil (b89 _ _ e3 np3), .nil e4, n31, n32, n34⟩
    · cases q : H p3 with
      | none => rfl
      | some o => rw [b6 p3 o q np3] at n3; cases n3
    · cases q : H l with
      | none => rfl
      | some o =>
        by_cases e : l = x
        · rw [e, x9] at hl
          cases hl
        · rw [b9 l o q e] at hl
          cases hl
    · have := But.fresh (But.upd.trans But.upd) np1 n1
      rw [z, e] at this
      cases this
    · have := b3.fresh np2 n2
      rw [z, e] at this
      cases this
    · have := b6.fresh np3 n3
      rw [z, e] at this
      cases this
    · have := b8.fresh np4 n4
      rw [z, e] at this
      cases this
    · exact x9
/-! ### Fund.__init__ -/
def spFund0 (d : Ad) : Sp := fun vs H Q _ => ∃ (x dx : Addr) (v u : Nat), vs = [.ref x, .int v, .int u] ∧ H x = some (.ins d.fund dx []) ∧
  ∀ (H' : Hp) (ol : Addr), But x H H' → H ol = none → (∀ l, H' l = none → H l = none) → FundAt d H' x ol (Vbfuaf.newFund v u) → Q .non H'
theorem m_Fund {q : Str} (T : Txt K mg d) (D : Kfn K mg "Fund" q d.fund s_Fund_init p_Fund_init) (m_renew : Mth P w K mg base d.fund "renew" 3 p_Fund_renew (spRenew d)) : Kls P w K mg base "Fund" d.fund 4 p_Fund_init (spFund0 d) := D.kls fun f fd F => by
  refine F.ok sc_Fund_init (fun vs H Q E h => ?_) (fun cdv A outer s H vs Q E hr h => ?_)
  · obtain ⟨x, dx, v, u, rfl, _⟩ := h
    rfl
  · obtain ⟨x, dx, v, u, rfl, hx, k⟩ := h
    refine ⟨_, (pss_one (ps_expr (pmt m_renew (hr.mono (by decide)) (pv 0) (pa_cons (pv 1) (pa_cons (pv 2) pa_nil))))), ?_⟩
    exact ⟨_, rfl, x, dx, _, rfl, hx, rfl, _, rfl, _, rfl, x, dx, [], v, u, rfl, hx, .inl rfl, fun H' ol b no fr _ hF => k H' ol b no fr hF⟩
theorem made_fund {H1 : Hp} {Q : VK} {v u : Nat} (h : ∀ x H2 ol, H1 x = none → Same H1 H2 → H1 ol = none → FundAt d H2 x ol (Vbfuaf.newFund v u) → Q (.ref x) H2) : MkEnd d.fund (spFund0 d) [.int v, .int u] H1 Q := by
  constructor
  intro x dx nx nd ne
  have s1 : Same H1 (upd (upd H1 dx (.own x)) x (.ins d.fund dx [])) := fun b o e => by
    rw [upd_ne (ne_of_none e nx), upd_ne (ne_of_none e nd)]
    exact e
  exact ⟨x, dx, v, u, rfl, upd_same, fun H' ol b no fr hF => ⟨rfl, h x H' ol nx (fun c o e => b c o (s1 c o e) (ne_of_none e nx)) (s1.free no) hF⟩⟩
end
end Fs
end
section
set_option Elab.async false
set_option linter.all false
set_option maxRecDepth 100000
set_option maxHeartbeats 2000000
namespace Fs
open PySem PySem.Spec PyProof.Rows L2
/-! ### what a call leaves behind -/
structure Aft (d : Ad) (H H' : Hp) (f ol ol' : Addr) : Prop where
  kp : ∀ b o, H b = some o → b ≠ f → b ≠ ol → isTbl o = false → H' b = some o
  nw : ol' = ol ∨ H ol' = none
  fr : ∀ l, H' l = none → H l = none
  tab : TabOk d H'
  av : ∀ a o, H a = some o → Av H f a → Av H' f a
/-- a call by its number: two have a row, the others have numbers -/
def stepOf (c : Nat) (s : Vbfuaf.State) (ns : List Int) : Vbfuaf.State × List Int := if c = 1 ∨ c = 2 then VbfuafNeutral.step s [[(c : Int)], ns] else VbfuafNeutral.step s [(c : Int) :: ns]
def spCall (d : Ad) (c : Nat) (n : Option Nat) : Sp := fun vs H Q _ => ∃ (f ol l : Addr) (st : Vbfuaf.State) (ns : List Int), vs = [.ref f, .ref l] ∧ FundAt d H f ol st ∧ WF st ∧ TabOk d H ∧ H l = some (.lst (ns.map V.int)) ∧ (∀ k, n = some k → ns.length = k) ∧
  ∀ (H' : Hp) (ol' p : Addr), Aft d H H' f ol ol' → FundAt d H' f ol' (stepOf c st ns).1 → H p = none ∧ H' p = some (.lst ((stepOf c st ns).2.map V.int)) → Q (.ref p) H'
section
variable {P : Program} {w : World} {K : PySem.W.Frag} {mg : Str → Option Value} {base : Heap} {d : Ad}
theorem Aft.of {H H' : Hp} {f ol : Addr} {st : Vbfuaf.State} (hF : FundAt d H f ol st) (g : Gr d H H') (t : TabOk d H) : Aft d H H' f ol ol := ⟨fun b o e _ _ h => g.kp b o e h, .inl rfl, g.fr, g.tab t, fun a o e av => av.kp (fun o e h => g.kp _ o e h) hF⟩
/-- a refusal, or an answer that changes nothing: the new list of ints at the end -/
theorem ans_end {H H1 : Hp} {f ol p : Addr} {st : Vbfuaf.State} {c : Nat} {ns as : List Int} {Q : VK} (A : Apart d) (hF : FundAt d H f ol st) (t : TabOk d H) (g : Gr d H H1)
    (k : ∀ (H' : Hp) (ol' p : Addr), Aft d H H' f ol ol' → FundAt d H' f ol' (stepOf c st ns).1 → H p = none ∧ H' p = some (.lst ((stepOf c st ns).2.map V.int)) → Q (.ref p) H')
    (e : stepOf c st ns = (st, as)) (np : H1 p = none) : Q (.ref p) (upd H1 p (.lst (as.map V.int))) := by
  have s2 : Same H1 (upd H1 p (.lst (as.map V.int))) := Same.new np
  have g2 := g.trans (.of s2)
  refine k _ ol p (.of hF g2 t) ?_ ⟨g.fr _ np, ?_⟩
  · rw [e]
    exact hF.keep A g2.kp
  · rw [e]
    exact upd_same
theorem len1 {ns : List Int} (h : ns.length = 1) : ∃ a, ns = [a] := by
  match ns, h with
  | [a], _ => exact ⟨a, rfl⟩
theorem len2 {ns : List Int} (h : ns.length = 2) : ∃ a b, ns = [a, b] := by
  match ns, h with
  | [a, b], _ => exact ⟨a, b, rfl⟩
theorem len6 {ns : List Int} (h : ns.length = 6) : ∃ a b c e f g, ns = [a, b, c, e, f, g] := by
  match ns, h with
  | [a, b, c, e, f, g], _ => exact ⟨a, b, c, e, f, g, rfl⟩
theorem len0 {ns : List Int} (h : ns.length = 0) : ns = [] := List.eq_nil_of_length_eq_zero h
/-! ### begin -/
theorem c_begin (T : Txt K mg d) (R : Rng K mg "BEGIN_RANGES" [(1, 1000000000000), (1, 1000000000000000000)]) (D : Dfn K mg "begin" s_begin p_begin) (c_all_within : Cal P w K mg base "all_within" 1 p_all_within (spAw K))
    (m_renew : Mth P w K mg base d.fund "renew" 3 p_Fund_renew (spRenew d)) : Cal P w K mg base "begin" 4 p_begin (spCall d 0 (some 2)) := D.cal fun f fd F => by
  refine F.ok sc_begin (fun vs H Q E h => ?_) (fun cdv A outer s H vs Q E hr h => ?_)
  · obtain ⟨fu, ol, l, st, ns, rfl, _⟩ := h
    rfl
  · obtain ⟨fu, ol, l, st, ns, rfl, hF, W, hT, hl, hn, k⟩ := h
    obtain ⟨v, u, rfl⟩ := len2 (hn 2 rfl)
    obtain ⟨ra, hra, hrng⟩ := R
    refine ⟨_, (pss_cons (ps_if (pt_not (pt_val (pcl c_all_within (hr.mono (by decide)) (pa_cons (pv 1) (pa_cons (gr hra) pa_nil)))))
    (pss_one (ps_ret (pe_lst (pa_cons (gk T.c_NOT_WITHIN) pa_nil))))
    pss_nil)
    (pss_cons (ps_expr (pmt m_renew (hr.mono (by decide)) (pv 0) (pa_cons (pe_ix ix_list (pv 1) pe_int (fun _ _ => rfl)) (pa_cons (pe_ix ix_list (pv 1) pe_int (fun _ _ => rfl)) pa_nil))))
    (pss_one (ps_ret (pe_lst (pa_cons pe_int pa_nil)))))), ?_⟩
    have eS : stepOf 0 st [v, u] = if Vbfuaf.inside v 1 1000000000000 = false ∨ Vbfuaf.inside u 1 1000000000000000000 = false then (st, [-1]) else (Vbfuaf.newFund v.toNat u.toNat, [0]) := rfl
    have eA : allIn [v, u] [(1, 1000000000000), (1, 1000000000000000000)] = (Vbfuaf.inside v 1 1000000000000 && (Vbfuaf.inside u 1 1000000000000000000 && true)) := rfl
    refine ⟨_, rfl, l, ra, _, _, rfl, SqL.of hl, hrng, rfl, fun H1 s1 => ⟨_, rfl, ifB (fun c => ?_) fun c => ?_⟩⟩
    · refine ⟨by show 1 ≤ sizeLine; decide, fun p hp => ?_⟩
      refine ans_end (as := [-1]) T.ap hF hT (.of s1) k ?_ hp
      rw [eS, if_pos]
      rw [eA, Bool.and_true] at c
      cases q1 : Vbfuaf.inside v 1 1000000000000 with
      | false => exact .inl rfl
      | true =>
        cases q2 : Vbfuaf.inside u 1 1000000000000000000 with
        | false => exact .inr rfl
        | true => rw [q1, q2] at c; cases c
    · rw [eA, Bool.and_true] at c
      have hin : Vbfuaf.inside v 1 1000000000000 = true ∧ Vbfuaf.inside u 1 1000000000000000000 = true := by
        have c' : (Vbfuaf.inside v 1 1000000000000 && Vbfuaf.inside u 1 1000000000000000000) = true := by simpa using c
        rw [Bool.and_eq_true] at c'
        exact c'
      have b1 := inside_iff.mp hin.1
      have b2 := inside_iff.mp hin.2
      have hF1 := hF.keep T.ap (.of s1)
      obtain ⟨df, tb, ts, po, oc, ef, _⟩ := hF1.ex
      refine ⟨_, rfl, fu, df, _, rfl, ef, fundF_renew .., _, rfl, l, _, _, _, rfl, rfl, SqL.of (s1 _ _ hl), at_of (j := 0) rfl rfl, _, rfl, l, _, _, _, rfl, rfl, SqL.of (s1 _ _ hl), at_of (j := 1) rfl rfl, fu, df, _, v.toNat, u.toNat, ?_, ef, .inr ⟨_, _, _, _, _, _, _, _, rfl⟩, fun H2 ol2 b no fr2 av2 hF2 => ?_⟩
      · show [V.ref fu, V.int v, V.int u] = _
        rw [Int.toNat_of_nonneg (by omega), Int.toNat_of_nonneg (by omega)]
      · refine ⟨by show 1 ≤ sizeLine; decide, fun p hp => ?_⟩
        have s3 : Same H2 (upd H2 p (.lst [.int 0])) := Same.new hp
        refine k _ ol2 p ⟨fun b' o e n1 n2 _ => s3 _ _ (b _ _ (s1 _ _ e) n1), .inr (s1.free no), fun l' e => s1.free (fr2 _ (s3.free e)), ?_, fun a o e _ => (av2 a o (s1 _ _ e)).kp (fun o e _ => s3 _ o e) hF2⟩ ?_ ⟨s1.free (fr2 _ hp), ?_⟩
        · have t1 := hT.same s1
          obtain ⟨ps, e, q1, q2⟩ := t1
          refine TabOk.same s3 ⟨ps, b _ _ e (ne_of e ef (by intro z; cases z)), q1, ?_⟩
          rcases q2 with q2 | ⟨c', e1, e2⟩
          · exact .inl q2
          · exact .inr ⟨c', e1, b _ _ e2 (ne_of e2 ef (by intro z; cases z))⟩
        · rw [eS, if_neg (by rw [hin.1, hin.2]; simp)]
          exact hF2.keep T.ap (.of s3)
        · rw [eS, if_neg (by rw [hin.1, hin.2]; simp)]
          exact upd_same
/-- a field of the fund is stored: what stays -/
theorem TabOk.fund {H : Hp} {f df : Addr} {fs : List (Str × V)} {o : HO} (ef : H f = some (.ins d.fund df fs)) (t : TabOk d H) : TabOk d (L2.upd H f o) := t.upd ef rfl (fun φ z => by cases z)
theorem fr_upd {H : Hp} {p : Addr} {o : HO} : ∀ l, upd H p o l = none → H l = none := fun l e => by
  unfold L2.upd at e
  split at e
  · cases e
  · exact e
/-! ### buys, sells -/
theorem c_buys (T : Txt K mg d) (D : Dfn K mg "buys" s_buys p_buys) (c_tiers_of : Cal P w K mg base "tiers_of" 3 p_tiers_of (spTo d)) : Cal P w K mg base "buys" 4 p_buys (spCall d 1 none) := D.cal fun f fd F => by
  refine F.ok sc_buys (fun vs H Q E h => ?_) (fun cdv A outer s H vs Q E hr h => ?_)
  · obtain ⟨fu, ol, l, st, ns, rfl, _⟩ := h
    rfl
  · obtain ⟨fu, ol, l, st, ns, rfl, hF, W, hT, hl, hn, k⟩ := h
    have nd := sc_buys.nd
    refine ⟨_, (pss_cons (ps_set (i := 2) nd rfl (Or.inl rfl) (pcl c_tiers_of (hr.mono (by decide)) (pa_cons (pv 1) pa_nil)))
    (pss_cons (ps_if (pt_cmpR op_isN (pv 2) pe_non (nomark _))
    (pss_one (ps_ret (pe_lst (pa_cons (gk T.c_NOT_THE_FORM) pa_nil))))
    pss_nil)
    (pss_cons (ps_fld (pv 0) (pv 2) rfl)
    (pss_one (ps_ret (pe_lst (pa_cons (pe_callB call_len_seq (by rfl) T.n_len boot_len (pa_cons (pv 2) pa_nil)) pa_nil))))))), ?_⟩
    have eS : stepOf 1 st ns = (match Vbfuaf.goodTiers ns with | none => (st, [-2]) | some t => ({ st with buys := t }, [(t.length : Int)])) := rfl
    refine ⟨_, rfl, l, ns, rfl, hl, fun hg H1 s1 => ⟨_, rfl, rfl, _, rfl, iteT ⟨by show 1 ≤ sizeLine; decide, fun p hp => ?_⟩⟩, fun ts hg H1 p s1 np hL => ⟨_, rfl, rfl, _, rfl, ?_⟩⟩
    · exact ans_end (as := [-2]) T.ap hF hT (.of s1) k (by rw [eS, hg]) hp
    · refine iteF ?_
      have hF1 := hF.keep T.ap (.of s1)
      obtain ⟨df, tb, tsx, po, oc, ef, h1, h2, h3, h4, h5, n1, n2, n3⟩ := hF1.ex
      have nfp : p ≠ fu := fun e => by
        obtain ⟨as, ea, _⟩ := hL
        rw [e, ef] at ea
        cases ea
      refine ⟨_, rfl, _, rfl, fu, _, df, _, rfl, ef, T.k_Fund, T.a_Fund_buy_tiers, (by rw [fundF_len]; decide), ?_⟩
      have kO : KpO d H1 (upd H1 fu (.ins d.fund df (putF "buy_tiers" (.ref p) (fundF st.value st.units tb tsx po ol ((st.next : Int) - 1) oc)))) := .fund ef
      have nl : ∀ {x : Addr} {ys : List V}, H1 x = some (.lst ys) → upd H1 fu (.ins d.fund df (putF "buy_tiers" (.ref p) (fundF st.value st.units tb tsx po ol ((st.next : Int) - 1) oc))) x = some (.lst ys) := fun e => by
        rw [upd_ne (ne_of e ef (by intro z; cases z))]
        exact e
      obtain ⟨as, ea, hal, hat⟩ := hL
      refine ⟨_, rfl, p, _, rfl, .inl (SqL.of (nl ea)), by show 1 ≤ sizeLine; decide, fun q hq => ?_⟩
      have s3 : Same (upd H1 fu (.ins d.fund df (putF "buy_tiers" (.ref p) (fundF st.value st.units tb tsx po ol ((st.next : Int) - 1) oc)))) (upd (upd H1 fu (.ins d.fund df (putF "buy_tiers" (.ref p) (fundF st.value st.units tb tsx po ol ((st.next : Int) - 1) oc)))) q (.lst [.int ((as.map V.ref).length : Nat)])) := Same.new hq
      have nop : ol ≠ p := fun e => by
        obtain ⟨as4, ea4, _⟩ := h4
        have q0 : H ol ≠ none := fun z => by
          obtain ⟨_, _, _, _, _, _, _, _, _, ⟨as5, ea5, _⟩, _⟩ := hF.ex
          rw [ea5] at z
          cases z
        exact q0 (by rw [e]; exact np)
      refine k _ ol q ⟨fun b o e nb1 nb2 ht => s3 _ _ (by rw [upd_ne nb1]; exact s1 _ _ e), .inl rfl, fun x e => s1.free (fr_upd _ (fr_upd _ e)), TabOk.same s3 ((hT.same s1).fund ef), Av.put (fun o e _ => s1 _ o e) hF ef (s3 _ _ (by rw [upd_same, fundF_set_buy_tiers])) (.inr np) (.inl rfl) (.inl rfl) (.inl rfl)⟩ ?_ ⟨s1.free (fr_upd _ hq), ?_⟩
      · rw [eS, hg]
        refine FundAt.keep T.ap (.of s3) ⟨df, p, tsx, po, oc, ?_, ?_, h2.keep (TierAt.lives T.ap) kO fun _ e => nl e, PolAt.lives T.ap _ _ _ _ kO h3, h4.keep (OrdAt.lives T.ap) kO fun _ e => nl e, h5.keep (OutAt.lives T.ap) kO fun _ e => nl e, nop, n2, n3⟩
        · rw [upd_same, fundF_set_buy_tiers]
        · exact LsAt.keep (TierAt.lives T.ap) kO (fun _ e => nl e) ⟨as, ea, hal, hat⟩
      · rw [eS, hg, upd_same]
        show some (HO.lst [V.int ((as.map V.ref).length : Nat)]) = some (HO.lst [V.int (ts.length : Nat)])
        rw [List.length_map, hal]
theorem c_sells (T : Txt K mg d) (D : Dfn K mg "sells" s_sells p_sells) (c_tiers_of : Cal P w K mg base "tiers_of" 3 p_tiers_of (spTo d)) : Cal P w K mg base "sells" 4 p_sells (spCall d 2 none) := D.cal fun f fd F => by
  refine F.ok sc_sells (fun vs H Q E h => ?_) (fun cdv A outer s H vs Q E hr h => ?_)
  · obtain ⟨fu, ol, l, st, ns, rfl, _⟩ := h
    rfl
  · obtain ⟨fu, ol, l, st, ns, rfl, hF, W, hT, hl, hn, k⟩ := h
    have nd := sc_sells.nd
    refine ⟨_, (pss_cons (ps_set (i := 2) nd rfl (Or.inl rfl) (pcl c_tiers_of (hr.mono (by decide)) (pa_cons (pv 1) pa_nil)))
    (pss_cons (ps_if (pt_cmpR op_isN (pv 2) pe_non (nomark _))
    (pss_one (ps_ret (pe_lst (pa_cons (gk T.c_NOT_THE_FORM) pa_nil))))
    pss_nil)
    (pss_cons (ps_fld (pv 0) (pv 2) rfl)
    (pss_one (ps_ret (pe_lst (pa_cons (pe_callB call_len_seq (by rfl) T.n_len boot_len (pa_cons (pv 2) pa_nil)) pa_nil))))))), ?_⟩
    have eS : stepOf 2 st ns = (match Vbfuaf.goodTiers ns with | none => (st, [-2]) | some t => ({ st with sells := t }, [(t.length : Int)])) := rfl
    refine ⟨_, rfl, l, ns, rfl, hl, fun hg H1 s1 => ⟨_, rfl, rfl, _, rfl, iteT ⟨by show 1 ≤ sizeLine; decide, fun p hp => ?_⟩⟩, fun ts hg H1 p s1 np hL => ⟨_, rfl, rfl, _, rfl, ?_⟩⟩
    · exact ans_end (as := [-2]) T.ap hF hT (.of s1) k (by rw [eS, hg]) hp
    · refine iteF ?_
      have hF1 := hF.keep T.ap (.of s1)
      obtain ⟨df, tb, tsx, po, oc, ef, h1, h2, h3, h4, h5, n1, n2, n3⟩ := hF1.ex
      refine ⟨_, rfl, _, rfl, fu, _, df, _, rfl, ef, T.k_Fund, T.a_Fund_sell_tiers, (by rw [fundF_len]; decide), ?_⟩
      have kO : KpO d H1 (upd H1 fu (.ins d.fund df (putF "sell_tiers" (.ref p) (fundF st.value st.units tb tsx po ol ((st.next : Int) - 1) oc)))) := .fund ef
      have nl : ∀ {x : Addr} {ys : List V}, H1 x = some (.lst ys) → upd H1 fu (.ins d.fund df (putF "sell_tiers" (.ref p) (fundF st.value st.units tb tsx po ol ((st.next : Int) - 1) oc))) x = some (.lst ys) := fun e => by
        rw [upd_ne (ne_of e ef (by intro z; cases z))]
        exact e
      obtain ⟨as, ea, hal, hat⟩ := hL
      refine ⟨_, rfl, p, _, rfl, .inl (SqL.of (nl ea)), by show 1 ≤ sizeLine; decide, fun q hq => ?_⟩
      have s3 : Same (upd H1 fu (.ins d.fund df (putF "sell_tiers" (.ref p) (fundF st.value st.units tb tsx po ol ((st.next : Int) - 1) oc)))) (upd (upd H1 fu (.ins d.fund df (putF "sell_tiers" (.ref p) (fundF st.value st.units tb tsx po ol ((st.next : Int) - 1) oc)))) q (.lst [.int ((as.map V.ref).length : Nat)])) := Same.new hq
      have nop : ol ≠ p := fun e => by
        have q0 : H ol ≠ none := fun z => by
          obtain ⟨_, _, _, _, _, _, _, _, _, ⟨as5, ea5, _⟩, _⟩ := hF.ex
          rw [ea5] at z
          cases z
        exact q0 (by rw [e]; exact np)
      refine k _ ol q ⟨fun b o e nb1 nb2 ht => s3 _ _ (by rw [upd_ne nb1]; exact s1 _ _ e), .inl rfl, fun x e => s1.free (fr_upd _ (fr_upd _ e)), TabOk.same s3 ((hT.same s1).fund ef), Av.put (fun o e _ => s1 _ o e) hF ef (s3 _ _ (by rw [upd_same, fundF_set_sell_tiers])) (.inl rfl) (.inr np) (.inl rfl) (.inl rfl)⟩ ?_ ⟨s1.free (fr_upd _ hq), ?_⟩
      · rw [eS, hg]
        refine FundAt.keep T.ap (.of s3) ⟨df, tb, p, po, oc, ?_, h1.keep (TierAt.lives T.ap) kO fun _ e => nl e, ?_, PolAt.lives T.ap _ _ _ _ kO h3, h4.keep (OrdAt.lives T.ap) kO fun _ e => nl e, h5.keep (OutAt.lives T.ap) kO fun _ e => nl e, n1, nop, n3⟩
        · rw [upd_same, fundF_set_sell_tiers]
        · exact LsAt.keep (TierAt.lives T.ap) kO (fun _ e => nl e) ⟨as, ea, hal, hat⟩
      · rw [eS, hg, upd_same]
        show some (HO.lst [V.int ((as.map V.ref).length : Nat)]) = some (HO.lst [V.int (ts.length : Nat)])
        rw [List.length_map, hal]
end
end Fs
end
section
set_option Elab.async false
set_option linter.all false
set_option maxRecDepth 100000
set_option maxHeartbeats 2000000
namespace Fs
open PySem PySem.Spec PyProof.Rows L2
section
variable {P : Program} {w : World} {K : PySem.W.Frag} {mg : Str → Option Value} {base : Heap} {d : Ad}
/-! ### policy -/
theorem c_policy (T : Txt K mg d) (R : Rng K mg "POLICY_RANGES" [(0, 3), (0, 2000), (0, 2000), (0, 1000000), (0, 1000000), (0, 2000)]) (D : Dfn K mg "policy" s_policy p_policy) (c_all_within : Cal P w K mg base "all_within" 1 p_all_within (spAw K))
    (m_Policy : Kls P w K mg base "Policy" d.pol 1 p_Policy_init (spNew d.pol polPre polFs)) : Cal P w K mg base "policy" 3 p_policy (spCall d 3 (some 6)) := D.cal fun f fd F => by
  refine F.ok sc_policy (fun vs H Q E h => ?_) (fun cdv A outer s H vs Q E hr h => ?_)
  · obtain ⟨fu, ol, l, st, ns, rfl, _⟩ := h
    rfl
  · obtain ⟨fu, ol, l, st, ns, rfl, hF, W, hT, hl, hn, k⟩ := h
    obtain ⟨m, a, b, fa, th, gr0, rfl⟩ := len6 (hn 6 rfl)
    obtain ⟨ra, hra, hrng⟩ := R
    refine ⟨_, (pss_cons (ps_if (pt_not (pt_val (pcl c_all_within (hr.mono (by decide)) (pa_cons (pv 1) (pa_cons (gr hra) pa_nil)))))
    (pss_one (ps_ret (pe_lst (pa_cons (gk T.c_NOT_WITHIN) pa_nil))))
    pss_nil)
    (pss_cons (ps_fld (pv 0) (pmk m_Policy (hr.mono (by decide)) (pa_cons (pe_ix ix_list (pv 1) pe_int (fun _ _ => rfl)) (pa_cons (pe_ix ix_list (pv 1) pe_int (fun _ _ => rfl)) (pa_cons (pe_ix ix_list (pv 1) pe_int (fun _ _ => rfl)) (pa_cons (pe_ix ix_list (pv 1) pe_int (fun _ _ => rfl)) (pa_cons (pe_ix ix_list (pv 1) pe_int (fun _ _ => rfl)) (pa_cons (pe_ix ix_list (pv 1) pe_int (fun _ _ => rfl)) pa_nil))))))) rfl)
    (pss_one (ps_ret (pe_lst (pa_cons pe_int pa_nil)))))), ?_⟩
    have eA : allIn [m, a, b, fa, th, gr0] [(0, 3), (0, 2000), (0, 2000), (0, 1000000), (0, 1000000), (0, 2000)] = Vbfuaf.isPolicy m a b fa th gr0 := by
      show (inR m (0, 3) && (inR a (0, 2000) && (inR b (0, 2000) && (inR fa (0, 1000000) && (inR th (0, 1000000) && (inR gr0 (0, 2000) && true)))))) = _
      rw [Bool.and_true]
      rfl
    have eS : stepOf 3 st [m, a, b, fa, th, gr0] = if Vbfuaf.isPolicy m a b fa th gr0 = false then (st, [-1]) else ({ st with policy := { mode := m.toNat, fixedIn := a.toNat, fixedOut := b.toNat, factor := fa.toNat, threshold := th.toNat, most := gr0.toNat } }, [0]) := rfl
    refine ⟨_, rfl, l, ra, _, _, rfl, SqL.of hl, hrng, rfl, fun H1 s1 => ⟨_, rfl, ifB (fun c => ?_) fun c => ?_⟩⟩
    · refine ⟨by show 1 ≤ sizeLine; decide, fun p hp => ?_⟩
      refine ans_end (as := [-1]) T.ap hF hT (.of s1) k ?_ hp
      rw [eA] at c
      rw [eS, if_pos (by simpa using c)]
    · rw [eA] at c
      have hok : Vbfuaf.isPolicy m a b fa th gr0 = true := by simpa using c
      have hb := hok
      unfold Vbfuaf.isPolicy at hb
      simp only [Bool.and_eq_true, inside_iff] at hb
      have hF1 := hF.keep T.ap (.of s1)
      have sq : SqL K H1 l ([m, a, b, fa, th, gr0].map V.int) := SqL.of (s1 _ _ hl)
      refine ⟨_, rfl, l, _, _, _, rfl, rfl, sq, at_of (j := 0) rfl rfl, _, rfl, l, _, _, _, rfl, rfl, sq, at_of (j := 1) rfl rfl, _, rfl, l, _, _, _, rfl, rfl, sq, at_of (j := 2) rfl rfl, _, rfl, l, _, _, _, rfl, rfl, sq, at_of (j := 3) rfl rfl,
        _, rfl, l, _, _, _, rfl, rfl, sq, at_of (j := 4) rfl rfl, _, rfl, l, _, _, _, rfl, rfl, sq, at_of (j := 5) rfl rfl, ?_⟩
      refine made_end (fun H' _ => ⟨_, _, _, _, _, _, rfl⟩) fun po dp H2 npo s2 hpo => ?_
      have hF2 := hF1.keep T.ap (.of s2)
      obtain ⟨df, tb, tsx, po0, oc, ef, h1, h2, h3, h4, h5, n1, n2, n3⟩ := hF2.ex
      refine ⟨_, rfl, fu, _, df, _, rfl, ef, T.k_Fund, T.a_Fund_policy, (by rw [fundF_len]; decide), ?_⟩
      generalize hH3 : L2.upd H2 fu _ = H3
      have kO : KpO d H2 H3 := by rw [← hH3]; exact .fund ef
      have x3 : H3 fu = some (.ins d.fund df (fundF st.value st.units tb tsx po ol ((st.next : Int) - 1) oc)) := by rw [← hH3, upd_same, fundF_set_policy]
      have b3 : But fu H2 H3 := by rw [← hH3]; exact But.upd
      have fr3 : ∀ x, H3 x = none → H2 x = none := by rw [← hH3]; exact fr_upd
      have t3 : TabOk d H3 := by rw [← hH3]; exact TabOk.fund ef ((hT.same s1).same s2)
      have nl : ∀ {x : Addr} {ys : List V}, H2 x = some (.lst ys) → H3 x = some (.lst ys) := fun e => b3 _ _ e (ne_of e ef (by intro z; cases z))
      refine ⟨by show 1 ≤ sizeLine; decide, fun q hq => ?_⟩
      have s4 : Same H3 (upd H3 q (.lst [.int 0])) := Same.new hq
      refine k _ ol q ⟨fun x o e nb1 nb2 ht => s4 _ _ (b3 _ _ (s2 _ _ (s1 _ _ e)) nb1), .inl rfl, fun x e => s1.free (s2.free (fr3 _ (s4.free e))), t3.same s4, Av.put (fun o e _ => s2 _ _ (s1 _ o e)) hF ef (s4 _ _ x3) (.inl rfl) (.inl rfl) (.inl rfl) (.inl rfl)⟩ ?_ ⟨s1.free (s2.free (fr3 _ hq)), ?_⟩
      · rw [eS, if_neg (by rw [hok]; decide)]
        refine FundAt.keep T.ap (.of s4) ⟨df, tb, tsx, po, oc, x3, h1.keep (TierAt.lives T.ap) kO fun _ e => nl e, h2.keep (TierAt.lives T.ap) kO fun _ e => nl e, ⟨dp, ?_⟩, h4.keep (OrdAt.lives T.ap) kO fun _ e => nl e, h5.keep (OutAt.lives T.ap) kO fun _ e => nl e, n1, n2, n3⟩
        have e0 := kO _ _ _ _ T.ap.pol hpo
        show H3 po = some (.ins d.pol dp (polF (m.toNat : Int) (a.toNat : Int) (b.toNat : Int) (fa.toNat : Int) (th.toNat : Int) (gr0.toNat : Int)))
        rw [Int.toNat_of_nonneg (by omega), Int.toNat_of_nonneg (by omega), Int.toNat_of_nonneg (by omega), Int.toNat_of_nonneg (by omega), Int.toNat_of_nonneg (by omega), Int.toNat_of_nonneg (by omega)]
        exact e0
      · rw [eS, if_neg (by rw [hok]; decide)]
        exact upd_same
/-! ### result -/
theorem c_result (T : Txt K mg d) (R : Rng K mg "RESULT_RANGES" [(-1000000000000, 1000000000000)]) (D : Dfn K mg "result" s_result p_result) (c_all_within : Cal P w K mg base "all_within" 1 p_all_within (spAw K)) :
    Cal P w K mg base "result" 2 p_result (spCall d 6 (some 1)) := D.cal fun f fd F => by
  refine F.ok sc_result (fun vs H Q E h => ?_) (fun cdv A outer s H vs Q E hr h => ?_)
  · obtain ⟨fu, ol, l, st, ns, rfl, _⟩ := h
    rfl
  · obtain ⟨fu, ol, l, st, ns, rfl, hF, W, hT, hl, hn, k⟩ := h
    obtain ⟨x, rfl⟩ := len1 (hn 1 rfl)
    obtain ⟨ra, hra, hrng⟩ := R
    have nd := sc_result.nd
    refine ⟨_, (pss_cons (ps_if (pt_not (pt_val (pcl c_all_within (hr.mono (by decide)) (pa_cons (pv 1) (pa_cons (gr hra) pa_nil)))))
    (pss_one (ps_ret (pe_lst (pa_cons (gk T.c_NOT_WITHIN) pa_nil))))
    pss_nil)
    (pss_cons (ps_set (i := 2) nd rfl (Or.inl rfl) (pe_op op_add (pe_fld (pv 0) rfl) (pe_ix ix_list (pv 1) pe_int (fun _ _ => rfl))))
    (pss_cons (ps_if (pt_cmpR op_lt (pv 2) pe_int (nomark _))
    (pss_one (ps_ret (pe_lst (pa_cons (gk T.c_TOO_LITTLE) pa_nil))))
    pss_nil)
    (pss_cons (ps_if (pt_cmpR op_gt (pv 2) (gk T.c_GREATEST_VALUE) (nomark _))
    (pss_one (ps_ret (pe_lst (pa_cons (gk T.c_TOO_MUCH) pa_nil))))
    pss_nil)
    (pss_cons (ps_fld (pv 0) (pv 2) rfl)
    (pss_one (ps_ret (pe_lst (pa_cons (pv 2) pa_nil))))))))), ?_⟩
    have eA : allIn [x] [(-1000000000000, 1000000000000)] = (Vbfuaf.inside x (-1000000000000) 1000000000000 && true) := rfl
    have eS : stepOf 6 st [x] = if Vbfuaf.inside x (-1000000000000) 1000000000000 = false then (st, [-1]) else if (st.value : Int) + x < 1 then (st, [-7]) else if (1000000000000 : Int) < (st.value : Int) + x then (st, [-8])
      else ({ st with value := ((st.value : Int) + x).toNat }, [(st.value : Int) + x]) := rfl
    refine ⟨_, rfl, l, ra, _, _, rfl, SqL.of hl, hrng, rfl, fun H1 s1 => ⟨_, rfl, ifB (fun c => ?_) fun c => ?_⟩⟩
    · refine ⟨by show 1 ≤ sizeLine; decide, fun p hp => ?_⟩
      refine ans_end (as := [-1]) T.ap hF hT (.of s1) k ?_ hp
      rw [eA, Bool.and_true] at c
      rw [eS, if_pos (by simpa using c)]
    · rw [eA, Bool.and_true] at c
      have hok : Vbfuaf.inside x (-1000000000000) 1000000000000 = true := by simpa using c
      rw [if_neg (by rw [hok]; decide)] at eS
      have hF1 := hF.keep T.ap (.of s1)
      obtain ⟨df, tb, tsx, po, oc, ef, h1, h2, h3, h4, h5, n1, n2, n3⟩ := hF1.ex
      refine ⟨_, rfl, fu, _, df, _, _, rfl, ef, T.k_Fund, T.a_Fund_value, fundF_value .., _, rfl, l, _, _, _, rfl, rfl, SqL.of (s1 _ _ hl), at_of (j := 0) rfl rfl, _, _, rfl, rfl, ?_⟩
      refine ⟨_, rfl, _, _, rfl, rfl, _, rfl, ifB (fun c1 => ?_) fun c1 => ?_⟩
      · rw [decide_eq_true_eq] at c1
        refine ⟨by show 1 ≤ sizeLine; decide, fun p hp => ans_end (as := [-7]) T.ap hF hT (.of s1) k ?_ hp⟩
        rw [eS, if_pos c1]
      · rw [decide_eq_false_iff_not] at c1
        rw [if_neg c1] at eS
        refine ⟨_, rfl, _, _, rfl, rfl, _, rfl, ifB (fun c2 => ?_) fun c2 => ?_⟩
        · rw [decide_eq_true_eq] at c2
          refine ⟨by show 1 ≤ sizeLine; decide, fun p hp => ans_end (as := [-8]) T.ap hF hT (.of s1) k ?_ hp⟩
          rw [eS, if_pos c2]
        · rw [decide_eq_false_iff_not] at c2
          rw [if_neg c2] at eS
          refine ⟨_, rfl, _, rfl, fu, _, df, _, rfl, ef, T.k_Fund, T.a_Fund_value, (by rw [fundF_len]; decide), ?_⟩
          generalize hH3 : L2.upd H1 fu _ = H3
          have kO : KpO d H1 H3 := by rw [← hH3]; exact .fund ef
          have x3 : H3 fu = some (.ins d.fund df (fundF ((st.value : Int) + x) st.units tb tsx po ol ((st.next : Int) - 1) oc)) := by rw [← hH3, upd_same, fundF_set_value]
          have b3 : But fu H1 H3 := by rw [← hH3]; exact But.upd
          have fr3 : ∀ y, H3 y = none → H1 y = none := by rw [← hH3]; exact fr_upd
          have t3 : TabOk d H3 := by rw [← hH3]; exact TabOk.fund ef (hT.same s1)
          have nl : ∀ {y : Addr} {ys : List V}, H1 y = some (.lst ys) → H3 y = some (.lst ys) := fun e => b3 _ _ e (ne_of e ef (by intro z; cases z))
          refine ⟨_, rfl, by show 1 ≤ sizeLine; decide, fun q hq => ?_⟩
          have s4 : Same H3 (upd H3 q (.lst [.int ((st.value : Int) + x)])) := Same.new hq
          refine k _ ol q ⟨fun y o e nb1 nb2 ht => s4 _ _ (b3 _ _ (s1 _ _ e) nb1), .inl rfl, fun y e => s1.free (fr3 _ (s4.free e)), t3.same s4, Av.put (fun o e _ => s1 _ o e) hF ef (s4 _ _ x3) (.inl rfl) (.inl rfl) (.inl rfl) (.inl rfl)⟩ ?_ ⟨s1.free (fr3 _ hq), ?_⟩
          · rw [eS]
            refine FundAt.keep T.ap (.of s4) ⟨df, tb, tsx, po, oc, ?_, h1.keep (TierAt.lives T.ap) kO fun _ e => nl e, h2.keep (TierAt.lives T.ap) kO fun _ e => nl e, PolAt.lives T.ap _ _ _ _ kO h3, h4.keep (OrdAt.lives T.ap) kO fun _ e => nl e, h5.keep (OutAt.lives T.ap) kO fun _ e => nl e, n1, n2, n3⟩
            show H3 fu = some (.ins d.fund df (fundF (((st.value : Int) + x).toNat : Int) st.units tb tsx po ol ((st.next : Int) - 1) oc))
            rw [Int.toNat_of_nonneg (by omega)]
            exact x3
          · rw [eS]
            exact upd_same
/-! ### order -/
theorem c_order (T : Txt K mg d) (R : Rng K mg "ORDER_RANGES" [(0, 3), (1, 1000000000000)]) (D : Dfn K mg "order" s_order p_order) (c_all_within : Cal P w K mg base "all_within" 1 p_all_within (spAw K))
    (m_Order : Kls P w K mg base "Order" d.ord 1 p_Order_init (spNew d.ord ordPre ordFs)) : Cal P w K mg base "order" 3 p_order (spCall d 4 (some 2)) := D.cal fun f fd F => by
  refine F.ok sc_order (fun vs H Q E h => ?_) (fun cdv A outer s H vs Q E hr h => ?_)
  · obtain ⟨fu, ol, l, st, ns, rfl, _⟩ := h
    rfl
  · obtain ⟨fu, ol, l, st, ns, rfl, hF, W, hT, hl, hn, k⟩ := h
    obtain ⟨kd, am, rfl⟩ := len2 (hn 2 rfl)
    obtain ⟨ra, hra, hrng⟩ := R
    refine ⟨_, (pss_cons (ps_if (pt_not (pt_val (pcl c_all_within (hr.mono (by decide)) (pa_cons (pv 1) (pa_cons (gr hra) pa_nil)))))
    (pss_one (ps_ret (pe_lst (pa_cons (gk T.c_NOT_WITHIN) pa_nil))))
    pss_nil)
    (pss_cons (ps_if (pt_cmpR op_ge (pe_callB call_len_seq (by rfl) T.n_len boot_len (pa_cons (pe_fld (pv 0) rfl) pa_nil)) (gk T.c_MOST_ORDERS) (nomark _))
    (pss_one (ps_ret (pe_lst (pa_cons (gk T.c_TOO_MUCH) pa_nil))))
    pss_nil)
    (pss_cons (ps_fld (pv 0) (pe_op op_add (pe_fld (pv 0) rfl) pe_int) rfl)
    (pss_cons (ps_expr (pe_bm PySem.F.plainAttrs_list PySem.F.slot_list_append PySem.F.type_list_append mt_append (pe_fld (pv 0) rfl) (pa_cons (pmk m_Order (hr.mono (by decide)) (pa_cons (pe_fld (pv 0) rfl) (pa_cons (pe_ix ix_list (pv 1) pe_int (fun _ _ => rfl)) (pa_cons (pe_ix ix_list (pv 1) pe_int (fun _ _ => rfl)) pa_nil)))) pa_nil)))
    (pss_one (ps_ret (pe_lst (pa_cons (pe_fld (pv 0) rfl) pa_nil)))))))), ?_⟩
    have eA : allIn [kd, am] [(0, 3), (1, 1000000000000)] = (Vbfuaf.inside kd 0 3 && (Vbfuaf.inside am 1 1000000000000 && true)) := rfl
    have eS : stepOf 4 st [kd, am] = if Vbfuaf.inside kd 0 3 = false ∨ Vbfuaf.inside am 1 1000000000000 = false then (st, [-1]) else if 40 ≤ st.orders.length then (st, [-8])
      else ({ st with next := st.next + 1, orders := st.orders ++ [{ num := st.next, kind := kd.toNat, amount := am.toNat }] }, [(st.next : Int)]) := rfl
    refine ⟨_, rfl, l, ra, _, _, rfl, SqL.of hl, hrng, rfl, fun H1 s1 => ⟨_, rfl, ifB (fun c => ?_) fun c => ?_⟩⟩
    · refine ⟨by show 1 ≤ sizeLine; decide, fun p hp => ?_⟩
      refine ans_end (as := [-1]) T.ap hF hT (.of s1) k ?_ hp
      rw [eS, if_pos]
      rw [eA, Bool.and_true] at c
      cases q1 : Vbfuaf.inside kd 0 3 with
      | false => exact .inl rfl
      | true =>
        cases q2 : Vbfuaf.inside am 1 1000000000000 with
        | false => exact .inr rfl
        | true => rw [q1, q2] at c; cases c
    · rw [eA, Bool.and_true] at c
      have hin : Vbfuaf.inside kd 0 3 = true ∧ Vbfuaf.inside am 1 1000000000000 = true := by
        have c' : (Vbfuaf.inside kd 0 3 && Vbfuaf.inside am 1 1000000000000) = true := by simpa using c
        rw [Bool.and_eq_true] at c'
        exact c'
      have b1 := inside_iff.mp hin.1
      have b2 := inside_iff.mp hin.2
      rw [if_neg (by rw [hin.1, hin.2]; simp)] at eS
      have hF1 := hF.keep T.ap (.of s1)
      obtain ⟨df, tb, tsx, po, oc, ef, h1, h2, h3, ⟨as, ea, hal, hat⟩, h5, n1, n2, n3⟩ := hF1.ex
      refine ⟨_, rfl, fu, _, df, _, _, rfl, ef, T.k_Fund, T.a_Fund_orders, fundF_orders .., ol, _, rfl, .inl (SqL.of ea), _, _, rfl, rfl, _, rfl, ifB (fun c2 => ?_) fun c2 => ?_⟩
      · rw [decide_eq_true_eq, List.length_map, hal] at c2
        refine ⟨by show 1 ≤ sizeLine; decide, fun p hp => ans_end (as := [-8]) T.ap hF hT (.of s1) k ?_ hp⟩
        rw [eS, if_pos (by omega)]
      · rw [decide_eq_false_iff_not, List.length_map, hal] at c2
        rw [if_neg (by omega)] at eS
        refine ⟨_, rfl, fu, _, df, _, _, rfl, ef, T.k_Fund, T.a_Fund_last_number, fundF_last_number .., _, _, rfl, rfl, _, rfl, fu, _, df, _, rfl, ef, T.k_Fund, T.a_Fund_last_number, (by rw [fundF_len]; decide), ?_⟩
        generalize hH3 : L2.upd H1 fu _ = H3
        have kO : KpO d H1 H3 := by rw [← hH3]; exact .fund ef
        have x3 : H3 fu = some (.ins d.fund df (fundF st.value st.units tb tsx po ol ((st.next : Int) - 1 + 1) oc)) := by rw [← hH3, upd_same, fundF_set_last_number]
        have b3 : But fu H1 H3 := by rw [← hH3]; exact But.upd
        have fr3 : ∀ y, H3 y = none → H1 y = none := by rw [← hH3]; exact fr_upd
        have t3 : TabOk d H3 := by rw [← hH3]; exact TabOk.fund ef (hT.same s1)
        have nl : ∀ {y : Addr} {ys : List V}, H1 y = some (.lst ys) → H3 y = some (.lst ys) := fun e => b3 _ _ e (ne_of e ef (by intro z; cases z))
        rw [show (st.next : Int) - 1 + 1 = (st.next : Int) by omega] at x3
        have sq : SqL K H3 l ([kd, am].map V.int) := SqL.of (nl (s1 _ _ hl))
        refine ⟨_, rfl, fu, _, df, _, _, rfl, x3, T.k_Fund, T.a_Fund_orders, fundF_orders .., .inl ⟨rfl, _, SqL.of (nl ea)⟩, _, rfl, fu, _, df, _, _, rfl, x3, T.k_Fund, T.a_Fund_last_number, fundF_last_number ..,
          _, rfl, l, _, _, _, rfl, rfl, sq, at_of (j := 0) rfl rfl, _, rfl, l, _, _, _, rfl, rfl, sq, at_of (j := 1) rfl rfl, ?_⟩
        refine made_end (fun H' _ => ⟨_, _, _, rfl⟩) fun o4 do4 H4 n4 s4 h4 => ?_
        have ea4 : H4 ol = some (.lst (as.map V.ref)) := s4 _ _ (nl ea)
        have hw := W.olen
        refine ⟨ol, _, _, rfl, rfl, ea4, line40 (by rw [List.length_map, hal]; omega), ?_⟩
        generalize hH5 : L2.upd H4 ol _ = H5
        have kO5 : KpO d H4 H5 := by rw [← hH5]; exact .lst ea4
        have e5 : H5 ol = some (.lst ((as ++ [o4]).map V.ref)) := by rw [← hH5, upd_same, List.map_append]; rfl
        have b5 : But ol H4 H5 := by rw [← hH5]; exact But.upd
        have fr5 : ∀ y, H5 y = none → H4 y = none := by rw [← hH5]; exact fr_upd
        have nfo : fu ≠ ol := ne_of ef ea (by intro z; cases z)
        have x5 := b5 _ _ (s4 _ _ x3) nfo
        have t5 : TabOk d H5 := by rw [← hH5]; exact (t3.same s4).upd ea4 rfl (fun φ z => by cases z)
        refine ⟨_, rfl, fu, _, df, _, _, rfl, x5, T.k_Fund, T.a_Fund_last_number, fundF_last_number .., by show 1 ≤ sizeLine; decide, fun q hq => ?_⟩
        have s6 : Same H5 (upd H5 q (.lst [.int (st.next : Int)])) := Same.new hq
        have kAll : KpO d H1 H5 := kO.trans ((KpO.same s4).trans kO5)
        have ll : ∀ {y : Addr} {ys : List V}, y ≠ ol → H1 y = some (.lst ys) → H5 y = some (.lst ys) := fun hy e => b5 _ _ (s4 _ _ (nl e)) hy
        refine k _ ol q ⟨fun y o e nb1 nb2 ht => s6 _ _ (b5 _ _ (s4 _ _ (b3 _ _ (s1 _ _ e) nb1)) nb2), .inl rfl, fun y e => s1.free (fr3 _ (s4.free (fr5 _ (s6.free e)))), t5.same s6, Av.put (fun o e _ => s1 _ o e) hF ef (s6 _ _ x5) (.inl rfl) (.inl rfl) (.inl rfl) (.inl rfl)⟩ ?_ ⟨s1.free (fr3 _ (s4.free (fr5 _ hq))), ?_⟩
        · rw [eS]
          refine FundAt.keep T.ap (.of s6) ⟨df, tb, tsx, po, oc, ?_, h1.keep (TierAt.lives T.ap) kAll fun _ e => ll (Ne.symm n1) e, h2.keep (TierAt.lives T.ap) kAll fun _ e => ll (Ne.symm n2) e, PolAt.lives T.ap _ _ _ _ kAll h3, ?_, h5.keep (OutAt.lives T.ap) kAll fun _ e => ll (Ne.symm n3) e, n1, n2, n3⟩
          · show H5 fu = some (.ins d.fund df (fundF st.value st.units tb tsx po ol (((st.next + 1 : Nat) : Int) - 1) oc))
            rw [show ((st.next + 1 : Nat) : Int) - 1 = (st.next : Int) by omega]
            exact x5
          · refine LsAt.snoc (OrdAt.lives T.ap) e5 hal hat kAll ⟨do4, ?_⟩
            show H5 o4 = some (.ins d.ord do4 (ordF (st.next : Int) (kd.toNat : Int) (am.toNat : Int)))
            rw [Int.toNat_of_nonneg (by omega), Int.toNat_of_nonneg (by omega)]
            exact kO5 _ _ _ _ T.ap.ord h4
        · rw [eS]
          exact upd_same
end
end Fs
end
section
set_option Elab.async false
set_option linter.all false
set_option maxRecDepth 100000
set_option maxHeartbeats 2000000
namespace Fs
open PySem PySem.Spec PyProof.Rows L2
theorem filter_len {α : Type} {p : α → Bool} : ∀ {l : List α}, (l.filter p).length = l.length ↔ ∀ x ∈ l, p x = true
  | [] => by simp
  | a :: l => by
    have h := List.length_filter_le p l
    have ih := filter_len (p := p) (l := l)
    rw [List.filter_cons]
    by_cases e : p a = true
    · rw [if_pos e, List.length_cons, List.length_cons]
      constructor
      · intro q x hx
        rcases List.mem_cons.mp hx with rfl | hx
        · exact e
        · exact ih.mp (by omega) x hx
      · intro q
        have := ih.mpr fun x hx => q x (List.mem_cons_of_mem _ hx)
        omega
    · rw [if_neg e, List.length_cons]
      constructor
      · intro q
        omega
      · intro q
        exact absurd (q a (by simp)) e
section
variable {P : Program} {w : World} {K : PySem.W.Frag} {mg : Str → Option Value} {base : Heap} {d : Ad}
/-! ### withdraw -/
theorem c_withdraw (T : Txt K mg d) (R : Rng K mg "WITHDRAW_RANGES" [(1, 1000000)]) (D : Dfn K mg "withdraw" s_withdraw p_withdraw) (c_all_within : Cal P w K mg base "all_within" 1 p_all_within (spAw K)) :
    Cal P w K mg base "withdraw" 2 p_withdraw (spCall d 5 (some 1)) := D.cal fun f fd F => by
  refine F.ok sc_withdraw (fun vs H Q E h => ?_) (fun cdv A outer s H vs Q E hr h => ?_)
  · obtain ⟨fu, ol, l, st, ns, rfl, _⟩ := h
    rfl
  · obtain ⟨fu, ol, l, st, ns, rfl, hF, W, hT, hl, hn, k⟩ := h
    obtain ⟨x, rfl⟩ := len1 (hn 1 rfl)
    obtain ⟨ra, hra, hrng⟩ := R
    have nd := sc_withdraw.nd
    refine ⟨_, (pss_cons (ps_if (pt_not (pt_val (pcl c_all_within (hr.mono (by decide)) (pa_cons (pv 1) (pa_cons (gr hra) pa_nil)))))
    (pss_one (ps_ret (pe_lst (pa_cons (gk T.c_NOT_WITHIN) pa_nil))))
    pss_nil)
    (pss_cons (ps_setLc (i := 2) rfl nd rfl rfl (sw_true rfl rfl rfl rfl) (pi_list (pe_fld (pv 0) rfl)) (blkOk_by (own := [("each", 3)]) (by rfl)) (fun _ _ _ _ _ => (pg_name (i := 3) nd rfl (Or.inl rfl))) (tt := tTest (tOp rNe (tFld K (tVar 3) "number") (tOp (rIxL K) (tVar 1) (tC (.int 0))))) (fun _ _ _ _ _ => (pts_one (pt_cmpR op_ne (pe_fldK K rfl (pv 3) rfl) (pe_ix (r := rIxL K) ix_list (pv 1) pe_int (fun _ _ => rfl)) (nomark _)))) (fun _ _ _ _ _ => (pv 3)))
    (pss_cons (ps_if (pt_cmpR op_eq (pe_callB call_len_seq (by rfl) T.n_len boot_len (pa_cons (pv 2) pa_nil)) (pe_callB call_len_seq (by rfl) T.n_len boot_len (pa_cons (pe_fld (pv 0) rfl) pa_nil)) (nomark _))
    (pss_one (ps_ret (pe_lst (pa_cons (gk T.c_NOT_THERE) pa_nil))))
    pss_nil)
    (pss_cons (ps_fld (pv 0) (pv 2) rfl)
    (pss_one (ps_ret (pe_lst (pa_cons pe_int pa_nil)))))))), ?_⟩
    have eA : allIn [x] [(1, 1000000)] = (Vbfuaf.inside x 1 1000000 && true) := rfl
    have eS : stepOf 5 st [x] = if Vbfuaf.inside x 1 1000000 = false then (st, [-1]) else if (st.orders.any fun o => (o.num : Int) == x) = false then (st, [-4]) else ({ st with orders := st.orders.filter fun o => !((o.num : Int) == x) }, [0]) := rfl
    refine ⟨_, rfl, l, ra, _, _, rfl, SqL.of hl, hrng, rfl, fun H1 s1 => ⟨_, rfl, ifB (fun c => ?_) fun c => ?_⟩⟩
    · refine ⟨by show 1 ≤ sizeLine; decide, fun p hp => ?_⟩
      refine ans_end (as := [-1]) T.ap hF hT (.of s1) k ?_ hp
      rw [eA, Bool.and_true] at c
      rw [eS, if_pos (by simpa using c)]
    · rw [eA, Bool.and_true] at c
      have hok : Vbfuaf.inside x 1 1000000 = true := by simpa using c
      rw [if_neg (by rw [hok]; decide)] at eS
      have hF1 := hF.keep T.ap (.of s1)
      obtain ⟨df, tb, tsx, po, oc, ef, h1, h2, h3, h4, h5, n1, n2, n3⟩ := hF1.ex
      obtain ⟨as, ea, hal, hat⟩ := h4
      have sq1 : SqL K H1 l ([x].map V.int) := SqL.of (s1 _ _ hl)
      have hw := W.olen
      refine ⟨_, rfl, fu, _, df, _, _, rfl, ef, T.k_Fund, T.a_Fund_orders, fundF_orders .., ol, rfl, ⟨_, SqL.of ea⟩, fun D hD => ?_⟩
      refine lc_list (K := K) (a := ol) (xs := as.map V.ref) (fun i H2 => Same H1 H2 ∧ LsAt (OrdAt d) H2 D ((st.orders.take i).filter fun o => !((o.num : Int) == x))) ⟨Same.new hD, by rw [List.take_zero, List.filter_nil]; exact .nil upd_same⟩
        (fun i H2 _ ⟨s2, _⟩ => SqL.of (s2 _ _ ea)) (fun i y H2 hy ⟨s2, hL⟩ => ?_) fun H2 ⟨s2, hL⟩ => ?_
      · rw [List.getElem?_map] at hy
        cases qa : as[i]? with
        | none => rw [qa] at hy; cases hy
        | some a =>
          rw [qa] at hy
          cases hy
          have hi : i < st.orders.length := by
            have := (List.getElem?_eq_some_iff.mp qa).1
            omega
          have qo : st.orders[i]? = some (st.orders[i]'hi) := List.getElem?_eq_getElem hi
          obtain ⟨da, ha⟩ := hat i a _ qa qo
          refine ⟨rfl, _, rfl, a, _, da, _, _, rfl, s2 _ _ ha, T.k_Order, T.a_Order_number, ordF_number .., _, rfl, l, _, _, _, rfl, rfl, s2.seq sq1, at_of (j := 0) rfl rfl, rfl, _, rfl, ?_⟩
          have ef2 : (st.orders.take (i + 1)).filter (fun o => !((o.num : Int) == x)) = (st.orders.take i).filter (fun o => !((o.num : Int) == x)) ++ (if (!((st.orders[i].num : Int) == x)) = true then [st.orders[i]] else []) := by
            rw [take_snoc qo, List.filter_append]
            congr 1
            rw [List.filter_cons, List.filter_nil]
          have edec : (!decide (V.int (st.orders[i].num : Int) = V.int x)) = (!((st.orders[i].num : Int) == x)) := by rw [dec_int]
          refine ifB (fun ct => ?_) fun ct => ?_
          · rw [edec] at ct
            obtain ⟨bs, eb, hbl, hbt⟩ := hL
            refine ⟨_, rfl, _, eb, ?_, fun b o e => ?_, ?_⟩
            · have := List.length_filter_le (fun o : Vbfuaf.Order => !((o.num : Int) == x)) (st.orders.take i)
              rw [List.length_take] at this
              exact line40 (by rw [List.length_map, hbl]; omega)
            · rw [upd_ne (ne_of_none e hD)]
              exact s2 _ _ e
            · rw [ef2, if_pos ct]
              refine LsAt.snoc (OrdAt.lives T.ap) (as := bs) (a := a) (by rw [upd_same, List.map_append]; rfl) hbl hbt (KpO.lst eb) ⟨da, ?_⟩
              rw [upd_ne (ne_of (s2 _ _ ha) eb (by intro z; cases z))]
              exact s2 _ _ ha
          · rw [edec] at ct
            refine ⟨s2, ?_⟩
            rw [ef2, if_neg (by rw [ct]; exact Bool.false_ne_true), List.append_nil]
            exact hL
      · rw [List.length_map, hal, List.take_length] at hL
        obtain ⟨bs, eb, hbl, hbt⟩ := hL
        have ea2 := s2 _ _ ea
        refine ⟨_, rfl, D, _, rfl, .inl (SqL.of eb), _, rfl, fu, _, df, _, _, rfl, s2 _ _ ef, T.k_Fund, T.a_Fund_orders, fundF_orders .., ol, _, rfl, .inl (SqL.of ea2), rfl, _, rfl, ?_⟩
        have ecmp : decide (V.int ((bs.map V.ref).length : Int) = V.int ((as.map V.ref).length : Int)) = decide ((st.orders.filter fun o => !((o.num : Int) == x)).length = st.orders.length) := by
          rw [vint_dec, List.length_map, List.length_map, hbl, hal]
        have eany : ((st.orders.filter fun o => !((o.num : Int) == x)).length = st.orders.length) ↔ (st.orders.any fun o => (o.num : Int) == x) = false := by
          rw [filter_len, List.any_eq_false]
          constructor
          · intro q o ho
            have := q o ho
            simpa using this
          · intro q o ho
            have := q o ho
            simpa using this
        refine ifB (fun ct => ?_) fun ct => ?_
        · rw [ecmp, decide_eq_true_eq] at ct
          refine ⟨by show 1 ≤ sizeLine; decide, fun p hp => ans_end (as := [-4]) T.ap hF hT (.of (s1.trans s2)) k ?_ hp⟩
          rw [eS, if_pos (eany.mp ct)]
        · rw [ecmp, decide_eq_false_iff_not] at ct
          rw [if_neg (fun z => ct (eany.mpr z))] at eS
          refine ⟨_, rfl, _, rfl, fu, _, df, _, rfl, s2 _ _ ef, T.k_Fund, T.a_Fund_orders, (by rw [fundF_len]; decide), ?_⟩
          have ef2 := s2 _ _ ef
          generalize hH3 : L2.upd H2 fu _ = H3
          have kO : KpO d H2 H3 := by rw [← hH3]; exact .fund ef2
          have x3 : H3 fu = some (.ins d.fund df (fundF st.value st.units tb tsx po D ((st.next : Int) - 1) oc)) := by rw [← hH3, upd_same, fundF_set_orders]
          have b3 : But fu H2 H3 := by rw [← hH3]; exact But.upd
          have fr3 : ∀ y, H3 y = none → H2 y = none := by rw [← hH3]; exact fr_upd
          have t3 : TabOk d H3 := by rw [← hH3]; exact TabOk.fund ef2 ((hT.same s1).same s2)
          have nl : ∀ {y : Addr} {ys : List V}, H2 y = some (.lst ys) → H3 y = some (.lst ys) := fun e => b3 _ _ e (ne_of e ef2 (by intro z; cases z))
          have kAll : KpO d H1 H3 := (KpO.same s2).trans kO
          have neD : ∀ {y : Addr} {ys : List V}, H1 y = some (.lst ys) → D ≠ y := fun e z => by rw [z, e] at hD; cases hD
          refine ⟨by show 1 ≤ sizeLine; decide, fun q hq => ?_⟩
          have s4 : Same H3 (upd H3 q (.lst [.int 0])) := Same.new hq
          obtain ⟨as1, ea1, _⟩ := id h1
          obtain ⟨as2, ea22, _⟩ := id h2
          obtain ⟨as5, ea5, _⟩ := id h5
          refine k _ D q ⟨fun y o e nb1 nb2 ht => s4 _ _ (b3 _ _ (s2 _ _ (s1 _ _ e)) nb1), .inr (s1.free hD), fun y e => s1.free (s2.free (fr3 _ (s4.free e))), t3.same s4, Av.put (fun o e _ => s1 _ o e) hF ef (s4 _ _ x3) (.inl rfl) (.inl rfl) (.inr (s1.free hD)) (.inl rfl)⟩ ?_ ⟨s1.free (s2.free (fr3 _ hq)), ?_⟩
          · rw [eS]
            refine FundAt.keep T.ap (.of s4) ⟨df, tb, tsx, po, oc, x3, h1.keep (TierAt.lives T.ap) kAll fun _ e => nl (s2 _ _ e), h2.keep (TierAt.lives T.ap) kAll fun _ e => nl (s2 _ _ e), PolAt.lives T.ap _ _ _ _ kAll h3, ?_, h5.keep (OutAt.lives T.ap) kAll fun _ e => nl (s2 _ _ e), neD ea1, neD ea22, neD ea5⟩
            exact LsAt.keep (OrdAt.lives T.ap) kO (fun _ e => nl e) ⟨bs, eb, hbl, hbt⟩
          · rw [eS]
            exact upd_same
/-! ### point -/
theorem c_point (T : Txt K mg d) (D : Dfn K mg "point" s_point p_point) (c_point_of : Cal P w K mg base "point_of" 8 p_point_of (spPt d)) : Cal P w K mg base "point" 9 p_point (spCall d 7 (some 0)) := D.cal fun f fd F => by
  refine F.ok sc_point (fun vs H Q E h => ?_) (fun cdv A outer s H vs Q E hr h => ?_)
  · obtain ⟨fu, ol, l, st, ns, rfl, _⟩ := h
    rfl
  · obtain ⟨fu, ol, l, st, ns, rfl, hF, W, hT, hl, hn, k⟩ := h
    have e0 := len0 (hn 0 rfl)
    subst e0
    have nd := sc_point.nd
    refine ⟨_, (pss_cons (ps_if (pt_cmpR op_eq (pe_callB call_len_seq (by rfl) T.n_len boot_len (pa_cons (pe_fld (pv 0) rfl) pa_nil)) pe_int (nomark _))
    (pss_one (ps_ret (pe_lst (pa_cons (gk T.c_NO_ORDERS) pa_nil))))
    pss_nil)
    (pss_cons (ps_set (i := 2) nd rfl (Or.inl rfl) (pcl c_point_of (hr.mono (by decide)) (pa_cons (pv 0) pa_nil)))
    (pss_cons (ps_if (PW.pt (pw_or (pt_cmpR op_lt (pe_fld (pv 2) rfl) pe_int (nomark _)) (pw_or1 (pt_cmpR op_lt (pe_fld (pv 2) rfl) pe_int (nomark _)))))
    (pss_one (ps_ret (pe_lst (pa_cons (gk T.c_TOO_LITTLE) pa_nil))))
    pss_nil)
    (pss_cons (ps_if (PW.pt (pw_or (pt_cmpR op_gt (pe_fld (pv 2) rfl) (gk T.c_GREATEST_VALUE) (nomark _)) (pw_or1 (pt_cmpR op_gt (pe_fld (pv 2) rfl) (gk T.c_GREATEST_UNITS) (nomark _)))))
    (pss_one (ps_ret (pe_lst (pa_cons (gk T.c_TOO_MUCH) pa_nil))))
    pss_nil)
    (pss_cons (ps_fld (pv 0) (pe_fld (pv 2) rfl) rfl)
    (pss_cons (ps_fld (pv 0) (pe_fld (pv 2) rfl) rfl)
    (pss_cons (ps_fld (pv 0) (pe_lst pa_nil) rfl)
    (pss_cons (ps_fld (pv 0) (pe_fld (pv 2) rfl) rfl)
    (pss_one (ps_ret (pe_lst (pa_cons (pe_fld (pv 2) rfl) (pa_cons (pe_fld (pv 2) rfl) (pa_cons (pe_fld (pv 2) rfl) (pa_cons (pe_fld (pv 2) rfl) (pa_cons (pe_fld (pv 2) rfl) (pa_cons (pe_fld (pv 2) rfl) pa_nil))))))))))))))))), ?_⟩
    obtain ⟨df, tb, tsx, po, oc, ef, h1, h2, h3, h4, h5, n1, n2, n3⟩ := hF.ex
    obtain ⟨as, ea, hal, hat⟩ := id h4
    have ev : ∀ rs c, (st.value : Int) + Vbfuaf.flowOf rs - (c : Int) = (st.value : Int) + Vbfuaf.flowOf rs - (c : Int) := fun _ _ => rfl
    have eS : stepOf 7 st [] = Vbfuaf.doPoint st := rfl
    unfold Vbfuaf.doPoint at eS
    refine ⟨_, rfl, fu, _, df, _, _, rfl, ef, T.k_Fund, T.a_Fund_orders, fundF_orders .., ol, _, rfl, .inl (SqL.of ea), rfl, _, rfl, ifB (fun c => ?_) fun c => ?_⟩
    · refine ⟨by show 1 ≤ sizeLine; decide, fun p hp => ans_end (as := [-6]) T.ap hF hT (Gr.refl H) k ?_ hp⟩
      have c' := (vint_dec (i := (as.map V.ref).length) (j := 0)).symm.trans c
      rw [decide_eq_true_eq, List.length_map, hal] at c'
      rw [eS, if_pos (by rw [List.isEmpty_iff]; exact List.eq_nil_of_length_eq_zero c')]
      rfl
    · have c' := (vint_dec (i := (as.map V.ref).length) (j := 0)).symm.trans c
      rw [decide_eq_false_iff_not, List.length_map, hal] at c'
      rw [if_neg (by rw [List.isEmpty_iff]; intro z; rw [z] at c'; exact c' rfl)] at eS
      dsimp only at eS
      refine ⟨_, rfl, fu, ol, st, rfl, hF, W, hT, fun H1 x dx lr g1 nx nlr hx hLr => ?_⟩
      have hF1 := hF.keep T.ap g1.kp
      generalize hrs : (Vbfuaf.dealt st).1 = rs at *
      generalize hco : (Vbfuaf.dealt st).2 = co at *
      have fv : (poiOf st (Vbfuaf.sideOf st) (Vbfuaf.swingOf st) co lr rs).lookup ("value" : Str) = some (V.int ((st.value : Int) + Vbfuaf.flowOf rs - (co : Int))) := poiF_value ..
      have fu' : (poiOf st (Vbfuaf.sideOf st) (Vbfuaf.swingOf st) co lr rs).lookup ("units" : Str) = some (V.int ((st.units : Int) + Vbfuaf.unitsOf rs)) := poiF_units ..
      have GU : (Vbfuaf.MANY : Int) = 1000000000000000000 := rfl
      have GV : (Vbfuaf.GREAT : Int) = 1000000000000 := rfl
      rw [GU, GV] at eS
      have small : (st.units : Int) + Vbfuaf.unitsOf rs < 1 ∨ (st.value : Int) + Vbfuaf.flowOf rs - (co : Int) < 1 → ∀ p, H1 p = none → Q (.ref p) (upd H1 p (.lst [.int (-7)])) := fun z p hp => by
        refine ans_end (as := [-7]) T.ap hF hT g1 k ?_ hp
        rw [eS, if_pos z]
        rfl
      refine ⟨_, rfl, x, _, dx, _, _, rfl, hx, T.k_Point, T.a_Point_value, fv, _, _, rfl, rfl, _, rfl, ifB (fun ct => ?_) fun ct => ?_⟩
      · rw [decide_eq_true_eq] at ct
        exact iteT ⟨by show 1 ≤ sizeLine; decide, small (.inr ct)⟩
      · rw [decide_eq_false_iff_not] at ct
        refine ⟨_, rfl, x, _, dx, _, _, rfl, hx, T.k_Point, T.a_Point_units, fu', _, _, rfl, rfl, _, rfl, ifB (fun ct2 => ?_) fun ct2 => ?_⟩
        · rw [decide_eq_true_eq] at ct2
          exact ⟨by show 1 ≤ sizeLine; decide, small (.inl ct2)⟩
        · rw [decide_eq_false_iff_not] at ct2
          rw [if_neg (by omega)] at eS
          have big : (1000000000000 : Int) < (st.value : Int) + Vbfuaf.flowOf rs - (co : Int) ∨ (1000000000000000000 : Int) < (st.units : Int) + Vbfuaf.unitsOf rs → ∀ p, H1 p = none → Q (.ref p) (upd H1 p (.lst [.int (-8)])) := fun z p hp => by
            refine ans_end (as := [-8]) T.ap hF hT g1 k ?_ hp
            rw [eS, if_pos z]
            rfl
          refine ⟨_, rfl, x, _, dx, _, _, rfl, hx, T.k_Point, T.a_Point_value, fv, _, _, rfl, rfl, _, rfl, ifB (fun cb => ?_) fun cb => ?_⟩
          · rw [decide_eq_true_eq] at cb
            exact iteT ⟨by show 1 ≤ sizeLine; decide, big (.inl cb)⟩
          · rw [decide_eq_false_iff_not] at cb
            refine ⟨_, rfl, x, _, dx, _, _, rfl, hx, T.k_Point, T.a_Point_units, fu', _, _, rfl, rfl, _, rfl, ifB (fun cb2 => ?_) fun cb2 => ?_⟩
            · rw [decide_eq_true_eq] at cb2
              exact ⟨by show 1 ≤ sizeLine; decide, big (.inr cb2)⟩
            · rw [decide_eq_false_iff_not] at cb2
              rw [if_neg (by omega)] at eS
              obtain ⟨df, tb, tsx, po, oc, ef, h1, h2, h3, h4, h5, n1, n2, n3⟩ := hF1.ex
              have nxf : x ≠ fu := ne_of hx ef (fun z => T.ap.poi (HO.ins.inj z).1)
              -- value, units
              refine ⟨_, rfl, x, _, dx, _, _, rfl, hx, T.k_Point, T.a_Point_value, fv, _, rfl, fu, _, df, _, rfl, ef, T.k_Fund, T.a_Fund_value, (by rw [fundF_len]; decide), ?_⟩
              refine ⟨_, rfl, x, _, dx, _, _, rfl, (by rw [upd_ne nxf]; exact hx), T.k_Point, T.a_Point_units, fu', _, rfl, fu, _, df, _, rfl, upd_same, T.k_Fund, T.a_Fund_units, (by rw [fundF_set_value, fundF_len]; decide), ?_⟩
              rw [fundF_set_value]
              generalize hH3 : L2.upd (L2.upd H1 fu _) fu _ = H3
              have x3 : H3 fu = some (.ins d.fund df (fundF ((st.value : Int) + Vbfuaf.flowOf rs - (co : Int)) ((st.units : Int) + Vbfuaf.unitsOf rs) tb tsx po ol ((st.next : Int) - 1) oc)) := by rw [← hH3, upd_same, fundF_set_units]
              have b3 : But fu H1 H3 := by rw [← hH3]; exact But.upd.trans But.upd
              have fr3 : ∀ y, H3 y = none → H1 y = none := by rw [← hH3]; exact fun y e => fr_upd _ (fr_upd _ e)
              have t3 : TabOk d H3 := by
                rw [← hH3]
                exact TabOk.fund upd_same (TabOk.fund ef (g1.tab hT))
              have kO3 : KpO d H1 H3 := by rw [← hH3]; exact (KpO.fund ef).trans (KpO.fund upd_same)
              clear hH3
              -- orders
              refine ⟨Nat.zero_le _, fun p3 n3' => ⟨_, rfl, fu, _, df, _, rfl, (by rw [upd_ne (ne_of_none x3 n3')]; exact x3), T.k_Fund, T.a_Fund_orders, (by rw [fundF_len]; decide), ?_⟩⟩
              rw [fundF_set_orders]
              generalize hH4 : L2.upd (L2.upd H3 p3 _) fu _ = H4
              have np3 : p3 ≠ fu := fun e => by rw [e, x3] at n3'; cases n3'
              have x4 : H4 fu = some (.ins d.fund df (fundF ((st.value : Int) + Vbfuaf.flowOf rs - (co : Int)) ((st.units : Int) + Vbfuaf.unitsOf rs) tb tsx po p3 ((st.next : Int) - 1) oc)) := by rw [← hH4]; exact upd_same
              have b4 : But fu H3 H4 := by rw [← hH4]; exact (But.of (Same.new n3')).trans But.upd
              have e4 : H4 p3 = some (.lst []) := by rw [← hH4, upd_ne np3]; exact upd_same
              have fr4 : ∀ y, H4 y = none → H3 y = none := by rw [← hH4]; exact fun y e => fr_upd _ (fr_upd _ e)
              have t4 : TabOk d H4 := by
                rw [← hH4]
                exact TabOk.fund (by rw [upd_ne (ne_of_none x3 n3')]; exact x3) (t3.same (Same.new n3'))
              have kO4 : KpO d H3 H4 := by rw [← hH4]; exact (KpO.new n3').trans (KpO.fund (by rw [upd_ne (ne_of_none x3 n3')]; exact x3))
              clear hH4
              -- outcomes
              have hx4 := b4 _ _ (b3 _ _ hx nxf) nxf
              refine ⟨_, rfl, x, _, dx, _, _, rfl, hx4, T.k_Point, T.a_Point_outcomes, poiF_outcomes .., _, rfl, fu, _, df, _, rfl, x4, T.k_Fund, T.a_Fund_outcomes, (by rw [fundF_len]; decide), ?_⟩
              rw [fundF_set_outcomes]
              generalize hH5 : L2.upd H4 fu _ = H5
              have x5 : H5 fu = some (.ins d.fund df (fundF ((st.value : Int) + Vbfuaf.flowOf rs - (co : Int)) ((st.units : Int) + Vbfuaf.unitsOf rs) tb tsx po p3 ((st.next : Int) - 1) lr)) := by rw [← hH5]; exact upd_same
              have b5 : But fu H4 H5 := by rw [← hH5]; exact But.upd
              have fr5 : ∀ y, H5 y = none → H4 y = none := by rw [← hH5]; exact fr_upd
              have t5 : TabOk d H5 := by rw [← hH5]; exact TabOk.fund x4 t4
              have kO5 : KpO d H4 H5 := by rw [← hH5]; exact KpO.fund x4
              have hx5 := b5 _ _ hx4 nxf
              clear hH5
              refine ⟨_, rfl, x, _, dx, _, _, rfl, hx5, T.k_Point, T.a_Point_side, poiF_side .., _, rfl, x, _, dx, _, _, rfl, hx5, T.k_Point, T.a_Point_swing, poiF_swing .., _, rfl, x, _, dx, _, _, rfl, hx5, T.k_Point, T.a_Point_cost, poiF_cost ..,
                _, rfl, x, _, dx, _, _, rfl, hx5, T.k_Point, T.a_Point_lacking, poiF_lacking .., _, rfl, x, _, dx, _, _, rfl, hx5, T.k_Point, T.a_Point_value, fv, _, rfl, x, _, dx, _, _, rfl, hx5, T.k_Point, T.a_Point_units, fu', by show 6 ≤ sizeLine; decide, fun q hq => ?_⟩
              have s6 : Same H5 (upd H5 q (.lst [.int (Vbfuaf.sideOf st : Nat), .int (Vbfuaf.swingOf st : Nat), .int (co : Nat), .int (Vbfuaf.lacking st rs co : Nat), .int ((st.value : Int) + Vbfuaf.flowOf rs - (co : Int)), .int ((st.units : Int) + Vbfuaf.unitsOf rs)])) := Same.new hq
              have kAll : KpO d H1 H5 := kO3.trans (kO4.trans kO5)
              have ll : ∀ {y : Addr} {ys : List V}, H1 y = some (.lst ys) → H5 y = some (.lst ys) := fun e => by
                have ny := ne_of e ef (by intro z; cases z)
                exact b5 _ _ (b4 _ _ (b3 _ _ e ny) ny) ny
              have nn : ∀ {y : Addr} {ys : List V}, H1 y = some (.lst ys) → p3 ≠ y := fun e z => by
                have ny := ne_of e ef (by intro z; cases z)
                rw [z, b3 _ _ e ny] at n3'
                cases n3'
              obtain ⟨as1, ea1, _⟩ := id h1
              obtain ⟨as2, ea2, _⟩ := id h2
              obtain ⟨as6, ea6, _⟩ := id hLr
              refine k _ p3 q ⟨fun y o e nb1 nb2 ht => s6 _ _ (b5 _ _ (b4 _ _ (b3 _ _ (g1.kp _ _ e ht) nb1) nb1) nb1), .inr (g1.fr _ (fr3 _ n3')), fun y e => g1.fr _ (fr3 _ (fr4 _ (fr5 _ (s6.free e)))), t5.same s6, Av.put (fun o e h => g1.kp _ o e h) hF ef (s6 _ _ x5) (.inl rfl) (.inl rfl) (.inr (g1.fr _ (fr3 _ n3'))) (.inr nlr)⟩ ?_ ⟨g1.fr _ (fr3 _ (fr4 _ (fr5 _ hq))), ?_⟩
              · rw [eS]
                refine FundAt.keep T.ap (.of s6) ⟨df, tb, tsx, po, lr, ?_, h1.keep (TierAt.lives T.ap) kAll fun _ e => ll e, h2.keep (TierAt.lives T.ap) kAll fun _ e => ll e, PolAt.lives T.ap _ _ _ _ kAll h3, .nil (b5 _ _ e4 np3), hLr.keep (OutAt.lives T.ap) kAll fun _ e => ll e, nn ea1, nn ea2, nn ea6⟩
                show H5 fu = some (.ins d.fund df (fundF ((((st.value : Int) + Vbfuaf.flowOf rs - (co : Int)).toNat : Nat) : Int) ((((st.units : Int) + Vbfuaf.unitsOf rs).toNat : Nat) : Int) tb tsx po p3 ((st.next : Int) - 1) lr))
                rw [Int.toNat_of_nonneg (by omega), Int.toNat_of_nonneg (by omega)]
                exact x5
              · rw [eS]
                exact upd_same
end
end Fs
end
section
set_option Elab.async false
set_option linter.all false
set_option maxRecDepth 100000
set_option maxHeartbeats 2000000
/-! The lambda of shared_out: its call. -/
namespace Fs
open PySem PySem.Spec PyProof.Rows L2
/-- the body of the lambda running -/
def cxL (X : Cx) (A : Around) (env : Env) (s : Shared) (H : Hp) : Cx where
  prog := X.prog
  w := X.w
  K := X.K
  mg := X.mg
  base := X.base
  A := A.deeper env
  N := ["place", "remainders"]
  s_0 := s
  H_0 := H
  env := env
  outer := X.stack
  stack := env :: X.stack
  ex := []
  calm := true
  fn := fun _ => false
  pn := []
  xe := fun _ _ => False
def lamEnv (L g c cr : Addr) : Env := PySem.W.envX lamQual lamScope L g (.ref c) [((Str.ofString "remainders"), cr)]
theorem lam_nocell : ∀ x ∈ lamScope.names, x.2 ≠ .cell := by decide +kernel
theorem lam_place : lamScope.names.lookup (Str.ofString "place") = some .local := by decide +kernel
theorem lam_free : lamScope.names.lookup (Str.ofString "remainders") = some .free := by decide +kernel
theorem lam_other : ∀ x ∈ lamScope.names, x.2 = .cell ∨ x.2 = .free → x.1 = Str.ofString "remainders" := by decide +kernel
theorem lam_call {X : Cx} {pins : List (Addr × Obj)} {σ : L2.St} {H : Hp} {s : Shared} {A : Around} {E : Value → Shared → Prop} (I : Inv X pins σ H s) (hA : A.frames = some X.stack) (hh : A.handled = none) (hd : A.depth < recursionLimit)
    {g c cr : Addr} {pm ctv u : Value} (hg : s.heap.get? g = some (PySem.W.kla_obj "<lambda>" lamQual lamArgs lamBody lamScope [("remainders", cr)] pm c ctv)) (hcd : s.heap.CodeRec (.ref c) lamQual)
    (hcell : s.heap.IsCell cr (some u)) (hHc : H cr = none) {r : Addr} (ru : RelV (.ref r) u) {rems : List Int} (hr : H r = some (.lst (rems.map V.int))) {i : Nat} {t : Tok} {z : Int} (hz : rems[i]? = some z) {Q : VK}
    (k : ∀ T, H T = none → Q (.ref T) (upd H T (.tup [.int (-z), .int (i : Nat)]))) : wpAny (model X.prog X.w) A (call (.ref g) [.int (i : Nat) t]) (EP X pins σ Q) E s := by
  have run : codeAny (model X.prog X.w) A (.call (.ref g) ⟨[.int (i : Nat) t], []⟩) (fun r s' => match r with | .ok (.ret v) => CE X.stack X.prog X.w H s Q v s' | _ => False) s := by
    refine PySem.W.kla_callFunE (body := lamBody) hd hg rfl rfl rfl rfl hcd ?_
    have hb : bindArgs (PySem.W.kla_fn "<lambda>" lamQual lamArgs lamBody lamScope [("remainders", cr)] pm (.ref c) ctv) ⟨[.int (i : Nat) t], []⟩ = pure [((Str.ofString "place"), Value.int (i : Nat) t)] := rfl
    rw [hb]
    refine wpAny_pure (wpAny_newFunctionEnv lam_nocell (by intro y hy; rw [List.mem_singleton] at hy; subst hy; exact lam_place) (fun h1 hns hsb => ⟨?_, ?_⟩) rfl)
    · exact I.nolimit.fresh _ hsb
    · have hk : ∀ b o, s.heap.get? b = some o → h1.get? b = some o := fun b o e => hsb.extBut b o (Nat.ne_of_lt (Heap.lt_size e)) (Heap.get?_push_of_some _ e)
      show codeAny (model X.prog X.w) A (.expr lamBody (lamEnv s.heap.objs.size g c cr)) _ _
      have e0 := I.env0
      have noA : ∀ b : Addr, b ∉ (cxL X A (lamEnv s.heap.objs.size g c cr) s H).ex := fun b z => absurd (show b ∈ ([] : List Addr) from z) (by simp)
      have cells : ∀ y c', (lamEnv s.heap.objs.size g c cr).cells.lookup y = some c' → y = Str.ofString "remainders" ∧ c' = cr := fun y c' e => by
        have e : ([((Str.ofString "remainders"), cr)] : List (Str × Addr)).lookup y = some c' := e
        by_cases q : y = Str.ofString "remainders"
        · subst q
          simp only [List.lookup, beq_self_eq_true] at e
          exact ⟨rfl, (Option.some.inj e).symm⟩
        · have qb : (y == Str.ofString "remainders") = false := beq_eq_false_iff_ne.mpr q
          simp [List.lookup, qb] at e
      have cellR : (lamEnv s.heap.objs.size g c cr).cells.lookup (Str.ofString "remainders") = some cr := by
        show ([((Str.ofString "remainders"), cr)] : List (Str × Addr)).lookup _ = some cr
        simp only [List.lookup, beq_self_eq_true]
      have J : Inv (cxL X A (lamEnv s.heap.objs.size g c cr) s H) [] [some (.int (i : Nat)), some (.ref r)] H { s with heap := h1, toks := s.toks + 1 } := by
        refine ⟨⟨e0.mod, rfl, rfl, rfl, Nat.le_refl _, fun y y' c' q1 q2 => ?_, fun y hy => ?_, (fun y c' q _ => absurd q (by simp [cxL])), fun _ => hh, Around.frames_deeper hA, .inr ⟨rfl, rfl⟩, fun b z => absurd z (noA b), e0.bs, e0.bsz, fun b _ _ => noA b, fun b z => absurd z (noA b), e0.funs, e0.frf⟩,
          rfl, e0.bare, Un.kept hk, ⟨_, hns, fun j y v q1 q2 q3 => ?_⟩, fun y c' q => ?_, I.hok.fresh (Nat.le_refl _), fun y c' q => ?_, fun p hp => absurd (show p ∈ ([] : List (Addr × Obj)) from hp) (by simp), I.hok.kept hk, rfl⟩
        · exact (cells y c' q1).1.trans (cells y' c' q2).1.symm
        · have hy' : lamScope.names.lookup y = some .cell ∨ lamScope.names.lookup y = some .free := hy
          have ey : y = Str.ofString "remainders" := by
            rcases hy' with q | q
            · exact lam_other (y, _) (PySem.mem_of_lookup q) (.inl rfl)
            · exact lam_other (y, _) (PySem.mem_of_lookup q) (.inr rfl)
          subst ey
          exact ⟨cr, cellR⟩
        · match j, q1, q2 with
          | 0, q1, q2 =>
            have ey : Str.ofString "place" = y := Option.some.inj q1
            have ev : V.int (i : Nat) = v := Option.some.inj (Option.some.inj q2)
            subst ey ev
            refine ⟨.int (i : Nat) t, ⟨t, rfl⟩, .inl ⟨lam_place, ?_⟩⟩
            show ([((Str.ofString "place"), Value.int (i : Nat) t)] : List (Str × Value)).reverse.lookup _ = _
            simp only [List.reverse_cons, List.reverse_nil, List.nil_append, List.lookup, beq_self_eq_true]
          | 1, q1, q2 =>
            have ey : Str.ofString "remainders" = y := Option.some.inj q1
            have ev : V.ref r = v := Option.some.inj (Option.some.inj q2)
            subst ey ev
            exact ⟨u, ru, .inr ⟨.inr lam_free, cr, cellR, hcell.keeps hk⟩⟩
          | j + 2, q1, q2 => simp at q2
        · obtain ⟨_, rfl⟩ := cells y c' q
          exact ⟨_, hcell.keeps hk⟩
        · obtain ⟨_, rfl⟩ := cells y c' q
          exact hHc
      have pe : PE (cxL X A (lamEnv s.heap.objs.size g c cr) s H) lamBody _ := pe_tup (pa_cons (pe_un un_neg (pe_ix ix_list (pv 1) (pv 0) (fun _ _ => rfl))) (pa_cons (pv 0) pa_nil))
      refine PySem.W.kla_codeExpr ?_
      refine wpAny_mono (pe [] _ _ H Q J ?_) (fun v s' h => ?_) fun _ _ z => False.elim z
      · exact ⟨_, rfl, _, rfl, r, _, _, _, rfl, rfl, SqL.of hr, at_of (j := i) rfl (by rw [List.getElem?_map, hz]; rfl), _, rfl, _, rfl, by show 2 ≤ sizeLine; decide, fun p hp => k p hp⟩
      · obtain ⟨x, H', J', rx, q⟩ := h
        exact ⟨x, H', J'.os, J'.bare, J'.base, J'.hok, rx, q⟩
  refine wpAny_call (codeAny_mono run fun r' s' h => ?_)
  cases r' with
  | error e => exact False.elim h
  | ok fl =>
    cases fl with
    | ret v => exact I.after h
    | next => exact False.elim h
    | brk => exact False.elim h
    | cont => exact False.elim h
end Fs
end
section
set_option Elab.async false
set_option linter.all false
set_option maxRecDepth 100000
set_option maxHeartbeats 2000000
/-! sorted(range(n), key = the lambda) -/
namespace Fs
open PySem PySem.Spec PyProof.Rows L2
section
variable {prog : Program} {w : World} {A : Around} {E : Value → Shared → Prop} {s : Shared}
theorem collect_rng {r : Addr} {n : Nat} {t u v : Tok} {Q : List Value → Shared → Prop} (hh : A.handled = none) (hr : IsRange s.heap r 0 n 1 t u v) (hlen : n ≤ 2 ^ 24)
    (h : ∀ h' tk (acc : Array Value), (∀ b o, s.heap.get? b = some o → h'.get? b = some o) → ItemsOf (fun i v => ∃ t, v = .int (0 + i * 1) t) acc n → Q acc.toList { s with heap := h', toks := tk }) :
    wpAny (model prog w) A (collect (.ref r)) Q E s := by
  unfold collect
  refine wpAny_bind (wpAny_runValue (codeAny_builtin entry_proto_collect' ?_))
  rw [Around.under_plainId F.plain_proto_collect _]
  show wpAny _ A.in1 (newList [] >>= fun l => again (.builtin "list.__iadd__" ⟨[l, .ref r], []⟩)) _ _ s
  refine wpAny_bind (wpAny_newList (wpAny_pure ⟨plainId_quiet F.plain_list_iadd _, codeAny_builtin F.entry_list_iadd ?_⟩))
  rw [Around.under_plainId F.plain_list_iadd _]
  show wpAny _ A.in1 (Builtin.List.listExtendWith (.ref s.heap.objs.size) (.ref r) (.ref s.heap.objs.size)) _ _ { s with heap := s.heap.push (seqObj "list" #[] 0) }
  have hn : Builtin.Range.rangeSize 0 n 1 = n := by rw [rangeSize_one]; split <;> omega
  have fin : ∀ r' s', (r' = (.ok (.ret (.ref s.heap.objs.size)) : Result) ∧ ∃ h' tk acc c, s' = { s with heap := h', toks := tk } ∧ (∀ b o, s.heap.get? b = some o → h'.get? b = some o) ∧
      h'.get? s.heap.objs.size = some { cls := .type "list", dict := none, data := .seq acc c, slots := #[] } ∧ ItemsOf (fun i v => ∃ t, v = .int (0 + i * 1) t) acc n) →
      wpAny (model prog w) A (do
        let o ← load s.heap.objs.size
        match o.data with
        | .seq xs _ => pure xs.toList
        | _ => unsupported "internal:collect") Q E s' := by
    rintro r' s' ⟨_, h', tk, acc, c, rfl, hk, hS, hi⟩
    exact wpAny_bind (wpAny_load hS (wpAny_pure (h h' tk acc hk hi)))
  refine wpAny_mono (wpAny_extend_range (prog := prog) (w := w) (A := A) (s := { s with heap := s.heap.push (seqObj "list" #[] 0) })
    (R := fun r' s' => r' = (.ok (.ret (.ref s.heap.objs.size)) : Result) ∧ ∃ h' tk acc c, s' = { s with heap := h', toks := tk } ∧ (∀ b o, s.heap.get? b = some o → h'.get? b = some o) ∧
      h'.get? s.heap.objs.size = some { cls := .type "list", dict := none, data := .seq acc c, slots := #[] } ∧ ItemsOf (fun i v => ∃ t, v = .int (0 + i * 1) t) acc n)
    hh (Heap.get?_push_of_some _ hr) (small_one (by omega) (by omega) (by omega) (by omega)) hn hlen s.heap.objs.size (.ref s.heap.objs.size) 0 (Heap.get?_push_size _ rfl) fun h' tk acc c hk hS hi =>
      ⟨rfl, h', tk, acc, c, rfl, fun b o e => hk b o (Nat.ne_of_lt (Heap.lt_size e)) (Heap.get?_push_of_some _ e), hS, hi⟩) (fun fn s' q => ?_) (fun e s' q => ?_)
  · cases fn with
    | done f =>
      obtain ⟨q1, q2⟩ := q
      have q1' : f = .ret (.ref s.heap.objs.size) := by injection q1
      subst q1'
      exact fin _ s' ⟨rfl, q2⟩
    | again c' =>
      refine ⟨q.1, codeAny_mono q.2 fun r' s'' q2 => ?_⟩
      obtain ⟨q1, q2⟩ := q2
      subst q1
      exact fin _ s'' ⟨rfl, q2⟩
  · obtain ⟨q1, _⟩ := q
    cases q1
end
section
variable {X : Cx} {pins : List (Addr × Obj)} {σ : L2.St} {H H0 : Hp} {s : Shared}
/-- a list of ours that was left out is taken in -/
theorem adopt {a : Addr} {xs : Array Value} {n : Nat} {ys : List V} {its : List Value} {f : Array Value → Array Value} {t' : Nat} (I : Inv X pins σ H s) (fp : FpOk X pins H a) (e : s.heap.get? a = some (seqObj "list" xs n))
    (hf : f xs = its.toArray) (hv : Vals ys its) (hz : ys.length ≤ sizeLine) : Inv X pins σ (upd H a (.lst ys)) { s with heap := s.heap.update a (Obj.mapSeq f), toks := t' } := by
  obtain ⟨f0, f1, f2, f3, f4, f5⟩ := fp
  have na : ∀ b o, H b = some o → b ≠ a := fun b o q z => by rw [z, f0] at q; cases q
  have ot : ∀ b, b ≠ a → (s.heap.update a (Obj.mapSeq f)).get? b = s.heap.get? b := fun b hb => Heap.get?_update_other s.heap (Obj.mapSeq f) (Ne.symm hb)
  obtain ⟨m, me⟩ : ∃ m, (s.heap.update a (Obj.mapSeq f)).get? a = some { cls := .type "list", data := .seq (f xs) m } := ⟨_, get?_update_seq e f⟩
  have mem : ∀ b, b ∉ [a] → b ≠ a := fun b hb z => hb (by simp [z])
  refine I.step (g' := s.gens) (d' := s.drawn) (ch := [a]) (fun b hb => ?_) (fun b o _ _ hc q _ => (ot b (mem b hc)).trans q) (fun b o _ _ hc q _ => ⟨o.slots, (ot b (mem b hc)).trans q⟩)
    (fun b o hc _ q => by rw [upd_ne (mem b hc)]; exact q) (fun b o hc q => ⟨o, (ot b (mem b hc)).trans q⟩) (fun b xs q => by rw [upd_ne (na b _ q)]; exact q) (fun b o u q => by rw [upd_ne (na b _ q)]; exact q)
    (fun b ps q => ⟨#[], by rw [upd_ne (na b _ q), q]; simp⟩) (fun m hm => ?_) (fun b u q => ?_) I.bare
  · have q : b = a := by simpa using hb
    subst q
    exact ⟨f3, f1, f4, f5⟩
  · obtain ⟨o, es, ep, ho, r⟩ := hm
    exact ⟨o, es, ep, (ot _ (Ne.symm f1)).trans ho, r⟩
  · by_cases hb : b = a
    · subst hb
      rw [upd_same] at q
      have q' : HO.lst ys = u := Option.some.inj q
      subst q'
      exact ⟨hz, its, m, hv, by rw [me, hf]⟩
    · rw [upd_ne hb] at q
      refine (I.hok b u q).stay (fun c v hc q' => (ot c ?_).trans q') (fun c q' => by rw [upd_ne (na c _ q')]; exact q') fun c xs q' => by rw [upd_ne (na c _ q')]; exact q'
      rcases hc with rfl | hc
      · exact hb
      · exact na c _ hc
/-! ### the order that comes out -/
theorem key_num {h : Heap} {T : Addr} {x y : Int} {t u : Tok} {n : Nat} {o : Obj} (ho : h.get? T = some o) (hc : o.cls = .type "tuple") (hd : o.data = .seq #[.int x t, .int y u] n) : G.tupKeyC h (fun _ => false) (.ref T) = some [Sum.inl x, Sum.inl y] := by
  unfold G.tupKeyC
  have e1 : G.isTupObj h (.ref T) = true := by simp [G.isTupObj, ho, hc]
  rw [if_pos e1]
  simp only [tupKey, ho, hd]
  simp [tupItems]
theorem lex2 {a b c d : Int} : lexLt itemOrd [Sum.inl c, Sum.inl d] [Sum.inl a, Sum.inl b] = false → a < c ∨ (a = c ∧ b ≤ d) := by
  intro h
  obtain ⟨h1, h2⟩ := lex_false.mp h
  have h1' : ¬ c < a := by
    have : decide (c < a) = false := h1
    simpa using this
  rcases h2 with h2 | h2
  · have : decide (a < c) = true := h2
    exact .inl (by simpa using this)
  · obtain ⟨h3, _⟩ := lex_false.mp h2
    have h3' : ¬ d < b := by
      have : decide (d < b) = false := h3
      simpa using this
    omega
/-- places, ranked by z from the greatest down, the earlier first -/
def Ranked (z : Nat → Int) (n : Nat) (ns : List Nat) : Prop := ns.Perm (List.range n) ∧ ns.Pairwise fun x y => z y < z x ∨ (z x = z y ∧ x < y)
theorem nat_of_num {v : Value} {j : Nat} {t : Tok} (h : v = .int (j : Nat) t) : (numOf v).toNat = j := by
  subst h
  show Int.toNat (j : Int) = j
  omega
theorem ranked_of {h : Heap} {z : Nat → Int} {n : Nat} {Ts : List Addr} {vs : List Value} {arr : Array Keyed} (hl : Ts.length = n) (hvl : vs.length = n) (hvi : ∀ (j : Nat) v, vs[j]? = some v → ∃ t, v = .int (j : Nat) t)
    (hT : ∀ (j : Nat) T, Ts[j]? = some T → G.tupKeyC h (fun _ => false) (.ref T) = some [Sum.inl (-(z j)), Sum.inl (j : Int)])
    (hp : arr.Perm ((Ts.map Value.ref).toArray.zip vs.toArray)) (hs : SortedToK (G.tupKindC h fun _ => false) arr arr.size) :
    ∃ ns : List Nat, Ranked z n ns ∧ Vals (natsV ns) (arr.map (·.2)).toList := by
  have hpl : arr.toList.Perm ((Ts.map Value.ref).zip vs) := by
    have := Array.perm_iff_toList_perm.mp hp
    simpa using this
  have all : ∀ p ∈ (Ts.map Value.ref).zip vs, ∃ (j : Nat) (t : Tok), p.2 = .int (j : Nat) t ∧ j < n ∧ (G.tupKindC h fun _ => false).keyOf p.1 = some [Sum.inl (-(z j)), Sum.inl (j : Int)] := by
    intro p hp
    obtain ⟨j, hj⟩ := List.getElem?_of_mem hp
    rw [List.getElem?_zip_eq_some] at hj
    obtain ⟨h1, h2⟩ := hj
    obtain ⟨t, ht⟩ := hvi j p.2 h2
    rw [List.getElem?_map] at h1
    cases hTj : Ts[j]? with
    | none => rw [hTj] at h1; cases h1
    | some T =>
      rw [hTj] at h1
      have h1' : Value.ref T = p.1 := Option.some.inj h1
      refine ⟨j, t, ht, ?_, ?_⟩
      · rw [← hl]; exact (List.getElem?_eq_some_iff.mp hTj).1
      · rw [← h1']; exact hT j T hTj
  refine ⟨arr.toList.map fun p => (numOf p.2).toNat, ⟨?_, ?_⟩, ?_⟩
  · have e : ((Ts.map Value.ref).zip vs).map (fun p : Keyed => (numOf p.2).toNat) = List.range n := by
      apply List.ext_getElem
      · simp [hl, hvl]
      · intro i h1 h2
        rw [List.getElem_map, List.getElem_range, List.getElem_zip]
        have hi : i < vs.length := by rw [hvl]; simpa using h2
        obtain ⟨t, ht⟩ := hvi i vs[i] (List.getElem?_eq_getElem hi)
        exact nat_of_num ht
    rw [← e]
    exact hpl.map _
  · have nd : (arr.toList.map fun p : Keyed => (numOf p.2).toNat).Nodup := by
      have e : (arr.toList.map fun p : Keyed => (numOf p.2).toNat).Perm (List.range n) := by
        have e : ((Ts.map Value.ref).zip vs).map (fun p : Keyed => (numOf p.2).toNat) = List.range n := by
          apply List.ext_getElem
          · simp [hl, hvl]
          · intro i h1 h2
            rw [List.getElem_map, List.getElem_range, List.getElem_zip]
            have hi : i < vs.length := by rw [hvl]; simpa using h2
            obtain ⟨t, ht⟩ := hvi i vs[i] (List.getElem?_eq_getElem hi)
            exact nat_of_num ht
        rw [← e]
        exact hpl.map _
      exact e.nodup_iff.mpr List.nodup_range
    rw [List.pairwise_iff_getElem]
    intro i j hi hj hij
    have hi' : i < arr.size := by simpa using hi
    have hj' : j < arr.size := by simpa using hj
    have q := hs i j (Nat.le_of_lt hij) hj'
    obtain ⟨x, t, ex, _, kx⟩ := all arr.toList[i] (hpl.mem_iff.mp (List.getElem_mem (by simpa using hi')))
    obtain ⟨y, u, ey, _, ky⟩ := all arr.toList[j] (hpl.mem_iff.mp (List.getElem_mem (by simpa using hj')))
    have k1 : KK (G.tupKindC h fun _ => false) arr i = [Sum.inl (-(z x)), Sum.inl (x : Int)] := by
      unfold KK
      rw [← Array.getElem?_toList, List.getElem?_eq_getElem (by simpa using hi')]
      dsimp only
      have kx' : G.tupKeyC h (fun _ => false) arr.toList[i].1 = _ := kx
      rw [kx']; rfl
    have k2 : KK (G.tupKindC h fun _ => false) arr j = [Sum.inl (-(z y)), Sum.inl (y : Int)] := by
      unfold KK
      rw [← Array.getElem?_toList, List.getElem?_eq_getElem (by simpa using hj')]
      dsimp only
      have ky' : G.tupKeyC h (fun _ => false) arr.toList[j].1 = _ := ky
      rw [ky']; rfl
    rw [k1, k2] at q
    have q' := lex2 q
    rw [List.getElem_map, List.getElem_map, nat_of_num ex, nat_of_num ey]
    have ne : x ≠ y := by
      intro e
      have ee : (arr.toList.map fun p : Keyed => (numOf p.2).toNat)[i] = (arr.toList.map fun p : Keyed => (numOf p.2).toNat)[j] := by rw [List.getElem_map, List.getElem_map, nat_of_num ex, nat_of_num ey, e]
      have := (List.getElem_inj nd).mp ee
      omega
    rcases q' with q' | ⟨q1, q2⟩
    · exact .inl (by omega)
    · refine .inr ⟨by omega, ?_⟩
      have : (x : Int) ≤ y := q2
      omega
  · have ev : (arr.map (·.2)).toList = arr.toList.map (·.2) := Array.toList_map ..
    rw [ev]
    unfold natsV
    rw [List.map_map, List.map_map]
    have gen : ∀ l : List Keyed, (∀ p ∈ l, ∃ (j : Nat) (t : Tok), p.2 = .int (j : Nat) t) → Vals (l.map (V.int ∘ (fun n : Nat => (n : Int)) ∘ fun p : Keyed => (numOf p.2).toNat)) (l.map (·.2)) := by
      intro l
      induction l with
      | nil => intro _; exact .nil
      | cons p r ih =>
        intro hl
        obtain ⟨j, t, e⟩ := hl p (List.mem_cons_self)
        refine .cons ⟨t, ?_⟩ (ih fun q hq => hl q (List.mem_cons_of_mem _ hq))
        show p.2 = Value.int ((numOf p.2).toNat : Int) t
        rw [nat_of_num e]
        exact e
    exact gen _ fun p hp => by
      obtain ⟨j, t, e, _⟩ := all p (hpl.mem_iff.mp hp)
      exact ⟨j, t, e⟩
end
end Fs
end
section
set_option Elab.async false
set_option linter.all false
set_option maxRecDepth 100000
set_option maxHeartbeats 2000000
namespace Fs
open PySem PySem.Spec PyProof.Rows L2
section
variable {X : Cx} {pins : List (Addr × Obj)} {σ : L2.St} {H H0 : Hp} {s : Shared} {a kS : Addr} {e1 n : Nat} {z : Nat → Int} {vs : List Value} {A : Around} {P : PySem.Fin → Shared → Prop} {E : Value → Shared → Prop}
/-- the working list, set aside -/
abbrev aside (a : Addr) (e1 : Nat) : List (Addr × Obj) := [(a, seqObj "list" #[] e1)]
theorem refs_of {Ts : List Addr} : ∀ {its : List Value}, Vals (Ts.map V.ref) its → its = Ts.map Value.ref := by
  induction Ts with
  | nil => intro its h; cases h; rfl
  | cons T r ih =>
    intro its h
    cases h with
    | cons h1 h2 =>
      cases h1
      rw [ih h2]; rfl
theorem vals_refs (Ts : List Addr) : Vals (Ts.map V.ref) (Ts.map Value.ref) := by
  induction Ts with
  | nil => exact .nil
  | cons T r ih => exact .cons rfl ih
/-- a tuple of two ints, as it lies -/
theorem tup_at {T : Addr} {x y : Int} (I : Inv X pins σ H s) (h : H T = some (.tup [.int x, .int y])) : G.tupKeyC s.heap (fun _ => false) (.ref T) = some [Sum.inl x, Sum.inl y] ∧ ∃ t : Tok, TupOf s.heap (fun _ => false) (.ref T) (.int x t) := by
  obtain ⟨_, its, rv, p⟩ := I.hok T _ h
  obtain ⟨u1, u2, rfl, ⟨t, rfl⟩, ⟨u, rfl⟩⟩ := vals2 rv
  obtain ⟨o, ho, hc, m, hd⟩ := p
  exact ⟨key_num ho hc hd, t, T, o, _, m, rfl, ho, hc, hd, rfl, fun _ => ⟨_, _, rfl⟩, fun e => absurd e (by decide)⟩
theorem sk_tail {st : SortSt} {Ts : List Addr} (I : Inv X (pins ++ aside a e1) σ H s) (fp : FpOk X pins H0 a) (sm : Same H0 H) (h0 : H0 kS = none) (hk : H kS = some (.lst (Ts.map V.ref))) (hl : Ts.length = n) (hvl : vs.length = n) (hn : n ≤ 2 ^ 20)
    (hvi : ∀ (j : Nat) v, vs[j]? = some v → ∃ t, v = .int (j : Nat) t) (hT : ∀ (j : Nat) T, Ts[j]? = some T → H T = some (.tup [.int (-(z j)), .int (j : Nat)]))
    (hp : (arrOf st).Perm ((Ts.map Value.ref).toArray.zip vs.toArray)) (hs : SortedToK (G.tupKindC s.heap fun _ => false) (arrOf st) (arrOf st).size) (hfl : failedOf st = none)
    (k : ∀ (ns : List Nat) (H' : Hp) (s' : Shared), Ranked z n ns → Same H0 H' → (∀ l, H' l = none → H0 l = none) → H0 a = none → H' a = some (.lst (natsV ns)) → Inv X pins σ H' s' → P (.done (.ret .none)) s') :
    wpAny (model X.prog X.w) A (ksk_tail a false e1 (.ref kS) st) P E s := by
  have sl : n ≤ sizeLine := Nat.le_trans hn (by rw [sizeLine_eq]; decide)
  obtain ⟨ns, hr, hv⟩ := ranked_of (h := s.heap) (z := z) hl hvl hvi (fun j T e => (tup_at I (hT j T e)).1) hp hs
  obtain ⟨_, its, m, rv, el, e⟩ := I.lstM hk
  obtain ⟨pa, pn, _⟩ := I.pin (a, seqObj "list" #[] e1) (List.mem_append_right _ (List.mem_append_right _ (.head _)))
  have hka : kS ≠ a := fun q => by rw [q, pn] at hk; cases hk
  have szo : ((arrOf st).map (·.2)).size = n := by
    rw [Array.size_map, hp.size_eq, Array.size_zip, List.size_toArray, List.size_toArray, List.length_map, hl, hvl, Nat.min_self]
  have hns : (natsV ns).length = n := by
    have := hr.1.length_eq
    unfold natsV
    rw [List.length_map, List.length_map, this, List.length_range]
  unfold ksk_tail
  dsimp only
  refine wpAny_bind (listUpdate_at (xs := its.toArray) (n := m) e rfl ?_ (by rw [List.size_toArray, ← el, List.length_map, hl]; rw [sizeLine_eq]; omega) (Nat.zero_le _))
  have I1 : Inv X (pins ++ aside a e1) σ (upd H kS (.lst [])) { s with heap := s.heap.update kS (Obj.mapSeq fun _ => #[]) } := I.lset (its' := []) (t' := s.toks) hk e rfl .nil (Nat.zero_le _)
  refine wpAny_bind (wpAny_letGo ?_)
  obtain ⟨pa1, pn1, _⟩ := I1.pin (a, seqObj "list" #[] e1) (List.mem_append_right _ (List.mem_append_right _ (.head _)))
  refine wpAny_bind (seqEpoch_at pa1 rfl ?_)
  refine wpAny_bind (listUpdate_at pa1 rfl ?_ (Nat.zero_le _) (by rw [if_neg (by decide), szo]; rw [sizeLine_eq]; omega))
  rw [hfl]
  simp only [bne_self_eq_false, Bool.false_eq_true, if_false]
  have I2 : Inv X pins σ (upd H kS (.lst [])) { s with heap := s.heap.update kS (Obj.mapSeq fun _ => #[]) } := I1.pins_of fun p hp => I1.pin p (List.mem_append_right _ (List.mem_append_left _ hp))
  have fp2 : FpOk X pins (upd H kS (.lst [])) a := ⟨by rw [upd_ne (Ne.symm hka)]; exact pn, fp.2⟩
  have I3 := adopt (t' := s.toks) (f := fun _ => (arrOf st).map (·.2)) (its := ((arrOf st).map (·.2)).toList) I2 fp2 pa1 (Array.toArray_toList ..).symm hv (by rw [hns]; exact sl)
  have sm2 : Same H0 (upd (upd H kS (.lst [])) a (.lst (natsV ns))) := fun b o q => by
    rw [upd_ne (ne_of_none q fp.1), upd_ne (ne_of_none q h0)]
    exact sm b o q
  exact wpAny_pure (k ns _ _ hr sm2 (fun l q => sm2.free q) fp.1 upd_same I3)
theorem sk_end {Ts : List Addr} (I : Inv X (pins ++ aside a e1) σ H s) (fp : FpOk X pins H0 a) (sm : Same H0 H) (h0 : H0 kS = none) (hk : H kS = some (.lst (Ts.map V.ref))) (hl : Ts.length = n) (hvl : vs.length = n) (hn : n ≤ 2 ^ 20)
    (hvi : ∀ (j : Nat) v, vs[j]? = some v → ∃ t, v = .int (j : Nat) t) (hT : ∀ (j : Nat) T, Ts[j]? = some T → H T = some (.tup [.int (-(z j)), .int (j : Nat)]))
    (k : ∀ (ns : List Nat) (H' : Hp) (s' : Shared), Ranked z n ns → Same H0 H' → (∀ l, H' l = none → H0 l = none) → H0 a = none → H' a = some (.lst (natsV ns)) → Inv X pins σ H' s' → P (.done (.ret .none)) s') :
    wpAny (model X.prog X.w) A (ksk_end a false vs.toArray e1 (.ref kS) (Ts.map Value.ref).toArray) P E s := by
  have zsz : ((Ts.map Value.ref).toArray.zip vs.toArray).size = n := by rw [Array.size_zip, List.size_toArray, List.size_toArray, List.length_map, hl, hvl, Nat.min_self]
  have tl : ∀ T ∈ Ts, ∃ x y : Int, H T = some (.tup [.int x, .int y]) := fun T hT' => by
    obtain ⟨j, hj⟩ := List.getElem?_of_mem hT'
    exact ⟨_, _, hT j T hj⟩
  have tups : ∀ l : List Addr, (∀ T ∈ l, ∃ x y : Int, H T = some (.tup [.int x, .int y])) → ∃ fs, TupsOf s.heap (fun _ => false) (l.map Value.ref) fs := by
    intro l
    induction l with
    | nil => intro _; exact ⟨[], .nil⟩
    | cons T r ih =>
      intro hl'
      obtain ⟨fs, hf⟩ := ih fun T' h' => hl' T' (List.mem_cons_of_mem _ h')
      obtain ⟨x, y, e⟩ := hl' T List.mem_cons_self
      obtain ⟨_, t, q⟩ := tup_at I e
      exact ⟨_, .cons q hf⟩
  unfold ksk_end
  simp only [Bool.false_eq_true, if_false]
  by_cases h2 : vs.toArray.size < 2
  · rw [if_pos h2, if_pos h2]
    rw [List.size_toArray, hvl] at h2
    refine wpAny_bind (wpAny_pure ?_)
    rw [StateT.run_pure]
    refine wpAny_bind (wpAny_pure ?_)
    dsimp only
    refine sk_tail (st := SortSt.mk' general' ((Ts.map Value.ref).toArray.zip vs.toArray) #[] 7 none) I fp sm h0 hk hl hvl hn hvi hT (Array.Perm.refl _) ?_ rfl k
    intro i j hij hj
    have hj' : j < ((Ts.map Value.ref).toArray.zip vs.toArray).size := hj
    rw [zsz] at hj'
    have : i = j := by omega
    subst this
    exact KeyOrd.kle_refl _
  · rw [if_neg h2, if_neg h2]
    rw [List.size_toArray, hvl] at h2
    obtain ⟨fs, hf⟩ := tups Ts tl
    have hfl : fs.length = Ts.length := by rw [G.TupsOf.length hf, List.length_map]
    refine wpAny_bind (tup_kind (s := s) (by omega) hf ?_)
    have hkeys : KeysOf (G.tupKindC s.heap fun _ => false) ((Ts.map Value.ref).toArray.zip vs.toArray) := by
      intro p hp
      have hp' : p ∈ (Ts.map Value.ref).zip vs := by simpa using hp
      have hm := (List.of_mem_zip (a := p.1) (b := p.2) hp').1
      obtain ⟨T, hT1, e⟩ := List.mem_map.mp hm
      obtain ⟨x, y, q⟩ := tl T hT1
      exact ⟨_, by rw [← e]; exact (tup_at I q).1⟩
    refine wpAny_bind (wpAny_mono (G.wpS_sortRunsSt (κ := G.tupKindC s.heap fun _ => false) (kd := tuples' true) (a₀ := (Ts.map Value.ref).toArray.zip vs.toArray) (st := SortSt.mk' (tuples' true) ((Ts.map Value.ref).toArray.zip vs.toArray) #[] 7 none)
      (Q := fun _ st' => (arrOf st').Perm ((Ts.map Value.ref).toArray.zip vs.toArray) ∧ failedOf st' = none ∧ SortedToK (G.tupKindC s.heap fun _ => false) (arrOf st') ((Ts.map Value.ref).toArray.zip vs.toArray).size)
      (G.tupC_ltAt (s := s) true (G.KeepsTups.refl _)) hkeys ⟨Array.Perm.refl _, rfl, rfl⟩ rfl (Stable.refl _) (by rw [zsz]; omega) fun st' a1 a2 a3 _ => ⟨a1, a2, a3⟩) ?_ fun _ _ e => e)
    rintro ⟨⟨⟩, st'⟩ s' ⟨rfl, hp, hf', hs⟩
    dsimp only
    exact sk_tail I fp sm h0 hk hl hvl hn hvi hT hp (by rw [hp.size_eq]; exact hs) hf' k
theorem sk_rest {f : Value} (I : Inv X (pins ++ aside a e1) σ (upd H0 kS (.lst [])) s) (fp : FpOk X pins H0 a) (h0 : H0 kS = none) (hvl : vs.length = n) (hn : n ≤ 2 ^ 20) (hvi : ∀ (j : Nat) v, vs[j]? = some v → ∃ t, v = .int (j : Nat) t)
    (turn : ∀ (s' : Shared) (H' : Hp) (j : Nat) (t : Tok) (Q : VK), Inv X (pins ++ aside a e1) σ H' s' → Same H0 H' → j < n → (∀ T, H' T = none → Q (.ref T) (upd H' T (.tup [.int (-(z j)), .int (j : Nat)]))) →
      wpAny (model X.prog X.w) A (call f [.int (j : Nat) t]) (EP X (pins ++ aside a e1) σ Q) (fun _ _ => False) s')
    (k : ∀ (ns : List Nat) (H' : Hp) (s' : Shared), Ranked z n ns → Same H0 H' → (∀ l, H' l = none → H0 l = none) → H0 a = none → H' a = some (.lst (natsV ns)) → Inv X pins σ H' s' → P (.done (.ret .none)) s') :
    wpAny (model X.prog X.w) A (ksk_rest a f false vs.toArray e1 (.ref kS)) P E s := by
  unfold ksk_rest
  refine wpAny_bind (wpAny_rule ?_)
  rw [List.forIn_toArray]
  refine wpAny_bind (ksk_fold (fun i s' => ∃ (H' : Hp) (Ts : List Addr), Inv X (pins ++ aside a e1) σ H' s' ∧ Same H0 H' ∧ H' kS = some (.lst (Ts.map V.ref)) ∧ Ts.length = i ∧ ∀ (j : Nat) T, Ts[j]? = some T → H' T = some (.tup [.int (-(z j)), .int (j : Nat)])) vs 0 s
    ⟨_, [], I, Same.new h0, upd_same, rfl, fun j T q => by simp at q⟩ ?step ?done)
  case step =>
    rintro j x s' hx ⟨H', Ts, I', sm, hk, hl, hT⟩
    rw [Nat.zero_add] at hl ⊢
    have hj : j < n := by rw [← hvl]; exact (List.getElem?_eq_some_iff.mp hx).1
    obtain ⟨t, rfl⟩ := hvi j x hx
    refine wpAny_bind (wpAny_attempt (wpAny_mono (turn s' H' j t (fun v H2 => ∃ T, v = .ref T ∧ H' T = none ∧ H2 = upd H' T (.tup [.int (-(z j)), .int (j : Nat)])) I' sm hj fun T nT => ⟨T, rfl, nT, rfl⟩) (fun v s2 he => ?_) fun _ _ q => q.elim))
    obtain ⟨v', H2, I2, rv, T, rfl, nT, rfl⟩ := he
    cases rv
    dsimp only
    have hkT : kS ≠ T := ne_of_none hk nT
    have hk2 : upd H' T (.tup [.int (-(z j)), .int (j : Nat)]) kS = some (.lst (Ts.map V.ref)) := by rw [upd_ne hkT]; exact hk
    obtain ⟨_, its, m, rv, el, e⟩ := I2.lstM hk2
    have eits := refs_of rv
    subst eits
    refine wpAny_bind (listUpdate_at (xs := (Ts.map Value.ref).toArray) (n := m) e rfl ?_ (by rw [List.size_toArray, List.length_map, hl, sizeLine_eq]; omega) (by rw [Array.size_push, List.size_toArray, List.length_map, hl, sizeLine_eq]; omega))
    have I3 := I2.lset (its' := (Ts ++ [T]).map Value.ref) (ys := (Ts ++ [T]).map V.ref) (f := (·.push (.ref T))) (t' := s2.toks) hk2 e (by simp) (vals_refs _) (by rw [List.length_map, List.length_append, hl, sizeLine_eq]; simp; omega)
    refine wpAny_pure ⟨rfl, _, Ts ++ [T], I3, fun b o q => ?_, upd_same, by rw [List.length_append, hl]; rfl, fun i T' q => ?_⟩
    · rw [upd_ne (ne_of_none q h0), upd_ne (ne_of_none (sm b o q) nT)]
      exact sm b o q
    · have nk : ∀ xs, upd H' T (.tup [.int (-(z j)), .int (j : Nat)]) T' = some (.tup xs) → T' ≠ kS := fun xs q1 q2 => by rw [q2, hk2] at q1; cases q1
      by_cases hi : i < Ts.length
      · rw [List.getElem?_append_left hi] at q
        have q3 := hT i T' q
        have q4 : upd H' T (.tup [.int (-(z j)), .int (j : Nat)]) T' = some (.tup [.int (-(z i)), .int (i : Nat)]) := by rw [upd_ne (ne_of_none q3 nT)]; exact q3
        rw [upd_ne (nk _ q4)]
        exact q4
      · rw [List.getElem?_append_right (by omega)] at q
        have hi' : i - Ts.length = 0 := by
          rcases Nat.eq_zero_or_pos (i - Ts.length) with q5 | q5
          · exact q5
          · rw [List.getElem?_eq_none (by simp; omega)] at q; cases q
        rw [hi'] at q
        have eT : T = T' := Option.some.inj q
        subst eT
        have ei : i = j := by omega
        subst ei
        have q4 : upd H' T (.tup [.int (-(z i)), .int (i : Nat)]) T = some (.tup [.int (-(z i)), .int (i : Nat)]) := upd_same
        rw [upd_ne (nk _ q4)]
        exact q4
  case done =>
    rintro s' ⟨H', Ts, I', sm, hk, hl, hT⟩
    rw [Nat.zero_add, hvl] at hl
    obtain ⟨_, its, m, rv, el, e⟩ := I'.lstM hk
    have eits := refs_of rv
    subst eits
    refine wpAny_bind (listItems_at e rfl ?_)
    exact sk_end I' fp sm h0 hk hl hvl hn hvi hT k
end
end Fs
end
section
set_option Elab.async false
set_option linter.all false
set_option maxRecDepth 100000
set_option maxHeartbeats 2000000
namespace Fs
open PySem PySem.Spec PyProof.Rows L2
/-- the lambda as it stands once made -/
def lamX (g c cr : Addr) : HO := .ext fun h => ∃ pm ctv, h.get? g = some (PySem.W.kla_obj "<lambda>" lamQual lamArgs lamBody lamScope [("remainders", cr)] pm c ctv)
section
variable {X : Cx} {pins : List (Addr × Obj)} {σ : L2.St} {H H0 : Hp} {s : Shared} {d : Ad}
/-! ### range(e) as an object -/
def tRng (ta : TA) : TE := fun σ H Q => ta σ H fun vs H1 => ∃ n : Nat, vs = [.int n] ∧ ∀ r, H1 r = none → Q (.ref r) (upd H1 r (.rng 0 n))
theorem pe_rng {a : Expr} {ta : TA} {p pos : Pos} (hg : Gl X "range") (hm : X.mg "range" = none) (ha : PA X [a] ta) (hs : starEach [a] X.env = [(false, eval a X.env)] := by rfl) : PE X (.Call (.Name "range" p) [a] [] pos) (tRng ta) := by
  intro pins s σ H Q I h
  refine Call_ (ld_blt I hg hm boot_range (PyProof.Rows.callWith_type1 (thn (ha pos pins s σ H _ I h) fun us s1 ⟨vs, H1, I1, r1, q1⟩ => ?_) hs rfl))
  obtain ⟨n, rfl, q⟩ := q1
  obtain ⟨u, rfl, t, rfl⟩ := vals1 r1
  refine call_range_1 ⟨.ref _, _, I1.laid (o := .rng 0 n) (fun b o e => Heap.get?_push_of_some _ e) (Nat.le_refl _) ⟨_, _, _, Heap.get?_push_size _ rfl⟩, rfl, q _ I1.fresh⟩
/-! ### the lambda is made -/
/-- the module of built-in names, at the file's top -/
def BM (mg : Str → Option Value) (h : Heap) : Prop := ∃ bm ob, mg "__builtins__" = some (.ref bm) ∧ bm ≠ builtinsNs ∧ h.get? bm = some ob ∧ ob.cls = .type "module" ∧ ob.dict = some builtinsNs ∧ ob.data = .plain
theorem closure_lam {env : Env} {cr : Addr} (h : env.cells.lookup (Str.ofString "remainders") = some cr) : closureFor lamScope env = pure [(Str.ofString "remainders", cr)] := by
  have e : lamScope.names = [(Str.ofString "place", NameKind.local), (Str.ofString "remainders", NameKind.free)] := rfl
  have hc : cellOf env (Str.ofString "remainders") = pure cr := by unfold cellOf; rw [h]
  unfold closureFor
  rw [e]
  simp only [List.forIn_cons, List.forIn_nil]
  rw [if_neg (by decide)]
  simp only [hc, pure_bind]
  rw [if_pos (by decide)]
  simp only [pure_bind]
def tLam (d : Ad) (cr : Addr) : TE := fun _ H Q => TabOk d H ∧ ∀ g c H', Gr d H H' → H g = none → H' g = some (lamX g c cr) → H' c = some (codeX c) → Q (.ref g) H'
theorem lam_ok {P : Program} {w : World} {h : Heap} {g c cr : Addr} {pm ctv : Value} (e : h.get? g = some (PySem.W.kla_obj "<lambda>" lamQual lamArgs lamBody lamScope [("remainders", cr)] pm c ctv)) : ObjOk P w H h g (lamX g c cr) :=
  ⟨⟨pm, ctv, e⟩, ⟨_, e⟩, fun h1 h2 ⟨pm', ctv', e'⟩ k => ⟨pm', ctv', k _ e'⟩⟩
theorem codeX_ok {P : Program} {w : World} {h : Heap} {c : Addr} (e : h.CodeRec (.ref c) lamQual) : ObjOk P w H h c (codeX c) := by
  refine ⟨e, ?_, fun h1 h2 e1 k => ?_⟩
  · obtain ⟨c', oc, vs, t, q, ho, _⟩ := e
    cases q
    exact ⟨oc, ho⟩
  · obtain ⟨c', oc, vs, t, q, ho, r⟩ := e1
    cases q
    exact ⟨c, oc, vs, t, rfl, k _ ho, r⟩
theorem pe_lam {cc cr : Addr} (hcode : X.env.code = .ref cc) (C : PySem.W.CodeHd X.base cc d.tab) (hq : X.env.qual ++ "<lambda>" = lamQual) (hc : X.env.cells.lookup (Str.ofString "remainders") = some cr) (B : BM X.mg X.base) :
    PE X (.Lambda lamArgs lamBody lamScope lamPos) (tLam d cr) := by
  intro pins s σ H Q I h
  obtain ⟨⟨ps, hP, ht, hcase⟩, k⟩ := h
  refine PySem.W.kla_eval rfl ?_
  rw [hq]
  have hg : s.heap.Ns mainGlobals X.mg := I.ok.mod.glob.keeps I.bk
  have hPo : s.heap.get? d.tab = some (PySem.W.tabObj ps) := I.hok d.tab _ hP
  have hgP : mainGlobals ≠ d.tab := fun q => by
    obtain ⟨o, es, ep, e, _⟩ := I.ok.mod.glob
    have := (I.bs mainGlobals o e).2
    rw [q, hP] at this; cases this
  have hb : s.heap.BuiltinsAt X.mg d.tab := by
    obtain ⟨bm, ob, b1, b2, b3, b4, b5, b6⟩ := B
    refine ⟨bm, ob, b1, b2, fun q => ?_, fun q => ?_, I.bk _ _ b3, b4, b5, b6⟩
    · obtain ⟨o, es, ep, e, hd, _⟩ := I.ok.mod.glob
      rw [q, e] at b3; cases b3; rw [hd] at b6; cases b6
    · have := (I.bs bm ob b3).2
      rw [q, hP] at this; cases this
  rcases hcase with hn | ⟨c, hf, hcx⟩
  · refine PySem.W.kla_makeFunction (mg := X.mg) (closure_lam hc) I.ok.glob hg hcode (C.keeps I.bk) hPo ht hn hgP hb fun c' ctv h' tk hx hge hlt hrec htb => ?_
    have fc : H c' = none := I.hok.fresh hge
    have hsz : s.heap.objs.size ≤ h'.objs.size := Nat.le_trans hge (Nat.le_of_lt hlt)
    have fg : H h'.objs.size = none := I.hok.fresh hsz
    have gc : h'.objs.size ≠ c' := Nat.ne_of_gt hlt
    have ct : c' ≠ d.tab := fun q => by rw [q, hP] at fc; cases fc
    have gt : h'.objs.size ≠ d.tab := fun q => by rw [q, hP] at fg; cases fg
    let H' : Hp := upd (upd (upd H d.tab (.tbl (ps ++ #[rawInt lamPos.line, rawInt lamPos.col, .ref c']))) c' (codeX c')) h'.objs.size (lamX h'.objs.size c' cr)
    have other : ∀ b o, H b = some o → b ≠ d.tab → H' b = some o := fun b o e nb => by
      show upd (upd (upd H d.tab _) c' _) h'.objs.size _ b = _
      rw [upd_ne (ne_of_none e fg), upd_ne (ne_of_none e fc), upd_ne nb]
      exact e
    have hgc : H' c' = some (codeX c') := by
      show upd (upd (upd H d.tab _) c' _) h'.objs.size _ c' = _
      rw [upd_ne (Ne.symm gc), upd_same]
    have hgt : H' d.tab = some (.tbl (ps ++ #[rawInt lamPos.line, rawInt lamPos.col, .ref c'])) := by
      show upd (upd (upd H d.tab _) c' _) h'.objs.size _ d.tab = _
      rw [upd_ne (Ne.symm gt), upd_ne (Ne.symm ct), upd_same]
    have hgg : H' h'.objs.size = some (lamX h'.objs.size c' cr) := upd_same
    have old : ∀ b o, b ≠ d.tab → s.heap.get? b = some o → (h'.push (PySem.W.kla_obj "<lambda>" lamQual lamArgs lamBody lamScope [(Str.ofString "remainders", cr)] ((X.mg "__name__").getD .none) c' ctv)).get? b = some o := fun b o nb e => Heap.get?_push_of_some _ (hx b o nb e)
    have nt : ∀ b, H b = none → b ≠ d.tab := fun b e q => by rw [q, hP] at e; cases e
    have lt : ∀ b o, s.heap.get? b = some o → b ≠ c' ∧ b ≠ h'.objs.size := fun b o e => ⟨Nat.ne_of_lt (Nat.lt_of_lt_of_le (Heap.lt_size e) hge), Nat.ne_of_lt (Nat.lt_of_lt_of_le (Heap.lt_size e) hsz)⟩
    have J : Inv X pins σ H' { s with heap := h'.push (PySem.W.kla_obj "<lambda>" lamQual lamArgs lamBody lamScope [(Str.ofString "remainders", cr)] ((X.mg "__name__").getD .none) c' ctv), toks := tk } := by
      refine I.step (g' := s.gens) (d' := s.drawn) (ch := []) (fun _ z => absurd z (by simp)) (fun b o _ _ _ e n => old b o (nt b n) e) (fun b o _ _ _ e n => ⟨o.slots, old b o (nt b n) e⟩) (fun b o _ e n => ?_) (fun b o _ e => ?_)
        (fun b xs e => other b _ e fun q => by rw [q, hP] at e; cases e) (fun b o u e => other b _ e fun q => by rw [q, hP] at e; cases e) (fun b ps' e => ?_) (fun m hm => ?_) (fun b u e => ?_) I.bare
      · show upd (upd (upd H d.tab _) c' _) h'.objs.size _ b = none
        rw [upd_ne (lt b o e).2, upd_ne (lt b o e).1, upd_ne (nt b n)]
        exact n
      · by_cases q : b = d.tab
        · subst q
          exact ⟨_, Heap.get?_push_of_some _ htb⟩
        · exact ⟨o, old b o q e⟩
      · by_cases q : b = d.tab
        · subst q
          rw [hP] at e
          have e' : ps = ps' := by
            have := Option.some.inj e
            injection this
          subst e'
          exact ⟨_, hgt⟩
        · exact ⟨#[], by rw [other b _ e q]; simp⟩
      · obtain ⟨o, es, ep, ho, r⟩ := hm
        exact ⟨o, es, ep, old _ o (nt _ I.free) ho, r⟩
      · by_cases q1 : b = h'.objs.size
        · subst q1
          rw [hgg] at e
          have e' := Option.some.inj e
          subst e'
          exact lam_ok (Heap.get?_push_size _ rfl)
        · by_cases q2 : b = c'
          · subst q2
            rw [hgc] at e
            have e' := Option.some.inj e
            subst e'
            obtain ⟨c2, oc, vs, t, q, ho, r⟩ := hrec
            exact codeX_ok ⟨c2, oc, vs, t, q, Heap.get?_push_of_some _ ho, r⟩
          · by_cases q3 : b = d.tab
            · subst q3
              rw [hgt] at e
              have e' := Option.some.inj e
              subst e'
              exact Heap.get?_push_of_some _ htb
            · have e2 : H b = some u := by
                have e : upd (upd (upd H d.tab _) c' _) h'.objs.size _ b = some u := e
                rw [upd_ne q1, upd_ne q2, upd_ne q3] at e
                exact e
              refine (I.hok b u e2).stay (fun c1 v hc1 q => old c1 v ?_ q) (fun c1 q => other c1 _ q fun z => by rw [z, hP] at q; cases q) fun c1 xs q => other c1 _ q fun z => by rw [z, hP] at q; cases q
              rcases hc1 with z | z
              · rw [z]; exact q3
              · intro z2
                rw [z2, hP] at z; cases z
    refine ⟨.ref h'.objs.size, H', J, rfl, k _ c' H' ⟨fun b o e n => other b o e (fun q => by rw [q, hP] at e; have := Option.some.inj e; subst this; cases n), fun _ => ⟨_, hgt, ?_, .inr ⟨c', ?_, hgc⟩⟩, fun l e => ?_⟩ fg hgg hgc⟩
    · have := TriplesOk_snoc lamPos.line lamPos.col (.ref c') ps.toList ht
      simpa using this
    · have := codeAmong_snoc (pos := lamPos) (c := .ref c') ps.toList ht hn
      simpa using this
    · have e : upd (upd (upd H d.tab _) c' _) h'.objs.size _ l = none := e
      by_cases q1 : l = h'.objs.size
      · rw [q1]; exact fg
      · by_cases q2 : l = c'
        · rw [q2]; exact fc
        · by_cases q3 : l = d.tab
          · rw [q3, upd_ne (Ne.symm gt), upd_ne (Ne.symm ct), upd_same] at e; cases e
          · rw [upd_ne q1, upd_ne q2, upd_ne q3] at e
            exact e
  · refine PySem.W.kla_makeFunctionHit (mg := X.mg) (closure_lam hc) I.ok.glob hg hcode (C.keeps I.bk) hPo ht hf hb fun ctv h' tk hk hsz => ?_
    have fg : H h'.objs.size = none := I.hok.fresh hsz
    have J : Inv X pins σ (upd H h'.objs.size (lamX h'.objs.size c cr)) { s with heap := h'.push (PySem.W.kla_obj "<lambda>" lamQual lamArgs lamBody lamScope [(Str.ofString "remainders", cr)] ((X.mg "__name__").getD .none) c ctv), toks := tk } :=
      I.laid (fun b o e => Heap.get?_push_of_some _ (hk b o e)) hsz (lam_ok (Heap.get?_push_size _ rfl))
    refine ⟨.ref h'.objs.size, _, J, rfl, k _ c _ (.of (Same.new fg)) fg upd_same ?_⟩
    rw [upd_ne (ne_of_none hcx fg)]
    exact hcx
end
end Fs
end
section
set_option Elab.async false
set_option linter.all false
set_option maxRecDepth 100000
set_option maxHeartbeats 2000000
namespace Fs
open PySem PySem.Spec PyProof.Rows L2
section
variable {X : Cx} {pins : List (Addr × Obj)} {σ : L2.St} {H H0 : Hp} {s : Shared} {d : Ad}
/-- what sorted gives, its key the lambda: i is the slot of the remainders -/
def rSortK (i : Nat) (cr : Addr) (σ : L2.St) (vs ks : List V) (H : Hp) (Q : VK) : Prop := ∃ (r g c rl : Addr) (rems : List Int), vs = [.ref r] ∧ ks = [.ref g] ∧ H r = some (.rng 0 (rems.length : Nat)) ∧ H g = some (lamX g c cr) ∧ H c = some (codeX c) ∧
  σ[i]? = some (some (.ref rl)) ∧ H rl = some (.lst (rems.map V.int)) ∧ rems.length ≤ 1000 ∧
  ∀ (ns : List Nat) (H' : Hp) (a : Addr), Ranked (fun j => rems.getD j 0) rems.length ns → Same H H' → H a = none → H' a = some (.lst (natsV ns)) → Q (.ref a) H'
theorem items_at {n : Nat} {acc : Array Value} (h : ItemsOf (fun i v => ∃ t, v = .int (0 + i * 1) t) acc n) : acc.toList.length = n ∧ ∀ (j : Nat) v, acc.toList[j]? = some v → ∃ t, v = .int (j : Nat) t := by
  obtain ⟨h1, h2⟩ := h
  refine ⟨by simpa using h1, fun j v e => ?_⟩
  have e' : acc[j]? = some v := by rw [← Array.getElem?_toList]; exact e
  obtain ⟨t, q⟩ := h2 j v e'
  refine ⟨t, ?_⟩
  rw [q]
  congr 1
  omega
theorem run_sortK {i : Nat} {cr : Addr} {us ws : List Value} {vs ks : List V} {Q : VK} {E : Value → Shared → Prop} (I : Inv X pins σ H s) (hr : Room 1 X.A) (hi : X.N[i]? = some (Str.ofString "remainders")) (hs : X.env.scope.names.lookup (Str.ofString "remainders") = some .cell)
    (hc : X.env.cells.lookup (Str.ofString "remainders") = some cr) (rv : Vals vs us) (rk : Vals ks ws) (h : rSortK i cr σ vs ks H Q) : wpAny (model X.prog X.w) X.A (call (.builtin "sorted") us ((([Str.ofString "key"] : List Str)).zip ws)) (EP X pins σ Q) E s := by
  obtain ⟨r, g, c, rl, rems, rfl, rfl, hR, hG, hC, hS, hL, hn, k⟩ := h
  obtain ⟨u, rfl, ru⟩ := vals1 rv
  obtain ⟨u', rfl, ru'⟩ := vals1 rk
  cases ru
  cases ru'
  obtain ⟨t1, t2, t3, er⟩ := I.hok r _ hR
  have sl : rems.length ≤ sizeLine := Nat.le_trans hn (by rw [sizeLine_eq]; decide)
  refine call_function_entry_kw kind_sorted plain_sorted entry_sorted (ksk_s1 _ _) ?_
  unfold Builtin.«sorted»
  refine wpAny_bind (m := checkCount "sorted" 1 1 _) (wpAny_pure ?_)
  refine wpAny_bind (collect_rng (n := rems.length) hr.hd er (by omega) fun h1 tk acc kp hit => ?_)
  obtain ⟨al, ai⟩ := items_at hit
  have I1 : Inv X pins σ H { s with heap := h1, toks := tk } := I.kept kp
  refine wpAny_bind (wpAny_newList ?_ (by rw [al]; rw [sizeLine_eq]; omega))
  show wpAny _ _ _ _ _ { s with heap := h1.push (seqObj "list" acc.toList.toArray 0), toks := tk }
  have hoL : (h1.push (seqObj "list" acc.toList.toArray 0)).get? h1.objs.size = some (seqObj "list" acc.toList.toArray 0) := Heap.get?_push_size _ rfl
  refine wpAny_bind (wpAny_holding (wpAny_call_entry_kw slot_list_sort ⟨_, hoL, rfl⟩ entry_list_sort ?body (ksk_l1 _ _)))
  have I2 : Inv X pins σ H { s with heap := h1.push (seqObj "list" acc.toList.toArray 0), toks := tk } := I1.kept fun b o e => Heap.get?_push_of_some _ e
  show wpAny (model X.prog X.w) X.A.in1.in1 (Builtin.«list.sort» ⟨[.ref h1.objs.size], [(Str.ofString "key", .ref g)]⟩) _ _ _
  rw [ksk_t1]
  unfold ksk_tree
  have fa : FpOk X pins H h1.objs.size := I1.fpOk (Nat.le_refl _) (I1.hok.fresh (Nat.le_refl _))
  refine wpAny_bind (listItems_at hoL rfl ?_)
  refine wpAny_bind (listUpdate_at hoL rfl ?_ (by rw [List.size_toArray, al, sizeLine_eq]; omega) (Nat.zero_le _))
  obtain ⟨e1, ho1⟩ : ∃ e1, ((h1.push (seqObj "list" acc.toList.toArray 0)).update h1.objs.size (Obj.mapSeq fun _ => (#[] : Array Value))).get? h1.objs.size = some (seqObj "list" #[] e1) := ⟨_, get?_update_seq hoL fun _ => #[]⟩
  refine wpAny_bind (seqEpoch_at ho1 rfl ?_)
  have I3 : Inv X pins σ H { s with heap := (h1.push (seqObj "list" acc.toList.toArray 0)).update h1.objs.size (Obj.mapSeq fun _ => (#[] : Array Value)), toks := tk } :=
    I2.turned (fun b o hb e => (Heap.get?_update_other _ _ (Ne.symm hb)).trans e) fa.1 fa.2.1 fa.2.2.2.1 fa.2.2.2.2.1 fa.2.2.2.2.2
  refine wpAny_bind (wpAny_newTuple ?_ (by show acc.toList.length ≤ _; rw [al, sizeLine_eq]; omega))
  refine wpAny_bind (wpAny_newList ?_ (Nat.zero_le _))
  refine wpAny_holding ?_
  let h4 : Heap := ((h1.push (seqObj "list" acc.toList.toArray 0)).update h1.objs.size (Obj.mapSeq fun _ => (#[] : Array Value))).push (seqObj "tuple" acc.toList.toArray 0)
  have I4 : Inv X pins σ H { s with heap := h4, toks := tk } := I3.kept fun b o e => Heap.get?_push_of_some _ e
  have I5 : Inv X pins σ (upd H h4.objs.size (.lst [])) { s with heap := h4.push (seqObj "list" #[] 0), toks := tk } := I4.lnew (its := []) .nil (Nat.zero_le _)
  have n4 : H h4.objs.size = none := I4.hok.fresh (Nat.le_refl _)
  have lt4 : h1.objs.size < h4.objs.size := by
    show _ < (Heap.push _ _).objs.size
    rw [Heap.size_push, Heap.size_update, Heap.size_push]
    omega
  have ho5 : (h4.push (seqObj "list" #[] 0)).get? h1.objs.size = some (seqObj "list" #[] e1) := Heap.get?_push_of_some _ (Heap.get?_push_of_some _ ho1)
  have I6 : Inv X (pins ++ aside h1.objs.size e1) σ (upd H h4.objs.size (.lst [])) { s with heap := h4.push (seqObj "list" #[] 0), toks := tk } := I5.pins_of fun p hp => by
    rcases List.mem_append.mp hp with hp | hp
    · exact I5.pin p (List.mem_append_right _ hp)
    · have e : p = (h1.objs.size, seqObj "list" #[] e1) := by simpa using hp
      subst e
      refine ⟨ho5, ?_, fa.2.1, fa.2.2.1, fun v z => ?_⟩
      · rw [upd_ne (Nat.ne_of_lt lt4)]
        exact fa.1
      · have z' : Data.seq _ _ = Data.cell v := z
        cases z'
  have eacc : acc.toList.toArray = acc := Array.toArray_toList ..
  show wpAny (model X.prog X.w) X.A.in1.in1 (ksk_rest h1.objs.size (.ref g) false acc.toList.toArray e1 (.ref h4.objs.size)) _ _ { s with heap := h4.push (seqObj "list" #[] 0), toks := tk }
  refine sk_rest (n := rems.length) (z := fun j => rems.getD j 0) I6 fa n4 al (by omega) ai (fun s' H' j t Q' J sm hj kq => ?_) fun ns H' s' hrk sm fr na ha J => ?_
  · obtain ⟨pm, ctv, eg⟩ := (J.hok g _ (sm _ _ hG)).1
    have ecd : s'.heap.CodeRec (.ref c) lamQual := (J.hok c _ (sm _ _ hC)).1
    obtain ⟨m, hns, hl⟩ := J.loc
    obtain ⟨u, ru, lk⟩ := hl i _ _ hi hS (.inr (.inl hs))
    have hcell : s'.heap.IsCell cr (some u) := by
      rcases lk with ⟨q, _⟩ | ⟨_, c', q1, q2⟩
      · have q' : X.env.scope.names.lookup (Str.ofString "remainders") = some .local := q
        rw [hs] at q'; cases q'
      · rw [hc] at q1
        cases q1
        exact q2
    have hz : rems[j]? = some (rems.getD j 0) := by
      rw [List.getD_eq_getElem?_getD, List.getElem?_eq_getElem hj]; rfl
    exact lam_call (A := X.A.in1.in1) J J.ok.frames hr.hd (by have := hr.dp; show X.A.depth < _; omega) eg ecd hcell (J.freeC _ _ hc) ru (sm _ _ hL) hz kq
  · refine ⟨_, rfl, wpAny_pure ⟨_, rfl, ?_⟩⟩
    exact ⟨.ref h1.objs.size, H', J, rfl, k ns H' _ hrk sm na ha⟩
def tSortK (i : Nat) (cr : Addr) (ta tk : TA) : TE := fun σ H Q => ta σ H fun vs H1 => tk σ H1 fun ks H2 => rSortK i cr σ vs ks H2 Q
theorem pe_sortK {i : Nat} {cr : Addr} {e l : Expr} {ta tk : TA} {p pos kp : Pos} (hg : Gl X "sorted") (hm : X.mg "sorted" = none) (hr : Room 1 X.A) (hi : X.N[i]? = some (Str.ofString "remainders")) (hs : X.env.scope.names.lookup (Str.ofString "remainders") = some .cell)
    (hc : X.env.cells.lookup (Str.ofString "remainders") = some cr) (ha : PA X [e] ta) (hk : PK X [⟨some (Str.ofString "key"), l, kp⟩] tk) (he : backTo pos (starEach [e] X.env) = (false, eval e X.env) :: backTo pos (starEach [] X.env) := by rfl)
    (hplain : (backTo pos (starEach [e] X.env)).any (·.1) = false := by rfl) : PE X (.Call (.Name "sorted" p) [e] [⟨some (Str.ofString "key"), l, kp⟩] pos) (tSortK i cr ta tk) := by
  intro pins s σ H Q I h
  refine wpAny_Call_Name_kw (ld_blt (u := .builtin "sorted") I hg hm ?b ?_ (by decide) (by decide))
  case b => decide +kernel
  refine callWith_kw (thn (ha pos pins s σ H _ I h) fun us s1 ⟨vs, H1, I1, r1, q1⟩ => thn (hk pos pins s1 σ H1 _ I1 q1) fun ws s2 ⟨ks, H2, I2, r2, q2⟩ => ?_) he hplain
  exact run_sortK I2 hr hi hs hc r1 r2 q2
end
end Fs
end
section
set_option Elab.async false
set_option linter.all false
set_option maxRecDepth 100000
set_option maxHeartbeats 2000000
namespace Fs
open PySem PySem.Spec PyProof.Rows L2
section
variable {P : Program} {w : World} {K : PySem.W.Frag} {mg : Str → Option Value} {base : Heap} {d : Ad}
/-- a def of the file's top in whose body a lambda is made: its table of codes is known -/
structure DfnT (K : PySem.W.Frag) (mg : Str → Option Value) (x : Str) (st : Stmt) (ps : List Str) (tab : Addr) : Prop where
  ex : ∃ (f c : Addr) (oc : Value) (od : Option Addr) (kV doc pm : Value) (an : Option Addr) (ct : Value) (osl : Array (Option Value)),
    K.lookup f = some ⟨oc, od, .func (PySem.W.fnOf x x (defArgs st) (defBody st) (defScope st) .none kV doc pm an (.ref c) ct), osl⟩ ∧ PySem.W.codeIn K (.ref c) x = true ∧ PySem.W.codeHdIn K c tab = true ∧ PySem.W.keepIn K (.ref f) = true ∧
    mg x = some (.ref f) ∧ Binds K (PySem.W.fnOf x x (defArgs st) (defBody st) (defScope st) .none kV doc pm an (.ref c) ct) ps []
theorem DfnT.cal {x : Str} {st : Stmt} {N ps : List Str} {tab : Addr} {k : Nat} {sp : Sp} (D : DfnT K mg x st ps tab) (S : FnScope N ps (defScope st)) (len : ∀ vs H Q E, sp vs H Q E → vs.length = ps.length)
    (hbody : ∀ (f c : Addr) (A : Around) (outer : List Env) (s : Shared) (H : Hp) (vs : List V) (Q : VK) (E : XK), PySem.W.codeHdIn K c tab = true → Room k (A.deeper (envOfC x (defScope st) s.heap.objs.size f (.ref c))) → sp vs H Q E →
      ∃ t, PSs (cxOf CX0 P w K mg base N x (defScope st) f (.ref c) A outer s H E).nox (defBody st) t ∧ t { nx := fun _ H' => Q .non H', rt := Q } (start N vs) H) : Cal P w K mg base x (k + 1) ps sp := by
  obtain ⟨f, c, oc, od, kV, doc, pm, an, ct, osl, lk, hcd, hhd, hkp, hm, hb⟩ := D.ex
  refine ⟨f, _, fn_of lk hcd S len fun A outer s H vs Q E hr hsp => ?_, hm, hkp, hb⟩
  obtain ⟨t, h, q⟩ := hbody f c A outer s H vs Q E hhd hr hsp
  exact ⟨t, h.nox, q⟩
theorem sum_nats (ws : List Nat) : (ws.map fun n : Nat => (n : Int)).sum = (Vbfuaf.sum ws : Nat) := by
  induction ws with
  | nil => rfl
  | cons a r ih =>
    rw [List.map_cons, List.sum_cons, ih]
    have : Vbfuaf.sum (a :: r) = a + Vbfuaf.sum r := by simp [Vbfuaf.sum]
    rw [this]
    omega
/-- all but one list stays: the table too -/
theorem TabOk.but {H H' : Hp} {x : Addr} {xs : List V} (hx : H x = some (.lst xs)) (k : ∀ b o, H b = some o → b ≠ x → H' b = some o) (t : TabOk d H) : TabOk d H' := by
  obtain ⟨ps, e, q1, q2⟩ := t
  refine ⟨ps, k _ _ e (ne_of e hx (by intro z; cases z)), q1, ?_⟩
  rcases q2 with q2 | ⟨c, e1, e2⟩
  · exact .inl q2
  · exact .inr ⟨c, e1, k _ _ e2 (ne_of e2 hx (by intro z; cases z))⟩
theorem nats_at {ws : List Nat} {i : Nat} {v : V} (h : (natsV ws)[i]? = some v) : ∃ n, ws[i]? = some n ∧ v = .int (n : Nat) := by
  unfold natsV at h
  rw [List.getElem?_map, List.getElem?_map] at h
  cases q : ws[i]? with
  | none => rw [q] at h; cases h
  | some n =>
    rw [q] at h
    exact ⟨n, rfl, (Option.some.inj h).symm⟩
theorem natsV_take (ns : List Nat) (m : Nat) : cutV (natsV ns) none (some ((m : Nat) : Int)) = natsV (ns.take m) := by
  unfold cutV
  rw [HT.sIx_none, HT.sIx_nat, List.drop_zero, Nat.sub_zero, natsV_len]
  unfold natsV
  rw [List.map_take, List.map_take]
  rcases Nat.le_total m ns.length with h | h
  · rw [Nat.min_eq_left h]
  · rw [Nat.min_eq_right h, List.take_of_length_le (by simp), List.take_of_length_le (by simpa using h)]
theorem bg_nat {n : Nat} (h : n ≤ 10 ^ 90) : Bg (n : Nat) := by
  show (n : Int).natAbs ≤ 10 ^ 100
  rw [Int.natAbs_natCast]
  exact Nat.le_trans h (Nat.pow_le_pow_right (by decide) (by decide))
theorem sum_bd : ∀ {ws : List Nat} {m : Nat}, (∀ x ∈ ws, x ≤ m) → Vbfuaf.sum ws ≤ ws.length * m
  | [], m, _ => Nat.zero_le _
  | a :: r, m, h => by
    have h1 := h a List.mem_cons_self
    have h2 := sum_bd (ws := r) (m := m) fun x hx => h x (List.mem_cons_of_mem _ hx)
    have e : Vbfuaf.sum (a :: r) = a + Vbfuaf.sum r := by simp [Vbfuaf.sum]
    rw [e, List.length_cons, Nat.add_mul, Nat.one_mul]
    omega
theorem pw_ahead {ws ns : List Nat} {c : Nat} (h : Ranked (fun j => ((ws.map fun w => c * w % Vbfuaf.sum ws).map fun n : Nat => (n : Int)).getD j 0) ws.length ns) :
    ns.Pairwise fun x y => ahead (ws.map fun w => c * w % Vbfuaf.sum ws) x y = true := by
  refine h.2.imp fun {x y} q => ?_
  have e : ∀ j, ((ws.map fun w => c * w % Vbfuaf.sum ws).map fun n : Nat => (n : Int)).getD j 0 = ((ws.map fun w => c * w % Vbfuaf.sum ws).getD j 0 : Nat) := fun j => by
    rw [List.getD_eq_getElem?_getD, List.getD_eq_getElem?_getD, List.getElem?_map]
    cases (ws.map fun w => c * w % Vbfuaf.sum ws)[j]? <;> rfl
  simp only [e] at q
  unfold ahead
  rw [Bool.or_eq_true, decide_eq_true_eq, Bool.and_eq_true, beq_iff_eq, decide_eq_true_eq]
  omega
theorem c_shared_out (T : Txt K mg d) (D : DfnT K mg "shared_out" s_shared_out p_shared_out d.tab) (B : BM mg base) (kin : K.In base) : Cal P w K mg base "shared_out" 3 p_shared_out (spShare d) := by
  refine D.cal (N := n_shared_out) sc_shared_out (fun vs H Q E h => ?_) (fun f cc A outer s H vs Q E hhd hr h => ?_)
  · obtain ⟨l, c, ws, rfl, _⟩ := h
    rfl
  · obtain ⟨l, c, ws, rfl, hL, hpos, hlen, hc, hw, hT, k⟩ := h
    have nd := sc_shared_out.nd
    obtain ⟨cr, hcr⟩ := cell_has (n := s.heap.objs.size + 1) (sc := defScope s_shared_out) (x := Str.ofString "remainders") rfl
    have hd : PySem.W.CodeHd base cc d.tab := PySem.W.codeHd_of_K kin hhd
    refine ⟨_, (pss_cons (ps_set (i := 2) nd rfl (Or.inr rfl) (pe_callB (cr_sum rfl) (by rfl) T.n_sum boot_sum (pa_cons (pv 1) pa_nil)))
    (pss_cons (ps_setLc (i := 3) rfl nd rfl rfl (sw_true rfl rfl rfl rfl) (pi_list (pv 1)) (blkOk_by (own := [("weight", 4)]) (by rfl)) (fun _ _ _ _ _ => (pg_name (i := 4) nd rfl (Or.inl rfl))) (fun _ _ _ _ _ => pts_nil) (fun _ _ _ _ _ => (pe_op op_fdivB (pe_op op_mulB (pv 0) (pv 4)) (pv 2))))
    (pss_cons (ps_set (i := 5) nd rfl (Or.inr rfl) (pe_lc rfl nd (pi_list (pv 1)) (blkOk_by (own := [("weight", 4)]) (by rfl)) (fun _ _ _ _ _ => (pg_name (i := 4) nd rfl (Or.inl rfl))) (fun _ _ _ _ _ => pts_nil) (fun _ _ _ _ _ => (pe_op op_mod (pe_op op_mulB (pv 0) (pv 4)) (pv 2)))))
    (pss_cons (ps_set (i := 6) nd rfl (Or.inl rfl) (pe_op op_sub (pv 0) (pe_callB (cr_sum rfl) (by rfl) T.n_sum boot_sum (pa_cons (pv 3) pa_nil))))
    (pss_cons (ps_set (i := 7) nd rfl (Or.inl rfl) (pe_sortK (i := 5) (cr := cr) (by rfl) T.n_sorted (hr.mono (by decide)) rfl rfl hcr (pa_cons (pe_rng (by rfl) T.n_range (pa_cons (pe_callB call_len_seq (by rfl) T.n_len boot_len (pa_cons (pv 1) pa_nil)) pa_nil)) pa_nil)
      (pk_cons (pe_lam (d := d) (cc := cc) (cr := cr) rfl hd rfl hcr B) pk_nil)))
    (pss_cons (ps_for PassesOwn.never rfl (pi_list (pe_slice sl_list (pv 7) po_none (po_some (pv 6)))) (pg_name (i := 8) nd rfl (Or.inl rfl))
    (pss_one (ps_asg (pe_op op_add (pe_ix ix_list (pv 3) (pv 8) (fun _ _ => rfl)) pe_int) (pg_sub (pv 3) (pv 8) set_list))))
    (pss_one (ps_ret (pv 3))))))))), ?_⟩
    refine ⟨_, rfl, l, _, rfl, SqL.of hL, ?_⟩
    rw [sum_nats]
    have hW : Vbfuaf.sum ws ≤ 10 ^ 90 := Nat.le_trans (sum_bd hw) (Nat.le_trans (Nat.mul_le_mul_right _ hlen) (by decide))
    have hcw : ∀ x ∈ ws, c * x ≤ 10 ^ 90 := fun x hx => Nat.le_trans (Nat.mul_le_mul hc (hw x hx)) (by decide)
    have b35 : ∀ {n : Nat}, n ≤ 10 ^ 35 → Bg (n : Nat) := fun h => bg_nat (Nat.le_trans h (by decide))
    refine ⟨_, rfl, l, rfl, ⟨_, SqL.of hL⟩, fun D1 nD1 => ?_⟩
    refine lc_ints (d := d) ((ws.map fun x => c * x / Vbfuaf.sum ws).map fun n : Nat => (n : Int)) (by rw [natsV_len, List.length_map, List.length_map]) nD1 (line40 (by rw [List.length_map, List.length_map]; exact hlen)) (SqL.of hL) (fun i H3 v y Qn hv hy s3 q => ?_) fun H3 s3 h3 => ?_
    · obtain ⟨x, hx, rfl⟩ := nats_at hv
      rw [List.getElem?_map, List.getElem?_map, hx] at hy
      have hy' : ((c * x / Vbfuaf.sum ws : Nat) : Int) = y := Option.some.inj hy
      have hxm := List.mem_of_getElem? hx
      refine ⟨rfl, _, rfl, _, rfl, _, _, rfl, rfl, ⟨b35 hc, b35 (hw x hxm)⟩, _, rfl, _, _, rfl, rfl, ⟨by omega, bg_nat hW⟩, ?_⟩
      have q' := q H3 (Same.refl H3)
      rw [← hy'] at q'
      rw [Int.natCast_ediv, Int.natCast_mul] at q'
      exact q'
    have hL3 := s3 _ _ hL
    refine ⟨_, rfl, l, rfl, ⟨_, SqL.of hL3⟩, fun D2 nD2 => ?_⟩
    refine lc_ints (d := d) ((ws.map fun x => c * x % Vbfuaf.sum ws).map fun n : Nat => (n : Int)) (by rw [natsV_len, List.length_map, List.length_map]) nD2 (line40 (by rw [List.length_map, List.length_map]; exact hlen)) (SqL.of hL3) (fun i H4 v y Qn hv hy s4 q => ?_) fun H4 s4 h4 => ?_
    · obtain ⟨x, hx, rfl⟩ := nats_at hv
      rw [List.getElem?_map, List.getElem?_map, hx] at hy
      have hy' : ((c * x % Vbfuaf.sum ws : Nat) : Int) = y := Option.some.inj hy
      have hxm := List.mem_of_getElem? hx
      refine ⟨rfl, _, rfl, _, rfl, _, _, rfl, rfl, ⟨b35 hc, b35 (hw x hxm)⟩, _, rfl, _, _, rfl, rfl, (by omega), ?_⟩
      have q' := q H4 (Same.refl H4)
      rw [← hy'] at q'
      rw [Int.natCast_emod, Int.natCast_mul] at q'
      exact q'
    have h34 := s4 _ _ h3
    refine ⟨_, rfl, _, rfl, D1, _, rfl, SqL.of h34, _, _, rfl, rfl, ?_⟩
    rw [sum_nats]
    have hle := shares_le c ws
    let m : Nat := c - Vbfuaf.sum (ws.map fun x => c * x / Vbfuaf.sum ws)
    have em : ((c : Nat) : Int) - (Vbfuaf.sum (ws.map fun x => c * x / Vbfuaf.sum ws) : Nat) = (m : Nat) := by omega
    simp only [em]
    refine ⟨_, rfl, l, natsV ws, rfl, .inl (SqL.of (s4 _ _ hL3)), ws.length, ?_, fun r nr => ?_⟩
    · rw [natsV_len]
    have T4 : TabOk d (upd H4 r (.rng 0 (ws.length : Nat))) := (hT.same (s3.trans s4)).same (Same.new nr)
    refine ⟨T4, fun g c2 H5 gr ng hg hc2 => ?_⟩
    have keep5 : ∀ b o, H4 b = some o → isTbl o = false → H5 b = some o := fun b o e n => gr.kp b o ((Same.new nr) b o e) n
    have h5r : H5 r = some (.rng 0 (ws.length : Nat)) := gr.kp _ _ upd_same rfl
    have h52 := keep5 _ _ h4 rfl
    have h51 := keep5 _ _ h34 rfl
    refine ⟨r, g, c2, D2, (ws.map fun x => c * x % Vbfuaf.sum ws).map fun n : Nat => (n : Int), rfl, rfl, ?_, hg, hc2, rfl, h52, by rw [List.length_map, List.length_map]; omega, fun ns H6 a hrk s6 na ha => ?_⟩
    · rw [List.length_map, List.length_map]
      exact h5r
    rw [List.length_map, List.length_map] at hrk
    refine ⟨_, rfl, _, rfl, _, rfl, a, _, rfl, SqL.of ha, fun p np => ⟨p, rfl, ⟨_, SqL.of upd_same⟩, ?_⟩⟩
    rw [natsV_take]
    have h61 := s6 _ _ h51
    have s7 : Same H6 (upd H6 p (.lst (natsV (ns.take m)))) := Same.new np
    have h71 := s7 _ _ h61
    have ndn : ns.Nodup := hrk.1.nodup_iff.mpr List.nodup_range
    have nDp : D1 ≠ p := ne_of_none h61 np
    refine for_list (xs := natsV (ns.take m)) (fun i σ H8 => ∃ (o : Option V) (sh : List Int), σ = [some (.int (c : Nat)), some (.ref l), some (.int (Vbfuaf.sum ws : Nat)), some (.ref D1), none, some (.ref D2), some (.int (m : Nat)), some (.ref a), o] ∧ H8 D1 = some (.lst (sh.map V.int)) ∧ sh.length = ws.length ∧
      (∀ j, j < ws.length → sh[j]? = some (((c * ws.getD j 0 / Vbfuaf.sum ws : Nat) : Int) + if j ∈ (ns.take m).take i then 1 else 0)) ∧ H8 p = some (.lst (natsV (ns.take m))) ∧ (∀ b u, upd H6 p (.lst (natsV (ns.take m))) b = some u → b ≠ D1 → H8 b = some u) ∧ ∀ b, H8 b = none → upd H6 p (.lst (natsV (ns.take m))) b = none)
      ⟨none, (ws.map fun x => c * x / Vbfuaf.sum ws).map fun n : Nat => (n : Int), rfl, h71, by rw [List.length_map, List.length_map], fun j hj => ?_, upd_same, fun b u e _ => e, fun b e => e⟩ (fun i σ H8 _ q => ?_) (fun i xv σ H8 hxv q => ?_) (fun σ H8 q => ?_)
    · rw [List.getElem?_map, List.getElem?_map, List.getElem?_eq_getElem hj, List.getD_eq_getElem?_getD, List.getElem?_eq_getElem hj, List.take_zero]
      simp
    · obtain ⟨o, sh, _, _, _, _, q, _⟩ := q
      exact SqL.of q
    · obtain ⟨o, sh, rfl, q1, q2, q3, q4, q5, q6⟩ := q
      obtain ⟨x, hx, rfl⟩ := nats_at hxv
      have hxn : x ∈ ns := List.mem_of_mem_take (List.mem_of_getElem? hx)
      have hxw : x < ws.length := by simpa using hrk.1.mem_iff.mp hxn
      have hxs := q3 x hxw
      have hnin : x ∉ (ns.take m).take i := fun hm => by
        obtain ⟨j, hj⟩ := List.getElem?_of_mem hm
        have hj1 : j < ((ns.take m).take i).length := (List.getElem?_eq_some_iff.mp hj).1
        rw [List.length_take] at hj1
        rw [List.getElem?_take_of_lt (by omega)] at hj
        have := nd_ix (ndn.sublist (List.take_sublist _ _)) hj hx
        omega
      rw [if_neg hnin] at hxs
      refine ⟨_, rfl, _, rfl, D1, _, _, _, rfl, rfl, SqL.of q1, at_of (j := x) rfl (by rw [List.getElem?_map, hxs]; rfl), _, _, rfl, rfl, _, rfl, _, rfl, D1, _, _, x, rfl, rfl, q1, ?_, ?_⟩
      · unfold ixN
        rw [if_pos (by omega), List.length_map, q2, if_pos (by omega)]
        simp
      · refine ⟨_, sh.set x (((c * ws.getD x 0 / Vbfuaf.sum ws : Nat) : Int) + 0 + 1), rfl, ?_, by rw [List.length_set]; exact q2, fun j hj => ?_, ?_, fun b u e hb => ?_, fun b e => ?_⟩
        · rw [upd_same, List.map_set]
        · by_cases ej : x = j
          · subst ej
            rw [List.getElem?_set_self (by omega)]
            have hin : x ∈ (ns.take m).take (i + 1) := by
              rw [List.take_add_one, hx]
              simp
            rw [if_pos hin]
            congr 1
          · rw [List.getElem?_set_ne ej, q3 j hj]
            have : j ∈ (ns.take m).take (i + 1) ↔ j ∈ (ns.take m).take i := by
              rw [List.take_add_one, hx]
              simp only [Option.toList, List.mem_append, List.mem_singleton]
              constructor
              · rintro (h | h)
                · exact h
                · exact absurd h.symm ej
              · exact .inl
            simp only [this]
        · rw [upd_ne (Ne.symm nDp)]
          exact q4
        · rw [upd_ne hb]
          exact q5 b u e hb
        · by_cases hb : b = D1
          · subst hb
            rw [upd_same] at e
            cases e
          · rw [upd_ne hb] at e
            exact q6 b e
    · obtain ⟨o, sh, rfl, q1, q2, q3, q4, q5, q6⟩ := q
      refine ⟨_, rfl, ?_⟩
      have hfin : sh = (Vbfuaf.parts c ws).map fun n : Nat => (n : Int) := by
        refine parts_eq (ranked := ns) hrk.1 (pw_ahead hrk) q2 fun j hj => ?_
        have := q3 j hj
        rw [natsV_len, List.take_of_length_le (Nat.le_refl _)] at this
        exact this
      have T8 : TabOk d H8 := TabOk.but h71 q5 (((gr.tab T4).same s6).same s7)
      refine k H8 D1 ⟨fun b u e n => ?_, fun _ => T8, fun b e => ?_⟩ nD1 ?_
      · refine q5 b u (s7 _ _ (s6 _ _ (keep5 b u (s4 _ _ (s3 _ _ e)) n))) (ne_of_none e nD1)
      · exact s3.free (s4.free ((Same.new nr).free (gr.fr b (s6.free (s7.free (q6 b e))))))
      · rw [q1, hfin]
        rfl
end
end Fs
end
section
set_option Elab.async false
set_option linter.all false
set_option maxRecDepth 100000
set_option maxHeartbeats 2000000
/-! The row's call where the text makes a lambda: the one table of codes is tracked from the entry on. -/
namespace L2
open PySem PySem.Spec PyProof.Rows
open PySem.W (WData Codec OpenSpec Well WellAll ReadsW ReadsAllW)
theorem rd_same {H H' : Hp} {a : Addr} {u : HO} (s : Same H H') (h : Rd H a u) : Rd H' a u := by
  rcases h with h | ⟨o, h⟩
  · exact .inl (s _ _ h)
  · exact .inr ⟨o, s _ _ h⟩
mutual
theorem dw_same {K : PySem.W.Frag} {H H' : Hp} (s : Same H H') : ∀ (d : WData) (v : V), Dw K H v d → Dw K H' v d
  | .none, _, x => by cases x; exact .non
  | .bool b, _, x => by cases x; exact .bl b
  | .int i, _, x => by cases x; exact .int i
  | .str y, _, x => by cases x; exact .str y
  | .bytes b, _, x => by cases x; exact .byt _
  | .list ds, _, x => by
    cases x with
    | lst hs ha => exact .lst (hs.imp (rd_same s) id) (dw_sameAll s ds _ ha)
  | .tuple ds, _, x => by
    cases x with
    | tup hs ha => exact .tup (hs.imp (rd_same s) id) (dw_sameAll s ds _ ha)
  | .float _, _, x => by cases x
  | .dict _, _, x => by cases x
  | .bytearray _, _, x => by cases x
  | .set _, _, x => by cases x
  | .frozenset _, _, x => by cases x
  | .obj _ _, _, x => by cases x
theorem dw_sameAll {K : PySem.W.Frag} {H H' : Hp} (s : Same H H') : ∀ (ds : List WData) (vs : List V), DwAll K H vs ds → DwAll K H' vs ds
  | [], _, x => by cases x; exact .nil
  | d :: ds, _, x => by
    cases x with
    | cons h1 h2 => exact .cons (dw_same s d _ h1) (dw_sameAll s ds _ h2)
end
/-- the heap at the entry: the arguments as they lie, and the one table -/
def OnlyT (tab : Addr) (H : Hp) : Prop := ∀ b, H b = none ∨ (∃ o u, H b = some (.frz o u)) ∨ b = tab
theorem spec_callT {P : Program} {w : World} {K : PySem.W.Frag} {mg mb : Str → Option Value} {CX : CXT} {k : Nat} {fa tab : Addr} {fd : FuncData} {ps : List Str} {sp : Sp} {s₁ : Shared} {vals : List Value} {ds : List WData} {R : PySem.W.WRecords} {cl : Str → Option Addr} {d0 : WData}
    (KX : K.In s₁.heap) (hns : s₁.heap.Ns mainGlobals mg) (hb : s₁.heap.Ns builtinsNs mb) (hbb : ∀ x : Str, x ≠ "__name__" → mb x = bootBuiltins x) (hlim : s₁.heap.NoLimit) (hg : s₁.gens = #[])
    (hT : s₁.heap.get? tab = some (PySem.W.tabObj #[])) (hct : isCodeTable s₁.heap tab) (hKt : K.lookup tab = none) (hBM : Fs.BM mg s₁.heap)
    (hwl : WellAll w.params s₁.heap vals ds) (hpl : plWs ds = true) (hwt : ∀ d ∈ ds, d.weight ≤ 1048576) (hr : Room k callerA)
    (F : ∀ base : Heap, K.In base → base.Ns mainGlobals mg → Fs.BM mg base → FnOk P w K mg base CX k fa fd ps sp) (hbind : ∀ (s : Shared) (us : List Value), us.length = ps.length → BindsTo s fd ⟨us, []⟩ (ps.zip us)) (hlen : ds.length = ps.length)
    (hsp : ∀ (H : Hp) (xs : List V), H tab = some (.tbl #[]) → OnlyT tab H → DwAll K H xs ds → sp xs H (fun v H' => Dw K H' v d0) fun _ _ _ => False)
    (hCX : ∀ H e s', CX [] H s₁ (fun _ _ _ => False) e s' → False) :
    codeAny (model P w) callerA (.call (.ref fa) ⟨vals, []⟩) (fun r s' => ∃ u as, r = .ok (.ret u) ∧ ReadsW R cl s'.heap u d0 as ∧ OldK s₁.heap s'.heap ∧ s'.os = s₁.os ∧ AllBare s'.gens) s₁ := by
  obtain ⟨A, ho, ar⟩ := area_all ds vals hwl hpl hwt
  have hO0 : OnlyF (argH K s₁.heap A) := argH_only ar
  have hok0 : HOk P w (argH K s₁.heap A) s₁.heap := argH_ok ar
  have hS0 := dw_all KX ar ds vals hwl hpl ho
  have hV := vals_toV ho
  have hK0 : ∀ b u, argH K s₁.heap A b = some u → K.lookup b = none := fun b u q => (argH_is ar q).1
  have noSeq : ∀ {b : Addr} {o : Obj}, s₁.heap.get? b = some o → (∀ xs n, o.data ≠ .seq xs n) → argH K s₁.heap A b = none := fun {b o} e d => by
    cases q : argH K s₁.heap A b with
    | none => rfl
    | some u =>
      obtain ⟨_, vs, _, _, ⟨e2, _⟩ | ⟨e2, _⟩⟩ := argH_is ar q
      · rw [e2] at e
        cases e
        exact absurd rfl (d vs.toArray _)
      · rw [e2] at e
        cases e
        exact absurd rfl (d vs.toArray _)
  have hnt : argH K s₁.heap A tab = none := noSeq hT fun xs n z => by
    have z' : Data.fields _ = Data.seq xs n := z
    cases z'
  generalize argH K s₁.heap A = Ha at hO0 hok0 hS0 hK0 noSeq hnt
  have sm : Same Ha (upd Ha tab (.tbl #[])) := Same.new hnt
  have hO : OnlyT tab (upd Ha tab (.tbl #[])) := fun b => by
    by_cases hb : b = tab
    · exact .inr (.inr hb)
    · rw [upd_ne hb]
      rcases hO0 b with z | z
      · exact .inl z
      · exact .inr (.inl z)
  have hok : HOk P w (upd Ha tab (.tbl #[])) s₁.heap := fun b u q => by
    by_cases hb : b = tab
    · subst hb
      rw [upd_same] at q
      cases q
      exact hT
    · rw [upd_ne hb] at q
      exact (hok0 b u q).stay (fun _ _ _ z => z) (fun c z => sm _ _ z) fun c xs z => sm _ _ z
  have hS : DwAll K (upd Ha tab (.tbl #[])) (vals.map toV) ds := dw_sameAll sm _ _ hS0
  have hK : ∀ b u, upd Ha tab (.tbl #[]) b = some u → K.lookup b = none := fun b u q => by
    by_cases hb : b = tab
    · rw [hb]; exact hKt
    · rw [upd_ne hb] at q
      exact hK0 b u q
  have noA : ∀ {b : Addr} {o : Obj}, s₁.heap.get? b = some o → (∀ xs n, o.data ≠ .seq xs n) → (∀ vs, o.data ≠ .fields vs) → upd Ha tab (.tbl #[]) b = none := fun {b o} e d1 d2 => by
    have hb : b ≠ tab := fun z => by
      rw [z, hT] at e
      cases e
      exact d2 _ rfl
    rw [upd_ne hb]
    exact noSeq e d1
  have hHt : upd Ha tab (.tbl #[]) tab = some (.tbl #[]) := upd_same
  generalize upd Ha tab (.tbl #[]) = H at hO hok hS hK noA hHt
  have base_of : ∀ {b : Addr} {o : Obj}, s₁.heap.get? b = some o → H b = none → (hidT s₁.heap H).get? b = some o := fun e n => hidT_get e n
  have nsK : ∀ {b : Addr} {m : Str → Option Value}, s₁.heap.Ns b m → (hidT s₁.heap H).Ns b m := fun {b m} ⟨o, es, ep, e, d, r⟩ => ⟨o, es, ep, base_of e (noA e (fun xs n z => by rw [d] at z; cases z) fun vs z => by rw [d] at z; cases z), d, r⟩
  have nK : ∀ b o, K.lookup b = some o → H b = none := fun b o e => by
    cases q : H b with
    | none => rfl
    | some u =>
      rw [hK b u q] at e
      cases e
  have hKb : K.In (hidT s₁.heap H) := fun b o e => base_of (KX b o e) (nK b o e)
  have hBb : Fs.BM mg (hidT s₁.heap H) := by
    obtain ⟨bm, ob, b1, b2, b3, b4, b5, b6⟩ := hBM
    exact ⟨bm, ob, b1, b2, base_of b3 (noA b3 (fun xs n z => by rw [b6] at z; cases z) fun vs z => by rw [b6] at z; cases z), b4, b5, b6⟩
  have hM : Mod K mg (hidT s₁.heap H) := ⟨hKb, nsK hns, ⟨mb, nsK hb, hbb⟩, let ⟨mc, h1, h2⟩ := hlim; ⟨mc, nsK h1, h2⟩⟩
  have e0 : Env0 P w K mg (hidT s₁.heap H) callerA [] s₁ H := ⟨rfl, hM, fun b o e => of_hidT e, Nat.le_of_eq (hidT_size _ _), trivial, fun b hb => absurd (show b ∈ ([] : List Addr) from hb) (by simp), hok, .of_eq hg⟩
  have hl : vals.length = ps.length := by rw [wellAll_len hwl]; exact hlen
  refine codeAny_mono ((F _ hKb (nsK hns) hBb).run callerA [] s₁ H ⟨vals, []⟩ vals (vals.map toV) _ _ hr e0 (hbind s₁ vals hl) hV (hsp H _ hHt hO hS)) fun r s' x => ?_
  cases r with
  | error e => exact (hCX H e s' x).elim
  | ok fl =>
    cases fl with
    | next => exact False.elim x
    | brk => exact False.elim x
    | cont => exact False.elim x
    | ret u =>
      obtain ⟨v, H', os, bare, un, hok', r', q⟩ := x
      have kept : ∀ b o, b ≠ tab → s₁.heap.get? b = some o → s'.heap.get? b = some o := fun b o nb e => by
        cases q2 : H b with
        | none => exact un.keep b o e q2 (by intro z; exact absurd (show b ∈ ([] : List Addr) from z) (by simp)) (by simp)
        | some u2 =>
          rcases hO b with z | ⟨ob, u3, z⟩ | z
          · rw [q2] at z
            cases z
          · have z2 := un.frzs b ob _ z
            obtain ⟨e1, _⟩ := hok b _ z
            obtain ⟨e2, _⟩ := hok' b _ z2
            rw [e] at e1
            cases e1
            exact e2
          · exact absurd z nb
      obtain ⟨more, hmore⟩ := un.tbls tab _ hHt
      have hmt : s'.heap.get? tab = some { cls := .none, data := .fields (#[] ++ more) } := hok' tab _ hmore
      have KX' : K.In s'.heap := fun b o e => kept b o (fun z => by rw [z, hKt] at e; cases e) (KX b o e)
      obtain ⟨as, hrd⟩ := Dw.reads (R := R) (cl := cl) hok' KX' d0 v u q r'
      refine ⟨u, as, rfl, hrd, ⟨fun b o e => ?_, fun b o e => ?_⟩, os, bare⟩
      · by_cases hb : b = tab
        · subst hb
          rw [hT] at e
          cases e
          exact .inr (.inl ⟨hct, rfl, #[], more, rfl, hmt⟩)
        · exact .inl (kept b o hb e)
      · by_cases hb : b = tab
        · subst hb
          exact ⟨_, hmt⟩
        · exact ⟨o, kept b o hb e⟩
/-- a def of the text whose table of codes is at tab -/
def TabIn (q : Program) (K : PySem.W.Frag) (mg : Str → Option Value) (tab : Addr) : Prop := ∃ (d' : DefRec) (f c : Addr) (o : Obj) (fd : FuncData), d' ∈ recsOf q ∧ mg d'.name = some (.ref f) ∧ K.lookup f = some o ∧ o.data = .func fd ∧ fd.code = .ref c ∧ PySem.W.codeHdIn K c tab = true ∧ K.lookup tab = none
theorem TabIn.at {q : Program} {loose : List Str} {mean : ExcName → Option Value} {K : PySem.W.Frag} {mg mb : Str → Option Value} {h : Heap} {tab : Addr} (T : TabIn q K mg tab) (X : K.In h) (G : Top q loose mean mg mb h) :
    h.get? tab = some (PySem.W.tabObj #[]) ∧ isCodeTable h tab ∧ K.lookup tab = none := by
  obtain ⟨d', f, c, o, fd, hd, hm, hk, ho, hc, hh, hn⟩ := T
  obtain ⟨a, o2, fd2, c2, P, g1, g2, g3, g4, g5, g6⟩ := G.tab d' hd
  rw [hm] at g1
  cases g1
  rw [X _ _ hk] at g2
  cases g2
  rw [ho] at g3
  cases g3
  rw [hc] at g4
  cases g4
  obtain ⟨oc, vs, _, _, _, _, _, _, _, e1, _, e3, e4, _⟩ := PySem.W.codeHd_of_K X hh
  obtain ⟨⟨o3, vs3, e5, e6, e7, e8⟩, e9⟩ := id g6
  rw [e1] at e5
  cases e5
  rw [e3] at e7
  cases e7
  rw [e4] at e8
  cases e8
  exact ⟨e9, g6.isCodeTable, hn⟩
/-- the goal that k_headS leaves, from the promise of the row's def, where the text makes a lambda -/
theorem walk_specT {r : OpenSpec} {k : Nat} {q : Program} {loose : List Str} {XP : (Str → Option Value) → Heap → Prop} {YP : World → Heap → Prop} {d : DefRec} {K : Params → PySem.W.Frag} {CX : CXT} {ps : List Str} {tab : Addr} {sp : PySem.W.Frag → Sp}
    (hwell : r.wellSaid = true) (hdf : d.params.defaults = []) (hlen : r.args.length = ps.length) (hr : Room k callerA)
    (hY : ∀ (w : World) (h : Heap), YP w h → (K w.params).In h)
    (F : ∀ (w : World) (mg : Str → Option Value) (fa : Addr) (h : Heap), YP w h → (K w.params).In h → h.Ns mainGlobals mg → mg d.name = some (.ref fa) →
      ∃ fd : FuncData, (∀ (s : Shared) (us : List Value), us.length = ps.length → BindsTo s fd ⟨us, []⟩ (ps.zip us)) ∧ TabIn q (K w.params) mg tab ∧
        ∀ base : Heap, (K w.params).In base → base.Ns mainGlobals mg → Fs.BM mg base → FnOk r.prog w (K w.params) mg base CX k fa fd ps (sp (K w.params)))
    (hsp : ∀ (K : PySem.W.Frag) (H : Hp) (xs : List V) (a : Codec.denoteAll r.args), H tab = some (.tbl #[]) → OnlyT tab H → Codec.withinAll r.args a = true → Codec.app r.args r.asked a = true → DwAll K H xs (Codec.encAll r.args a) →
      sp K xs H (fun v H' => Dw K H' v (r.ret.enc (Codec.app r.args r.f a))) fun _ _ _ => False)
    (hCX : ∀ (H : Hp) (s : Shared) (e : Value) (s' : Shared), CX [] H s (fun _ _ _ => False) e s' → False) :
    PySem.W.WalkOS q loose XP YP r d [] (fun f vs => PySem.call f vs) := by
  intro w s_0 s₁ mg mb G Y fa o pm cd doc dV kV ho hd hcd hD hmg hg args vals as hpre hlay hrd hwl hlo
  obtain ⟨a, e1, e2⟩ := PySem.W.os_pre_some hpre
  obtain ⟨e3, hwi⟩ := Codec.encAll_of_decAll r.args args a e1
  subst e3
  have KX := hY w _ Y
  obtain ⟨fd, hb, hT, hF⟩ := F w mg fa _ Y KX G.T.g hmg
  obtain ⟨t1, t2, t3⟩ := hT.at KX G.T
  refine PySem.W.enter_call (codeAny_mono (spec_callT (R := []) (cl := classAt s_0.heap) (d0 := r.ret.enc (Codec.app r.args r.f a)) KX G.T.g G.T.b G.T.builtins G.T.nolimit hg t1 t2 t3 G.T.bmain hwl (pl_encAll _ _) (layable_weight hlay) hr hF hb (by rw [encAll_len]; exact hlen)
    (fun H xs hHt hO hS => hsp (K w.params) H xs a hHt hO hwi e2 hS) fun H e s' => hCX H s₁ e s') fun r' s' hq => ?_)
  obtain ⟨u, as', rfl, h1, h2, h3, h4⟩ := hq
  exact ⟨.inl ⟨u, _, as', rfl, fun _ => rfl, h1, (OpenSpec.post_iff hwell hwi _ _).mpr rfl, fun z => Bool.noConfusion (show false = true from z)⟩, h2, h3, h4⟩
end L2
end
section
set_option Elab.async false
set_option linter.all false
set_option maxRecDepth 100000
set_option maxHeartbeats 2000000
/-! A call of a function that stands in a tuple; a dict of the file's top; `in` a tuple of the file's top. -/
namespace L2
open PySem PySem.Spec PyProof.Rows
section
variable {X : Cx} {k : Nat} {pos : Pos} {e func : Expr} {es : List Expr} {t : TA} {te : TE}
/-- f(..), f reckoned: what may stand there, each with its promise -/
def tCallF (te : TE) (G : Addr → Sp → Prop) (t : TA) : TE := fun σ H Q => te σ H fun x H1 => ∃ f sp, x = .ref f ∧ G f sp ∧ t σ H1 fun vs H2 => sp (vs ++ []) H2 Q E0
theorem pe_callF {G : Addr → Sp → Prop} (he : PE X func te) (hG : ∀ f sp, G f sp → ∃ fd ps, FnOk X.prog X.w X.K X.mg X.base CX0 k f fd ps sp ∧ PySem.W.keepIn X.K (.ref f) = true ∧ Binds X.K fd ps []) (hr : Room k X.A) (ha : PA X (e :: es) t)
    (hev : eval (.Call func (e :: es) [] pos) X.env = (do callWith pos (← eval func X.env) [] (backTo pos (starEach (e :: es) X.env)) (backToKw pos (keywordEach [] X.env))) := by rfl)
    (hst : starEach (e :: es) X.env = (false, eval e X.env) :: starEach es X.env := by rfl) (hpl : (backTo pos (starEach es X.env)).any (·.1) = false := by rfl) : PE X (.Call func (e :: es) [] pos) (tCallF te G t) := by
  intro pins s σ H Q I h
  refine Call_ (thn (he pins s σ H _ I h) fun v s1 ⟨x, H1, I1, r1, f, sp, ex, g, q1⟩ => ?_) hev
  subst ex
  obtain rfl : v = Value.ref f := r1
  obtain ⟨fd, ps, F, hk, hb⟩ := hG f sp g
  refine PySem.W.callWith_K (h₀ := X.base) I.ok.mod.kin hk (thn (ha pos pins s1 σ H1 _ I1 q1) fun us s2 ⟨vs, H2, I2, r, q⟩ => ⟨I2.kIn, ?_⟩) hst hpl
  exact run_fn F hr hb .nil pass0 I2 r q
/-! ### a dict of ints at the file's top -/
/-- the dict at a: its keys and values, ints -/
structure DicK (K : PySem.W.Frag) (w : World) (a : Addr) (kvs : List (Int × Int)) : Prop where
  ex : ∃ (o : Obj) (ep : Nat) (ts : List (Tok × Tok)), K.lookup a = some o ∧ o.ExactDict ∧ ts.length = kvs.length ∧ o.data = .dict ((kvs.zip ts).map fun p => (⟨hashInt p.1.1, .int p.1.1 p.2.1, .int p.1.2 p.2.2⟩ : DictEntry)).toArray ep
  nd : (kvs.map (·.1)).Nodup
  sm : (a == sysModules) = false
theorem DicK.of {K : PySem.W.Frag} {P : Program} {w : World} {a : Addr} {kvs : List (Int × Int)} {h : Heap} (D : DicK K w a kvs) (X : K.In h) : ∃ vs : List (Key × Value), h.DictOf (mixKind P w) a vs ∧ ∀ k v, (kvs.find? fun p => p.1 = k).map (·.2) = some v → ∃ t, valueAt vs (Sum.inl k) = some (.int v t) := by
  obtain ⟨o, ep, ts, hk, hx, hl, hd⟩ := D.ex
  refine ⟨(kvs.zip ts).map fun p => ((Sum.inl p.1.1 : Key), Value.int p.1.2 p.2.2), ⟨o, _, ep, X _ _ hk, hx, hd, fun e he => ?_, ?_, ?_⟩, fun k v hv => ?_⟩
  · have he' : e ∈ (kvs.zip ts).map fun p => (⟨hashInt p.1.1, .int p.1.1 p.2.1, .int p.1.2 p.2.2⟩ : DictEntry) := by simpa using he
    obtain ⟨p, _, rfl⟩ := List.mem_map.mp he'
    exact ⟨Sum.inl p.1.1, keyIs_int p.1.1 p.2.1, rfl⟩
  · show Pairs (mixKind P w) ((kvs.zip ts).map _).toArray.toList _
    rw [List.toList_toArray]
    generalize kvs.zip ts = l
    induction l with
    | nil => exact .nil
    | cons p r ih => exact .cons (keyIs_int p.1.1 p.2.1) rfl ih
  · rw [List.map_map]
    have e : ((kvs.zip ts).map ((fun x : Key × Value => x.1) ∘ fun p : (Int × Int) × Tok × Tok => ((Sum.inl p.1.1 : Key), Value.int p.1.2 p.2.2))) = (kvs.map (·.1)).map (Sum.inl : Int → Key) := by
      rw [← List.map_fst_zip (l₁ := kvs) (l₂ := ts) (by omega), List.map_map, List.map_map]
      rw [List.map_fst_zip (by omega)]
      rfl
    rw [e]
    exact D.nd.map _ fun a b h q => h (Sum.inl.inj q)
  · have gen : ∀ (l : List (Int × Int)) (ts : List (Tok × Tok)), ts.length = l.length → (l.find? fun p => p.1 = k).map (·.2) = some v → ∃ t, valueAt ((l.zip ts).map fun p => ((Sum.inl p.1.1 : Key), Value.int p.1.2 p.2.2)) (Sum.inl k) = some (.int v t) := by
      intro l
      induction l with
      | nil => intro ts _ h; simp at h
      | cons p r ih =>
        intro ts hl h
        cases ts with
        | nil => simp at hl
        | cons t ts =>
          rw [List.zip_cons_cons, List.map_cons]
          unfold valueAt
          by_cases q : p.1 = k
          · rw [List.find?_cons_of_pos (by simpa using q)] at h
            have h' : p.2 = v := Option.some.inj h
            refine ⟨t.2, ?_⟩
            rw [List.find?_cons_of_pos (by simp [q])]
            show some (Value.int p.2 t.2) = _
            rw [h']
          · rw [List.find?_cons_of_neg (by simpa using q)] at h
            obtain ⟨t', ih'⟩ := ih ts (by simpa using hl) h
            refine ⟨t', ?_⟩
            rw [List.find?_cons_of_neg (by simp [q])]
            exact ih'
    exact gen kvs ts hl hv
def rIxDK (K : PySem.W.Frag) (w : World) : R2 := fun x y H Q => ∃ (p : Addr) (kvs : List (Int × Int)) (i v : Int), x = .ref p ∧ y = .int i ∧ DicK K w p kvs ∧ (kvs.find? fun q => q.1 = i).map (·.2) = some v ∧ Q (.int v) H
def tDGetK (K : PySem.W.Frag) (w : World) (td ty : TE) : TE := fun σ H Q => td σ H fun x H1 => ty σ H1 fun y H2 => rIxDK K w x y H2 Q
theorem pe_dgetK {o i : Expr} {td ty : TE} (ho : PE X o td) (hi : PE X i ty) (hs : NoSl i) : PE X (.Subscript o i pos) (tDGetK X.K X.w td ty) := by
  intro pins s σ H Q I h
  refine subD_of PySem.F.slot_dict_getitem.lookup hs (thn (ho pins s σ H _ I h) fun u s1 ⟨x, H1, I1, rx, q1⟩ => thn (hi pins s1 σ H1 _ I1 q1) fun iv s2 ⟨y, H2, I2, ry, a, kvs, j, v, ex, ey, D, hv, q2⟩ => ?_)
  subst ex ey
  obtain rfl : u = Value.ref a := rx
  obtain ⟨vs, dd, look⟩ := D.of (P := X.prog) (w := X.w) I2.kIn
  obtain ⟨t, ht⟩ := look j v hv
  refine ⟨?_, wpAny_getItem_of (kV_is (k := Sum.inl j) ry) dd.mapOf ht ⟨.int v, H2, I2.tok _, ⟨t, rfl⟩, q2⟩⟩
  obtain ⟨ob, es, ep, h1, h2, _⟩ := dd
  exact ⟨ob, h1, h2.1⟩
end
end L2
end
section
set_option Elab.async false
set_option linter.all false
set_option maxRecDepth 100000
set_option maxHeartbeats 2000000
namespace Fs
open PySem PySem.Spec PyProof.Rows L2
section
variable {P : Program} {w : World} {K : PySem.W.Frag} {mg : Str → Option Value} {base : Heap} {d : Ad}
/-- an answer that changes nothing, its list built on the way -/
theorem ans_at {H H1 : Hp} {f ol p : Addr} {st : Vbfuaf.State} {c : Nat} {ns as : List Int} {Q : VK} (A : Apart d) (hF : FundAt d H f ol st) (t : TabOk d H) (g : Gr d H H1)
    (k : ∀ (H' : Hp) (ol' p : Addr), Aft d H H' f ol ol' → FundAt d H' f ol' (stepOf c st ns).1 → H p = none ∧ H' p = some (.lst ((stepOf c st ns).2.map V.int)) → Q (.ref p) H')
    (e : stepOf c st ns = (st, as)) (nw : H p = none) (hp : H1 p = some (.lst (as.map V.int))) : Q (.ref p) H1 := by
  refine k _ ol p (.of hF g t) ?_ ⟨nw, ?_⟩
  · rw [e]
    exact hF.keep A g.kp
  · rw [e]
    exact hp
/-! ### one_if -/
def spOne : Sp := fun vs H Q _ => ∃ b : Bool, vs = [.bl b] ∧ Q (.int (if b = true then 1 else 0)) H
theorem c_one_if (D : Dfn K mg "one_if" s_one_if p_one_if) : Cal P w K mg base "one_if" 1 p_one_if spOne := D.cal fun f fd F => by
  refine F.ok sc_one_if (fun vs H Q E h => ?_) (fun cdv A outer s H vs Q E hr h => ?_)
  · obtain ⟨b, rfl, _⟩ := h
    rfl
  · obtain ⟨b, rfl, k⟩ := h
    refine ⟨_, (pss_one (ps_ret (pe_ifExp (pt_val (pv 0)) pe_int pe_int))), ?_⟩
    refine ⟨_, rfl, _, rfl, ifB (fun c => ?_) fun c => ?_⟩
    · have c' : b = true := c
      rw [if_pos c'] at k
      exact k
    · have c' : b = false := c
      rw [if_neg (by rw [c']; exact Bool.false_ne_true)] at k
      exact k
/-! ### fund -/
theorem c_fund_now (T : Txt K mg d) (D : Dfn K mg "fund_now" s_fund_now p_fund_now) : Cal P w K mg base "fund_now" 1 p_fund_now (spCall d 13 (some 0)) := D.cal fun f fd F => by
  refine F.ok sc_fund_now (fun vs H Q E h => ?_) (fun cdv A outer s H vs Q E hr h => ?_)
  · obtain ⟨fu, ol, l, st, ns, rfl, _⟩ := h
    rfl
  · obtain ⟨fu, ol, l, st, ns, rfl, hF, W, hT, hl, hn, k⟩ := h
    have e0 := len0 (hn 0 rfl)
    subst e0
    refine ⟨_, (pss_one (ps_ret (pe_lst (pa_cons (pe_fld (pv 0) rfl) (pa_cons (pe_fld (pv 0) rfl) pa_nil))))), ?_⟩
    obtain ⟨df, tb, ts, po, oc, ef, _⟩ := hF.ex
    exact ⟨_, rfl, fu, _, df, _, _, rfl, ef, T.k_Fund, T.a_Fund_value, fundF_value .., _, rfl, fu, _, df, _, _, rfl, ef, T.k_Fund, T.a_Fund_units, fundF_units .., by show 2 ≤ sizeLine; decide, fun p hp => ans_end (as := [(st.value : Int), (st.units : Int)]) T.ap hF hT (Gr.refl H) k rfl hp⟩
/-! ### flow -/
theorem c_flow (T : Txt K mg d) (D : Dfn K mg "flow" s_flow p_flow) (m_Weighing : Kls P w K mg base "Weighing" d.wei 5 p_Weighing_init (spWei d)) (c_units_of : Cal P w K mg base "units_of" 1 p_units_of (spSumU d)) : Cal P w K mg base "flow" 7 p_flow (spCall d 14 (some 0)) := D.cal fun f fd F => by
  refine F.ok sc_flow (fun vs H Q E h => ?_) (fun cdv A outer s H vs Q E hr h => ?_)
  · obtain ⟨fu, ol, l, st, ns, rfl, _⟩ := h
    rfl
  · obtain ⟨fu, ol, l, st, ns, rfl, hF, W, hT, hl, hn, k⟩ := h
    have e0 := len0 (hn 0 rfl)
    subst e0
    have nd := sc_flow.nd
    refine ⟨_, (pss_cons (ps_set (i := 2) nd rfl (Or.inl rfl) (pmk m_Weighing (hr.mono (by decide)) (pa_cons (pv 0) pa_nil)))
    (pss_one (ps_ret (pe_lst (pa_cons (pe_fld (pv 2) rfl) (pa_cons (pe_fld (pv 2) rfl) (pa_cons (pcl c_units_of (hr.mono (by decide)) (pa_cons (pe_fld (pv 2) rfl) pa_nil)) pa_nil))))))), ?_⟩
    refine ⟨_, rfl, made_wei T.ap hF W fun x H2 nx s2 ⟨dx, lp, hx, hlp⟩ => ?_⟩
    refine ⟨_, rfl, x, _, dx, _, _, rfl, hx, T.k_Weighing, T.a_Weighing_side, weiF_side .., _, rfl, x, _, dx, _, _, rfl, hx, T.k_Weighing, T.a_Weighing_flow, weiF_flow .., _, rfl, x, _, dx, _, _, rfl, hx, T.k_Weighing, T.a_Weighing_plain, weiF_plain .., lp, _, rfl, hlp, (rb_plain W).len, fun H3 s3 => ?_⟩
    exact ⟨by show 3 ≤ sizeLine; decide, fun p hp => ans_end (as := [(Vbfuaf.sideOf st : Int), Vbfuaf.flowOf (Vbfuaf.plain st), Vbfuaf.unitsOf (Vbfuaf.plain st)]) T.ap hF hT (.of (s2.trans s3)) k rfl hp⟩
/-! ### found -/
theorem c_found (T : Txt K mg d) (D : Dfn K mg "found" s_found p_found) (m_Weighing : Kls P w K mg base "Weighing" d.wei 5 p_Weighing_init (spWei d)) (c_found_swing : Cal P w K mg base "found_swing" 6 p_found_swing (spFound d))
    (c_covers : Cal P w K mg base "covers" 5 p_covers (spCovers d)) (c_one_if : Cal P w K mg base "one_if" 1 p_one_if spOne) : Cal P w K mg base "found" 7 p_found (spCall d 9 (some 0)) := D.cal fun f fd F => by
  refine F.ok sc_found (fun vs H Q E h => ?_) (fun cdv A outer s H vs Q E hr h => ?_)
  · obtain ⟨fu, ol, l, st, ns, rfl, _⟩ := h
    rfl
  · obtain ⟨fu, ol, l, st, ns, rfl, hF, W, hT, hl, hn, k⟩ := h
    have e0 := len0 (hn 0 rfl)
    subst e0
    have nd := sc_found.nd
    refine ⟨_, (pss_cons (ps_set (i := 2) nd rfl (Or.inl rfl) (pmk m_Weighing (hr.mono (by decide)) (pa_cons (pv 0) pa_nil)))
    (pss_cons (ps_set (i := 3) nd rfl (Or.inl rfl) (pcl c_found_swing (hr.mono (by decide)) (pa_cons (pv 0) (pa_cons (pe_fld (pv 2) rfl) pa_nil))))
    (pss_one (ps_ret (pe_lst (pa_cons (pe_fld (pv 2) rfl) (pa_cons (pcl c_one_if (hr.mono (by decide)) (pa_cons (pe_fld (pv 2) rfl) pa_nil)) (pa_cons (pv 3) (pa_cons (pcl c_one_if (hr.mono (by decide)) (pa_cons (pcl c_covers (hr.mono (by decide)) (pa_cons (pv 0) (pa_cons (pe_fld (pv 2) rfl) (pa_cons (pv 3) pa_nil)))) pa_nil)) pa_nil))))))))), ?_⟩
    refine ⟨_, rfl, made_wei T.ap hF W fun x H2 nx s2 ⟨dx, lp, hx, hlp⟩ => ?_⟩
    have hF2 := hF.keep T.ap (.of s2)
    have hw : Vbfuaf.foundSwing st ≤ 2000 := Nat.le_trans (found_le st) W.pol.most
    refine ⟨_, rfl, _, rfl, x, _, dx, _, _, rfl, hx, T.k_Weighing, T.a_Weighing_side, weiF_side .., fu, ol, st, rfl, hF2, W, fun H3 s3 => ?_⟩
    have hx3 := s3 _ _ hx
    refine ⟨_, rfl, x, _, dx, _, _, rfl, hx3, T.k_Weighing, T.a_Weighing_side, weiF_side .., _, rfl, x, _, dx, _, _, rfl, hx3, T.k_Weighing, T.a_Weighing_enough, weiF_enough .., _, rfl, _, rfl, _, rfl, _, rfl, x, _, dx, _, _, rfl, hx3, T.k_Weighing, T.a_Weighing_side, weiF_side ..,
      _, rfl, fu, ol, st, Vbfuaf.foundSwing st, rfl, hF2.keep T.ap (.of s3), W, hw, fun H4 s4 => ⟨_, rfl, by show 4 ≤ sizeLine; decide, fun p hp => ?_⟩⟩
    exact ans_end (as := [(Vbfuaf.sideOf st : Int), (if Vbfuaf.heavy st = true then 1 else 0), (Vbfuaf.foundSwing st : Int), (if Vbfuaf.covers st (Vbfuaf.foundSwing st) = true then 1 else 0)]) T.ap hF hT (.of ((s2.trans s3).trans s4)) k rfl hp
/-! ### try -/
theorem c_try_at (T : Txt K mg d) (R : Rng K mg "TRY_RANGES" [(0, 2000)]) (D : Dfn K mg "try_at" s_try_at p_try_at) (c_all_within : Cal P w K mg base "all_within" 1 p_all_within (spAw K)) (m_Weighing : Kls P w K mg base "Weighing" d.wei 5 p_Weighing_init (spWei d))
    (c_outcomes_at : Cal P w K mg base "outcomes_at" 4 p_outcomes_at (spAt d)) (c_one_if : Cal P w K mg base "one_if" 1 p_one_if spOne) (c_covers : Cal P w K mg base "covers" 5 p_covers (spCovers d)) (c_cost_of : Cal P w K mg base "cost_of" 3 p_cost_of (spCost d))
    (c_flow_of : Cal P w K mg base "flow_of" 1 p_flow_of (spSumM d)) (c_units_of : Cal P w K mg base "units_of" 1 p_units_of (spSumU d)) (c_kept_of : Cal P w K mg base "kept_of" 2 p_kept_of (spKept d)) : Cal P w K mg base "try_at" 7 p_try_at (spCall d 8 (some 1)) := D.cal fun f fd F => by
  refine F.ok sc_try_at (fun vs H Q E h => ?_) (fun cdv A outer s H vs Q E hr h => ?_)
  · obtain ⟨fu, ol, l, st, ns, rfl, _⟩ := h
    rfl
  · obtain ⟨fu, ol, l, st, ns, rfl, hF, W, hT, hl, hn, k⟩ := h
    obtain ⟨x, rfl⟩ := len1 (hn 1 rfl)
    obtain ⟨ra, hra, hrng⟩ := R
    have nd := sc_try_at.nd
    refine ⟨_, (pss_cons (ps_if (pt_not (pt_val (pcl c_all_within (hr.mono (by decide)) (pa_cons (pv 1) (pa_cons (gr hra) pa_nil)))))
    (pss_one (ps_ret (pe_lst (pa_cons (gk T.c_NOT_WITHIN) pa_nil))))
    pss_nil)
    (pss_cons (ps_set (i := 2) nd rfl (Or.inl rfl) (pe_ix ix_list (pv 1) pe_int (fun _ _ => rfl)))
    (pss_cons (ps_set (i := 3) nd rfl (Or.inl rfl) (pe_fld (pmk m_Weighing (hr.mono (by decide)) (pa_cons (pv 0) pa_nil)) rfl))
    (pss_cons (ps_set (i := 4) nd rfl (Or.inl rfl) (pcl c_outcomes_at (hr.mono (by decide)) (pa_cons (pv 0) (pa_cons (pv 3) (pa_cons (pv 2) pa_nil)))))
    (pss_cons (ps_set (i := 5) nd rfl (Or.inl rfl) (pcl c_one_if (hr.mono (by decide)) (pa_cons (pcl c_covers (hr.mono (by decide)) (pa_cons (pv 0) (pa_cons (pv 3) (pa_cons (pv 2) pa_nil)))) pa_nil)))
    (pss_one (ps_ret (pe_lst (pa_cons (pcl c_cost_of (hr.mono (by decide)) (pa_cons (pv 0) (pa_cons (pv 3) (pa_cons (pv 4) pa_nil)))) (pa_cons (pv 5) (pa_cons (pcl c_flow_of (hr.mono (by decide)) (pa_cons (pv 4) pa_nil)) (pa_cons (pcl c_units_of (hr.mono (by decide)) (pa_cons (pv 4) pa_nil)) (pa_cons (pcl c_kept_of (hr.mono (by decide)) (pa_cons (pv 0) (pa_cons (pv 4) pa_nil))) pa_nil))))))))))))), ?_⟩
    have eA : allIn [x] [(0, 2000)] = (Vbfuaf.inside x 0 2000 && true) := rfl
    have eS : stepOf 8 st [x] = if Vbfuaf.inside x 0 2000 = false then (st, [-1]) else (st, [(Vbfuaf.costWith st (Vbfuaf.swung st x.toNat) : Int), (if Vbfuaf.covers st x.toNat = true then 1 else 0), Vbfuaf.flowOf (Vbfuaf.swung st x.toNat), Vbfuaf.unitsOf (Vbfuaf.swung st x.toNat), Vbfuaf.kept st (Vbfuaf.swung st x.toNat)]) := rfl
    refine ⟨_, rfl, l, ra, _, _, rfl, SqL.of hl, hrng, rfl, fun H1 s1 => ⟨_, rfl, ifB (fun c => ?_) fun c => ?_⟩⟩
    · refine ⟨by show 1 ≤ sizeLine; decide, fun p hp => ?_⟩
      refine ans_end (as := [-1]) T.ap hF hT (.of s1) k ?_ hp
      rw [eA, Bool.and_true] at c
      rw [eS, if_pos (by simpa using c)]
    · rw [eA, Bool.and_true] at c
      have hok : Vbfuaf.inside x 0 2000 = true := by simpa using c
      rw [if_neg (by rw [hok]; decide)] at eS
      have b1 := inside_iff.mp hok
      obtain ⟨n, rfl⟩ := Int.eq_ofNat_of_zero_le b1.1
      have hsw : n ≤ 2000 := by omega
      rw [Int.toNat_natCast] at eS
      have hF1 := hF.keep T.ap (.of s1)
      refine ⟨_, rfl, l, _, _, _, rfl, rfl, SqL.of (s1 _ _ hl), at_of (j := 0) rfl rfl, ?_⟩
      refine ⟨_, rfl, made_wei T.ap hF1 W fun x H2 nx s2 ⟨dx, lp, hx, hlp⟩ => ?_⟩
      have hF2 := hF1.keep T.ap (.of s2)
      refine ⟨x, _, dx, _, _, rfl, hx, T.k_Weighing, T.a_Weighing_side, weiF_side .., ?_⟩
      refine ⟨_, rfl, _, rfl, _, rfl, fu, ol, st, Vbfuaf.sideOf st, n, rfl, hF2, W, hsw, fun H3 l3 s3 nl3 hl3 => ?_⟩
      have hl3' : LsAt (OutAt d) H3 l3 (Vbfuaf.swung st n) := hl3
      have B3 := rb_swung W hsw
      have hF3 := hF2.keep T.ap (.of s3)
      refine ⟨_, rfl, _, rfl, _, rfl, fu, ol, st, n, rfl, hF3, W, hsw, fun H4 s4 => ⟨_, rfl, ?_⟩⟩
      have hF4 := hF3.keep T.ap (.of s4)
      have hl4 := hl3'.kp (OutAt.lives T.ap) (.of s4)
      refine ⟨_, rfl, _, rfl, _, rfl, fu, ol, l3, st, Vbfuaf.sideOf st, _, rfl, hF4, W, hl4, B3, fun H5 s5 => ?_⟩
      have hl5 := hl4.kp (OutAt.lives T.ap) (.of s5)
      refine ⟨_, rfl, _, rfl, l3, _, rfl, hl5, B3.len, fun H6 s6 => ?_⟩
      have hl6 := hl5.kp (OutAt.lives T.ap) (.of s6)
      refine ⟨_, rfl, l3, _, rfl, hl6, B3.len, fun H7 s7 => ?_⟩
      have hl7 := hl6.kp (OutAt.lives T.ap) (.of s7)
      have s47 : Same H4 H7 := (s5.trans s6).trans s7
      refine ⟨_, rfl, _, rfl, fu, ol, l3, st, _, rfl, hF4.keep T.ap (.of s47), W, hl7, B3, fun H8 s8 => ⟨by show 5 ≤ sizeLine; decide, fun p hp => ?_⟩⟩
      exact ans_end (as := [(Vbfuaf.costWith st (Vbfuaf.swung st n) : Int), (if Vbfuaf.covers st n = true then 1 else 0), Vbfuaf.flowOf (Vbfuaf.swung st n), Vbfuaf.unitsOf (Vbfuaf.swung st n), Vbfuaf.kept st (Vbfuaf.swung st n)]) T.ap hF hT (.of (((((s1.trans s2).trans s3).trans s4).trans s47).trans s8)) k eS hp
/-! ### cost -/
theorem c_cost (T : Txt K mg d) (R : Rng K mg "COST_RANGES" [(1, 2), (0, 1000000000000)]) (D : Dfn K mg "cost" s_cost p_cost) (c_all_within : Cal P w K mg base "all_within" 1 p_all_within (spAw K))
    (c_trading_cost : Cal P w K mg base "trading_cost" 2 p_trading_cost (spTc d)) : Cal P w K mg base "cost" 3 p_cost (spCall d 10 (some 2)) := D.cal fun f fd F => by
  refine F.ok sc_cost (fun vs H Q E h => ?_) (fun cdv A outer s H vs Q E hr h => ?_)
  · obtain ⟨fu, ol, l, st, ns, rfl, _⟩ := h
    rfl
  · obtain ⟨fu, ol, l, st, ns, rfl, hF, W, hT, hl, hn, k⟩ := h
    obtain ⟨sd, x, rfl⟩ := len2 (hn 2 rfl)
    obtain ⟨ra, hra, hrng⟩ := R
    have nd := sc_cost.nd
    refine ⟨_, (pss_cons (ps_if (pt_not (pt_val (pcl c_all_within (hr.mono (by decide)) (pa_cons (pv 1) (pa_cons (gr hra) pa_nil)))))
    (pss_one (ps_ret (pe_lst (pa_cons (gk T.c_NOT_WITHIN) pa_nil))))
    pss_nil)
    (pss_cons (ps_set (i := 2) nd rfl (Or.inl rfl) (pe_ifExp (pt_cmpR op_eq (pe_ix ix_list (pv 1) pe_int (fun _ _ => rfl)) (gk T.c_SIDE_IN) (nomark _)) (pe_fld (pv 0) rfl) (pe_fld (pv 0) rfl)))
    (pss_one (ps_ret (pe_lst (pa_cons (pcl c_trading_cost (hr.mono (by decide)) (pa_cons (pv 2) (pa_cons (pe_ix ix_list (pv 1) pe_int (fun _ _ => rfl)) pa_nil))) pa_nil)))))), ?_⟩
    have eA : allIn [sd, x] [(1, 2), (0, 1000000000000)] = (Vbfuaf.inside sd 1 2 && (Vbfuaf.inside x 0 1000000000000 && true)) := rfl
    have eS : stepOf 10 st [sd, x] = if Vbfuaf.inside sd 1 2 = false ∨ Vbfuaf.inside x 0 1000000000000 = false then (st, [-1]) else (st, [(Vbfuaf.costOf (if sd = 1 then st.buys else st.sells) x.toNat : Int)]) := rfl
    refine ⟨_, rfl, l, ra, _, _, rfl, SqL.of hl, hrng, rfl, fun H1 s1 => ⟨_, rfl, ifB (fun c => ?_) fun c => ?_⟩⟩
    · refine ⟨by show 1 ≤ sizeLine; decide, fun p hp => ?_⟩
      refine ans_end (as := [-1]) T.ap hF hT (.of s1) k ?_ hp
      rw [eS, if_pos]
      rw [eA, Bool.and_true] at c
      cases q1 : Vbfuaf.inside sd 1 2 with
      | false => exact .inl rfl
      | true =>
        cases q2 : Vbfuaf.inside x 0 1000000000000 with
        | false => exact .inr rfl
        | true => rw [q1, q2] at c; cases c
    · rw [eA, Bool.and_true] at c
      have hin : Vbfuaf.inside sd 1 2 = true ∧ Vbfuaf.inside x 0 1000000000000 = true := by
        have c' : (Vbfuaf.inside sd 1 2 && Vbfuaf.inside x 0 1000000000000) = true := by simpa using c
        rw [Bool.and_eq_true] at c'
        exact c'
      have b2 := inside_iff.mp hin.2
      rw [if_neg (by rw [hin.1, hin.2]; simp)] at eS
      obtain ⟨n, rfl⟩ := Int.eq_ofNat_of_zero_le b2.1
      rw [Int.toNat_natCast] at eS
      have hF1 := hF.keep T.ap (.of s1)
      obtain ⟨df, tb, tsx, po, oc, ef, h1, h2, _⟩ := hF1.ex
      have sq : SqL K H1 l ([sd, (n : Int)].map V.int) := SqL.of (s1 _ _ hl)
      have fin : ∀ (t : Addr) (tiers : List (Nat × Nat)), LsAt (TierAt d) H1 t tiers → TW tiers → tiers = (if sd = 1 then st.buys else st.sells) →
          tRet (tLst (tCons (tCall (spTc d) [] E0 (tCons (tVar 2) (tCons (tOp (rIxL K) (tVar 1) (tC (.int 1))) tNil))) tNil)) { nx := fun _ H' => Q .non H', rt := Q } [some (.ref fu), some (.ref l), some (.ref t)] H1 := by
        intro t tiers ht wt et
        refine ⟨_, rfl, _, rfl, l, _, _, _, rfl, rfl, sq, at_of (j := 1) rfl rfl, t, tiers, n, rfl, ht, wt, Nat.le_trans (show n ≤ 1000000000000 by omega) (by decide), fun H2 s2 => ⟨by show 1 ≤ sizeLine; decide, fun p hp => ?_⟩⟩
        refine ans_end (as := [(Vbfuaf.costOf tiers n : Int)]) T.ap hF hT (.of (s1.trans s2)) k ?_ hp
        rw [eS, et]
      refine ⟨_, rfl, l, _, _, _, rfl, rfl, sq, at_of (j := 0) rfl rfl, rfl, _, rfl, ifB (fun c2 => ?_) fun c2 => ?_⟩
      · have c3 : decide (V.int sd = V.int 1) = true := c2
        rw [dec_int, beq_iff_eq] at c3
        refine ⟨_, rfl, fu, _, df, _, _, rfl, ef, T.k_Fund, T.a_Fund_buy_tiers, fundF_buy_tiers .., ?_⟩
        exact fin tb st.buys h1 W.buys (by rw [if_pos c3])
      · have c3 : decide (V.int sd = V.int 1) = false := c2
        rw [dec_int, beq_eq_false_iff_ne] at c3
        refine ⟨_, rfl, fu, _, df, _, _, rfl, ef, T.k_Fund, T.a_Fund_sell_tiers, fundF_sell_tiers .., ?_⟩
        exact fin tsx st.sells h2 W.sells (by rw [if_neg c3])
end
end Fs
end
section
set_option Elab.async false
set_option linter.all false
set_option maxRecDepth 100000
set_option maxHeartbeats 2000000
namespace Fs
open PySem PySem.Spec PyProof.Rows L2
theorem find_at {α : Type} {p : α → Bool} : ∀ {l : List α} {i : Nat} {r : α}, l[i]? = some r → p r = true → (∀ (j : Nat) (q : α), j < i → l[j]? = some q → p q = false) → l.find? p = some r
  | [], i, r, h, _, _ => by simp at h
  | a :: l, 0, r, h, hp, _ => by
    have e : a = r := Option.some.inj h
    subst e
    rw [List.find?_cons, hp]
  | a :: l, i + 1, r, h, hp, hb => by
    have ha : p a = false := hb 0 a (Nat.succ_pos _) rfl
    rw [List.find?_cons, ha]
    exact find_at (i := i) h hp fun j q hj hq => hb (j + 1) q (Nat.succ_lt_succ hj) hq
theorem find_none {α : Type} {p : α → Bool} {l : List α} (h : ∀ (j : Nat) (q : α), l[j]? = some q → p q = false) : l.find? p = none := by
  rw [List.find?_eq_none]
  intro x hx
  obtain ⟨i, hi⟩ := List.getElem?_of_mem hx
  rw [h i x hi]
  exact Bool.false_ne_true
theorem small121 {n : Nat} (h : n ≤ 200) : n ≤ sizeLine := Nat.le_trans h (by decide)
section
variable {P : Program} {w : World} {K : PySem.W.Frag} {mg : Str → Option Value} {base : Heap} {d : Ad}
/-! ### outcome -/
theorem c_outcome (T : Txt K mg d) (R : Rng K mg "OUTCOME_RANGES" [(1, 1000000)]) (D : Dfn K mg "outcome" s_outcome p_outcome) (c_all_within : Cal P w K mg base "all_within" 1 p_all_within (spAw K)) :
    Cal P w K mg base "outcome" 2 p_outcome (spCall d 11 (some 1)) := D.cal fun f fd F => by
  refine F.ok sc_outcome (fun vs H Q E h => ?_) (fun cdv A outer s H vs Q E hr h => ?_)
  · obtain ⟨fu, ol, l, st, ns, rfl, _⟩ := h
    rfl
  · obtain ⟨fu, ol, l, st, ns, rfl, hF, W, hT, hl, hn, k⟩ := h
    obtain ⟨x, rfl⟩ := len1 (hn 1 rfl)
    obtain ⟨ra, hra, hrng⟩ := R
    have nd := sc_outcome.nd
    refine ⟨_, (pss_cons (ps_if (pt_not (pt_val (pcl c_all_within (hr.mono (by decide)) (pa_cons (pv 1) (pa_cons (gr hra) pa_nil)))))
    (pss_one (ps_ret (pe_lst (pa_cons (gk T.c_NOT_WITHIN) pa_nil))))
    pss_nil)
    (pss_cons (ps_for PassesOwn.never rfl (pi_list (pe_fld (pv 0) rfl)) (pg_name (i := 2) nd rfl (Or.inl rfl))
    (pss_one (ps_if (pt_cmpR op_eq (pe_fld (pv 2) rfl) (pe_ix ix_list (pv 1) pe_int (fun _ _ => rfl)) (nomark _))
    (pss_one (ps_ret (pe_lst (pa_cons (pe_fld (pv 2) rfl) (pa_cons (pe_fld (pv 2) rfl) (pa_cons (pe_fld (pv 2) rfl) pa_nil))))))
    pss_nil)))
    (pss_one (ps_ret (pe_lst (pa_cons (gk T.c_NOT_THERE) pa_nil)))))), ?_⟩
    have eA : allIn [x] [(1, 1000000)] = (Vbfuaf.inside x 1 1000000 && true) := rfl
    have eS : stepOf 11 st [x] = if Vbfuaf.inside x 1 1000000 = false then (st, [-1]) else (match st.results.find? fun r => (r.num : Int) == x with
      | none => (st, [-4])
      | some r => (st, [(r.levy : Int), r.money, r.units])) := rfl
    refine ⟨_, rfl, l, ra, _, _, rfl, SqL.of hl, hrng, rfl, fun H1 s1 => ⟨_, rfl, ifB (fun c => ?_) fun c => ?_⟩⟩
    · refine ⟨by show 1 ≤ sizeLine; decide, fun p hp => ?_⟩
      refine ans_end (as := [-1]) T.ap hF hT (.of s1) k ?_ hp
      rw [eA, Bool.and_true] at c
      rw [eS, if_pos (by simpa using c)]
    · rw [eA, Bool.and_true] at c
      have hok : Vbfuaf.inside x 1 1000000 = true := by simpa using c
      rw [if_neg (by rw [hok]; decide)] at eS
      have hF1 := hF.keep T.ap (.of s1)
      obtain ⟨df, tb, tsx, po, oc, ef, h1, h2, h3, h4, ⟨as, ea, hal, hat⟩, n1, n2, n3⟩ := hF1.ex
      have sq1 : SqL K H1 l ([x].map V.int) := SqL.of (s1 _ _ hl)
      refine ⟨_, rfl, fu, _, df, _, _, rfl, ef, T.k_Fund, T.a_Fund_outcomes, fundF_outcomes .., oc, rfl, ⟨_, SqL.of ea⟩, for_list (K := K) (a := oc) (xs := as.map V.ref)
        (fun i σ H' => H' = H1 ∧ (∃ v2 : Option V, σ = [some (.ref fu), some (.ref l), v2]) ∧ ∀ (j : Nat) r, j < i → st.results[j]? = some r → ((r.num : Int) == x) = false) ⟨rfl, ⟨none, rfl⟩, fun j r hj => absurd hj (Nat.not_lt_zero _)⟩
        (fun i σ H' _ ⟨e, _⟩ => by rw [e]; exact SqL.of ea) ?_ ?_⟩
      · rintro i y σ H' hy ⟨rfl, ⟨v2, rfl⟩, hall⟩
        rw [List.getElem?_map] at hy
        cases qa : as[i]? with
        | none => rw [qa] at hy; cases hy
        | some a =>
          rw [qa] at hy
          cases hy
          have hi : i < st.results.length := by
            have := (List.getElem?_eq_some_iff.mp qa).1
            omega
          have qo : st.results[i]? = some (st.results[i]'hi) := List.getElem?_eq_getElem hi
          generalize st.results[i]'hi = r at qo
          obtain ⟨da, ha⟩ := hat i a r qa qo
          refine ⟨_, rfl, a, _, da, _, _, rfl, ha, T.k_Outcome, T.a_Outcome_number, outF_number .., _, rfl, l, _, _, _, rfl, rfl, sq1, at_of (j := 0) rfl rfl, rfl, _, rfl, ifB (fun c2 => ?_) fun c2 => ?_⟩
          · have c3 : decide (V.int (r.num : Int) = V.int x) = true := c2
            rw [dec_int] at c3
            refine ⟨_, rfl, a, _, da, _, _, rfl, ha, T.k_Outcome, T.a_Outcome_levy, outF_levy .., _, rfl, a, _, da, _, _, rfl, ha, T.k_Outcome, T.a_Outcome_money, outF_money .., _, rfl, a, _, da, _, _, rfl, ha, T.k_Outcome, T.a_Outcome_units, outF_units .., by show 3 ≤ sizeLine; decide, fun p hp => ?_⟩
            refine ans_end (as := [(r.levy : Int), r.money, r.units]) T.ap hF hT (.of s1) k ?_ hp
            rw [eS, find_at (p := fun r : Vbfuaf.Result => (r.num : Int) == x) qo c3 hall]
          · have c3 : decide (V.int (r.num : Int) = V.int x) = false := c2
            rw [dec_int] at c3
            refine ⟨rfl, ⟨_, rfl⟩, fun j q hj hq => ?_⟩
            by_cases e : j = i
            · subst e
              rw [qo] at hq
              cases hq
              exact c3
            · exact hall j q (by omega) hq
      · rintro σ H' ⟨rfl, ⟨v2, rfl⟩, hall⟩
        refine ⟨by show 1 ≤ sizeLine; decide, fun p hp => ?_⟩
        refine ans_end (as := [-4]) T.ap hF hT (.of s1) k ?_ hp
        rw [eS, find_none (p := fun r : Vbfuaf.Result => (r.num : Int) == x) fun j q hq => hall j q (by rw [List.length_map, hal]; exact (List.getElem?_eq_some_iff.mp hq).1) hq]
/-! ### orders -/
def tellO (o : Vbfuaf.Order) : List Int := [(o.num : Int), (o.kind : Int), (o.amount : Int)]
theorem tellO_len (l : List Vbfuaf.Order) : (l.flatMap tellO).length = 3 * l.length := by
  induction l with
  | nil => rfl
  | cons a l ih =>
    rw [List.flatMap_cons, List.length_append, ih, List.length_cons]
    show 3 + _ = _
    omega
theorem c_orders (T : Txt K mg d) (D : Dfn K mg "orders" s_orders p_orders) : Cal P w K mg base "orders" 1 p_orders (spCall d 12 (some 0)) := D.cal fun f fd F => by
  refine F.ok sc_orders (fun vs H Q E h => ?_) (fun cdv A outer s H vs Q E hr h => ?_)
  · obtain ⟨fu, ol, l, st, ns, rfl, _⟩ := h
    rfl
  · obtain ⟨fu, ol, l, st, ns, rfl, hF, W, hT, hl, hn, k⟩ := h
    have e0 := len0 (hn 0 rfl)
    subst e0
    have nd := sc_orders.nd
    refine ⟨_, (pss_cons (ps_set (i := 2) nd rfl (Or.inl rfl) (pe_lst (pa_cons (pe_callB call_len_seq (by rfl) T.n_len boot_len (pa_cons (pe_fld (pv 0) rfl) pa_nil)) pa_nil)))
    (pss_cons (ps_for PassesOwn.never rfl (pi_list (pe_fld (pv 0) rfl)) (pg_name (i := 3) nd rfl (Or.inl rfl))
    (pss_one (ps_expr (pe_bm PySem.F.plainAttrs_list PySem.F.slot_list_extend PySem.F.type_list_extend mt_extend (pv 2) (pa_cons (pe_lst (pa_cons (pe_fld (pv 3) rfl) (pa_cons (pe_fld (pv 3) rfl) (pa_cons (pe_fld (pv 3) rfl) pa_nil)))) pa_nil)))))
    (pss_one (ps_ret (pv 2))))), ?_⟩
    obtain ⟨df, tb, tsx, po, oc, ef, h1, h2, h3, ⟨as, ea, hal, hat⟩, h5, n1, n2, n3⟩ := hF.ex
    have hw := W.olen
    refine ⟨_, rfl, fu, _, df, _, _, rfl, ef, T.k_Fund, T.a_Fund_orders, fundF_orders .., ol, _, rfl, .inl (SqL.of ea), by show 1 ≤ sizeLine; decide, fun p hp => ?_⟩
    have elen : ((as.map V.ref).length : Int) = (st.orders.length : Int) := by rw [List.length_map, hal]
    rw [elen]
    have s1 : Same H (upd H p (.lst [.int (st.orders.length : Int)])) := Same.new hp
    refine ⟨_, rfl, fu, _, df, _, _, rfl, s1 _ _ ef, T.k_Fund, T.a_Fund_orders, fundF_orders .., ol, rfl, ⟨_, SqL.of (s1 _ _ ea)⟩, for_list (K := K) (a := ol) (xs := as.map V.ref)
      (fun i σ H' => Same H H' ∧ (∃ v3 : Option V, σ = [some (.ref fu), some (.ref l), some (.ref p), v3]) ∧ H' p = some (.lst (((st.orders.length : Int) :: (st.orders.take i).flatMap tellO).map V.int))) ⟨s1, ⟨none, rfl⟩, upd_same⟩
      (fun i σ H' _ ⟨s2, _⟩ => SqL.of (s2 _ _ ea)) ?_ ?_⟩
    · rintro i y σ H' hy ⟨s2, ⟨v3, rfl⟩, hpl⟩
      rw [List.getElem?_map] at hy
      cases qa : as[i]? with
      | none => rw [qa] at hy; cases hy
      | some a =>
        rw [qa] at hy
        cases hy
        have hi : i < st.orders.length := by
          have := (List.getElem?_eq_some_iff.mp qa).1
          omega
        have qo : st.orders[i]? = some (st.orders[i]'hi) := List.getElem?_eq_getElem hi
        generalize st.orders[i]'hi = o at qo
        obtain ⟨da, ha0⟩ := hat i a o qa qo
        have ha := s2 _ _ ha0
        refine ⟨_, rfl, .inl ⟨rfl, _, SqL.of hpl⟩, _, rfl, a, _, da, _, _, rfl, ha, T.k_Order, T.a_Order_number, ordF_number .., _, rfl, a, _, da, _, _, rfl, ha, T.k_Order, T.a_Order_kind, ordF_kind .., _, rfl, a, _, da, _, _, rfl, ha, T.k_Order, T.a_Order_amount, ordF_amount .., by show 3 ≤ sizeLine; decide, fun q hq => ?_⟩
        have s3 : Same H' (upd H' q (.lst [.int (o.num : Int), .int (o.kind : Int), .int (o.amount : Int)])) := Same.new hq
        refine ⟨p, q, _, _, rfl, rfl, s3 _ _ hpl, upd_same, ?_, ?_, ⟨_, rfl⟩, ?_⟩
        · rw [List.length_map, List.length_cons, tellO_len, List.length_take]
          show _ + 3 ≤ sizeLine
          exact small121 (by omega)
        · intro c u e
          rw [upd_ne (ne_of_none e hp)]
          exact s3 _ _ (s2 _ _ e)
        · rw [upd_same, take_snoc qo, List.flatMap_append, List.map_cons, List.map_cons, List.map_append]
          rfl
    · rintro σ H' ⟨s2, ⟨v3, rfl⟩, hpl⟩
      rw [List.length_map, hal, List.take_length] at hpl
      exact ⟨_, rfl, ans_at T.ap hF hT (.of s2) k rfl hp hpl⟩
/-! ### weights -/
def tellW (st : Vbfuaf.State) (x : Vbfuaf.Order × Nat) : List Int := [(Vbfuaf.weightOf st x.1 : Int), (x.2 : Int)]
theorem tellW_len (st : Vbfuaf.State) (l : List (Vbfuaf.Order × Nat)) : (l.flatMap (tellW st)).length = 2 * l.length := by
  induction l with
  | nil => rfl
  | cons a l ih =>
    rw [List.flatMap_cons, List.length_append, ih, List.length_cons]
    show 2 + _ = _
    omega
theorem natsV_get {ns : List Nat} {i : Nat} {v : V} (h : (natsV ns)[i]? = some v) : ∃ n, ns[i]? = some n ∧ v = .int (n : Int) := by
  unfold natsV at h
  rw [List.getElem?_map, List.getElem?_map] at h
  cases q : ns[i]? with
  | none => rw [q] at h; cases h
  | some n =>
    rw [q] at h
    exact ⟨n, rfl, (Option.some.inj h).symm⟩
theorem c_weights (T : Txt K mg d) (D : Dfn K mg "weights" s_weights p_weights) (m_Weighing : Kls P w K mg base "Weighing" d.wei 5 p_Weighing_init (spWei d)) (c_weights_of : Cal P w K mg base "weights_of" 2 p_weights_of (spWts d))
    (c_levies_of : Cal P w K mg base "levies_of" 4 p_levies_of (spLevs d)) : Cal P w K mg base "weights" 7 p_weights (spCall d 15 (some 0)) := D.cal fun f fd F => by
  refine F.ok sc_weights (fun vs H Q E h => ?_) (fun cdv A outer s H vs Q E hr h => ?_)
  · obtain ⟨fu, ol, l, st, ns, rfl, _⟩ := h
    rfl
  · obtain ⟨fu, ol, l, st, ns, rfl, hF, W, hT, hl, hn, k⟩ := h
    have e0 := len0 (hn 0 rfl)
    subst e0
    have nd := sc_weights.nd
    refine ⟨_, (pss_cons (ps_set (i := 2) nd rfl (Or.inl rfl) (pmk m_Weighing (hr.mono (by decide)) (pa_cons (pv 0) pa_nil)))
    (pss_cons (ps_set (i := 3) nd rfl (Or.inl rfl) (pe_lst (pa_cons (pe_callB call_len_seq (by rfl) T.n_len boot_len (pa_cons (pe_fld (pv 0) rfl) pa_nil)) pa_nil)))
    (pss_cons (ps_for PassesOwn.never rfl (pi_zip rfl T.n_zip (pa_cons (pcl c_weights_of (hr.mono (by decide)) (pa_cons (pv 0) (pa_cons (pv 2) pa_nil))) (pa_cons (pcl c_levies_of (hr.mono (by decide)) (pa_cons (pv 0) (pa_cons (pv 2) pa_nil))) pa_nil))) (pg_tup rfl (pgs_cons (pg_name (i := 4) nd rfl (Or.inl rfl)) (pgs_cons (pg_name (i := 5) nd rfl (Or.inl rfl)) pgs_nil)))
    (pss_one (ps_expr (pe_bm PySem.F.plainAttrs_list PySem.F.slot_list_extend PySem.F.type_list_extend mt_extend (pv 3) (pa_cons (pe_lst (pa_cons (pv 4) (pa_cons (pv 5) pa_nil))) pa_nil)))))
    (pss_one (ps_ret (pv 3)))))), ?_⟩
    have hw := W.olen
    refine ⟨_, rfl, made_wei T.ap hF W fun x H1 nx s1 hW => ?_⟩
    have hF1 := hF.keep T.ap (.of s1)
    obtain ⟨df, tb, tsx, po, oc, ef, h1, h2, h3, ⟨as, ea, hal, hat⟩, h5, n1, n2, n3⟩ := hF1.ex
    refine ⟨_, rfl, fu, _, df, _, _, rfl, ef, T.k_Fund, T.a_Fund_orders, fundF_orders .., ol, _, rfl, .inl (SqL.of ea), by show 1 ≤ sizeLine; decide, fun p hp => ?_⟩
    have elen : ((as.map V.ref).length : Int) = (st.orders.length : Int) := by rw [List.length_map, hal]
    rw [elen]
    have s2 : Same H1 (upd H1 p (.lst [.int (st.orders.length : Int)])) := Same.new hp
    have p2 : upd H1 p (.lst [.int (st.orders.length : Int)]) p = some (.lst [.int (st.orders.length : Int)]) := upd_same
    generalize L2.upd H1 p (.lst [.int (st.orders.length : Int)]) = H2 at s2 p2
    have hF2 := hF1.keep T.ap (.of s2)
    have hW2 := hW.kp T.ap (.of s2)
    refine ⟨_, rfl, _, rfl, fu, ol, x, st, rfl, hF2, W, hW2, fun H3 lw s3 nlw hlw => ?_⟩
    refine ⟨_, rfl, _, rfl, fu, ol, x, st, rfl, hF2.keep T.ap (.of s3), W, hW2.kp T.ap (.of s3), (hT.same s1).same (s2.trans s3), fun H4 lv g4 nlv hlv => ?_⟩
    have s23 : Same H2 H3 := s3
    have hlw4 : H4 lw = some (.lst (natsV (st.orders.map (Vbfuaf.weightOf st)))) := g4.kp _ _ hlw rfl
    have p4 : H4 p = some (.lst [.int (st.orders.length : Int)]) := g4.kp _ _ (s3 _ _ p2) rfl
    have gAll : Gr d H H4 := (Gr.of ((s1.trans s2).trans s3)).trans g4
    have npw : lw ≠ p := fun e => by rw [e, p2] at nlw; cases nlw
    have npv : lv ≠ p := fun e => by rw [e, s3 _ _ p2] at nlv; cases nlv
    have nHp : H p = none := s1.free hp
    have hlev : (Vbfuaf.levies st).length = st.orders.length := levies_len st
    have hzip : (st.orders.zip (Vbfuaf.levies st)).length = st.orders.length := by rw [List.length_zip, hlev, Nat.min_self]
    refine ⟨lw, lv, _, _, rfl, SqL.of hlw4, SqL.of hlv, for_zip (K := K) (xs := natsV (st.orders.map (Vbfuaf.weightOf st))) (ys := natsV (Vbfuaf.levies st))
      (fun i σ H' => But p H4 H' ∧ (∀ y, H' y = none → H4 y = none) ∧ TabOk d H' ∧ (∃ v4 v5 : Option V, σ = [some (.ref fu), some (.ref l), some (.ref x), some (.ref p), v4, v5]) ∧ H' p = some (.lst (((st.orders.length : Int) :: ((st.orders.zip (Vbfuaf.levies st)).take i).flatMap (tellW st)).map V.int)))
      (by rw [natsV_len, natsV_len, List.length_map, hlev]; exact Nat.le_refl _) ⟨fun _ _ e _ => e, fun _ e => e, gAll.tab hT, ⟨none, none, rfl⟩, p4⟩ (fun i σ H' _ ⟨b, _⟩ => ⟨SqL.of (b _ _ hlw4 npw), SqL.of (b _ _ hlv npv)⟩) ?_ ?_⟩
    · rintro i y z σ H' t hy hz ⟨b, fr, tb', ⟨v4, v5, rfl⟩, hpl⟩ ht
      obtain ⟨wn, hwn, rfl⟩ := natsV_get hy
      obtain ⟨ln, hln, rfl⟩ := natsV_get hz
      rw [List.getElem?_map] at hwn
      cases qo : st.orders[i]? with
      | none => rw [qo] at hwn; cases hwn
      | some o =>
        rw [qo] at hwn
        cases hwn
        have qz : (st.orders.zip (Vbfuaf.levies st))[i]? = some (o, ln) := List.getElem?_zip_eq_some.mpr ⟨qo, hln⟩
        have hi : i < st.orders.length := (List.getElem?_eq_some_iff.mp qo).1
        have s5 : Same H' (upd H' t (.tup [.int (Vbfuaf.weightOf st o : Int), .int (ln : Int)])) := Same.new ht
        have hp5 := s5 _ _ hpl
        refine ⟨t, _, rfl, SqT.of upd_same, rfl, _, _, rfl, _, _, rfl, rfl, _, rfl, .inl ⟨rfl, _, SqL.of hp5⟩, _, rfl, _, rfl, by show 2 ≤ sizeLine; decide, fun q hq => ?_⟩
        generalize L2.upd H' t (.tup [.int (Vbfuaf.weightOf st o : Int), .int (ln : Int)]) = H5 at s5 hp5 hq
        have s6 : Same H5 (upd H5 q (.lst [.int (Vbfuaf.weightOf st o : Int), .int (ln : Int)])) := Same.new hq
        have hp6 := s6 _ _ hp5
        refine ⟨p, q, _, _, rfl, rfl, hp6, upd_same, ?_, (b.trans (.of (s5.trans s6))).trans But.upd, fun y e => fr _ (s5.free (s6.free (fr_upd _ e))), ?_, ⟨_, _, rfl⟩, ?_⟩
        · rw [List.length_map, List.length_cons, tellW_len, List.length_take]
          show _ + 2 ≤ sizeLine
          exact small121 (by omega)
        · exact ((tb'.same s5).same s6).upd hp6 rfl (fun φ z => by cases z)
        · rw [upd_same, take_snoc qz, List.flatMap_append, List.map_cons, List.map_cons, List.map_append]
          rfl
    · rintro σ H' ⟨b, fr, tb', ⟨v4, v5, rfl⟩, hpl⟩
      rw [natsV_len, List.length_map, ← hzip, List.take_length] at hpl
      refine ⟨_, rfl, ans_at T.ap hF hT ⟨fun y o e ht => b _ _ (gAll.kp _ _ e ht) (fun z => by rw [z, nHp] at e; cases e), fun _ => tb', fun y e => gAll.fr _ (fr _ e)⟩ k rfl nHp ?_⟩
      rw [hzip] at hpl
      exact hpl
end
end Fs
end
section
set_option Elab.async false
set_option linter.all false
set_option maxRecDepth 100000
set_option maxHeartbeats 2000000
namespace Fs
open PySem PySem.Spec PyProof.Rows L2
/-! ### the numbers of a call -/
def nOf (c : Nat) : Option Nat := [some 2, none, none, some 6, some 2, some 1, some 1, some 0, some 1, some 0, some 2, some 1, some 0, some 0, some 0, some 0].getD c none
def NUMS : List (Int × Int) := [(0, 2), (3, 6), (4, 2), (5, 1), (6, 1), (7, 0), (8, 1), (9, 0), (10, 2), (11, 1), (12, 0), (13, 0), (14, 0), (15, 0)]
theorem shape_nat {c : Int} {n : Nat} (h : PyVbfuaf.shape c = some (n, 0)) (h1 : c ≠ 1) (h2 : c ≠ 2) : ∃ k : Nat, c = k ∧ k < 16 ∧ nOf k = some n ∧ ¬ (k = 1 ∨ k = 2) ∧ (NUMS.find? fun q => q.1 = c).map (·.2) = some (n : Int) := by
  rcases shape_cases h with ⟨rfl, e⟩ | ⟨rfl, e⟩ | ⟨rfl, e⟩ | ⟨rfl, e⟩ | ⟨rfl, e⟩ | ⟨rfl, e⟩ | ⟨rfl, e⟩ | ⟨rfl, e⟩ | ⟨rfl, e⟩ | ⟨rfl, e⟩ | ⟨rfl, e⟩ | ⟨rfl, e⟩ | ⟨rfl, e⟩ | ⟨rfl, e⟩ | ⟨rfl, e⟩ | ⟨rfl, e⟩
  · cases e; exact ⟨0, rfl, by decide, rfl, by decide, rfl⟩
  · exact absurd rfl h1
  · exact absurd rfl h2
  · cases e; exact ⟨3, rfl, by decide, rfl, by decide, rfl⟩
  · cases e; exact ⟨4, rfl, by decide, rfl, by decide, rfl⟩
  · cases e; exact ⟨5, rfl, by decide, rfl, by decide, rfl⟩
  · cases e; exact ⟨6, rfl, by decide, rfl, by decide, rfl⟩
  · cases e; exact ⟨7, rfl, by decide, rfl, by decide, rfl⟩
  · cases e; exact ⟨8, rfl, by decide, rfl, by decide, rfl⟩
  · cases e; exact ⟨9, rfl, by decide, rfl, by decide, rfl⟩
  · cases e; exact ⟨10, rfl, by decide, rfl, by decide, rfl⟩
  · cases e; exact ⟨11, rfl, by decide, rfl, by decide, rfl⟩
  · cases e; exact ⟨12, rfl, by decide, rfl, by decide, rfl⟩
  · cases e; exact ⟨13, rfl, by decide, rfl, by decide, rfl⟩
  · cases e; exact ⟨14, rfl, by decide, rfl, by decide, rfl⟩
  · cases e; exact ⟨15, rfl, by decide, rfl, by decide, rfl⟩
theorem stepOf_len {s : Vbfuaf.State} (W : WF s) (k : Nat) (ns : List Int) : (stepOf k s ns).2.length ≤ 121 := by
  unfold stepOf
  split
  · exact ans_lenN W _
  · exact ans_lenN W _
/-- the call at a place: its number, where its numbers begin, how many they are, what holds behind it -/
theorem Line.next {l : List Int} {p : Nat} {s : Vbfuaf.State} {told : List Int} {c : Int} (L : Line l p s told) (h : l[p]? = some c) :
    ∃ k p1 cnt : Nat, c = k ∧ k < 16 ∧ (p1 : Int) = (if c = 1 ∨ c = 2 then (p : Int) + 2 else (p : Int) + 1) ∧ ((c = 1 ∨ c = 2) → l[p + 1]? = some (cnt : Int)) ∧ (¬ (c = 1 ∨ c = 2) → (NUMS.find? fun q => q.1 = c).map (·.2) = some (cnt : Int)) ∧
      p < p1 ∧ p1 + cnt ≤ l.length ∧ (∀ j, nOf k = some j → ((l.drop p1).take cnt).length = j) ∧ told.length + 122 ≤ 48800 ∧
      Line l (p1 + cnt) (stepOf k s ((l.drop p1).take cnt)).1 (told ++ (((stepOf k s ((l.drop p1).take cnt)).2.length : Int) :: (stepOf k s ((l.drop p1).take cnt)).2)) := by
  rcases L.turn h with ⟨n, hsh, c1, c2, hp, _, hb, hL⟩ | ⟨c12, m, hm, hp, _, hb, hL⟩
  · obtain ⟨k, rfl, hk, hn, hk2, hf⟩ := shape_nat hsh c1 c2
    have no : ¬ ((k : Int) = 1 ∨ (k : Int) = 2) := fun z => z.elim c1 c2
    refine ⟨k, p + 1, n, rfl, hk, by rw [if_neg no]; omega, fun z => absurd z no, fun _ => hf, by omega, hp, fun j hj => ?_, hb, ?_⟩
    · rw [hn] at hj
      cases hj
      rw [List.length_take, List.length_drop]
      omega
    · have e : stepOf k s ((l.drop (p + 1)).take n) = VbfuafNeutral.step s [(k : Int) :: (l.drop (p + 1)).take n] := by
        unfold stepOf
        rw [if_neg hk2]
      rw [e]
      exact hL
  · rcases c12 with rfl | rfl
    · refine ⟨1, p + 2, m, rfl, by decide, by rw [if_pos (.inl rfl)]; omega, fun _ => hm, fun z => absurd (.inl rfl) z, by omega, hp, (fun j hj => by cases hj), hb, ?_⟩
      exact hL
    · refine ⟨2, p + 2, m, rfl, by decide, by rw [if_pos (.inr rfl)]; omega, fun _ => hm, fun z => absurd (.inr rfl) z, by omega, hp, (fun j hj => by cases hj), hb, ?_⟩
      exact hL
theorem cut2 {ns : List Int} {p1 cnt : Nat} (h : p1 + cnt ≤ ns.length) : cutV (ns.map V.int) (some (p1 : Int)) (some ((p1 : Int) + (cnt : Int))) = ((ns.drop p1).take cnt).map V.int := by
  have e : (p1 : Int) + (cnt : Int) = ((p1 + cnt : Nat) : Int) := (Int.natCast_add p1 cnt).symm
  unfold cutV
  rw [e, HT.sIx_nat, HT.sIx_nat, List.length_map, Nat.min_eq_left h, Nat.min_eq_left (show p1 ≤ ns.length by omega), List.map_take, List.map_drop, Nat.add_sub_cancel_left]
theorem in_rows (c : Int) : inV (.int c) [.int 1, .int 2] = decide (c = 1 ∨ c = 2) := by
  unfold inV
  show (eqV (.int 1) (.int c) || (eqV (.int 2) (.int c) || false)) = _
  have h0 : eqV (.int 1) (.int c) = decide ((1 : Int) = c) := by
    unfold eqV
    first | rfl | simp
  have h1 : eqV (.int 2) (.int c) = decide ((2 : Int) = c) := by
    unfold eqV
    first | rfl | simp
  rw [h0, h1, Bool.or_false, ← Bool.decide_or]
  apply decide_eq_decide.mpr
  omega
section
variable {P : Program} {w : World} {K : PySem.W.Frag} {mg : Str → Option Value} {base : Heap} {d : Ad}
/-! ### numbers_start, numbers_count -/
def spNs : Sp := fun vs H Q _ => ∃ c p r : Int, vs = [.int c, .int p] ∧ r = (if c = 1 ∨ c = 2 then p + 2 else p + 1) ∧ Q (.int r) H
theorem c_numbers_start {ra : Addr} (hra : mg "CALLS_WITH_ROW" = some (.ref ra)) (hR : ∀ H, SqT K H ra [.int 1, .int 2]) (D : Dfn K mg "numbers_start" s_numbers_start p_numbers_start) : Cal P w K mg base "numbers_start" 1 p_numbers_start spNs := D.cal fun f fd F => by
  refine F.ok sc_numbers_start (fun vs H Q E h => ?_) (fun cdv A outer s H vs Q E hr h => ?_)
  · obtain ⟨c, p, r, rfl, _⟩ := h
    rfl
  · obtain ⟨c, p, r, rfl, rfl, k⟩ := h
    refine ⟨_, (pss_one (ps_ret (pe_ifExp (pt_cmpR op_in_seq (pv 0) (gr hra) (by with_unfolding_all rfl)) (pe_op op_add (pv 1) pe_int) (pe_op op_add (pv 1) pe_int)))), ?_⟩
    refine ⟨_, rfl, ra, _, rfl, .inr (hR H), rfl, rfl, _, rfl, ifB (fun q => ?_) fun q => ?_⟩
    · have q' : inV (.int c) [.int 1, .int 2] = true := q
      rw [in_rows, decide_eq_true_eq] at q'
      rw [if_pos q'] at k
      exact ⟨_, rfl, _, _, rfl, rfl, k⟩
    · have q' : inV (.int c) [.int 1, .int 2] = false := q
      rw [in_rows, decide_eq_false_iff_not] at q'
      rw [if_neg q'] at k
      exact ⟨_, rfl, _, _, rfl, rfl, k⟩
def spNc (K : PySem.W.Frag) : Sp := fun vs H Q _ => ∃ (a : Addr) (ns : List Int) (p : Nat) (c n : Int), vs = [.ref a, .int p] ∧ SqL K H a (ns.map V.int) ∧ ns[p]? = some c ∧ ((c = 1 ∨ c = 2) → ns[p + 1]? = some n) ∧
  (¬ (c = 1 ∨ c = 2) → (NUMS.find? fun q => q.1 = c).map (·.2) = some n) ∧ Q (.int n) H
theorem c_numbers_count {ra da : Addr} (hra : mg "CALLS_WITH_ROW" = some (.ref ra)) (hR : ∀ H, SqT K H ra [.int 1, .int 2]) (hda : mg "NUMBERS_OF_CALL" = some (.ref da)) (hD : DicK K w da NUMS) (D : Dfn K mg "numbers_count" s_numbers_count p_numbers_count) :
    Cal P w K mg base "numbers_count" 1 p_numbers_count (spNc K) := D.cal fun f fd F => by
  refine F.ok sc_numbers_count (fun vs H Q E h => ?_) (fun cdv A outer s H vs Q E hr h => ?_)
  · obtain ⟨a, ns, p, c, n, rfl, _⟩ := h
    rfl
  · obtain ⟨a, ns, p, c, n, rfl, sq, hc, h1, h2, k⟩ := h
    refine ⟨_, (pss_cons (ps_if (pt_cmpR op_in_seq (pe_ix ix_list (pv 0) (pv 1) (fun _ _ => rfl)) (gr hra) (by with_unfolding_all rfl))
    (pss_one (ps_ret (pe_ix ix_list (pv 0) (pe_op op_add (pv 1) pe_int) (fun _ _ => rfl))))
    pss_nil)
    (pss_one (ps_ret (pe_dgetK (gr hda) (pe_ix ix_list (pv 0) (pv 1) (fun _ _ => rfl)) (fun _ _ => rfl))))), ?_⟩
    have hc' : (ns.map V.int)[p]? = some (.int c) := by rw [List.getElem?_map, hc]; rfl
    refine ⟨_, rfl, _, rfl, a, _, _, _, rfl, rfl, sq, at_of (j := p) rfl hc', ra, _, rfl, .inr (hR H), rfl, rfl, _, rfl, ifB (fun q => ?_) fun q => ?_⟩
    · have q' : inV (.int c) [.int 1, .int 2] = true := q
      rw [in_rows, decide_eq_true_eq] at q'
      refine ⟨_, rfl, _, rfl, _, _, rfl, rfl, a, _, _, _, rfl, rfl, sq, at_of (j := p + 1) (v := .int n) (by omega) (by rw [List.getElem?_map, h1 q']; rfl), k⟩
    · have q' : inV (.int c) [.int 1, .int 2] = false := q
      rw [in_rows, decide_eq_false_iff_not] at q'
      exact ⟨_, rfl, _, rfl, a, _, _, _, rfl, rfl, sq, at_of (j := p) rfl hc', da, NUMS, c, n, rfl, rfl, hD, h2 q', k⟩
/-! ### answer_of -/
def CallAt (P : Program) (w : World) (K : PySem.W.Frag) (mg : Str → Option Value) (base : Heap) (d : Ad) (c : Nat) (f : Addr) : Prop := ∃ fd ps, FnOk P w K mg base CX0 9 f fd ps (spCall d c (nOf c)) ∧ PySem.W.keepIn K (.ref f) = true ∧ Binds K fd ps []
theorem CallAt.of {x : Str} {k : Nat} {ps : List Str} {c : Nat} {n : Option Nat} {f : Addr} (C : Cal P w K mg base x k ps (spCall d c n)) (hk : k ≤ 9) (hn : n = nOf c) (hm : mg x = some (.ref f)) : CallAt P w K mg base d c f := by
  obtain ⟨f', fd, F, hm', hkp, hb⟩ := C.ex
  rw [hm] at hm'
  cases hm'
  subst hn
  exact ⟨fd, ps, F.mono hk, hkp, hb⟩
def spAns (d : Ad) : Sp := fun vs H Q _ => ∃ (c : Nat) (f ol l : Addr) (st : Vbfuaf.State) (ns : List Int), vs = [.ref f, .int c, .ref l] ∧ c < 16 ∧ FundAt d H f ol st ∧ WF st ∧ TabOk d H ∧ H l = some (.lst (ns.map V.int)) ∧ (∀ k, nOf c = some k → ns.length = k) ∧
  ∀ (H' : Hp) (ol' p : Addr), Aft d H H' f ol ol' → FundAt d H' f ol' (stepOf c st ns).1 → H p = none ∧ H' p = some (.lst ((stepOf c st ns).2.map V.int)) → Q (.ref p) H'
theorem c_answer_of {ca : Addr} {fs : List Addr} (hca : mg "CALLS" = some (.ref ca)) (hst : ∀ H, SqT K H ca (fs.map V.ref)) (hall : ∀ c, c < 16 → ∃ f, fs[c]? = some f ∧ CallAt P w K mg base d c f) (D : Dfn K mg "answer_of" s_answer_of p_answer_of) :
    Cal P w K mg base "answer_of" 10 p_answer_of (spAns d) := D.cal fun f fd F => by
  refine F.ok sc_answer_of (fun vs H Q E h => ?_) (fun cdv A outer s H vs Q E hr h => ?_)
  · obtain ⟨c, fu, ol, l, st, ns, rfl, _⟩ := h
    rfl
  · obtain ⟨c, fu, ol, l, st, ns, rfl, hc, hF, W, hT, hl, hn, k⟩ := h
    refine ⟨_, (pss_one (ps_ret (pe_callF (k := 9) (G := fun f sp => ∃ c, c < 16 ∧ fs[c]? = some f ∧ sp = spCall d c (nOf c)) (pe_ix ix_tup (gr hca) (pv 1) (fun _ _ => rfl)) (fun f sp ⟨c, hc, hf, e⟩ => ?_) (hr.mono (by decide)) (pa_cons (pv 0) (pa_cons (pv 2) pa_nil))))), ?_⟩
    · obtain ⟨f', hf', fd', ps', F', h1, h2⟩ := hall c hc
      rw [hf] at hf'
      cases hf'
      subst e
      exact ⟨fd', ps', F', h1, h2⟩
    · obtain ⟨f', hf', _⟩ := hall c hc
      exact ⟨_, rfl, ca, _, _, _, rfl, rfl, hst H, at_of (j := c) (v := .ref f') rfl (by rw [List.getElem?_map, hf']; rfl), f', _, rfl, ⟨c, hc, hf', rfl⟩, _, rfl, _, rfl, fu, ol, l, st, ns, rfl, hF, W, hT, hl, hn, k⟩
/-! ### answers -/
theorem SqL.kp {H H' : Hp} {a : Addr} {xs : List V} (k : Kp H H') (h : SqL K H a xs) : SqL K H' a xs := by
  rcases h with (h | ⟨o, h⟩) | h
  · exact .inl (.inl (k _ _ h rfl))
  · exact .inl (.inr ⟨o, k _ _ h rfl⟩)
  · exact .inr h
/-- a list that is none of the fund's is written -/
theorem FundAt.told {H : Hp} {f ol a : Addr} {s : Vbfuaf.State} {xs ys : List V} (A : Apart d) (hF : FundAt d H f ol s) (av : Av H f a) (ha : H a = some (.lst xs)) : FundAt d (upd H a (.lst ys)) f ol s := by
  obtain ⟨dx, tb, ts, po, oc, e, h1, h2, h3, h4, h5, h6⟩ := hF.ex
  obtain ⟨q1, q2, q3, q4⟩ := av.is e
  have kO : KpO d H (upd H a (.lst ys)) := .lst ha
  have nl : ∀ {l : Addr}, l ≠ a → ∀ zs, H l = some (.lst zs) → upd H a (.lst ys) l = some (.lst zs) := fun n zs e => by rw [upd_ne n]; exact e
  exact ⟨dx, tb, ts, po, oc, by rw [upd_ne (ne_of e ha (by intro z; cases z))]; exact e, h1.keep (TierAt.lives A) kO (nl q1), h2.keep (TierAt.lives A) kO (nl q2), PolAt.lives A _ _ _ _ kO h3, h4.keep (OrdAt.lives A) kO (nl q3), h5.keep (OutAt.lives A) kO (nl q4), h6⟩
theorem Av.told {H : Hp} {f ol a b : Addr} {s : Vbfuaf.State} {xs : List V} {o : HO} (hF : FundAt d H f ol s) (av : Av H f b) (ha : H a = some (.lst xs)) : Av (upd H a o) f b := fun C dx fs e => by
  obtain ⟨df, tb, ts, po, oc, ef, _⟩ := hF.ex
  rw [upd_ne (ne_of ef ha (by intro z; cases z))] at e
  exact av C dx fs e
theorem big48 {n : Nat} (h : n ≤ 48800) : n < sizeLine := Nat.lt_of_le_of_lt h (by decide)
def spAll (d : Ad) (K : PySem.W.Frag) : Sp := fun vs H Q _ => ∃ (a : Addr) (ns : List Int), vs = [.ref a] ∧ SqL K H a (ns.map V.int) ∧ PyVbfuaf.answers_asked ns = true ∧ TabOk d H ∧
  ∀ (H' : Hp) (p : Addr), H' p = some (.lst ((PyVbfuaf.answers ns).map V.int)) → Q (.ref p) H'
theorem c_answers {f : Addr} {fd : FuncData} (T : Txt K mg d) (F : Fun K "answers" "answers" s_answers f fd) (m_Fund : Kls P w K mg base "Fund" d.fund 4 p_Fund_init (spFund0 d)) (c_numbers_start : Cal P w K mg base "numbers_start" 1 p_numbers_start spNs)
    (c_numbers_count : Cal P w K mg base "numbers_count" 1 p_numbers_count (spNc K)) (c_answer_of : Cal P w K mg base "answer_of" 10 p_answer_of (spAns d)) : FnOk P w K mg base CX0 11 f fd p_answers (spAll d K) := by
  refine F.ok sc_answers (fun vs H Q E h => ?_) (fun cdv A outer s H vs Q E hr h => ?_)
  · obtain ⟨a, ns, rfl, _⟩ := h
    rfl
  · obtain ⟨a, ns, rfl, sq, hask, hT, k⟩ := h
    have nd := sc_answers.nd
    refine ⟨_, (pss_cons (ps_set (i := 1) nd rfl (Or.inl rfl) (pmk m_Fund (hr.mono (by decide)) (pa_cons (gk T.c_FIRST_VALUE) (pa_cons (gk T.c_FIRST_UNITS) pa_nil))))
    (pss_cons (ps_set (i := 2) nd rfl (Or.inl rfl) (pe_lst pa_nil))
    (pss_cons (ps_set (i := 3) nd rfl (Or.inl rfl) pe_int)
    (pss_cons (ps_while PassesOwn.never (pt_cmpR op_lt (pv 3) (pe_callB call_len_seq (by rfl) T.n_len boot_len (pa_cons (pv 0) pa_nil)) (nomark _))
    (pss_cons (ps_set (i := 4) nd rfl (Or.inl rfl) (pe_ix ix_list (pv 0) (pv 3) (fun _ _ => rfl)))
    (pss_cons (ps_set (i := 5) nd rfl (Or.inl rfl) (pcl c_numbers_start (hr.mono (by decide)) (pa_cons (pv 4) (pa_cons (pv 3) pa_nil))))
    (pss_cons (ps_set (i := 6) nd rfl (Or.inl rfl) (pe_op op_add (pv 5) (pcl c_numbers_count (hr.mono (by decide)) (pa_cons (pv 0) (pa_cons (pv 3) pa_nil)))))
    (pss_cons (ps_set (i := 7) nd rfl (Or.inl rfl) (pcl c_answer_of (hr.mono (by decide)) (pa_cons (pv 1) (pa_cons (pv 4) (pa_cons (pe_slice sl_list (pv 0) (po_some (pv 5)) (po_some (pv 6))) pa_nil)))))
    (pss_cons (ps_expr (pe_bm PySem.F.plainAttrs_list PySem.F.slot_list_append PySem.F.type_list_append mt_append (pv 2) (pa_cons (pe_callB call_len_seq (by rfl) T.n_len boot_len (pa_cons (pv 7) pa_nil)) pa_nil)))
    (pss_cons (ps_expr (pe_bm PySem.F.plainAttrs_list PySem.F.slot_list_extend PySem.F.type_list_extend mt_extend (pv 2) (pa_cons (pv 7) pa_nil)))
    (pss_one (ps_set (i := 3) nd rfl (Or.inl rfl) (pv 6))))))))))
    (pss_one (ps_ret (pv 2))))))), ?_⟩
    refine made_fund (v := 1000000) (u := 1000000) fun fu H1 ol0 nfu s1 nol0 hF1 => ?_
    refine ⟨Nat.zero_le _, fun tl ntl => ?_⟩
    have s2 : Same H1 (upd H1 tl (.lst [])) := Same.new ntl
    have htl0 : upd H1 tl (.lst []) tl = some (.lst (([] : List Int).map V.int)) := upd_same
    generalize L2.upd H1 tl (.lst []) = H2 at s2 htl0
    have hF2 := hF1.keep T.ap (.of s2)
    have av2 : Av H2 fu tl := by
      obtain ⟨df, tb, ts, po, oc, ef, ⟨_, e1, _⟩, ⟨_, e2, _⟩, _, ⟨_, e4, _⟩, ⟨_, e5, _⟩, _⟩ := hF1.ex
      refine .of (s2 _ _ ef) ⟨?_, ?_, ?_, ?_⟩ <;> (intro z; rw [← z] at ntl)
      · rw [e1] at ntl; cases ntl
      · rw [e2] at ntl; cases ntl
      · rw [e4] at ntl; cases ntl
      · rw [e5] at ntl; cases ntl
    have s02 : Same H H2 := s1.trans s2
    have hntl : H tl = none := s1.free ntl
    refine while_by (fun σ H' => ∃ (p : Nat) (st : Vbfuaf.State) (told : List Int) (ol : Addr) (z : Int) (v4 v5 v6 v7 : Option V), σ = [some (.ref a), some (.ref fu), some (.ref tl), some (.int z), v4, v5, v6, v7] ∧ z = (p : Int) ∧ Kp H H' ∧ (∀ y, H' y = none → H y = none) ∧
        FundAt d H' fu ol st ∧ TabOk d H' ∧ H' tl = some (.lst (told.map V.int)) ∧ Av H' fu tl ∧ H ol = none ∧ Line ns p st told)
      (fun σ _ => match σ with | [_, _, _, some (.int z), _, _, _, _] => ((ns.length : Int) - z).toNat | _ => 0)
      ⟨0, _, [], ol0, 0, none, none, none, none, rfl, rfl, .of s02, fun y e => s02.free e, hF2, hT.same s02, htl0, av2, nol0, Line.start hask⟩ ?_ ?_
    · rintro σ H' ⟨p, st, told, ol, z, v4, v5, v6, v7, rfl, rfl, kp, fr, hF, tab, htl, av, nol, L⟩
      have sq' := SqL.kp kp sq
      have elen : (ns.map V.int).length = ns.length := List.length_map ..
      refine ⟨_, rfl, _, rfl, a, _, rfl, .inl sq', _, _, rfl, rfl, _, rfl, ifB (fun q => ?_) fun q => ?_⟩
      · rw [decide_eq_true_eq, elen] at q
        have hp : p < ns.length := by omega
        have hc : ns[p]? = some (ns[p]'hp) := List.getElem?_eq_getElem hp
        generalize ns[p]'hp = c at hc
        have hc' : (ns.map V.int)[p]? = some (.int c) := by rw [List.getElem?_map, hc]; rfl
        obtain ⟨kk, p1, cnt, rfl, hk16, hp1, hr1, hr2, hlt, hend, hnum, hbd, L'⟩ := L.next hc
        refine ⟨_, rfl, _, rfl, a, _, _, _, rfl, rfl, sq', at_of (j := p) rfl hc', ?_⟩
        refine ⟨_, rfl, _, rfl, _, _, (p1 : Int), rfl, hp1, ?_⟩
        refine ⟨_, rfl, _, rfl, _, rfl, a, ns, p, _, (cnt : Int), rfl, sq', hc, hr1, hr2, _, _, rfl, rfl, ?_⟩
        refine ⟨_, rfl, _, rfl, _, rfl, _, rfl, _, rfl, _, rfl, _, rfl, a, _, rfl, sq', fun sl nsl => ?_⟩
        rw [cut2 hend]
        generalize hN : (ns.drop p1).take cnt = ms at hnum L'
        have s3 : Same H' (upd H' sl (.lst (ms.map V.int))) := Same.new nsl
        have hsl : upd H' sl (.lst (ms.map V.int)) sl = some (.lst (ms.map V.int)) := upd_same
        generalize L2.upd H' sl (.lst (ms.map V.int)) = H3 at s3 hsl
        have hF3 := hF.keep T.ap (.of s3)
        have av3 := av.kp (fun o e _ => s3 _ o e) hF
        have htl3 := s3 _ _ htl
        refine ⟨kk, fu, ol, sl, st, ms, rfl, hk16, hF3, L.wf, tab.same s3, hsl, hnum, fun H4 ol4 pa aft hF4 ⟨npa, hpa⟩ => ?_⟩
        have hlen := stepOf_len L.wf kk ms
        generalize (stepOf kk st ms).1 = st4 at hF4 L'
        generalize (stepOf kk st ms).2 = as at hpa L' hlen
        obtain ⟨df, tb, ts, po, oc, ef, _⟩ := id hF3.ex
        have ntf : tl ≠ fu := ne_of htl3 ef (by intro z; cases z)
        have nto : tl ≠ ol := fun z => (av3.is ef).2.2.1 z.symm
        have htl4 := aft.kp _ _ htl3 ntf nto rfl
        have av4 := aft.av _ _ htl3 av3
        have npt : pa ≠ tl := fun z => by rw [z, htl3] at npa; cases npa
        have kp4 : Kp H H4 := fun y o e ht => aft.kp _ _ (s3 _ _ (kp _ _ e ht)) (fun z => by rw [z, nfu] at e; cases e) (fun z => by rw [z, nol] at e; cases e) ht
        have fr4 : ∀ y, H4 y = none → H y = none := fun y e => fr _ (s3.free (aft.fr _ e))
        have nol4 : H ol4 = none := by
          rcases aft.nw with z | z
          · rw [z]; exact nol
          · exact fr _ (s3.free z)
        -- the count
        refine ⟨_, rfl, .inl ⟨rfl, _, SqL.of htl4⟩, _, rfl, pa, _, rfl, .inl (SqL.of hpa), tl, _, _, rfl, rfl, htl4, big48 (by rw [List.length_map]; omega), ?_⟩
        have hF5 := FundAt.told (ys := told.map V.int ++ [.int ((as.map V.int).length : Nat)]) T.ap hF4 av4 htl4
        have av5 : Av (upd H4 tl (.lst (told.map V.int ++ [.int ((as.map V.int).length : Nat)]))) fu tl := Av.told hF4 av4 htl4
        have hpa5 : upd H4 tl (.lst (told.map V.int ++ [.int ((as.map V.int).length : Nat)])) pa = some (.lst (as.map V.int)) := by rw [upd_ne npt]; exact hpa
        have htl5 : upd H4 tl (.lst (told.map V.int ++ [.int ((as.map V.int).length : Nat)])) tl = some (.lst (told.map V.int ++ [.int ((as.map V.int).length : Nat)])) := upd_same
        have tab5 : TabOk d (upd H4 tl (.lst (told.map V.int ++ [.int ((as.map V.int).length : Nat)]))) := aft.tab.upd htl4 rfl (fun φ z => by cases z)
        have kp5 : Kp H (upd H4 tl (.lst (told.map V.int ++ [.int ((as.map V.int).length : Nat)]))) := fun y o e ht => by
          rw [upd_ne (ne_of_none e hntl)]
          exact kp4 _ _ e ht
        have fr5 : ∀ y, upd H4 tl (.lst (told.map V.int ++ [.int ((as.map V.int).length : Nat)])) y = none → H y = none := fun y e => fr4 _ (fr_upd _ e)
        generalize L2.upd H4 tl (.lst (told.map V.int ++ [.int ((as.map V.int).length : Nat)])) = H5 at hF5 av5 hpa5 htl5 tab5 kp5 fr5
        -- the numbers
        refine ⟨_, rfl, .inl ⟨rfl, _, SqL.of htl5⟩, _, rfl, tl, pa, _, _, rfl, rfl, htl5, hpa5, Nat.le_of_lt (big48 (by rw [List.length_append, List.length_map, List.length_map, List.length_singleton]; omega)), ?_⟩
        refine ⟨_, rfl, ⟨p1 + cnt, st4, told ++ ((as.length : Int) :: as), ol4, _, _, _, _, _, rfl, (Int.natCast_add p1 cnt).symm, fun y o e ht => ?_, fun y e => fr5 _ (fr_upd _ e), FundAt.told T.ap hF5 av5 htl5, tab5.upd htl5 rfl (fun φ z => by cases z), ?_, Av.told hF5 av5 htl5, nol4, L'⟩, ?_⟩
        · rw [upd_ne (ne_of_none e hntl)]
          exact kp5 _ _ e ht
        · rw [upd_same, List.map_append, List.length_map, List.map_cons, List.append_assoc]
          rfl
        · show ((ns.length : Int) - ((p1 : Int) + (cnt : Int))).toNat < ((ns.length : Int) - (p : Int)).toNat
          omega
      · rw [decide_eq_false_iff_not, elen] at q
        refine ⟨_, rfl, k H' tl ?_⟩
        rw [L.done (by omega)]
        exact htl
    · rintro σ H' Q1 Q2 hq ⟨v, e, v', e', i, j, e1, e2, i', j', e3, e4, z, e5, q⟩
      exact ⟨v, e, v', e', i, j, e1, e2, i', j', e3, e4, z, e5, hq _ _ q⟩
end
end Fs
end
section
set_option Elab.async false
set_option linter.all false
set_option maxRecDepth 100000
set_option maxHeartbeats 2000000
/-! The facts of the file's top in one bundle; the whole put together. -/
namespace Fs
open PySem PySem.Spec PyProof.Rows L2
theorem bd_rounded_up (kV doc pm : Value) (an : Option Addr) (cdv ct : Value) (us : List Value) (hl : us.length = p_rounded_up.length) : bindArgs (PySem.W.fnOf "rounded_up" "rounded_up" (defArgs s_rounded_up) (defBody s_rounded_up) (defScope s_rounded_up) .none kV doc pm an cdv ct) ⟨us, []⟩ = pure (p_rounded_up.zip us) := match us, hl with | [_, _], _ => rfl
theorem bd_tiers_of (kV doc pm : Value) (an : Option Addr) (cdv ct : Value) (us : List Value) (hl : us.length = p_tiers_of.length) : bindArgs (PySem.W.fnOf "tiers_of" "tiers_of" (defArgs s_tiers_of) (defBody s_tiers_of) (defScope s_tiers_of) .none kV doc pm an cdv ct) ⟨us, []⟩ = pure (p_tiers_of.zip us) := match us, hl with | [_], _ => rfl
theorem bd_tier_within (kV doc pm : Value) (an : Option Addr) (cdv ct : Value) (us : List Value) (hl : us.length = p_tier_within.length) : bindArgs (PySem.W.fnOf "tier_within" "tier_within" (defArgs s_tier_within) (defBody s_tier_within) (defScope s_tier_within) .none kV doc pm an cdv ct) ⟨us, []⟩ = pure (p_tier_within.zip us) := match us, hl with | [_], _ => rfl
theorem bd_follows (kV doc pm : Value) (an : Option Addr) (cdv ct : Value) (us : List Value) (hl : us.length = p_follows.length) : bindArgs (PySem.W.fnOf "follows" "follows" (defArgs s_follows) (defBody s_follows) (defScope s_follows) .none kV doc pm an cdv ct) ⟨us, []⟩ = pure (p_follows.zip us) := match us, hl with | [_, _], _ => rfl
theorem bd_trading_cost (kV doc pm : Value) (an : Option Addr) (cdv ct : Value) (us : List Value) (hl : us.length = p_trading_cost.length) : bindArgs (PySem.W.fnOf "trading_cost" "trading_cost" (defArgs s_trading_cost) (defBody s_trading_cost) (defScope s_trading_cost) .none kV doc pm an cdv ct) ⟨us, []⟩ = pure (p_trading_cost.zip us) := match us, hl with | [_, _], _ => rfl
theorem bd_done (kV doc pm : Value) (an : Option Addr) (cdv ct : Value) (us : List Value) (hl : us.length = p_done.length) : bindArgs (PySem.W.fnOf "done" "done" (defArgs s_done) (defBody s_done) (defScope s_done) .none kV doc pm an cdv ct) ⟨us, []⟩ = pure (p_done.zip us) := match us, hl with | [_, _, _], _ => rfl
theorem bd_outcomes_at (kV doc pm : Value) (an : Option Addr) (cdv ct : Value) (us : List Value) (hl : us.length = p_outcomes_at.length) : bindArgs (PySem.W.fnOf "outcomes_at" "outcomes_at" (defArgs s_outcomes_at) (defBody s_outcomes_at) (defScope s_outcomes_at) .none kV doc pm an cdv ct) ⟨us, []⟩ = pure (p_outcomes_at.zip us) := match us, hl with | [_, _, _], _ => rfl
theorem bd_levied_outcomes (kV doc pm : Value) (an : Option Addr) (cdv ct : Value) (us : List Value) (hl : us.length = p_levied_outcomes.length) : bindArgs (PySem.W.fnOf "levied_outcomes" "levied_outcomes" (defArgs s_levied_outcomes) (defBody s_levied_outcomes) (defScope s_levied_outcomes) .none kV doc pm an cdv ct) ⟨us, []⟩ = pure (p_levied_outcomes.zip us) := match us, hl with | [_, _], _ => rfl
theorem bd_flow_of (kV doc pm : Value) (an : Option Addr) (cdv ct : Value) (us : List Value) (hl : us.length = p_flow_of.length) : bindArgs (PySem.W.fnOf "flow_of" "flow_of" (defArgs s_flow_of) (defBody s_flow_of) (defScope s_flow_of) .none kV doc pm an cdv ct) ⟨us, []⟩ = pure (p_flow_of.zip us) := match us, hl with | [_], _ => rfl
theorem bd_units_of (kV doc pm : Value) (an : Option Addr) (cdv ct : Value) (us : List Value) (hl : us.length = p_units_of.length) : bindArgs (PySem.W.fnOf "units_of" "units_of" (defArgs s_units_of) (defBody s_units_of) (defScope s_units_of) .none kV doc pm an cdv ct) ⟨us, []⟩ = pure (p_units_of.zip us) := match us, hl with | [_], _ => rfl
theorem bd_cost_of (kV doc pm : Value) (an : Option Addr) (cdv ct : Value) (us : List Value) (hl : us.length = p_cost_of.length) : bindArgs (PySem.W.fnOf "cost_of" "cost_of" (defArgs s_cost_of) (defBody s_cost_of) (defScope s_cost_of) .none kV doc pm an cdv ct) ⟨us, []⟩ = pure (p_cost_of.zip us) := match us, hl with | [_, _, _], _ => rfl
theorem bd_kept_of (kV doc pm : Value) (an : Option Addr) (cdv ct : Value) (us : List Value) (hl : us.length = p_kept_of.length) : bindArgs (PySem.W.fnOf "kept_of" "kept_of" (defArgs s_kept_of) (defBody s_kept_of) (defScope s_kept_of) .none kV doc pm an cdv ct) ⟨us, []⟩ = pure (p_kept_of.zip us) := match us, hl with | [_, _], _ => rfl
theorem bd_covers (kV doc pm : Value) (an : Option Addr) (cdv ct : Value) (us : List Value) (hl : us.length = p_covers.length) : bindArgs (PySem.W.fnOf "covers" "covers" (defArgs s_covers) (defBody s_covers) (defScope s_covers) .none kV doc pm an cdv ct) ⟨us, []⟩ = pure (p_covers.zip us) := match us, hl with | [_, _, _], _ => rfl
theorem bd_found_swing (kV doc pm : Value) (an : Option Addr) (cdv ct : Value) (us : List Value) (hl : us.length = p_found_swing.length) : bindArgs (PySem.W.fnOf "found_swing" "found_swing" (defArgs s_found_swing) (defBody s_found_swing) (defScope s_found_swing) .none kV doc pm an cdv ct) ⟨us, []⟩ = pure (p_found_swing.zip us) := match us, hl with | [_, _], _ => rfl
theorem bd_lays_levies (kV doc pm : Value) (an : Option Addr) (cdv ct : Value) (us : List Value) (hl : us.length = p_lays_levies.length) : bindArgs (PySem.W.fnOf "lays_levies" "lays_levies" (defArgs s_lays_levies) (defBody s_lays_levies) (defScope s_lays_levies) .none kV doc pm an cdv ct) ⟨us, []⟩ = pure (p_lays_levies.zip us) := match us, hl with | [_, _], _ => rfl
theorem bd_levies_of (kV doc pm : Value) (an : Option Addr) (cdv ct : Value) (us : List Value) (hl : us.length = p_levies_of.length) : bindArgs (PySem.W.fnOf "levies_of" "levies_of" (defArgs s_levies_of) (defBody s_levies_of) (defScope s_levies_of) .none kV doc pm an cdv ct) ⟨us, []⟩ = pure (p_levies_of.zip us) := match us, hl with | [_, _], _ => rfl
theorem bd_weights_of (kV doc pm : Value) (an : Option Addr) (cdv ct : Value) (us : List Value) (hl : us.length = p_weights_of.length) : bindArgs (PySem.W.fnOf "weights_of" "weights_of" (defArgs s_weights_of) (defBody s_weights_of) (defScope s_weights_of) .none kV doc pm an cdv ct) ⟨us, []⟩ = pure (p_weights_of.zip us) := match us, hl with | [_, _], _ => rfl
theorem bd_side_of_order (kV doc pm : Value) (an : Option Addr) (cdv ct : Value) (us : List Value) (hl : us.length = p_side_of_order.length) : bindArgs (PySem.W.fnOf "side_of_order" "side_of_order" (defArgs s_side_of_order) (defBody s_side_of_order) (defScope s_side_of_order) .none kV doc pm an cdv ct) ⟨us, []⟩ = pure (p_side_of_order.zip us) := match us, hl with | [_], _ => rfl
theorem bd_shared_out (kV doc pm : Value) (an : Option Addr) (cdv ct : Value) (us : List Value) (hl : us.length = p_shared_out.length) : bindArgs (PySem.W.fnOf "shared_out" "shared_out" (defArgs s_shared_out) (defBody s_shared_out) (defScope s_shared_out) .none kV doc pm an cdv ct) ⟨us, []⟩ = pure (p_shared_out.zip us) := match us, hl with | [_, _], _ => rfl
theorem bd_side_of (kV doc pm : Value) (an : Option Addr) (cdv ct : Value) (us : List Value) (hl : us.length = p_side_of.length) : bindArgs (PySem.W.fnOf "side_of" "side_of" (defArgs s_side_of) (defBody s_side_of) (defScope s_side_of) .none kV doc pm an cdv ct) ⟨us, []⟩ = pure (p_side_of.zip us) := match us, hl with | [_], _ => rfl
theorem bd_weighs_enough (kV doc pm : Value) (an : Option Addr) (cdv ct : Value) (us : List Value) (hl : us.length = p_weighs_enough.length) : bindArgs (PySem.W.fnOf "weighs_enough" "weighs_enough" (defArgs s_weighs_enough) (defBody s_weighs_enough) (defScope s_weighs_enough) .none kV doc pm an cdv ct) ⟨us, []⟩ = pure (p_weighs_enough.zip us) := match us, hl with | [_, _], _ => rfl
theorem bd_point_of (kV doc pm : Value) (an : Option Addr) (cdv ct : Value) (us : List Value) (hl : us.length = p_point_of.length) : bindArgs (PySem.W.fnOf "point_of" "point_of" (defArgs s_point_of) (defBody s_point_of) (defScope s_point_of) .none kV doc pm an cdv ct) ⟨us, []⟩ = pure (p_point_of.zip us) := match us, hl with | [_], _ => rfl
theorem bd_policy_swing (kV doc pm : Value) (an : Option Addr) (cdv ct : Value) (us : List Value) (hl : us.length = p_policy_swing.length) : bindArgs (PySem.W.fnOf "policy_swing" "policy_swing" (defArgs s_policy_swing) (defBody s_policy_swing) (defScope s_policy_swing) .none kV doc pm an cdv ct) ⟨us, []⟩ = pure (p_policy_swing.zip us) := match us, hl with | [_, _], _ => rfl
theorem bd_lacking_of (kV doc pm : Value) (an : Option Addr) (cdv ct : Value) (us : List Value) (hl : us.length = p_lacking_of.length) : bindArgs (PySem.W.fnOf "lacking_of" "lacking_of" (defArgs s_lacking_of) (defBody s_lacking_of) (defScope s_lacking_of) .none kV doc pm an cdv ct) ⟨us, []⟩ = pure (p_lacking_of.zip us) := match us, hl with | [_, _, _], _ => rfl
theorem bd_all_within (kV doc pm : Value) (an : Option Addr) (cdv ct : Value) (us : List Value) (hl : us.length = p_all_within.length) : bindArgs (PySem.W.fnOf "all_within" "all_within" (defArgs s_all_within) (defBody s_all_within) (defScope s_all_within) .none kV doc pm an cdv ct) ⟨us, []⟩ = pure (p_all_within.zip us) := match us, hl with | [_, _], _ => rfl
theorem bd_one_if (kV doc pm : Value) (an : Option Addr) (cdv ct : Value) (us : List Value) (hl : us.length = p_one_if.length) : bindArgs (PySem.W.fnOf "one_if" "one_if" (defArgs s_one_if) (defBody s_one_if) (defScope s_one_if) .none kV doc pm an cdv ct) ⟨us, []⟩ = pure (p_one_if.zip us) := match us, hl with | [_], _ => rfl
theorem bd_begin (kV doc pm : Value) (an : Option Addr) (cdv ct : Value) (us : List Value) (hl : us.length = p_begin.length) : bindArgs (PySem.W.fnOf "begin" "begin" (defArgs s_begin) (defBody s_begin) (defScope s_begin) .none kV doc pm an cdv ct) ⟨us, []⟩ = pure (p_begin.zip us) := match us, hl with | [_, _], _ => rfl
theorem bd_buys (kV doc pm : Value) (an : Option Addr) (cdv ct : Value) (us : List Value) (hl : us.length = p_buys.length) : bindArgs (PySem.W.fnOf "buys" "buys" (defArgs s_buys) (defBody s_buys) (defScope s_buys) .none kV doc pm an cdv ct) ⟨us, []⟩ = pure (p_buys.zip us) := match us, hl with | [_, _], _ => rfl
theorem bd_sells (kV doc pm : Value) (an : Option Addr) (cdv ct : Value) (us : List Value) (hl : us.length = p_sells.length) : bindArgs (PySem.W.fnOf "sells" "sells" (defArgs s_sells) (defBody s_sells) (defScope s_sells) .none kV doc pm an cdv ct) ⟨us, []⟩ = pure (p_sells.zip us) := match us, hl with | [_, _], _ => rfl
theorem bd_policy (kV doc pm : Value) (an : Option Addr) (cdv ct : Value) (us : List Value) (hl : us.length = p_policy.length) : bindArgs (PySem.W.fnOf "policy" "policy" (defArgs s_policy) (defBody s_policy) (defScope s_policy) .none kV doc pm an cdv ct) ⟨us, []⟩ = pure (p_policy.zip us) := match us, hl with | [_, _], _ => rfl
theorem bd_order (kV doc pm : Value) (an : Option Addr) (cdv ct : Value) (us : List Value) (hl : us.length = p_order.length) : bindArgs (PySem.W.fnOf "order" "order" (defArgs s_order) (defBody s_order) (defScope s_order) .none kV doc pm an cdv ct) ⟨us, []⟩ = pure (p_order.zip us) := match us, hl with | [_, _], _ => rfl
theorem bd_withdraw (kV doc pm : Value) (an : Option Addr) (cdv ct : Value) (us : List Value) (hl : us.length = p_withdraw.length) : bindArgs (PySem.W.fnOf "withdraw" "withdraw" (defArgs s_withdraw) (defBody s_withdraw) (defScope s_withdraw) .none kV doc pm an cdv ct) ⟨us, []⟩ = pure (p_withdraw.zip us) := match us, hl with | [_, _], _ => rfl
theorem bd_result (kV doc pm : Value) (an : Option Addr) (cdv ct : Value) (us : List Value) (hl : us.length = p_result.length) : bindArgs (PySem.W.fnOf "result" "result" (defArgs s_result) (defBody s_result) (defScope s_result) .none kV doc pm an cdv ct) ⟨us, []⟩ = pure (p_result.zip us) := match us, hl with | [_, _], _ => rfl
theorem bd_point (kV doc pm : Value) (an : Option Addr) (cdv ct : Value) (us : List Value) (hl : us.length = p_point.length) : bindArgs (PySem.W.fnOf "point" "point" (defArgs s_point) (defBody s_point) (defScope s_point) .none kV doc pm an cdv ct) ⟨us, []⟩ = pure (p_point.zip us) := match us, hl with | [_, _], _ => rfl
theorem bd_try_at (kV doc pm : Value) (an : Option Addr) (cdv ct : Value) (us : List Value) (hl : us.length = p_try_at.length) : bindArgs (PySem.W.fnOf "try_at" "try_at" (defArgs s_try_at) (defBody s_try_at) (defScope s_try_at) .none kV doc pm an cdv ct) ⟨us, []⟩ = pure (p_try_at.zip us) := match us, hl with | [_, _], _ => rfl
theorem bd_found (kV doc pm : Value) (an : Option Addr) (cdv ct : Value) (us : List Value) (hl : us.length = p_found.length) : bindArgs (PySem.W.fnOf "found" "found" (defArgs s_found) (defBody s_found) (defScope s_found) .none kV doc pm an cdv ct) ⟨us, []⟩ = pure (p_found.zip us) := match us, hl with | [_, _], _ => rfl
theorem bd_cost (kV doc pm : Value) (an : Option Addr) (cdv ct : Value) (us : List Value) (hl : us.length = p_cost.length) : bindArgs (PySem.W.fnOf "cost" "cost" (defArgs s_cost) (defBody s_cost) (defScope s_cost) .none kV doc pm an cdv ct) ⟨us, []⟩ = pure (p_cost.zip us) := match us, hl with | [_, _], _ => rfl
theorem bd_outcome (kV doc pm : Value) (an : Option Addr) (cdv ct : Value) (us : List Value) (hl : us.length = p_outcome.length) : bindArgs (PySem.W.fnOf "outcome" "outcome" (defArgs s_outcome) (defBody s_outcome) (defScope s_outcome) .none kV doc pm an cdv ct) ⟨us, []⟩ = pure (p_outcome.zip us) := match us, hl with | [_, _], _ => rfl
theorem bd_orders (kV doc pm : Value) (an : Option Addr) (cdv ct : Value) (us : List Value) (hl : us.length = p_orders.length) : bindArgs (PySem.W.fnOf "orders" "orders" (defArgs s_orders) (defBody s_orders) (defScope s_orders) .none kV doc pm an cdv ct) ⟨us, []⟩ = pure (p_orders.zip us) := match us, hl with | [_, _], _ => rfl
theorem bd_fund_now (kV doc pm : Value) (an : Option Addr) (cdv ct : Value) (us : List Value) (hl : us.length = p_fund_now.length) : bindArgs (PySem.W.fnOf "fund_now" "fund_now" (defArgs s_fund_now) (defBody s_fund_now) (defScope s_fund_now) .none kV doc pm an cdv ct) ⟨us, []⟩ = pure (p_fund_now.zip us) := match us, hl with | [_, _], _ => rfl
theorem bd_flow (kV doc pm : Value) (an : Option Addr) (cdv ct : Value) (us : List Value) (hl : us.length = p_flow.length) : bindArgs (PySem.W.fnOf "flow" "flow" (defArgs s_flow) (defBody s_flow) (defScope s_flow) .none kV doc pm an cdv ct) ⟨us, []⟩ = pure (p_flow.zip us) := match us, hl with | [_, _], _ => rfl
theorem bd_weights (kV doc pm : Value) (an : Option Addr) (cdv ct : Value) (us : List Value) (hl : us.length = p_weights.length) : bindArgs (PySem.W.fnOf "weights" "weights" (defArgs s_weights) (defBody s_weights) (defScope s_weights) .none kV doc pm an cdv ct) ⟨us, []⟩ = pure (p_weights.zip us) := match us, hl with | [_, _], _ => rfl
theorem bd_answer_of (kV doc pm : Value) (an : Option Addr) (cdv ct : Value) (us : List Value) (hl : us.length = p_answer_of.length) : bindArgs (PySem.W.fnOf "answer_of" "answer_of" (defArgs s_answer_of) (defBody s_answer_of) (defScope s_answer_of) .none kV doc pm an cdv ct) ⟨us, []⟩ = pure (p_answer_of.zip us) := match us, hl with | [_, _, _], _ => rfl
theorem bd_answers (kV doc pm : Value) (an : Option Addr) (cdv ct : Value) (us : List Value) (hl : us.length = p_answers.length) : bindArgs (PySem.W.fnOf "answers" "answers" (defArgs s_answers) (defBody s_answers) (defScope s_answers) .none kV doc pm an cdv ct) ⟨us, []⟩ = pure (p_answers.zip us) := match us, hl with | [_], _ => rfl
theorem bd_numbers_start (kV doc pm : Value) (an : Option Addr) (cdv ct : Value) (us : List Value) (hl : us.length = p_numbers_start.length) : bindArgs (PySem.W.fnOf "numbers_start" "numbers_start" (defArgs s_numbers_start) (defBody s_numbers_start) (defScope s_numbers_start) .none kV doc pm an cdv ct) ⟨us, []⟩ = pure (p_numbers_start.zip us) := match us, hl with | [_, _], _ => rfl
theorem bd_numbers_count (kV doc pm : Value) (an : Option Addr) (cdv ct : Value) (us : List Value) (hl : us.length = p_numbers_count.length) : bindArgs (PySem.W.fnOf "numbers_count" "numbers_count" (defArgs s_numbers_count) (defBody s_numbers_count) (defScope s_numbers_count) .none kV doc pm an cdv ct) ⟨us, []⟩ = pure (p_numbers_count.zip us) := match us, hl with | [_, _], _ => rfl
theorem bd_Policy_init (kV doc pm : Value) (an : Option Addr) (cdv ct : Value) (us : List Value) (hl : us.length = p_Policy_init.length) : bindArgs (PySem.W.fnOf "__init__" "Policy.__init__" (defArgs s_Policy_init) (defBody s_Policy_init) (defScope s_Policy_init) .none kV doc pm an cdv ct) ⟨us, []⟩ = pure (p_Policy_init.zip us) := match us, hl with | [_, _, _, _, _, _, _], _ => rfl
theorem bd_Order_init (kV doc pm : Value) (an : Option Addr) (cdv ct : Value) (us : List Value) (hl : us.length = p_Order_init.length) : bindArgs (PySem.W.fnOf "__init__" "Order.__init__" (defArgs s_Order_init) (defBody s_Order_init) (defScope s_Order_init) .none kV doc pm an cdv ct) ⟨us, []⟩ = pure (p_Order_init.zip us) := match us, hl with | [_, _, _, _], _ => rfl
theorem bd_Outcome_init (kV doc pm : Value) (an : Option Addr) (cdv ct : Value) (us : List Value) (hl : us.length = p_Outcome_init.length) : bindArgs (PySem.W.fnOf "__init__" "Outcome.__init__" (defArgs s_Outcome_init) (defBody s_Outcome_init) (defScope s_Outcome_init) .none kV doc pm an cdv ct) ⟨us, []⟩ = pure (p_Outcome_init.zip us) := match us, hl with | [_, _, _, _, _], _ => rfl
theorem bd_Fund_init (kV doc pm : Value) (an : Option Addr) (cdv ct : Value) (us : List Value) (hl : us.length = p_Fund_init.length) : bindArgs (PySem.W.fnOf "__init__" "Fund.__init__" (defArgs s_Fund_init) (defBody s_Fund_init) (defScope s_Fund_init) .none kV doc pm an cdv ct) ⟨us, []⟩ = pure (p_Fund_init.zip us) := match us, hl with | [_, _, _], _ => rfl
theorem bd_Fund_renew (kV doc pm : Value) (an : Option Addr) (cdv ct : Value) (us : List Value) (hl : us.length = p_Fund_renew.length) : bindArgs (PySem.W.fnOf "renew" "Fund.renew" (defArgs s_Fund_renew) (defBody s_Fund_renew) (defScope s_Fund_renew) .none kV doc pm an cdv ct) ⟨us, []⟩ = pure (p_Fund_renew.zip us) := match us, hl with | [_, _, _], _ => rfl
theorem bd_Tier_init (kV doc pm : Value) (an : Option Addr) (cdv ct : Value) (us : List Value) (hl : us.length = p_Tier_init.length) : bindArgs (PySem.W.fnOf "__init__" "Tier.__init__" (defArgs s_Tier_init) (defBody s_Tier_init) (defScope s_Tier_init) .none kV doc pm an cdv ct) ⟨us, []⟩ = pure (p_Tier_init.zip us) := match us, hl with | [_, _, _], _ => rfl
theorem bd_Prices_init (kV doc pm : Value) (an : Option Addr) (cdv ct : Value) (us : List Value) (hl : us.length = p_Prices_init.length) : bindArgs (PySem.W.fnOf "__init__" "Prices.__init__" (defArgs s_Prices_init) (defBody s_Prices_init) (defScope s_Prices_init) .none kV doc pm an cdv ct) ⟨us, []⟩ = pure (p_Prices_init.zip us) := match us, hl with | [_, _, _, _], _ => rfl
theorem bd_Weighing_init (kV doc pm : Value) (an : Option Addr) (cdv ct : Value) (us : List Value) (hl : us.length = p_Weighing_init.length) : bindArgs (PySem.W.fnOf "__init__" "Weighing.__init__" (defArgs s_Weighing_init) (defBody s_Weighing_init) (defScope s_Weighing_init) .none kV doc pm an cdv ct) ⟨us, []⟩ = pure (p_Weighing_init.zip us) := match us, hl with | [_, _], _ => rfl
theorem bd_Point_init (kV doc pm : Value) (an : Option Addr) (cdv ct : Value) (us : List Value) (hl : us.length = p_Point_init.length) : bindArgs (PySem.W.fnOf "__init__" "Point.__init__" (defArgs s_Point_init) (defBody s_Point_init) (defScope s_Point_init) .none kV doc pm an cdv ct) ⟨us, []⟩ = pure (p_Point_init.zip us) := match us, hl with | [_, _, _, _, _, _], _ => rfl
structure Tops (w : World) (K : PySem.W.Frag) (mg : Str → Option Value) (d : Ad) : Prop where
  T : Txt K mg d
  Zp : PoiAp d
  Zw : WeiAp d
  D_rounded_up : Dfn K mg "rounded_up" s_rounded_up p_rounded_up
  D_tiers_of : Dfn K mg "tiers_of" s_tiers_of p_tiers_of
  D_tier_within : Dfn K mg "tier_within" s_tier_within p_tier_within
  D_follows : Dfn K mg "follows" s_follows p_follows
  D_trading_cost : Dfn K mg "trading_cost" s_trading_cost p_trading_cost
  D_done : Dfn K mg "done" s_done p_done
  D_outcomes_at : Dfn K mg "outcomes_at" s_outcomes_at p_outcomes_at
  D_levied_outcomes : Dfn K mg "levied_outcomes" s_levied_outcomes p_levied_outcomes
  D_flow_of : Dfn K mg "flow_of" s_flow_of p_flow_of
  D_units_of : Dfn K mg "units_of" s_units_of p_units_of
  D_cost_of : Dfn K mg "cost_of" s_cost_of p_cost_of
  D_kept_of : Dfn K mg "kept_of" s_kept_of p_kept_of
  D_covers : Dfn K mg "covers" s_covers p_covers
  D_found_swing : Dfn K mg "found_swing" s_found_swing p_found_swing
  D_lays_levies : Dfn K mg "lays_levies" s_lays_levies p_lays_levies
  D_levies_of : Dfn K mg "levies_of" s_levies_of p_levies_of
  D_weights_of : Dfn K mg "weights_of" s_weights_of p_weights_of
  D_side_of_order : Dfn K mg "side_of_order" s_side_of_order p_side_of_order
  D_shared_out : DfnT K mg "shared_out" s_shared_out p_shared_out d.tab
  D_side_of : Dfn K mg "side_of" s_side_of p_side_of
  D_weighs_enough : Dfn K mg "weighs_enough" s_weighs_enough p_weighs_enough
  D_point_of : Dfn K mg "point_of" s_point_of p_point_of
  D_policy_swing : Dfn K mg "policy_swing" s_policy_swing p_policy_swing
  D_lacking_of : Dfn K mg "lacking_of" s_lacking_of p_lacking_of
  D_all_within : Dfn K mg "all_within" s_all_within p_all_within
  D_one_if : Dfn K mg "one_if" s_one_if p_one_if
  D_begin : Dfn K mg "begin" s_begin p_begin
  D_buys : Dfn K mg "buys" s_buys p_buys
  D_sells : Dfn K mg "sells" s_sells p_sells
  D_policy : Dfn K mg "policy" s_policy p_policy
  D_order : Dfn K mg "order" s_order p_order
  D_withdraw : Dfn K mg "withdraw" s_withdraw p_withdraw
  D_result : Dfn K mg "result" s_result p_result
  D_point : Dfn K mg "point" s_point p_point
  D_try_at : Dfn K mg "try_at" s_try_at p_try_at
  D_found : Dfn K mg "found" s_found p_found
  D_cost : Dfn K mg "cost" s_cost p_cost
  D_outcome : Dfn K mg "outcome" s_outcome p_outcome
  D_orders : Dfn K mg "orders" s_orders p_orders
  D_fund_now : Dfn K mg "fund_now" s_fund_now p_fund_now
  D_flow : Dfn K mg "flow" s_flow p_flow
  D_weights : Dfn K mg "weights" s_weights p_weights
  D_answer_of : Dfn K mg "answer_of" s_answer_of p_answer_of
  D_answers : Dfn K mg "answers" s_answers p_answers
  D_numbers_start : Dfn K mg "numbers_start" s_numbers_start p_numbers_start
  D_numbers_count : Dfn K mg "numbers_count" s_numbers_count p_numbers_count
  K_Policy : Kfn K mg "Policy" "Policy.__init__" d.pol s_Policy_init p_Policy_init
  K_Order : Kfn K mg "Order" "Order.__init__" d.ord s_Order_init p_Order_init
  K_Outcome : Kfn K mg "Outcome" "Outcome.__init__" d.out s_Outcome_init p_Outcome_init
  K_Fund : Kfn K mg "Fund" "Fund.__init__" d.fund s_Fund_init p_Fund_init
  K_Tier : Kfn K mg "Tier" "Tier.__init__" d.tier s_Tier_init p_Tier_init
  K_Prices : Kfn K mg "Prices" "Prices.__init__" d.pri s_Prices_init p_Prices_init
  K_Weighing : Kfn K mg "Weighing" "Weighing.__init__" d.wei s_Weighing_init p_Weighing_init
  K_Point : Kfn K mg "Point" "Point.__init__" d.poi s_Point_init p_Point_init
  M_renew : Mfn K "renew" "Fund.renew" d.fund s_Fund_renew p_Fund_renew
  R_BEGIN_RANGES : Rng K mg "BEGIN_RANGES" [(1, 1000000000000), (1, 1000000000000000000)]
  R_POLICY_RANGES : Rng K mg "POLICY_RANGES" [(0, 3), (0, 2000), (0, 2000), (0, 1000000), (0, 1000000), (0, 2000)]
  R_ORDER_RANGES : Rng K mg "ORDER_RANGES" [(0, 3), (1, 1000000000000)]
  R_WITHDRAW_RANGES : Rng K mg "WITHDRAW_RANGES" [(1, 1000000)]
  R_RESULT_RANGES : Rng K mg "RESULT_RANGES" [((-1000000000000), 1000000000000)]
  R_TRY_RANGES : Rng K mg "TRY_RANGES" [(0, 2000)]
  R_COST_RANGES : Rng K mg "COST_RANGES" [(1, 2), (0, 1000000000000)]
  R_OUTCOME_RANGES : Rng K mg "OUTCOME_RANGES" [(1, 1000000)]
  row : ∃ ra, mg "CALLS_WITH_ROW" = some (.ref ra) ∧ ∀ H, SqT K H ra [.int 1, .int 2]
  num : ∃ da, mg "NUMBERS_OF_CALL" = some (.ref da) ∧ DicK K w da NUMS
  calls : ∃ (ca f0 f1 f2 f3 f4 f5 f6 f7 f8 f9 f10 f11 f12 f13 f14 f15 : Addr), mg "CALLS" = some (.ref ca) ∧ (∀ H, SqT K H ca ([f0, f1, f2, f3, f4, f5, f6, f7, f8, f9, f10, f11, f12, f13, f14, f15].map V.ref)) ∧ mg "begin" = some (.ref f0) ∧ mg "buys" = some (.ref f1) ∧ mg "sells" = some (.ref f2) ∧ mg "policy" = some (.ref f3) ∧ mg "order" = some (.ref f4) ∧ mg "withdraw" = some (.ref f5) ∧ mg "result" = some (.ref f6) ∧ mg "point" = some (.ref f7) ∧ mg "try_at" = some (.ref f8) ∧ mg "found" = some (.ref f9) ∧ mg "cost" = some (.ref f10) ∧ mg "outcome" = some (.ref f11) ∧ mg "orders" = some (.ref f12) ∧ mg "fund_now" = some (.ref f13) ∧ mg "flow" = some (.ref f14) ∧ mg "weights" = some (.ref f15)
theorem ok_all {P : Program} {w : World} {K : PySem.W.Frag} {mg : Str → Option Value} {base : Heap} {d : Ad} (S : Tops w K mg d) (kin : K.In base) (B : BM mg base) {f : Addr} {fd : FuncData} (F : Fun K "answers" "answers" s_answers f fd) : FnOk P w K mg base CX0 11 f fd p_answers (spAll d K) := by
  have T := S.T
  obtain ⟨ra, hra, hR⟩ := S.row
  obtain ⟨da, hda, hD⟩ := S.num
  obtain ⟨ca, f0, f1, f2, f3, f4, f5, f6, f7, f8, f9, f10, f11, f12, f13, f14, f15, hca, hst, h0, h1, h2, h3, h4, h5, h6, h7, h8, h9, h10, h11, h12, h13, h14, h15⟩ := S.calls
  have c_rounded_up := Fs.c_rounded_up (P := P) (w := w) (base := base) S.D_rounded_up
  have c_tier_within := Fs.c_tier_within (P := P) (w := w) (base := base) T S.D_tier_within
  have m_Policy := Fs.m_Policy (P := P) (w := w) (base := base) T S.K_Policy
  have m_Order := Fs.m_Order (P := P) (w := w) (base := base) T S.K_Order
  have m_Outcome := Fs.m_Outcome (P := P) (w := w) (base := base) T S.K_Outcome
  have m_Tier := Fs.m_Tier (P := P) (w := w) (base := base) T S.K_Tier
  have c_follows := Fs.c_follows (P := P) (w := w) (base := base) T S.D_follows
  have c_trading_cost := Fs.c_trading_cost (P := P) (w := w) (base := base) T S.D_trading_cost c_rounded_up
  have m_Prices := Fs.m_Prices (P := P) (w := w) (base := base) T S.K_Prices
  have c_done := Fs.c_done (P := P) (w := w) (base := base) T S.D_done c_rounded_up m_Outcome
  have c_outcomes_at := Fs.c_outcomes_at (P := P) (w := w) (base := base) T S.D_outcomes_at c_done m_Prices
  have c_flow_of := Fs.c_flow_of (P := P) (w := w) (base := base) T S.D_flow_of
  have c_units_of := Fs.c_units_of (P := P) (w := w) (base := base) T S.D_units_of
  have c_side_of := Fs.c_side_of (P := P) (w := w) (base := base) T S.D_side_of
  have c_weighs_enough := Fs.c_weighs_enough (P := P) (w := w) (base := base) T S.D_weighs_enough
  have c_cost_of := Fs.c_cost_of (P := P) (w := w) (base := base) T S.D_cost_of c_trading_cost c_flow_of
  have c_kept_of := Fs.c_kept_of (P := P) (w := w) (base := base) T S.D_kept_of c_flow_of c_units_of
  have c_covers := Fs.c_covers (P := P) (w := w) (base := base) T S.D_covers c_outcomes_at c_cost_of c_kept_of
  have c_found_swing := Fs.c_found_swing (P := P) (w := w) (base := base) T S.D_found_swing c_covers
  have c_policy_swing := Fs.c_policy_swing (P := P) (w := w) (base := base) T S.D_policy_swing c_found_swing
  have c_side_of_order := Fs.c_side_of_order (P := P) (w := w) (base := base) T S.D_side_of_order
  have c_lacking_of := Fs.c_lacking_of (P := P) (w := w) (base := base) T S.D_lacking_of c_rounded_up c_kept_of
  have c_levied_outcomes := Fs.c_levied_outcomes (P := P) (w := w) (base := base) T S.D_levied_outcomes c_done m_Prices
  have m_Point := Fs.m_Point (P := P) (w := w) (base := base) T S.Zp S.K_Point c_lacking_of c_flow_of c_units_of
  have m_Weighing := Fs.m_Weighing (P := P) (w := w) (base := base) T S.Zw S.K_Weighing c_outcomes_at c_flow_of c_side_of c_weighs_enough
  have c_weights_of := Fs.c_weights_of (P := P) (w := w) (base := base) T S.D_weights_of c_side_of_order
  have c_shared_out := Fs.c_shared_out (P := P) (w := w) (base := base) T S.D_shared_out B kin
  have c_lays_levies := Fs.c_lays_levies (P := P) (w := w) (base := base) T S.D_lays_levies
  have c_levies_of := Fs.c_levies_of (P := P) (w := w) (base := base) T S.D_levies_of c_lays_levies c_cost_of c_shared_out c_weights_of
  have c_point_of := Fs.c_point_of (P := P) (w := w) (base := base) T S.D_point_of m_Weighing c_cost_of c_lays_levies c_levies_of c_levied_outcomes c_policy_swing c_outcomes_at m_Point
  have c_all_within := Fs.c_all_within (P := P) (w := w) (base := base) T S.D_all_within
  have c_tiers_of := Fs.c_tiers_of (P := P) (w := w) (base := base) T S.D_tiers_of c_tier_within c_follows m_Tier
  have m_renew := Fs.m_renew (P := P) (w := w) (base := base) T S.M_renew m_Policy
  have m_Fund := Fs.m_Fund (P := P) (w := w) (base := base) T S.K_Fund m_renew
  have c_begin := Fs.c_begin (P := P) (w := w) (base := base) T S.R_BEGIN_RANGES S.D_begin c_all_within m_renew
  have c_buys := Fs.c_buys (P := P) (w := w) (base := base) T S.D_buys c_tiers_of
  have c_sells := Fs.c_sells (P := P) (w := w) (base := base) T S.D_sells c_tiers_of
  have c_policy := Fs.c_policy (P := P) (w := w) (base := base) T S.R_POLICY_RANGES S.D_policy c_all_within m_Policy
  have c_result := Fs.c_result (P := P) (w := w) (base := base) T S.R_RESULT_RANGES S.D_result c_all_within
  have c_order := Fs.c_order (P := P) (w := w) (base := base) T S.R_ORDER_RANGES S.D_order c_all_within m_Order
  have c_withdraw := Fs.c_withdraw (P := P) (w := w) (base := base) T S.R_WITHDRAW_RANGES S.D_withdraw c_all_within
  have c_point := Fs.c_point (P := P) (w := w) (base := base) T S.D_point c_point_of
  have c_one_if := Fs.c_one_if (P := P) (w := w) (base := base) S.D_one_if
  have c_fund_now := Fs.c_fund_now (P := P) (w := w) (base := base) T S.D_fund_now
  have c_flow := Fs.c_flow (P := P) (w := w) (base := base) T S.D_flow m_Weighing c_units_of
  have c_found := Fs.c_found (P := P) (w := w) (base := base) T S.D_found m_Weighing c_found_swing c_covers c_one_if
  have c_try_at := Fs.c_try_at (P := P) (w := w) (base := base) T S.R_TRY_RANGES S.D_try_at c_all_within m_Weighing c_outcomes_at c_one_if c_covers c_cost_of c_flow_of c_units_of c_kept_of
  have c_cost := Fs.c_cost (P := P) (w := w) (base := base) T S.R_COST_RANGES S.D_cost c_all_within c_trading_cost
  have c_outcome := Fs.c_outcome (P := P) (w := w) (base := base) T S.R_OUTCOME_RANGES S.D_outcome c_all_within
  have c_orders := Fs.c_orders (P := P) (w := w) (base := base) T S.D_orders
  have c_weights := Fs.c_weights (P := P) (w := w) (base := base) T S.D_weights m_Weighing c_weights_of c_levies_of
  have c_numbers_start := Fs.c_numbers_start (P := P) (w := w) (base := base) hra hR S.D_numbers_start
  have c_numbers_count := Fs.c_numbers_count (P := P) (w := w) (base := base) hra hR hda hD S.D_numbers_count
  have hall : ∀ c, c < 16 → ∃ f, [f0, f1, f2, f3, f4, f5, f6, f7, f8, f9, f10, f11, f12, f13, f14, f15][c]? = some f ∧ CallAt P w K mg base d c f := fun c hc => match c, hc with
    | 0, _ => ⟨f0, rfl, .of c_begin (by decide) rfl h0⟩
    | 1, _ => ⟨f1, rfl, .of c_buys (by decide) rfl h1⟩
    | 2, _ => ⟨f2, rfl, .of c_sells (by decide) rfl h2⟩
    | 3, _ => ⟨f3, rfl, .of c_policy (by decide) rfl h3⟩
    | 4, _ => ⟨f4, rfl, .of c_order (by decide) rfl h4⟩
    | 5, _ => ⟨f5, rfl, .of c_withdraw (by decide) rfl h5⟩
    | 6, _ => ⟨f6, rfl, .of c_result (by decide) rfl h6⟩
    | 7, _ => ⟨f7, rfl, .of c_point (by decide) rfl h7⟩
    | 8, _ => ⟨f8, rfl, .of c_try_at (by decide) rfl h8⟩
    | 9, _ => ⟨f9, rfl, .of c_found (by decide) rfl h9⟩
    | 10, _ => ⟨f10, rfl, .of c_cost (by decide) rfl h10⟩
    | 11, _ => ⟨f11, rfl, .of c_outcome (by decide) rfl h11⟩
    | 12, _ => ⟨f12, rfl, .of c_orders (by decide) rfl h12⟩
    | 13, _ => ⟨f13, rfl, .of c_fund_now (by decide) rfl h13⟩
    | 14, _ => ⟨f14, rfl, .of c_flow (by decide) rfl h14⟩
    | 15, _ => ⟨f15, rfl, .of c_weights (by decide) rfl h15⟩
    | n + 16, h => absurd h (by omega)
  have c_answer_of := Fs.c_answer_of (P := P) (w := w) (base := base) hca hst hall S.D_answer_of
  exact Fs.c_answers T F m_Fund c_numbers_start c_numbers_count c_answer_of
section
variable {G : Prop} {w : World} {K : PySem.W.Frag} {h : Heap} {mg : Str → Option Value} {f : Addr} {oc : Value} {od an : Option Addr} {osl : Array (Option Value)} {kV doc pm cdv ct : Value}
theorem dfn_k {x : Str} {st : Stmt} {ps : List Str} (X : K.In h) (g : h.Ns mainGlobals mg)
    (b : ∀ (kV doc pm : Value) (an : Option Addr) (cdv ct : Value) (us : List Value), us.length = ps.length → bindArgs (PySem.W.fnOf x x (defArgs st) (defBody st) (defScope st) .none kV doc pm an cdv ct) ⟨us, []⟩ = pure (ps.zip us))
    (a : PySem.W.nsIn K mainGlobals x = some (some (.ref f))) (l : K.lookup f = some ⟨oc, od, .func (PySem.W.fnOf x x (defArgs st) (defBody st) (defScope st) .none kV doc pm an cdv ct), osl⟩) (c : PySem.W.codeIn K cdv x = true) (k : PySem.W.keepIn K (.ref f) = true)
    (n : Dfn K mg x st ps → G) : G := n ⟨f, _, fun_mk (st := st) l c k, PySem.W.mg_of X g a, (fun_mk (st := st) l c k).binds b⟩
theorem codeHd_mk {c tab : Addr} {o : Obj} (l : K.lookup c = some o) (e : PySem.W.codeHdIn [(c, o)] c tab = true) : PySem.W.codeHdIn K c tab = true := by
  unfold PySem.W.codeHdIn at e ⊢
  rw [l]
  simpa [List.lookup] using e
theorem dfnT_k {x : Str} {st : Stmt} {ps : List Str} {c tab : Addr} {q : Program} {o : Obj} (X : K.In h) (g : h.Ns mainGlobals mg)
    (b : ∀ (kV doc pm : Value) (an : Option Addr) (cdv ct : Value) (us : List Value), us.length = ps.length → bindArgs (PySem.W.fnOf x x (defArgs st) (defBody st) (defScope st) .none kV doc pm an cdv ct) ⟨us, []⟩ = pure (ps.zip us))
    (hq : (recsOf q).any (fun d' => d'.name == x) = true)
    (a : PySem.W.nsIn K mainGlobals x = some (some (.ref f))) (l : K.lookup f = some ⟨oc, od, .func (PySem.W.fnOf x x (defArgs st) (defBody st) (defScope st) .none kV doc pm an (.ref c) ct), osl⟩) (c1 : PySem.W.codeIn K (.ref c) x = true) (k : PySem.W.keepIn K (.ref f) = true)
    (l2 : K.lookup c = some o) (hd : PySem.W.codeHdIn [(c, o)] c tab = true) (hn : K.lookup tab = none)
    (n : DfnT K mg x st ps tab → TabIn q K mg tab → G) : G := by
  have hh := codeHd_mk l2 hd
  have hm := PySem.W.mg_of X g a
  refine n ⟨f, c, oc, od, kV, doc, pm, an, ct, osl, l, c1, hh, k, hm, (fun_mk (st := st) l c1 k).binds b⟩ ?_
  obtain ⟨d', hd', hx⟩ := List.any_eq_true.mp hq
  have ex : d'.name = x := by simpa using hx
  exact ⟨d', f, c, _, _, hd', by rw [ex]; exact hm, l, rfl, rfl, hh, hn⟩
theorem kfn_k {x qn : Str} {C : Addr} {st : Stmt} {ps : List Str} (X : K.In h) (g : h.Ns mainGlobals mg)
    (b : ∀ (kV doc pm : Value) (an : Option Addr) (cdv ct : Value) (us : List Value), us.length = ps.length → bindArgs (PySem.W.fnOf "__init__" qn (defArgs st) (defBody st) (defScope st) .none kV doc pm an cdv ct) ⟨us, []⟩ = pure (ps.zip us))
    (a : PySem.W.nsIn K mainGlobals x = some (some (.ref C))) (a1 : PySem.W.findIn K (.ref C) "__init__" = some (some (.ref f))) (i1 : PySem.W.isFn K (.ref f) = true)
    (l : K.lookup f = some ⟨oc, od, .func (PySem.W.fnOf "__init__" qn (defArgs st) (defBody st) (defScope st) .none kV doc pm an cdv ct), osl⟩) (c : PySem.W.codeIn K cdv qn = true) (k : PySem.W.keepIn K (.ref f) = true)
    (pg : PySem.W.plainGet K C Str.empty = true) (hd : PySem.W.hasDictIn K C = true) (po : PySem.W.plainOver K C = true) (sa : PySem.W.findIn K (.ref C) "__setattr__" = some (some (.builtin "object.__setattr__"))) (mk : PySem.W.makesIn K C = true) (kc : PySem.W.keepIn K (.ref C) = true)
    (n : Kfn K mg x qn C st ps → Cls K C → G) : G := n ⟨f, _, ⟨mk, a1, i1, kc⟩, fun_mk (st := st) l c k, PySem.W.mg_of X g a, (fun_mk (st := st) l c k).binds b⟩ ⟨pg, hd, po, sa⟩
theorem mfn_k {m qn : Str} {C : Addr} {st : Stmt} {ps : List Str} (cl : Cls K C)
    (b : ∀ (kV doc pm : Value) (an : Option Addr) (cdv ct : Value) (us : List Value), us.length = ps.length → bindArgs (PySem.W.fnOf m qn (defArgs st) (defBody st) (defScope st) .none kV doc pm an cdv ct) ⟨us, []⟩ = pure (ps.zip us))
    (a1 : PySem.W.findIn K (.ref C) m = some (some (.ref f))) (i1 : PySem.W.isFn K (.ref f) = true)
    (l : K.lookup f = some ⟨oc, od, .func (PySem.W.fnOf m qn (defArgs st) (defBody st) (defScope st) .none kV doc pm an cdv ct), osl⟩) (c : PySem.W.codeIn K cdv qn = true) (k : PySem.W.keepIn K (.ref f) = true)
    (n : Mfn K m qn C st ps → G) : G := n ⟨f, _, cl, ⟨a1, i1, k⟩, fun_mk (st := st) l c k, (fun_mk (st := st) l c k).binds b⟩
theorem int_k {x : Str} {c : Int} {t : Tok} (X : K.In h) (g : h.Ns mainGlobals mg) (a : PySem.W.nsIn K mainGlobals x = some (some (.int c t))) (n : CInt mg x c → G) : G := n ⟨t, PySem.W.mg_of X g a⟩
theorem non_k {x : Str} (X : K.In h) (g : h.Ns mainGlobals mg) (a : PySem.W.nsIn K mainGlobals x = some none) (n : mg x = none → G) : G := n (PySem.W.mg_none_of X g a)
theorem ref_k {x : Str} {a : Addr} (X : K.In h) (g : h.Ns mainGlobals mg) (e : PySem.W.nsIn K mainGlobals x = some (some (.ref a))) (n : mg x = some (.ref a) → G) : G := n (PySem.W.mg_of X g e)
theorem att_c {C : Addr} {x : Str} (_ : Cls K C) (a : PySem.W.findIn K (.ref C) x = some none) (n : NoAttr K C x → G) : G := n a
theorem fin_mk {P q : Program} {d : Ad} {fa tab : Addr} (S : Tops w K mg d) (hm : mg "answers" = some (.ref fa)) (hT : TabIn q K mg tab) : ∃ fd : FuncData, (∀ (s : Shared) (us : List Value), us.length = p_answers.length → BindsTo s fd ⟨us, []⟩ (p_answers.zip us)) ∧ TabIn q K mg tab ∧
    ∀ base : Heap, K.In base → base.Ns mainGlobals mg → BM mg base → FnOk P w K mg base CX0 11 fa fd p_answers (spAll d K) := by
  obtain ⟨f', fd, F, hm', hb⟩ := S.D_answers
  rw [hm] at hm'
  cases hm'
  refine ⟨fd, ?_, hT, fun base kin _ B => ok_all S kin B F⟩
  obtain ⟨oc, od, kV, doc, pm, an, cdv, ct, osl, rfl, lk, hcd⟩ := F.ex
  exact fun s us hu => .of_eq (bd_answers kV doc pm an cdv ct us hu)
end
end Fs
end
section
set_option Elab.async false
set_option linter.all false
set_option maxRecDepth 100000
set_option maxHeartbeats 2000000
namespace Fs
open PySem PySem.Spec PyProof.Rows L2
section
variable {G : Prop} {w : World} {K : PySem.W.Frag} {h : Heap} {mg : Str → Option Value} {a : Addr} {od : Option Addr} {m : Nat} {sl : Array (Option Value)}
theorem rng1_k {x : Str} {b0 : Addr} {x0 y0 : Int} {t0 u0 : Tok} {od0 : Option Addr} {m0 : Nat} {sl0 : Array (Option Value)} (X : K.In h) (g : h.Ns mainGlobals mg) (e : PySem.W.nsIn K mainGlobals x = some (some (.ref a))) (l : K.lookup a = some ⟨.type "tuple", od, .seq #[.ref b0] m, sl⟩)
    (l0 : K.lookup b0 = some ⟨.type "tuple", od0, .seq #[.int x0 t0, .int y0 u0] m0, sl0⟩)
    (n : Rng K mg x [(x0, y0)] → G) : G := by
  refine n ⟨a, PySem.W.mg_of X g e, [b0], rfl, fun _ => .inr ⟨_, _, _, l, rfl, rfl, by show 1 ≤ sizeLine; decide, (.cons rfl .nil)⟩, fun i b r h1 h2 H => ?_⟩
  match i, h1, h2 with
  | 0, h1, h2 => cases h1; cases h2; exact .inr ⟨_, _, _, l0, rfl, rfl, by show 2 ≤ sizeLine; decide, .cons ⟨_, rfl⟩ (.cons ⟨_, rfl⟩ .nil)⟩
  | n + 1, h1, h2 => cases h1
theorem rng2_k {x : Str} {b0 b1 : Addr} {x0 y0 x1 y1 : Int} {t0 u0 t1 u1 : Tok} {od0 od1 : Option Addr} {m0 m1 : Nat} {sl0 sl1 : Array (Option Value)} (X : K.In h) (g : h.Ns mainGlobals mg) (e : PySem.W.nsIn K mainGlobals x = some (some (.ref a))) (l : K.lookup a = some ⟨.type "tuple", od, .seq #[.ref b0, .ref b1] m, sl⟩)
    (l0 : K.lookup b0 = some ⟨.type "tuple", od0, .seq #[.int x0 t0, .int y0 u0] m0, sl0⟩)
    (l1 : K.lookup b1 = some ⟨.type "tuple", od1, .seq #[.int x1 t1, .int y1 u1] m1, sl1⟩)
    (n : Rng K mg x [(x0, y0), (x1, y1)] → G) : G := by
  refine n ⟨a, PySem.W.mg_of X g e, [b0, b1], rfl, fun _ => .inr ⟨_, _, _, l, rfl, rfl, by show 2 ≤ sizeLine; decide, (.cons rfl (.cons rfl .nil))⟩, fun i b r h1 h2 H => ?_⟩
  match i, h1, h2 with
  | 0, h1, h2 => cases h1; cases h2; exact .inr ⟨_, _, _, l0, rfl, rfl, by show 2 ≤ sizeLine; decide, .cons ⟨_, rfl⟩ (.cons ⟨_, rfl⟩ .nil)⟩
  | 1, h1, h2 => cases h1; cases h2; exact .inr ⟨_, _, _, l1, rfl, rfl, by show 2 ≤ sizeLine; decide, .cons ⟨_, rfl⟩ (.cons ⟨_, rfl⟩ .nil)⟩
  | n + 2, h1, h2 => cases h1
theorem rng6_k {x : Str} {b0 b1 b2 b3 b4 b5 : Addr} {x0 y0 x1 y1 x2 y2 x3 y3 x4 y4 x5 y5 : Int} {t0 u0 t1 u1 t2 u2 t3 u3 t4 u4 t5 u5 : Tok} {od0 od1 od2 od3 od4 od5 : Option Addr} {m0 m1 m2 m3 m4 m5 : Nat} {sl0 sl1 sl2 sl3 sl4 sl5 : Array (Option Value)} (X : K.In h) (g : h.Ns mainGlobals mg) (e : PySem.W.nsIn K mainGlobals x = some (some (.ref a))) (l : K.lookup a = some ⟨.type "tuple", od, .seq #[.ref b0, .ref b1, .ref b2, .ref b3, .ref b4, .ref b5] m, sl⟩)
    (l0 : K.lookup b0 = some ⟨.type "tuple", od0, .seq #[.int x0 t0, .int y0 u0] m0, sl0⟩)
    (l1 : K.lookup b1 = some ⟨.type "tuple", od1, .seq #[.int x1 t1, .int y1 u1] m1, sl1⟩)
    (l2 : K.lookup b2 = some ⟨.type "tuple", od2, .seq #[.int x2 t2, .int y2 u2] m2, sl2⟩)
    (l3 : K.lookup b3 = some ⟨.type "tuple", od3, .seq #[.int x3 t3, .int y3 u3] m3, sl3⟩)
    (l4 : K.lookup b4 = some ⟨.type "tuple", od4, .seq #[.int x4 t4, .int y4 u4] m4, sl4⟩)
    (l5 : K.lookup b5 = some ⟨.type "tuple", od5, .seq #[.int x5 t5, .int y5 u5] m5, sl5⟩)
    (n : Rng K mg x [(x0, y0), (x1, y1), (x2, y2), (x3, y3), (x4, y4), (x5, y5)] → G) : G := by
  refine n ⟨a, PySem.W.mg_of X g e, [b0, b1, b2, b3, b4, b5], rfl, fun _ => .inr ⟨_, _, _, l, rfl, rfl, by show 6 ≤ sizeLine; decide, (.cons rfl (.cons rfl (.cons rfl (.cons rfl (.cons rfl (.cons rfl .nil))))))⟩, fun i b r h1 h2 H => ?_⟩
  match i, h1, h2 with
  | 0, h1, h2 => cases h1; cases h2; exact .inr ⟨_, _, _, l0, rfl, rfl, by show 2 ≤ sizeLine; decide, .cons ⟨_, rfl⟩ (.cons ⟨_, rfl⟩ .nil)⟩
  | 1, h1, h2 => cases h1; cases h2; exact .inr ⟨_, _, _, l1, rfl, rfl, by show 2 ≤ sizeLine; decide, .cons ⟨_, rfl⟩ (.cons ⟨_, rfl⟩ .nil)⟩
  | 2, h1, h2 => cases h1; cases h2; exact .inr ⟨_, _, _, l2, rfl, rfl, by show 2 ≤ sizeLine; decide, .cons ⟨_, rfl⟩ (.cons ⟨_, rfl⟩ .nil)⟩
  | 3, h1, h2 => cases h1; cases h2; exact .inr ⟨_, _, _, l3, rfl, rfl, by show 2 ≤ sizeLine; decide, .cons ⟨_, rfl⟩ (.cons ⟨_, rfl⟩ .nil)⟩
  | 4, h1, h2 => cases h1; cases h2; exact .inr ⟨_, _, _, l4, rfl, rfl, by show 2 ≤ sizeLine; decide, .cons ⟨_, rfl⟩ (.cons ⟨_, rfl⟩ .nil)⟩
  | 5, h1, h2 => cases h1; cases h2; exact .inr ⟨_, _, _, l5, rfl, rfl, by show 2 ≤ sizeLine; decide, .cons ⟨_, rfl⟩ (.cons ⟨_, rfl⟩ .nil)⟩
  | n + 6, h1, h2 => cases h1
theorem dic_k {ep : Nat} {t0 u0 t1 u1 t2 u2 t3 u3 t4 u4 t5 u5 t6 u6 t7 u7 t8 u8 t9 u9 t10 u10 t11 u11 t12 u12 t13 u13 : Tok} (l : K.lookup a = some ⟨.type "dict", none, .dict #[⟨hashInt 0, .int 0 t0, .int 2 u0⟩, ⟨hashInt 3, .int 3 t1, .int 6 u1⟩, ⟨hashInt 4, .int 4 t2, .int 2 u2⟩, ⟨hashInt 5, .int 5 t3, .int 1 u3⟩, ⟨hashInt 6, .int 6 t4, .int 1 u4⟩, ⟨hashInt 7, .int 7 t5, .int 0 u5⟩, ⟨hashInt 8, .int 8 t6, .int 1 u6⟩, ⟨hashInt 9, .int 9 t7, .int 0 u7⟩, ⟨hashInt 10, .int 10 t8, .int 2 u8⟩, ⟨hashInt 11, .int 11 t9, .int 1 u9⟩, ⟨hashInt 12, .int 12 t10, .int 0 u10⟩, ⟨hashInt 13, .int 13 t11, .int 0 u11⟩, ⟨hashInt 14, .int 14 t12, .int 0 u12⟩, ⟨hashInt 15, .int 15 t13, .int 0 u13⟩] ep, #[]⟩) (sm : (a == sysModules) = false) (n : DicK K w a NUMS → G) : G := by
  refine n ⟨⟨_, ep, [(t0, u0), (t1, u1), (t2, u2), (t3, u3), (t4, u4), (t5, u5), (t6, u6), (t7, u7), (t8, u8), (t9, u9), (t10, u10), (t11, u11), (t12, u12), (t13, u13)], l, ⟨rfl, rfl, rfl⟩, rfl, rfl⟩, by decide, sm⟩
theorem tup2_k {x : Str} {t u : Tok} (X : K.In h) (e : mg x = some (.ref a)) (l : K.lookup a = some ⟨.type "tuple", od, .seq #[.int 1 t, .int 2 u] m, sl⟩) (n : (∀ H, SqT K H a [.int 1, .int 2]) → G) : G := n fun _ => .inr ⟨_, _, _, l, rfl, rfl, by show 2 ≤ sizeLine; decide, .cons ⟨_, rfl⟩ (.cons ⟨_, rfl⟩ .nil)⟩
theorem tup16_k {x : Str} {f0 f1 f2 f3 f4 f5 f6 f7 f8 f9 f10 f11 f12 f13 f14 f15 : Addr} (X : K.In h) (e : mg x = some (.ref a)) (l : K.lookup a = some ⟨.type "tuple", od, .seq #[.ref f0, .ref f1, .ref f2, .ref f3, .ref f4, .ref f5, .ref f6, .ref f7, .ref f8, .ref f9, .ref f10, .ref f11, .ref f12, .ref f13, .ref f14, .ref f15] m, sl⟩) (n : (∀ H, SqT K H a ([f0, f1, f2, f3, f4, f5, f6, f7, f8, f9, f10, f11, f12, f13, f14, f15].map V.ref)) → G) : G := n fun _ => .inr ⟨_, _, _, l, rfl, rfl, by show 16 ≤ sizeLine; decide, (.cons rfl (.cons rfl (.cons rfl (.cons rfl (.cons rfl (.cons rfl (.cons rfl (.cons rfl (.cons rfl (.cons rfl (.cons rfl (.cons rfl (.cons rfl (.cons rfl (.cons rfl (.cons rfl .nil))))))))))))))))⟩
theorem dic_c {x : Str} {ep : Nat} {t0 u0 t1 u1 t2 u2 t3 u3 t4 u4 t5 u5 t6 u6 t7 u7 t8 u8 t9 u9 t10 u10 t11 u11 t12 u12 t13 u13 : Tok} (X : K.In h) (e : mg x = some (.ref a)) (l : K.lookup a = some ⟨.type "dict", none, .dict #[⟨hashInt 0, .int 0 t0, .int 2 u0⟩, ⟨hashInt 3, .int 3 t1, .int 6 u1⟩, ⟨hashInt 4, .int 4 t2, .int 2 u2⟩, ⟨hashInt 5, .int 5 t3, .int 1 u3⟩, ⟨hashInt 6, .int 6 t4, .int 1 u4⟩, ⟨hashInt 7, .int 7 t5, .int 0 u5⟩, ⟨hashInt 8, .int 8 t6, .int 1 u6⟩, ⟨hashInt 9, .int 9 t7, .int 0 u7⟩, ⟨hashInt 10, .int 10 t8, .int 2 u8⟩, ⟨hashInt 11, .int 11 t9, .int 1 u9⟩, ⟨hashInt 12, .int 12 t10, .int 0 u10⟩, ⟨hashInt 13, .int 13 t11, .int 0 u11⟩, ⟨hashInt 14, .int 14 t12, .int 0 u12⟩, ⟨hashInt 15, .int 15 t13, .int 0 u13⟩] ep, #[]⟩) (sm : (a == sysModules) = false) (n : DicK K w a NUMS → G) : G := dic_k l sm n
end
end Fs
end
set_option Elab.async false
set_option linter.all false
/-! Names that the head would take for its quick twins: with them taken it reckons without twins, and the compiled text stays small. -/
theorem PySem.W.Fast.tw4082916784822239123 : True := trivial
theorem PySem.W.Fast.tw933129099168361008 : True := trivial
theorem PySem.W.Fast.tw8803976039580640789 : True := trivial
theorem PySem.W.Fast.tw15077777845626266825 : True := trivial
theorem PySem.W.Fast.tw3631349957479293374 : True := trivial
theorem PySem.W.Fast.tw2485621860139845547 : True := trivial
theorem PySem.W.Fast.tw3774423916943023067 : True := trivial
theorem PySem.W.Fast.tw10732204174135739186 : True := trivial
theorem PySem.W.Fast.tw17147884606859448215 : True := trivial
theorem PySem.W.Fast.tw15722617503061213089 : True := trivial
theorem PySem.W.Fast.tw2483911799090976637 : True := trivial
theorem PySem.W.Fast.tw1098691341275419735 : True := trivial
theorem PySem.W.Fast.tw18396798746177663733 : True := trivial
theorem PySem.W.Fast.tw9711256854309310247 : True := trivial
theorem PySem.W.Fast.tw383497215171668109 : True := trivial
theorem PySem.W.Fast.tw3711927624846607284 : True := trivial
theorem PySem.W.Fast.tw14216877918821519164 : True := trivial
theorem PySem.W.Fast.tw14863075046251822337 : True := trivial
theorem PySem.W.Fast.tw16152756455519610641 : True := trivial
theorem PySem.W.Fast.tw628990291109587341 : True := trivial
theorem PySem.W.Fast.tw5450350348963118098 : True := trivial
theorem PySem.W.Fast.tw1856777164216120889 : True := trivial
theorem PySem.W.Fast.tw3655489608355134423 : True := trivial
theorem PySem.W.Fast.tw10501810106801922430 : True := trivial
theorem PySem.W.Fast.tw15262483562955449683 : True := trivial
theorem PySem.W.Fast.tw4939234223162817413 : True := trivial
theorem PySem.W.Fast.tw5082886199004563529 : True := trivial
theorem PySem.W.Fast.tw11675101019451517435 : True := trivial
theorem PySem.W.Fast.tw9058973130869028860 : True := trivial
theorem PySem.W.Fast.tw16176124947232807766 : True := trivial
theorem PySem.W.Fast.tw12277142876632911337 : True := trivial
theorem PySem.W.Fast.tw8194724859203389387 : True := trivial
theorem PySem.W.Fast.tw2831790180834272483 : True := trivial
theorem PySem.W.Fast.tw2096971224323893262 : True := trivial
theorem PySem.W.Fast.tw16964809012421767801 : True := trivial
theorem PySem.W.Fast.tw3261491971653116951 : True := trivial
theorem PySem.W.Fast.tw4246940343223249179 : True := trivial
theorem PySem.W.Fast.tw18274166503263292982 : True := trivial
theorem PySem.W.Fast.tw8289826493219135503 : True := trivial
theorem PySem.W.Fast.tw17784609904643908555 : True := trivial
theorem PySem.W.Fast.tw11393692605633723531 : True := trivial
theorem PySem.W.Fast.tw5015371846453194679 : True := trivial
theorem PySem.W.Fast.tw4245304349991895252 : True := trivial
theorem PySem.W.Fast.tw204692053579616883 : True := trivial
theorem PySem.W.Fast.tw1970945006087668284 : True := trivial
theorem PySem.W.Fast.tw10923398713083830646 : True := trivial
theorem PySem.W.Fast.tw13161062227866251465 : True := trivial
theorem PySem.W.Fast.tw14159980017717114254 : True := trivial
theorem PySem.W.Fast.tw1948682864678803604 : True := trivial
theorem PySem.W.Fast.tw17777202889006509851 : True := trivial
theorem PySem.W.Fast.tw16370113934871132676 : True := trivial
theorem PySem.W.Fast.tw10666598941403123745 : True := trivial
theorem PySem.W.Fast.tw7276287720039677231 : True := trivial
theorem PySem.W.Fast.tw6860155674267688061 : True := trivial
theorem PySem.W.Fast.tw7276052876486068978 : True := trivial
theorem PySem.W.Fast.tw9170026255924815907 : True := trivial
theorem PySem.W.Fast.tw18102667237633576034 : True := trivial
theorem PySem.W.Fast.tw12396383585396765129 : True := trivial
theorem PySem.W.Fast.tw16801273733863013464 : True := trivial
theorem PySem.W.Fast.tw16972570244143182350 : True := trivial
theorem PySem.W.Fast.tw251006346170849850 : True := trivial
theorem PySem.W.Fast.tw17569413983072787427 : True := trivial
theorem PySem.W.Fast.tw1080067711447222624 : True := trivial
theorem PySem.W.Fast.tw1777295590782540933 : True := trivial
theorem PySem.W.Fast.tw8825887128592949862 : True := trivial
theorem PySem.W.Fast.tw2654735017637734242 : True := trivial
theorem PySem.W.Fast.tw9307314560381686914 : True := trivial
theorem PySem.W.Fast.tw16637324300065533667 : True := trivial
theorem PySem.W.Fast.tw11035486185291853200 : True := trivial
theorem PySem.W.Fast.tw7066449222771294935 : True := trivial
theorem PySem.W.Fast.tw16436032651758439410 : True := trivial
theorem PySem.W.Fast.tw9261393047998868591 : True := trivial
theorem PySem.W.Fast.tw7599423975071573463 : True := trivial
theorem PySem.W.Fast.tw13813795405307827239 : True := trivial
theorem PySem.W.Fast.tw12007834312802317656 : True := trivial
theorem PySem.W.Fast.tw14932115577703162849 : True := trivial
theorem PySem.W.Fast.tw12294928703231652702 : True := trivial
theorem PySem.W.Fast.tw1960934046537800416 : True := trivial
theorem PySem.W.Fast.tw8541040854079506778 : True := trivial
theorem PySem.W.Fast.tw4528474366642744182 : True := trivial
theorem PySem.W.Fast.tw9341429793298459299 : True := trivial
theorem PySem.W.Fast.tw11017097517852499517 : True := trivial
theorem PySem.W.Fast.tw1218338299644465585 : True := trivial
theorem PySem.W.Fast.tw12169477719454019301 : True := trivial
theorem PySem.W.Fast.tw8559514081405771639 : True := trivial
theorem PySem.W.Fast.tw17128615073661791037 : True := trivial
theorem PySem.W.Fast.tw16914874264085994660 : True := trivial
theorem PySem.W.Fast.tw7613408286062498663 : True := trivial
theorem PySem.W.Fast.tw12012401239675791593 : True := trivial
theorem PySem.W.Fast.tw2607660785011958714 : True := trivial
theorem PySem.W.Fast.tw14187322110862433601 : True := trivial
theorem PySem.W.Fast.tw10632526973802686783 : True := trivial
theorem PySem.W.Fast.tw12174791925381828530 : True := trivial
theorem PySem.W.Fast.tw3334210856567054309 : True := trivial
theorem PySem.W.Fast.tw16904259112483723234 : True := trivial
theorem PySem.W.Fast.tw11908481277927512197 : True := trivial
theorem PySem.W.Fast.tw6540862625631200362 : True := trivial
theorem PySem.W.Fast.tw18367728610623345746 : True := trivial
theorem PySem.W.Fast.tw3568817139046411366 : True := trivial
theorem PySem.W.Fast.tw16489919543641210515 : True := trivial
theorem PySem.W.Fast.tw5858095516318474522 : True := trivial
theorem PySem.W.Fast.tw6933877820556412146 : True := trivial
theorem PySem.W.Fast.tw5033723950149503043 : True := trivial
theorem PySem.W.Fast.tw2215899866641457889 : True := trivial
theorem PySem.W.Fast.tw10119615613114503441 : True := trivial
theorem PySem.W.Fast.tw8387407696108018419 : True := trivial
theorem PySem.W.Fast.tw13972219865071665757 : True := trivial
theorem PySem.W.Fast.tw12358263225753697577 : True := trivial
theorem PySem.W.Fast.tw16639914127388441294 : True := trivial
theorem PySem.W.Fast.tw9554283096577519582 : True := trivial
theorem PySem.W.Fast.tw3455073576526666641 : True := trivial
theorem PySem.W.Fast.tw15231124213694979354 : True := trivial
theorem PySem.W.Fast.tw14576736481187534208 : True := trivial
theorem PySem.W.Fast.tw9086537767147634700 : True := trivial
theorem PySem.W.Fast.tw2330832410918782189 : True := trivial
theorem PySem.W.Fast.tw14091576253725113519 : True := trivial
theorem PySem.W.Fast.tw14449778824361751700 : True := trivial
theorem PySem.W.Fast.tw13106104532933357855 : True := trivial
theorem PySem.W.Fast.tw18078001159591220353 : True := trivial
theorem PySem.W.Fast.tw4570891549134176039 : True := trivial
theorem PySem.W.Fast.tw7995998340203597382 : True := trivial
theorem PySem.W.Fast.tw14831406371306996267 : True := trivial
theorem PySem.W.Fast.tw11616494339790895352 : True := trivial
theorem PySem.W.Fast.tw2711243818582948609 : True := trivial
theorem PySem.W.Fast.tw6148313788141576713 : True := trivial
theorem PySem.W.Fast.tw5030674235197836355 : True := trivial
theorem PySem.W.Fast.tw523118575146574164 : True := trivial
theorem PySem.W.Fast.tw5061298444270620761 : True := trivial
theorem PySem.W.Fast.tw12940872117325066031 : True := trivial
theorem PySem.W.Fast.tw16826277801341980288 : True := trivial
theorem PySem.W.Fast.tw13713438073401585559 : True := trivial
theorem PySem.W.Fast.tw7533583816245436667 : True := trivial
theorem PySem.W.Fast.tw5839173457263770764 : True := trivial
theorem PySem.W.Fast.tw12888586678260196770 : True := trivial
theorem PySem.W.Fast.tw13228123707635080515 : True := trivial
theorem PySem.W.Fast.tw16371344439675366187 : True := trivial
theorem PySem.W.Fast.tw10206092216602086410 : True := trivial
theorem PySem.W.Fast.tw3437457667216188754 : True := trivial
theorem PySem.W.Fast.tw17145970530330681719 : True := trivial
theorem PySem.W.Fast.tw6280105544750911244 : True := trivial
theorem PySem.W.Fast.tw5278124990132508576 : True := trivial
theorem PySem.W.Fast.tw15005996670582451836 : True := trivial
theorem PySem.W.Fast.tw11384151374880351187 : True := trivial
theorem PySem.W.Fast.tw13613067985567941868 : True := trivial
theorem PySem.W.Fast.tw15815178071034935257 : True := trivial
theorem PySem.W.Fast.tw13537411178993238945 : True := trivial
theorem PySem.W.Fast.tw17766583056723344519 : True := trivial
theorem PySem.W.Fast.tw2941078863932471207 : True := trivial
theorem PySem.W.Fast.tw8625050392017779646 : True := trivial
theorem PySem.W.Fast.tw2314323248830871339 : True := trivial
theorem PySem.W.Fast.tw12984627846723277879 : True := trivial
theorem PySem.W.Fast.tw18320453990800791836 : True := trivial
theorem PySem.W.Fast.tw3979293677199627809 : True := trivial
theorem PySem.W.Fast.tw851385409023207055 : True := trivial
theorem PySem.W.Fast.tw16593662852617470733 : True := trivial
theorem PySem.W.Fast.tw17502299253352550938 : True := trivial
theorem PySem.W.Fast.tw343084244616500562 : True := trivial
theorem PySem.W.Fast.tw7351978772492885098 : True := trivial
theorem PySem.W.Fast.tw2671465709467547000 : True := trivial
theorem PySem.W.Fast.tw11938325034614100583 : True := trivial
theorem PySem.W.Fast.tw5437305516994198288 : True := trivial
theorem PySem.W.Fast.tw339343371395340637 : True := trivial
theorem PySem.W.Fast.tw6565194586061406363 : True := trivial
theorem PySem.W.Fast.tw16041864622959124963 : True := trivial
theorem PySem.W.Fast.tw4690868429827497958 : True := trivial
theorem PySem.W.Fast.tw5690978222065133699 : True := trivial
theorem PySem.W.Fast.tw14390651871807143726 : True := trivial
theorem PySem.W.Fast.tw3882825739812507138 : True := trivial
theorem PySem.W.Fast.tw2132828998748612687 : True := trivial
theorem PySem.W.Fast.tw4366853283566004173 : True := trivial
theorem PySem.W.Fast.tw13851148870195393502 : True := trivial
theorem PySem.W.Fast.tw9343487127422742356 : True := trivial
theorem PySem.W.Fast.tw11303146156015246192 : True := trivial
theorem PySem.W.Fast.tw7322445271211230908 : True := trivial
theorem PySem.W.Fast.tw7494180856557713276 : True := trivial
theorem PySem.W.Fast.tw15233384509882508064 : True := trivial
theorem PySem.W.Fast.tw10606134943013659226 : True := trivial
theorem PySem.W.Fast.tw12948876981105929971 : True := trivial
theorem PySem.W.Fast.tw6461191607293366254 : True := trivial
theorem PySem.W.Fast.tw1265496159568464223 : True := trivial
theorem PySem.W.Fast.tw4069162990325773884 : True := trivial
theorem PySem.W.Fast.tw820677808591660374 : True := trivial
theorem PySem.W.Fast.tw17136564106250204416 : True := trivial
theorem PySem.W.Fast.tw16986621893323694187 : True := trivial
theorem PySem.W.Fast.tw17494853967348632179 : True := trivial
theorem PySem.W.Fast.tw5147364779834159891 : True := trivial
theorem PySem.W.Fast.tw10574544898693686046 : True := trivial
theorem PySem.W.Fast.tw16668645058578666897 : True := trivial
theorem PySem.W.Fast.tw2295268874991994653 : True := trivial
theorem PySem.W.Fast.tw3226228531875693046 : True := trivial
theorem PySem.W.Fast.tw15757481808763739796 : True := trivial
theorem PySem.W.Fast.tw4477496773835997855 : True := trivial
theorem PySem.W.Fast.tw11225208326793980219 : True := trivial
theorem PySem.W.Fast.tw12091769216194769564 : True := trivial
theorem PySem.W.Fast.tw3155414387509752402 : True := trivial
theorem PySem.W.Fast.tw9365141504358134513 : True := trivial
theorem PySem.W.Fast.tw13076024907947690603 : True := trivial
theorem PySem.W.Fast.tw11294947761583420871 : True := trivial
theorem PySem.W.Fast.tw12203016802690259585 : True := trivial
theorem PySem.W.Fast.tw8010971940301306818 : True := trivial
theorem PySem.W.Fast.tw17615251049701330873 : True := trivial
theorem PySem.W.Fast.tw15283701662573585207 : True := trivial
theorem PySem.W.Fast.tw11591067822858888804 : True := trivial
theorem PySem.W.Fast.tw13271895454701628300 : True := trivial
theorem PySem.W.Fast.tw14748759894985383710 : True := trivial
theorem PySem.W.Fast.tw6928990403475108336 : True := trivial
theorem PySem.W.Fast.tw7719084863598033004 : True := trivial
theorem PySem.W.Fast.tw3691055625434639505 : True := trivial
theorem PySem.W.Fast.tw8724667469219939735 : True := trivial
theorem PySem.W.Fast.tw10748387523728969470 : True := trivial
theorem PySem.W.Fast.tw16906986999418964142 : True := trivial
theorem PySem.W.Fast.tw14516675214776057402 : True := trivial
theorem PySem.W.Fast.tw14851369318578324999 : True := trivial
theorem PySem.W.Fast.tw2781349795500846787 : True := trivial
theorem PySem.W.Fast.tw1287496200454303153 : True := trivial
theorem PySem.W.Fast.tw17950196489026134461 : True := trivial
theorem PySem.W.Fast.tw2970305078427345121 : True := trivial
theorem PySem.W.Fast.tw13765647268644145577 : True := trivial
theorem PySem.W.Fast.tw4233265653721067010 : True := trivial
theorem PySem.W.Fast.tw3107212391740831319 : True := trivial
theorem PySem.W.Fast.tw10089668160783455276 : True := trivial
theorem PySem.W.Fast.tw16708970339750478967 : True := trivial
theorem PySem.W.Fast.tw4744127664513403767 : True := trivial
theorem PySem.W.Fast.tw6652745688022996848 : True := trivial
theorem PySem.W.Fast.tw7468029018026744762 : True := trivial
theorem PySem.W.Fast.tw8701017248531985250 : True := trivial
theorem PySem.W.Fast.tw9699299258255514311 : True := trivial
theorem PySem.W.Fast.tw8556665198574201706 : True := trivial
theorem PySem.W.Fast.tw17197726705212282922 : True := trivial
theorem PySem.W.Fast.tw11907830534660974152 : True := trivial
theorem PySem.W.Fast.tw4883068364793969020 : True := trivial
theorem PySem.W.Fast.tw10593057347558615651 : True := trivial
theorem PySem.W.Fast.tw7606447531706411208 : True := trivial
theorem PySem.W.Fast.tw9889883209751490858 : True := trivial
theorem PySem.W.Fast.tw5940172074850176013 : True := trivial
theorem PySem.W.Fast.tw10863871208608183370 : True := trivial
theorem PySem.W.Fast.tw11564705951745124604 : True := trivial
theorem PySem.W.Fast.tw7629925750262258154 : True := trivial
theorem PySem.W.Fast.tw11603526712405681664 : True := trivial
theorem PySem.W.Fast.tw4084351890454163744 : True := trivial
theorem PySem.W.Fast.tw4956706848882936073 : True := trivial
theorem PySem.W.Fast.tw11730366984626841992 : True := trivial
theorem PySem.W.Fast.tw17735756573666712258 : True := trivial
theorem PySem.W.Fast.tw14668255681412295261 : True := trivial
theorem PySem.W.Fast.tw8984907655992974602 : True := trivial
theorem PySem.W.Fast.tw2065465727402751776 : True := trivial
theorem PySem.W.Fast.tw16029183270092706111 : True := trivial
theorem PySem.W.Fast.tw9723178989300819530 : True := trivial
theorem PySem.W.Fast.tw376142440789135428 : True := trivial
theorem PySem.W.Fast.tw16776918589856854184 : True := trivial
theorem PySem.W.Fast.tw16724331860768443194 : True := trivial
theorem PySem.W.Fast.tw15163480600592572396 : True := trivial
theorem PySem.W.Fast.tw344337312346200981 : True := trivial
theorem PySem.W.Fast.tw304225799501730973 : True := trivial
theorem PySem.W.Fast.tw10843574160794894203 : True := trivial
theorem PySem.W.Fast.tw2055210672129336516 : True := trivial
theorem PySem.W.Fast.tw6522433311847036754 : True := trivial
theorem PySem.W.Fast.tw13884139669143198782 : True := trivial
theorem PySem.W.Fast.tw801681240729482995 : True := trivial
theorem PySem.W.Fast.tw7834964085111017845 : True := trivial
theorem PySem.W.Fast.tw2106305172352861992 : True := trivial
theorem PySem.W.Fast.tw17803704602405882029 : True := trivial
theorem PySem.W.Fast.tw18250786011176821435 : True := trivial
theorem PySem.W.Fast.tw5648421362283945909 : True := trivial
theorem PySem.W.Fast.tw9384448432099692466 : True := trivial
theorem PySem.W.Fast.tw7455002630765312225 : True := trivial
theorem PySem.W.Fast.tw16425215223121046464 : True := trivial
theorem PySem.W.Fast.tw4168477186712343237 : True := trivial
theorem PySem.W.Fast.tw6977010870436900034 : True := trivial
theorem PySem.W.Fast.tw16734803334014906677 : True := trivial
theorem PySem.W.Fast.tw17794434898596429479 : True := trivial
theorem PySem.W.Fast.tw8214297329620243247 : True := trivial
theorem PySem.W.Fast.tw5681102866189201356 : True := trivial
theorem PySem.W.Fast.tw10422517753872873701 : True := trivial
theorem PySem.W.Fast.tw10054748541329361525 : True := trivial
theorem PySem.W.Fast.tw11278088746577125238 : True := trivial
theorem PySem.W.Fast.tw2308142369784450835 : True := trivial
theorem PySem.W.Fast.tw3971814140597204320 : True := trivial
theorem PySem.W.Fast.tw16844348141426309250 : True := trivial
theorem PySem.W.Fast.tw1131690373939302658 : True := trivial
theorem PySem.W.Fast.tw11227550509996366362 : True := trivial
theorem PySem.W.Fast.tw14146393335485912934 : True := trivial
theorem PySem.W.Fast.tw5469479907771428792 : True := trivial
theorem PySem.W.Fast.tw2414504917909982988 : True := trivial
theorem PySem.W.Fast.tw8576898799706732897 : True := trivial
theorem PySem.W.Fast.tw11303275045242697388 : True := trivial
theorem PySem.W.Fast.tw6629726365102442371 : True := trivial
theorem PySem.W.Fast.tw468874824645049846 : True := trivial
theorem PySem.W.Fast.tw6541629723355856119 : True := trivial
theorem PySem.W.Fast.tw11537355636519741105 : True := trivial
theorem PySem.W.Fast.tw8544499063221610818 : True := trivial
theorem PySem.W.Fast.tw11529694623145637932 : True := trivial
theorem PySem.W.Fast.tw10469301785252076130 : True := trivial
theorem PySem.W.Fast.tw12668822100660067472 : True := trivial
theorem PySem.W.Fast.tw16542665489911669875 : True := trivial
theorem PySem.W.Fast.tw1069171705163495062 : True := trivial
theorem PySem.W.Fast.tw15072997927405491911 : True := trivial
theorem PySem.W.Fast.tw24492024993315046 : True := trivial
theorem PySem.W.Fast.tw5385560841161028191 : True := trivial
theorem PySem.W.Fast.tw2232351743516468265 : True := trivial
theorem PySem.W.Fast.tw6695678820793700193 : True := trivial
theorem PySem.W.Fast.tw11390728326260541941 : True := trivial
theorem PySem.W.Fast.tw6819846894985340553 : True := trivial
theorem PySem.W.Fast.tw1408609104246229218 : True := trivial
theorem PySem.W.Fast.tw1123595493895082420 : True := trivial
theorem PySem.W.Fast.tw11658814748230187650 : True := trivial
theorem PySem.W.Fast.tw11362391436300027483 : True := trivial
theorem PySem.W.Fast.tw17172979804772272171 : True := trivial
theorem PySem.W.Fast.tw1121522521014956231 : True := trivial
theorem PySem.W.Fast.tw6755008007657117180 : True := trivial
theorem PySem.W.Fast.tw18152068076219974754 : True := trivial
theorem PySem.W.Fast.tw12411034022260074611 : True := trivial
theorem PySem.W.Fast.tw6006650195201125820 : True := trivial
theorem PySem.W.Fast.tw9065765959898266617 : True := trivial
theorem PySem.W.Fast.tw3306416884385393787 : True := trivial
theorem PySem.W.Fast.tw14452987087666812898 : True := trivial
theorem PySem.W.Fast.tw14111441454591836480 : True := trivial
theorem PySem.W.Fast.tw16101844691501648660 : True := trivial
theorem PySem.W.Fast.tw16139184488238769433 : True := trivial
theorem PySem.W.Fast.tw11701530459542080010 : True := trivial
theorem PySem.W.Fast.tw4193199629361970476 : True := trivial
theorem PySem.W.Fast.tw3837361761632156311 : True := trivial
theorem PySem.W.Fast.tw12659779013606401274 : True := trivial
theorem PySem.W.Fast.tw5733267848554116547 : True := trivial
theorem PySem.W.Fast.tw2538705144566675695 : True := trivial
theorem PySem.W.Fast.tw10730964713506005170 : True := trivial
theorem PySem.W.Fast.tw3561843712347207813 : True := trivial
theorem PySem.W.Fast.tw14845703537538246943 : True := trivial
theorem PySem.W.Fast.tw14523558587271518474 : True := trivial
theorem PySem.W.Fast.tw3294630864175911414 : True := trivial
theorem PySem.W.Fast.tw14011793431131229483 : True := trivial
theorem PySem.W.Fast.tw4594247941359221428 : True := trivial
theorem PySem.W.Fast.tw9673565089104521871 : True := trivial
theorem PySem.W.Fast.tw12580425149225942219 : True := trivial
theorem PySem.W.Fast.tw1272902023249276417 : True := trivial
theorem PySem.W.Fast.tw13820416614625410032 : True := trivial
theorem PySem.W.Fast.tw12088690042850612528 : True := trivial
theorem PySem.W.Fast.tw7003947685736659360 : True := trivial
theorem PySem.W.Fast.tw15735903242775023890 : True := trivial
theorem PySem.W.Fast.tw7954817104276647661 : True := trivial
theorem PySem.W.Fast.tw5164781174061192586 : True := trivial
theorem PySem.W.Fast.tw11869704394165061042 : True := trivial
theorem PySem.W.Fast.tw9881411298176222449 : True := trivial
theorem PySem.W.Fast.tw5471138628117920842 : True := trivial
theorem PySem.W.Fast.tw2446601395163243013 : True := trivial
theorem PySem.W.Fast.tw14240881987611843434 : True := trivial
theorem PySem.W.Fast.tw3988650157097359778 : True := trivial
theorem PySem.W.Fast.tw2076825442934583192 : True := trivial
theorem PySem.W.Fast.tw5790798377069864425 : True := trivial
theorem PySem.W.Fast.tw9540192931535337857 : True := trivial
theorem PySem.W.Fast.tw1652607156317816908 : True := trivial
theorem PySem.W.Fast.tw6038030553971549848 : True := trivial
theorem PySem.W.Fast.tw2112091198848625402 : True := trivial
theorem PySem.W.Fast.tw10207565571810731203 : True := trivial
theorem PySem.W.Fast.tw13996985104504197866 : True := trivial
theorem PySem.W.Fast.tw7832104782598233221 : True := trivial
theorem PySem.W.Fast.tw7920521309108993013 : True := trivial
theorem PySem.W.Fast.tw16980999828879047950 : True := trivial
theorem PySem.W.Fast.tw7820708873020177821 : True := trivial
theorem PySem.W.Fast.tw11925740657390075517 : True := trivial
theorem PySem.W.Fast.tw10634445600288993984 : True := trivial
theorem PySem.W.Fast.tw15491262339679169506 : True := trivial
theorem PySem.W.Fast.tw14448434322320469136 : True := trivial
theorem PySem.W.Fast.tw3764177239147887004 : True := trivial
theorem PySem.W.Fast.tw6018478879908183626 : True := trivial
theorem PySem.W.Fast.tw532102680025308305 : True := trivial
theorem PySem.W.Fast.tw5260780554339749384 : True := trivial
theorem PySem.W.Fast.tw3341890387827412084 : True := trivial
theorem PySem.W.Fast.tw45969336027295484 : True := trivial
theorem PySem.W.Fast.tw5682798881603114280 : True := trivial
theorem PySem.W.Fast.tw10408400723138629462 : True := trivial
theorem PySem.W.Fast.tw17488297709769254023 : True := trivial
theorem PySem.W.Fast.tw17933210912022114468 : True := trivial
theorem PySem.W.Fast.tw6403641146358294647 : True := trivial
theorem PySem.W.Fast.tw13319397083163272791 : True := trivial
theorem PySem.W.Fast.tw12237588047630714307 : True := trivial
theorem PySem.W.Fast.tw11250045442845145959 : True := trivial
theorem PySem.W.Fast.tw4028949073381944026 : True := trivial
theorem PySem.W.Fast.tw5100108923064118318 : True := trivial
theorem PySem.W.Fast.tw3207383435144961734 : True := trivial
theorem PySem.W.Fast.tw10958880416911713081 : True := trivial
theorem PySem.W.Fast.tw11648253482761397829 : True := trivial
theorem PySem.W.Fast.tw2101023636336817233 : True := trivial
theorem PySem.W.Fast.tw8021333283270012933 : True := trivial
theorem PySem.W.Fast.tw13112520195475777680 : True := trivial
theorem PySem.W.Fast.tw9380600876986889044 : True := trivial
theorem PySem.W.Fast.tw5935375351123584829 : True := trivial
theorem PySem.W.Fast.tw17660082598760459548 : True := trivial
theorem PySem.W.Fast.tw10936935144863486003 : True := trivial
theorem PySem.W.Fast.tw12083717977178263899 : True := trivial
theorem PySem.W.Fast.tw3506285356519049459 : True := trivial
theorem PySem.W.Fast.tw9987135231553895867 : True := trivial
theorem PySem.W.Fast.tw3892406826424637304 : True := trivial
theorem PySem.W.Fast.tw2076967513515500367 : True := trivial
theorem PySem.W.Fast.tw2957190552706406034 : True := trivial
theorem PySem.W.Fast.tw6030370072955742579 : True := trivial
theorem PySem.W.Fast.tw16538112527329184997 : True := trivial
theorem PySem.W.Fast.tw6577144783601923393 : True := trivial
theorem PySem.W.Fast.tw16741118844297298114 : True := trivial
theorem PySem.W.Fast.tw6934072476535448317 : True := trivial
theorem PySem.W.Fast.tw12437987323570211871 : True := trivial
theorem PySem.W.Fast.tw2782449214431882516 : True := trivial
theorem PySem.W.Fast.tw5953600318353729286 : True := trivial
theorem PySem.W.Fast.tw720176444665424130 : True := trivial
theorem PySem.W.Fast.tw2508854349083600385 : True := trivial
theorem PySem.W.Fast.tw17663436543308197479 : True := trivial
theorem PySem.W.Fast.tw9731553723628235946 : True := trivial
theorem PySem.W.Fast.tw4405462908413940168 : True := trivial
theorem PySem.W.Fast.tw2387357638934251207 : True := trivial
theorem PySem.W.Fast.tw15603982179034288628 : True := trivial
theorem PySem.W.Fast.tw15473396543640632028 : True := trivial
theorem PySem.W.Fast.tw1882684200590148765 : True := trivial
theorem PySem.W.Fast.tw8733208541946958071 : True := trivial
theorem PySem.W.Fast.tw11310410242666159556 : True := trivial
theorem PySem.W.Fast.tw11984117833760986306 : True := trivial
theorem PySem.W.Fast.tw16773542046301273754 : True := trivial
theorem PySem.W.Fast.tw6339559653534039626 : True := trivial
theorem PySem.W.Fast.tw14685714864762657258 : True := trivial
theorem PySem.W.Fast.tw13907189666462899181 : True := trivial
theorem PySem.W.Fast.tw7207205741499197590 : True := trivial
theorem PySem.W.Fast.tw14788235063611862836 : True := trivial
theorem PySem.W.Fast.tw13593394045496015179 : True := trivial
theorem PySem.W.Fast.tw10757198733388865227 : True := trivial
theorem PySem.W.Fast.tw12421208588842947924 : True := trivial
theorem PySem.W.Fast.tw10303899406679040192 : True := trivial
theorem PySem.W.Fast.tw12201735309338753030 : True := trivial
theorem PySem.W.Fast.tw2867052135934618986 : True := trivial
theorem PySem.W.Fast.tw11195209626853453811 : True := trivial
theorem PySem.W.Fast.tw17990088382829517887 : True := trivial
theorem PySem.W.Fast.tw9893915067309688917 : True := trivial
theorem PySem.W.Fast.tw12061303653405152768 : True := trivial
theorem PySem.W.Fast.tw13897369917718829217 : True := trivial
theorem PySem.W.Fast.tw14569525417227903240 : True := trivial
theorem PySem.W.Fast.tw13276922441457982815 : True := trivial
theorem PySem.W.Fast.tw3533240809207267643 : True := trivial
theorem PySem.W.Fast.tw16152688184010241078 : True := trivial
theorem PySem.W.Fast.tw11830887842054876638 : True := trivial
theorem PySem.W.Fast.tw9724744265207174246 : True := trivial
theorem PySem.W.Fast.tw14993215570051957526 : True := trivial
theorem PySem.W.Fast.tw2366573077711456252 : True := trivial
theorem PySem.W.Fast.tw13080249132256651812 : True := trivial
theorem PySem.W.Fast.tw11915629745828806798 : True := trivial
theorem PySem.W.Fast.tw15955732089351120462 : True := trivial
theorem PySem.W.Fast.tw1989785074173189045 : True := trivial
theorem PySem.W.Fast.tw5550412631446253996 : True := trivial
theorem PySem.W.Fast.tw9429603765374089437 : True := trivial
theorem PySem.W.Fast.tw2111578619000892023 : True := trivial
theorem PySem.W.Fast.tw11047740954156200302 : True := trivial
theorem PySem.W.Fast.tw286583043173629969 : True := trivial
theorem PySem.W.Fast.tw12896022719784178685 : True := trivial
theorem PySem.W.Fast.tw9253651583346380258 : True := trivial
theorem PySem.W.Fast.tw5454291052583653404 : True := trivial
theorem PySem.W.Fast.tw3324920069115559171 : True := trivial
theorem PySem.W.Fast.tw13677774326684795233 : True := trivial
theorem PySem.W.Fast.tw301987659875769621 : True := trivial
theorem PySem.W.Fast.tw11967177165508262517 : True := trivial
theorem PySem.W.Fast.tw8613559890430496419 : True := trivial
theorem PySem.W.Fast.tw1311683349628995180 : True := trivial
theorem PySem.W.Fast.tw12923975314730001223 : True := trivial
theorem PySem.W.Fast.tw10157962026238990379 : True := trivial
theorem PySem.W.Fast.tw8325339194633248855 : True := trivial
theorem PySem.W.Fast.tw4389019310550584695 : True := trivial
theorem PySem.W.Fast.tw4914353769560982079 : True := trivial
theorem PySem.W.Fast.tw11060733226953354539 : True := trivial
theorem PySem.W.Fast.tw2099960045139093629 : True := trivial
theorem PySem.W.Fast.tw14814206104184857604 : True := trivial
theorem PySem.W.Fast.tw4069681143999316167 : True := trivial
theorem PySem.W.Fast.tw7679158008175480468 : True := trivial
theorem PySem.W.Fast.tw18077692736966432892 : True := trivial
theorem PySem.W.Fast.tw436085117785854004 : True := trivial
theorem PySem.W.Fast.tw4579368604331602748 : True := trivial
theorem PySem.W.Fast.tw5677390775549459093 : True := trivial
theorem PySem.W.Fast.tw12982965337823665078 : True := trivial
theorem PySem.W.Fast.tw17923706265201627546 : True := trivial
theorem PySem.W.Fast.tw4154517195726017915 : True := trivial
theorem PySem.W.Fast.tw8265613137566613145 : True := trivial
theorem PySem.W.Fast.tw4413767617935558732 : True := trivial
theorem PySem.W.Fast.tw16286726098178636364 : True := trivial
theorem PySem.W.Fast.tw3567667632492832193 : True := trivial
theorem PySem.W.Fast.tw8807582945404835588 : True := trivial
theorem PySem.W.Fast.tw15100802398814798655 : True := trivial
theorem PySem.W.Fast.tw18032882020437807657 : True := trivial
theorem PySem.W.Fast.tw9134524071041651953 : True := trivial
theorem PySem.W.Fast.tw8800510660454305653 : True := trivial
theorem PySem.W.Fast.tw5101287007119038283 : True := trivial
theorem PySem.W.Fast.tw5910926400240953178 : True := trivial
theorem PySem.W.Fast.tw7057294412967585398 : True := trivial
theorem PySem.W.Fast.tw10615139589260779643 : True := trivial
theorem PySem.W.Fast.tw2536855952770648539 : True := trivial
theorem PySem.W.Fast.tw12440694295090381695 : True := trivial
theorem PySem.W.Fast.tw16186310804620320035 : True := trivial
theorem PySem.W.Fast.tw741551747246135637 : True := trivial
theorem PySem.W.Fast.tw10056726077601989786 : True := trivial
open PySem PySem.W PyProof.Rows
set_option maxRecDepth 100000 in
set_option maxHeartbeats 0 in
theorem PySem.Challenge.cw_fundswings_s01_answers_holds : PySem.Challenge.rw_fundswings_s01_answers.Holds := by
  w_on; k_headS; (case hw => exact ⟨[.list [.int 6, .int 0]], by decide +kernel, by decide +kernel⟩)
  k_fillS
  refine L2.walk_specT (r := PySem.Challenge.rw_fundswings_s01_answers) (tab := 263) (k := 11) (CX := L2.CX0) (ps := ["calls"]) (sp := fun K => Fs.spAll ⟨38, 59, 80, 108, 129, 176, 318, 283, 263⟩ K) (by decide +kernel) rfl rfl ⟨rfl, by decide, by decide⟩ (fun w h Y => PySem.W.kIn_of Y) ?F ?S (fun _ _ _ _ z => z)
  case F =>
    intro w mg fa h Y KX G hmg
    have hm : mg "answers" = some (.ref fa) := hmg
    clear hmg Y
    refine' Fs.kfn_k (x := "Policy") (qn := "Policy.__init__") (C := 38) (st := Fs.s_Policy_init) (ps := Fs.p_Policy_init) KX G Fs.bd_Policy_init ?a ?b ?c ?d ?e ?f ?g ?h ?i ?j ?k ?l ?n1
    (case a => k_is); (case b => k_is); (case c => k_is); (case d => k_is); (case e => k_is); (case f => k_is); (case g => k_is); (case h => k_is); (case i => k_is); (case j => k_is); (case k => k_is); (case l => k_is); (case' n1 => intro K_Policy k_Policy)
    refine' Fs.att_c k_Policy (x := "mode") ?a ?n2
    (case a => k_is); (case' n2 => intro a_Policy_mode)
    refine' Fs.att_c k_Policy (x := "fixed_in") ?a ?n3
    (case a => k_is); (case' n3 => intro a_Policy_fixed_in)
    refine' Fs.att_c k_Policy (x := "fixed_out") ?a ?n4
    (case a => k_is); (case' n4 => intro a_Policy_fixed_out)
    refine' Fs.att_c k_Policy (x := "factor") ?a ?n5
    (case a => k_is); (case' n5 => intro a_Policy_factor)
    refine' Fs.att_c k_Policy (x := "threshold") ?a ?n6
    (case a => k_is); (case' n6 => intro a_Policy_threshold)
    refine' Fs.att_c k_Policy (x := "greatest") ?a ?n7
    (case a => k_is); (case' n7 => intro a_Policy_greatest)
    refine' Fs.kfn_k (x := "Order") (qn := "Order.__init__") (C := 59) (st := Fs.s_Order_init) (ps := Fs.p_Order_init) KX G Fs.bd_Order_init ?a ?b ?c ?d ?e ?f ?g ?h ?i ?j ?k ?l ?n8
    (case a => k_is); (case b => k_is); (case c => k_is); (case d => k_is); (case e => k_is); (case f => k_is); (case g => k_is); (case h => k_is); (case i => k_is); (case j => k_is); (case k => k_is); (case l => k_is); (case' n8 => intro K_Order k_Order)
    refine' Fs.att_c k_Order (x := "number") ?a ?n9
    (case a => k_is); (case' n9 => intro a_Order_number)
    refine' Fs.att_c k_Order (x := "kind") ?a ?n10
    (case a => k_is); (case' n10 => intro a_Order_kind)
    refine' Fs.att_c k_Order (x := "amount") ?a ?n11
    (case a => k_is); (case' n11 => intro a_Order_amount)
    refine' Fs.kfn_k (x := "Outcome") (qn := "Outcome.__init__") (C := 80) (st := Fs.s_Outcome_init) (ps := Fs.p_Outcome_init) KX G Fs.bd_Outcome_init ?a ?b ?c ?d ?e ?f ?g ?h ?i ?j ?k ?l ?n12
    (case a => k_is); (case b => k_is); (case c => k_is); (case d => k_is); (case e => k_is); (case f => k_is); (case g => k_is); (case h => k_is); (case i => k_is); (case j => k_is); (case k => k_is); (case l => k_is); (case' n12 => intro K_Outcome k_Outcome)
    refine' Fs.att_c k_Outcome (x := "number") ?a ?n13
    (case a => k_is); (case' n13 => intro a_Outcome_number)
    refine' Fs.att_c k_Outcome (x := "levy") ?a ?n14
    (case a => k_is); (case' n14 => intro a_Outcome_levy)
    refine' Fs.att_c k_Outcome (x := "money") ?a ?n15
    (case a => k_is); (case' n15 => intro a_Outcome_money)
    refine' Fs.att_c k_Outcome (x := "units") ?a ?n16
    (case a => k_is); (case' n16 => intro a_Outcome_units)
    refine' Fs.kfn_k (x := "Fund") (qn := "Fund.__init__") (C := 108) (st := Fs.s_Fund_init) (ps := Fs.p_Fund_init) KX G Fs.bd_Fund_init ?a ?b ?c ?d ?e ?f ?g ?h ?i ?j ?k ?l ?n17
    (case a => k_is); (case b => k_is); (case c => k_is); (case d => k_is); (case e => k_is); (case f => k_is); (case g => k_is); (case h => k_is); (case i => k_is); (case j => k_is); (case k => k_is); (case l => k_is); (case' n17 => intro K_Fund k_Fund)
    refine' Fs.att_c k_Fund (x := "value") ?a ?n18
    (case a => k_is); (case' n18 => intro a_Fund_value)
    refine' Fs.att_c k_Fund (x := "units") ?a ?n19
    (case a => k_is); (case' n19 => intro a_Fund_units)
    refine' Fs.att_c k_Fund (x := "buy_tiers") ?a ?n20
    (case a => k_is); (case' n20 => intro a_Fund_buy_tiers)
    refine' Fs.att_c k_Fund (x := "sell_tiers") ?a ?n21
    (case a => k_is); (case' n21 => intro a_Fund_sell_tiers)
    refine' Fs.att_c k_Fund (x := "policy") ?a ?n22
    (case a => k_is); (case' n22 => intro a_Fund_policy)
    refine' Fs.att_c k_Fund (x := "orders") ?a ?n23
    (case a => k_is); (case' n23 => intro a_Fund_orders)
    refine' Fs.att_c k_Fund (x := "last_number") ?a ?n24
    (case a => k_is); (case' n24 => intro a_Fund_last_number)
    refine' Fs.att_c k_Fund (x := "outcomes") ?a ?n25
    (case a => k_is); (case' n25 => intro a_Fund_outcomes)
    refine' Fs.kfn_k (x := "Tier") (qn := "Tier.__init__") (C := 129) (st := Fs.s_Tier_init) (ps := Fs.p_Tier_init) KX G Fs.bd_Tier_init ?a ?b ?c ?d ?e ?f ?g ?h ?i ?j ?k ?l ?n26
    (case a => k_is); (case b => k_is); (case c => k_is); (case d => k_is); (case e => k_is); (case f => k_is); (case g => k_is); (case h => k_is); (case i => k_is); (case j => k_is); (case k => k_is); (case l => k_is); (case' n26 => intro K_Tier k_Tier)
    refine' Fs.att_c k_Tier (x := "start") ?a ?n27
    (case a => k_is); (case' n27 => intro a_Tier_start)
    refine' Fs.att_c k_Tier (x := "rate") ?a ?n28
    (case a => k_is); (case' n28 => intro a_Tier_rate)
    refine' Fs.kfn_k (x := "Prices") (qn := "Prices.__init__") (C := 176) (st := Fs.s_Prices_init) (ps := Fs.p_Prices_init) KX G Fs.bd_Prices_init ?a ?b ?c ?d ?e ?f ?g ?h ?i ?j ?k ?l ?n29
    (case a => k_is); (case b => k_is); (case c => k_is); (case d => k_is); (case e => k_is); (case f => k_is); (case g => k_is); (case h => k_is); (case i => k_is); (case j => k_is); (case k => k_is); (case l => k_is); (case' n29 => intro K_Prices k_Prices)
    refine' Fs.att_c k_Prices (x := "going_in") ?a ?n30
    (case a => k_is); (case' n30 => intro a_Prices_going_in)
    refine' Fs.att_c k_Prices (x := "going_out") ?a ?n31
    (case a => k_is); (case' n31 => intro a_Prices_going_out)
    refine' Fs.att_c k_Prices (x := "over") ?a ?n32
    (case a => k_is); (case' n32 => intro a_Prices_over)
    refine' Fs.kfn_k (x := "Weighing") (qn := "Weighing.__init__") (C := 283) (st := Fs.s_Weighing_init) (ps := Fs.p_Weighing_init) KX G Fs.bd_Weighing_init ?a ?b ?c ?d ?e ?f ?g ?h ?i ?j ?k ?l ?n33
    (case a => k_is); (case b => k_is); (case c => k_is); (case d => k_is); (case e => k_is); (case f => k_is); (case g => k_is); (case h => k_is); (case i => k_is); (case j => k_is); (case k => k_is); (case l => k_is); (case' n33 => intro K_Weighing k_Weighing)
    refine' Fs.att_c k_Weighing (x := "plain") ?a ?n34
    (case a => k_is); (case' n34 => intro a_Weighing_plain)
    refine' Fs.att_c k_Weighing (x := "flow") ?a ?n35
    (case a => k_is); (case' n35 => intro a_Weighing_flow)
    refine' Fs.att_c k_Weighing (x := "side") ?a ?n36
    (case a => k_is); (case' n36 => intro a_Weighing_side)
    refine' Fs.att_c k_Weighing (x := "enough") ?a ?n37
    (case a => k_is); (case' n37 => intro a_Weighing_enough)
    refine' Fs.kfn_k (x := "Point") (qn := "Point.__init__") (C := 318) (st := Fs.s_Point_init) (ps := Fs.p_Point_init) KX G Fs.bd_Point_init ?a ?b ?c ?d ?e ?f ?g ?h ?i ?j ?k ?l ?n38
    (case a => k_is); (case b => k_is); (case c => k_is); (case d => k_is); (case e => k_is); (case f => k_is); (case g => k_is); (case h => k_is); (case i => k_is); (case j => k_is); (case k => k_is); (case l => k_is); (case' n38 => intro K_Point k_Point)
    refine' Fs.att_c k_Point (x := "side") ?a ?n39
    (case a => k_is); (case' n39 => intro a_Point_side)
    refine' Fs.att_c k_Point (x := "swing") ?a ?n40
    (case a => k_is); (case' n40 => intro a_Point_swing)
    refine' Fs.att_c k_Point (x := "cost") ?a ?n41
    (case a => k_is); (case' n41 => intro a_Point_cost)
    refine' Fs.att_c k_Point (x := "outcomes") ?a ?n42
    (case a => k_is); (case' n42 => intro a_Point_outcomes)
    refine' Fs.att_c k_Point (x := "lacking") ?a ?n43
    (case a => k_is); (case' n43 => intro a_Point_lacking)
    refine' Fs.att_c k_Point (x := "value") ?a ?n44
    (case a => k_is); (case' n44 => intro a_Point_value)
    refine' Fs.att_c k_Point (x := "units") ?a ?n45
    (case a => k_is); (case' n45 => intro a_Point_units)
    refine' Fs.mfn_k (m := "renew") (qn := "Fund.renew") (st := Fs.s_Fund_renew) (ps := Fs.p_Fund_renew) k_Fund Fs.bd_Fund_renew ?a ?b ?c ?d ?e ?n46
    (case a => k_is); (case b => k_is); (case c => k_is); (case d => k_is); (case e => k_is); (case' n46 => intro M_renew)
    refine' Fs.dfn_k (x := "rounded_up") (st := Fs.s_rounded_up) (ps := Fs.p_rounded_up) KX G Fs.bd_rounded_up ?a ?b ?c ?d ?n47
    (case a => k_is); (case b => k_is); (case c => k_is); (case d => k_is); (case' n47 => intro D_rounded_up)
    refine' Fs.dfn_k (x := "tiers_of") (st := Fs.s_tiers_of) (ps := Fs.p_tiers_of) KX G Fs.bd_tiers_of ?a ?b ?c ?d ?n48
    (case a => k_is); (case b => k_is); (case c => k_is); (case d => k_is); (case' n48 => intro D_tiers_of)
    refine' Fs.dfn_k (x := "tier_within") (st := Fs.s_tier_within) (ps := Fs.p_tier_within) KX G Fs.bd_tier_within ?a ?b ?c ?d ?n49
    (case a => k_is); (case b => k_is); (case c => k_is); (case d => k_is); (case' n49 => intro D_tier_within)
    refine' Fs.dfn_k (x := "follows") (st := Fs.s_follows) (ps := Fs.p_follows) KX G Fs.bd_follows ?a ?b ?c ?d ?n50
    (case a => k_is); (case b => k_is); (case c => k_is); (case d => k_is); (case' n50 => intro D_follows)
    refine' Fs.dfn_k (x := "trading_cost") (st := Fs.s_trading_cost) (ps := Fs.p_trading_cost) KX G Fs.bd_trading_cost ?a ?b ?c ?d ?n51
    (case a => k_is); (case b => k_is); (case c => k_is); (case d => k_is); (case' n51 => intro D_trading_cost)
    refine' Fs.dfn_k (x := "done") (st := Fs.s_done) (ps := Fs.p_done) KX G Fs.bd_done ?a ?b ?c ?d ?n52
    (case a => k_is); (case b => k_is); (case c => k_is); (case d => k_is); (case' n52 => intro D_done)
    refine' Fs.dfn_k (x := "outcomes_at") (st := Fs.s_outcomes_at) (ps := Fs.p_outcomes_at) KX G Fs.bd_outcomes_at ?a ?b ?c ?d ?n53
    (case a => k_is); (case b => k_is); (case c => k_is); (case d => k_is); (case' n53 => intro D_outcomes_at)
    refine' Fs.dfn_k (x := "levied_outcomes") (st := Fs.s_levied_outcomes) (ps := Fs.p_levied_outcomes) KX G Fs.bd_levied_outcomes ?a ?b ?c ?d ?n54
    (case a => k_is); (case b => k_is); (case c => k_is); (case d => k_is); (case' n54 => intro D_levied_outcomes)
    refine' Fs.dfn_k (x := "flow_of") (st := Fs.s_flow_of) (ps := Fs.p_flow_of) KX G Fs.bd_flow_of ?a ?b ?c ?d ?n55
    (case a => k_is); (case b => k_is); (case c => k_is); (case d => k_is); (case' n55 => intro D_flow_of)
    refine' Fs.dfn_k (x := "units_of") (st := Fs.s_units_of) (ps := Fs.p_units_of) KX G Fs.bd_units_of ?a ?b ?c ?d ?n56
    (case a => k_is); (case b => k_is); (case c => k_is); (case d => k_is); (case' n56 => intro D_units_of)
    refine' Fs.dfn_k (x := "cost_of") (st := Fs.s_cost_of) (ps := Fs.p_cost_of) KX G Fs.bd_cost_of ?a ?b ?c ?d ?n57
    (case a => k_is); (case b => k_is); (case c => k_is); (case d => k_is); (case' n57 => intro D_cost_of)
    refine' Fs.dfn_k (x := "kept_of") (st := Fs.s_kept_of) (ps := Fs.p_kept_of) KX G Fs.bd_kept_of ?a ?b ?c ?d ?n58
    (case a => k_is); (case b => k_is); (case c => k_is); (case d => k_is); (case' n58 => intro D_kept_of)
    refine' Fs.dfn_k (x := "covers") (st := Fs.s_covers) (ps := Fs.p_covers) KX G Fs.bd_covers ?a ?b ?c ?d ?n59
    (case a => k_is); (case b => k_is); (case c => k_is); (case d => k_is); (case' n59 => intro D_covers)
    refine' Fs.dfn_k (x := "found_swing") (st := Fs.s_found_swing) (ps := Fs.p_found_swing) KX G Fs.bd_found_swing ?a ?b ?c ?d ?n60
    (case a => k_is); (case b => k_is); (case c => k_is); (case d => k_is); (case' n60 => intro D_found_swing)
    refine' Fs.dfn_k (x := "lays_levies") (st := Fs.s_lays_levies) (ps := Fs.p_lays_levies) KX G Fs.bd_lays_levies ?a ?b ?c ?d ?n61
    (case a => k_is); (case b => k_is); (case c => k_is); (case d => k_is); (case' n61 => intro D_lays_levies)
    refine' Fs.dfn_k (x := "levies_of") (st := Fs.s_levies_of) (ps := Fs.p_levies_of) KX G Fs.bd_levies_of ?a ?b ?c ?d ?n62
    (case a => k_is); (case b => k_is); (case c => k_is); (case d => k_is); (case' n62 => intro D_levies_of)
    refine' Fs.dfn_k (x := "weights_of") (st := Fs.s_weights_of) (ps := Fs.p_weights_of) KX G Fs.bd_weights_of ?a ?b ?c ?d ?n63
    (case a => k_is); (case b => k_is); (case c => k_is); (case d => k_is); (case' n63 => intro D_weights_of)
    refine' Fs.dfn_k (x := "side_of_order") (st := Fs.s_side_of_order) (ps := Fs.p_side_of_order) KX G Fs.bd_side_of_order ?a ?b ?c ?d ?n64
    (case a => k_is); (case b => k_is); (case c => k_is); (case d => k_is); (case' n64 => intro D_side_of_order)
    refine' Fs.dfnT_k (x := "shared_out") (st := Fs.s_shared_out) (ps := Fs.p_shared_out) (tab := 263) (q := PySem.Challenge.pw_fundswings_s01_answers) KX G Fs.bd_shared_out (by decide +kernel) ?a ?b ?c ?d ?e ?f ?g ?nsh
    (case a => k_is); (case b => k_is); (case c => k_is); (case d => k_is); (case e => k_is)
    (case f => rfl); (case g => rfl); (case' nsh => intro D_shared_out hTab)
    refine' Fs.dfn_k (x := "side_of") (st := Fs.s_side_of) (ps := Fs.p_side_of) KX G Fs.bd_side_of ?a ?b ?c ?d ?n65
    (case a => k_is); (case b => k_is); (case c => k_is); (case d => k_is); (case' n65 => intro D_side_of)
    refine' Fs.dfn_k (x := "weighs_enough") (st := Fs.s_weighs_enough) (ps := Fs.p_weighs_enough) KX G Fs.bd_weighs_enough ?a ?b ?c ?d ?n66
    (case a => k_is); (case b => k_is); (case c => k_is); (case d => k_is); (case' n66 => intro D_weighs_enough)
    refine' Fs.dfn_k (x := "point_of") (st := Fs.s_point_of) (ps := Fs.p_point_of) KX G Fs.bd_point_of ?a ?b ?c ?d ?n67
    (case a => k_is); (case b => k_is); (case c => k_is); (case d => k_is); (case' n67 => intro D_point_of)
    refine' Fs.dfn_k (x := "policy_swing") (st := Fs.s_policy_swing) (ps := Fs.p_policy_swing) KX G Fs.bd_policy_swing ?a ?b ?c ?d ?n68
    (case a => k_is); (case b => k_is); (case c => k_is); (case d => k_is); (case' n68 => intro D_policy_swing)
    refine' Fs.dfn_k (x := "lacking_of") (st := Fs.s_lacking_of) (ps := Fs.p_lacking_of) KX G Fs.bd_lacking_of ?a ?b ?c ?d ?n69
    (case a => k_is); (case b => k_is); (case c => k_is); (case d => k_is); (case' n69 => intro D_lacking_of)
    refine' Fs.dfn_k (x := "all_within") (st := Fs.s_all_within) (ps := Fs.p_all_within) KX G Fs.bd_all_within ?a ?b ?c ?d ?n70
    (case a => k_is); (case b => k_is); (case c => k_is); (case d => k_is); (case' n70 => intro D_all_within)
    refine' Fs.dfn_k (x := "one_if") (st := Fs.s_one_if) (ps := Fs.p_one_if) KX G Fs.bd_one_if ?a ?b ?c ?d ?n71
    (case a => k_is); (case b => k_is); (case c => k_is); (case d => k_is); (case' n71 => intro D_one_if)
    refine' Fs.dfn_k (x := "begin") (st := Fs.s_begin) (ps := Fs.p_begin) KX G Fs.bd_begin ?a ?b ?c ?d ?n72
    (case a => k_is); (case b => k_is); (case c => k_is); (case d => k_is); (case' n72 => intro D_begin)
    refine' Fs.dfn_k (x := "buys") (st := Fs.s_buys) (ps := Fs.p_buys) KX G Fs.bd_buys ?a ?b ?c ?d ?n73
    (case a => k_is); (case b => k_is); (case c => k_is); (case d => k_is); (case' n73 => intro D_buys)
    refine' Fs.dfn_k (x := "sells") (st := Fs.s_sells) (ps := Fs.p_sells) KX G Fs.bd_sells ?a ?b ?c ?d ?n74
    (case a => k_is); (case b => k_is); (case c => k_is); (case d => k_is); (case' n74 => intro D_sells)
    refine' Fs.dfn_k (x := "policy") (st := Fs.s_policy) (ps := Fs.p_policy) KX G Fs.bd_policy ?a ?b ?c ?d ?n75
    (case a => k_is); (case b => k_is); (case c => k_is); (case d => k_is); (case' n75 => intro D_policy)
    refine' Fs.dfn_k (x := "order") (st := Fs.s_order) (ps := Fs.p_order) KX G Fs.bd_order ?a ?b ?c ?d ?n76
    (case a => k_is); (case b => k_is); (case c => k_is); (case d => k_is); (case' n76 => intro D_order)
    refine' Fs.dfn_k (x := "withdraw") (st := Fs.s_withdraw) (ps := Fs.p_withdraw) KX G Fs.bd_withdraw ?a ?b ?c ?d ?n77
    (case a => k_is); (case b => k_is); (case c => k_is); (case d => k_is); (case' n77 => intro D_withdraw)
    refine' Fs.dfn_k (x := "result") (st := Fs.s_result) (ps := Fs.p_result) KX G Fs.bd_result ?a ?b ?c ?d ?n78
    (case a => k_is); (case b => k_is); (case c => k_is); (case d => k_is); (case' n78 => intro D_result)
    refine' Fs.dfn_k (x := "point") (st := Fs.s_point) (ps := Fs.p_point) KX G Fs.bd_point ?a ?b ?c ?d ?n79
    (case a => k_is); (case b => k_is); (case c => k_is); (case d => k_is); (case' n79 => intro D_point)
    refine' Fs.dfn_k (x := "try_at") (st := Fs.s_try_at) (ps := Fs.p_try_at) KX G Fs.bd_try_at ?a ?b ?c ?d ?n80
    (case a => k_is); (case b => k_is); (case c => k_is); (case d => k_is); (case' n80 => intro D_try_at)
    refine' Fs.dfn_k (x := "found") (st := Fs.s_found) (ps := Fs.p_found) KX G Fs.bd_found ?a ?b ?c ?d ?n81
    (case a => k_is); (case b => k_is); (case c => k_is); (case d => k_is); (case' n81 => intro D_found)
    refine' Fs.dfn_k (x := "cost") (st := Fs.s_cost) (ps := Fs.p_cost) KX G Fs.bd_cost ?a ?b ?c ?d ?n82
    (case a => k_is); (case b => k_is); (case c => k_is); (case d => k_is); (case' n82 => intro D_cost)
    refine' Fs.dfn_k (x := "outcome") (st := Fs.s_outcome) (ps := Fs.p_outcome) KX G Fs.bd_outcome ?a ?b ?c ?d ?n83
    (case a => k_is); (case b => k_is); (case c => k_is); (case d => k_is); (case' n83 => intro D_outcome)
    refine' Fs.dfn_k (x := "orders") (st := Fs.s_orders) (ps := Fs.p_orders) KX G Fs.bd_orders ?a ?b ?c ?d ?n84
    (case a => k_is); (case b => k_is); (case c => k_is); (case d => k_is); (case' n84 => intro D_orders)
    refine' Fs.dfn_k (x := "fund_now") (st := Fs.s_fund_now) (ps := Fs.p_fund_now) KX G Fs.bd_fund_now ?a ?b ?c ?d ?n85
    (case a => k_is); (case b => k_is); (case c => k_is); (case d => k_is); (case' n85 => intro D_fund_now)
    refine' Fs.dfn_k (x := "flow") (st := Fs.s_flow) (ps := Fs.p_flow) KX G Fs.bd_flow ?a ?b ?c ?d ?n86
    (case a => k_is); (case b => k_is); (case c => k_is); (case d => k_is); (case' n86 => intro D_flow)
    refine' Fs.dfn_k (x := "weights") (st := Fs.s_weights) (ps := Fs.p_weights) KX G Fs.bd_weights ?a ?b ?c ?d ?n87
    (case a => k_is); (case b => k_is); (case c => k_is); (case d => k_is); (case' n87 => intro D_weights)
    refine' Fs.dfn_k (x := "answer_of") (st := Fs.s_answer_of) (ps := Fs.p_answer_of) KX G Fs.bd_answer_of ?a ?b ?c ?d ?n88
    (case a => k_is); (case b => k_is); (case c => k_is); (case d => k_is); (case' n88 => intro D_answer_of)
    refine' Fs.dfn_k (x := "answers") (st := Fs.s_answers) (ps := Fs.p_answers) KX G Fs.bd_answers ?a ?b ?c ?d ?n89
    (case a => k_is); (case b => k_is); (case c => k_is); (case d => k_is); (case' n89 => intro D_answers)
    refine' Fs.dfn_k (x := "numbers_start") (st := Fs.s_numbers_start) (ps := Fs.p_numbers_start) KX G Fs.bd_numbers_start ?a ?b ?c ?d ?n90
    (case a => k_is); (case b => k_is); (case c => k_is); (case d => k_is); (case' n90 => intro D_numbers_start)
    refine' Fs.dfn_k (x := "numbers_count") (st := Fs.s_numbers_count) (ps := Fs.p_numbers_count) KX G Fs.bd_numbers_count ?a ?b ?c ?d ?n91
    (case a => k_is); (case b => k_is); (case c => k_is); (case d => k_is); (case' n91 => intro D_numbers_count)
    refine' Fs.int_k (x := "MOST_TIERS") (c := 6) KX G ?a ?n92
    (case a => k_is); (case' n92 => intro c_MOST_TIERS)
    refine' Fs.int_k (x := "GREATEST_FROM") (c := 1000000000000) KX G ?a ?n93
    (case a => k_is); (case' n93 => intro c_GREATEST_FROM)
    refine' Fs.int_k (x := "GREATEST_RATE") (c := 1000000) KX G ?a ?n94
    (case a => k_is); (case' n94 => intro c_GREATEST_RATE)
    refine' Fs.int_k (x := "RATE_WHOLE") (c := 1000000) KX G ?a ?n95
    (case a => k_is); (case' n95 => intro c_RATE_WHOLE)
    refine' Fs.int_k (x := "MONEY_IN") (c := 0) KX G ?a ?n96
    (case a => k_is); (case' n96 => intro c_MONEY_IN)
    refine' Fs.int_k (x := "UNITS_IN") (c := 1) KX G ?a ?n97
    (case a => k_is); (case' n97 => intro c_UNITS_IN)
    refine' Fs.int_k (x := "UNITS_OUT") (c := 2) KX G ?a ?n98
    (case a => k_is); (case' n98 => intro c_UNITS_OUT)
    refine' Fs.int_k (x := "NEITHER") (c := 0) KX G ?a ?n99
    (case a => k_is); (case' n99 => intro c_NEITHER)
    refine' Fs.int_k (x := "SIDE_IN") (c := 1) KX G ?a ?n100
    (case a => k_is); (case' n100 => intro c_SIDE_IN)
    refine' Fs.int_k (x := "SIDE_OUT") (c := 2) KX G ?a ?n101
    (case a => k_is); (case' n101 => intro c_SIDE_OUT)
    refine' Fs.int_k (x := "SWING_WHOLE") (c := 10000) KX G ?a ?n102
    (case a => k_is); (case' n102 => intro c_SWING_WHOLE)
    refine' Fs.int_k (x := "MILLION") (c := 1000000) KX G ?a ?n103
    (case a => k_is); (case' n103 => intro c_MILLION)
    refine' Fs.int_k (x := "MODE_LEVIES") (c := 3) KX G ?a ?n104
    (case a => k_is); (case' n104 => intro c_MODE_LEVIES)
    refine' Fs.int_k (x := "MODE_FIXED") (c := 1) KX G ?a ?n105
    (case a => k_is); (case' n105 => intro c_MODE_FIXED)
    refine' Fs.int_k (x := "MODE_FOUND") (c := 2) KX G ?a ?n106
    (case a => k_is); (case' n106 => intro c_MODE_FOUND)
    refine' Fs.int_k (x := "NOT_WITHIN") (c := (-1)) KX G ?a ?n107
    (case a => k_is); (case' n107 => intro c_NOT_WITHIN)
    refine' Fs.int_k (x := "NOT_THE_FORM") (c := (-2)) KX G ?a ?n108
    (case a => k_is); (case' n108 => intro c_NOT_THE_FORM)
    refine' Fs.int_k (x := "NOT_THERE") (c := (-4)) KX G ?a ?n109
    (case a => k_is); (case' n109 => intro c_NOT_THERE)
    refine' Fs.int_k (x := "NO_ORDERS") (c := (-6)) KX G ?a ?n110
    (case a => k_is); (case' n110 => intro c_NO_ORDERS)
    refine' Fs.int_k (x := "TOO_LITTLE") (c := (-7)) KX G ?a ?n111
    (case a => k_is); (case' n111 => intro c_TOO_LITTLE)
    refine' Fs.int_k (x := "TOO_MUCH") (c := (-8)) KX G ?a ?n112
    (case a => k_is); (case' n112 => intro c_TOO_MUCH)
    refine' Fs.int_k (x := "MOST_ORDERS") (c := 40) KX G ?a ?n113
    (case a => k_is); (case' n113 => intro c_MOST_ORDERS)
    refine' Fs.int_k (x := "GREATEST_VALUE") (c := 1000000000000) KX G ?a ?n114
    (case a => k_is); (case' n114 => intro c_GREATEST_VALUE)
    refine' Fs.int_k (x := "GREATEST_UNITS") (c := 1000000000000000000) KX G ?a ?n115
    (case a => k_is); (case' n115 => intro c_GREATEST_UNITS)
    refine' Fs.int_k (x := "FIRST_VALUE") (c := 1000000) KX G ?a ?n116
    (case a => k_is); (case' n116 => intro c_FIRST_VALUE)
    refine' Fs.int_k (x := "FIRST_UNITS") (c := 1000000) KX G ?a ?n117
    (case a => k_is); (case' n117 => intro c_FIRST_UNITS)
    refine' Fs.non_k (x := "abs") KX G ?a ?n118
    (case a => k_is); (case' n118 => intro n_abs)
    refine' Fs.non_k (x := "enumerate") KX G ?a ?n119
    (case a => k_is); (case' n119 => intro n_enumerate)
    refine' Fs.non_k (x := "len") KX G ?a ?n120
    (case a => k_is); (case' n120 => intro n_len)
    refine' Fs.non_k (x := "max") KX G ?a ?n121
    (case a => k_is); (case' n121 => intro n_max)
    refine' Fs.non_k (x := "min") KX G ?a ?n122
    (case a => k_is); (case' n122 => intro n_min)
    refine' Fs.non_k (x := "range") KX G ?a ?n123
    (case a => k_is); (case' n123 => intro n_range)
    refine' Fs.non_k (x := "sorted") KX G ?a ?n124
    (case a => k_is); (case' n124 => intro n_sorted)
    refine' Fs.non_k (x := "sum") KX G ?a ?n125
    (case a => k_is); (case' n125 => intro n_sum)
    refine' Fs.non_k (x := "zip") KX G ?a ?n126
    (case a => k_is); (case' n126 => intro n_zip)
    refine' Fs.rng2_k (x := "BEGIN_RANGES") KX G ?a ?b ?l0 ?l1 ?n127
    (case a => k_is); (case b => k_is); (case l0 => k_is); (case l1 => k_is); (case' n127 => intro R_BEGIN_RANGES)
    refine' Fs.rng6_k (x := "POLICY_RANGES") KX G ?a ?b ?l0 ?l1 ?l2 ?l3 ?l4 ?l5 ?n128
    (case a => k_is); (case b => k_is); (case l0 => k_is); (case l1 => k_is); (case l2 => k_is); (case l3 => k_is); (case l4 => k_is); (case l5 => k_is); (case' n128 => intro R_POLICY_RANGES)
    refine' Fs.rng2_k (x := "ORDER_RANGES") KX G ?a ?b ?l0 ?l1 ?n129
    (case a => k_is); (case b => k_is); (case l0 => k_is); (case l1 => k_is); (case' n129 => intro R_ORDER_RANGES)
    refine' Fs.rng1_k (x := "WITHDRAW_RANGES") KX G ?a ?b ?l0 ?n130
    (case a => k_is); (case b => k_is); (case l0 => k_is); (case' n130 => intro R_WITHDRAW_RANGES)
    refine' Fs.rng1_k (x := "RESULT_RANGES") KX G ?a ?b ?l0 ?n131
    (case a => k_is); (case b => k_is); (case l0 => k_is); (case' n131 => intro R_RESULT_RANGES)
    refine' Fs.rng1_k (x := "TRY_RANGES") KX G ?a ?b ?l0 ?n132
    (case a => k_is); (case b => k_is); (case l0 => k_is); (case' n132 => intro R_TRY_RANGES)
    refine' Fs.rng2_k (x := "COST_RANGES") KX G ?a ?b ?l0 ?l1 ?n133
    (case a => k_is); (case b => k_is); (case l0 => k_is); (case l1 => k_is); (case' n133 => intro R_COST_RANGES)
    refine' Fs.rng1_k (x := "OUTCOME_RANGES") KX G ?a ?b ?l0 ?n134
    (case a => k_is); (case b => k_is); (case l0 => k_is); (case' n134 => intro R_OUTCOME_RANGES)
    refine' Fs.ref_k (x := "CALLS_WITH_ROW") KX G ?a ?n135
    (case a => k_is); (case' n135 => intro hra)
    refine' Fs.tup2_k KX hra ?a ?nr
    (case a => k_is); (case' nr => intro hR)
    refine' Fs.ref_k (x := "NUMBERS_OF_CALL") KX G ?a ?n136
    (case a => k_is); (case' n136 => intro hda)
    refine' Fs.dic_c (w := w) KX hda ?a rfl ?nd
    (case a => k_is); (case' nd => intro hD)
    refine' Fs.ref_k (x := "CALLS") KX G ?a ?n137
    (case a => k_is); (case' n137 => intro hca)
    refine' Fs.ref_k (x := "begin") KX G ?a ?n138
    (case a => k_is); (case' n138 => intro h0)
    refine' Fs.ref_k (x := "buys") KX G ?a ?n139
    (case a => k_is); (case' n139 => intro h1)
    refine' Fs.ref_k (x := "sells") KX G ?a ?n140
    (case a => k_is); (case' n140 => intro h2)
    refine' Fs.ref_k (x := "policy") KX G ?a ?n141
    (case a => k_is); (case' n141 => intro h3)
    refine' Fs.ref_k (x := "order") KX G ?a ?n142
    (case a => k_is); (case' n142 => intro h4)
    refine' Fs.ref_k (x := "withdraw") KX G ?a ?n143
    (case a => k_is); (case' n143 => intro h5)
    refine' Fs.ref_k (x := "result") KX G ?a ?n144
    (case a => k_is); (case' n144 => intro h6)
    refine' Fs.ref_k (x := "point") KX G ?a ?n145
    (case a => k_is); (case' n145 => intro h7)
    refine' Fs.ref_k (x := "try_at") KX G ?a ?n146
    (case a => k_is); (case' n146 => intro h8)
    refine' Fs.ref_k (x := "found") KX G ?a ?n147
    (case a => k_is); (case' n147 => intro h9)
    refine' Fs.ref_k (x := "cost") KX G ?a ?n148
    (case a => k_is); (case' n148 => intro h10)
    refine' Fs.ref_k (x := "outcome") KX G ?a ?n149
    (case a => k_is); (case' n149 => intro h11)
    refine' Fs.ref_k (x := "orders") KX G ?a ?n150
    (case a => k_is); (case' n150 => intro h12)
    refine' Fs.ref_k (x := "fund_now") KX G ?a ?n151
    (case a => k_is); (case' n151 => intro h13)
    refine' Fs.ref_k (x := "flow") KX G ?a ?n152
    (case a => k_is); (case' n152 => intro h14)
    refine' Fs.ref_k (x := "weights") KX G ?a ?n153
    (case a => k_is); (case' n153 => intro h15)
    refine' Fs.tup16_k KX hca ?a ?nc
    (case a => k_is); (case' nc => intro hst)
    refine Fs.fin_mk (d := ⟨38, 59, 80, 108, 129, 176, 318, 283, 263⟩) ?tops hm hTab
    exact {
      T := { ap := ⟨by decide, by decide, by decide, by decide, by decide, by decide, by decide⟩, n_abs := n_abs, n_enumerate := n_enumerate, n_len := n_len, n_max := n_max, n_min := n_min, n_range := n_range, n_sorted := n_sorted, n_sum := n_sum, n_zip := n_zip, c_MOST_TIERS := c_MOST_TIERS, c_GREATEST_FROM := c_GREATEST_FROM, c_GREATEST_RATE := c_GREATEST_RATE, c_RATE_WHOLE := c_RATE_WHOLE, c_MONEY_IN := c_MONEY_IN, c_UNITS_IN := c_UNITS_IN, c_UNITS_OUT := c_UNITS_OUT, c_NEITHER := c_NEITHER, c_SIDE_IN := c_SIDE_IN, c_SIDE_OUT := c_SIDE_OUT, c_SWING_WHOLE := c_SWING_WHOLE, c_MILLION := c_MILLION, c_MODE_LEVIES := c_MODE_LEVIES, c_MODE_FIXED := c_MODE_FIXED, c_MODE_FOUND := c_MODE_FOUND, c_NOT_WITHIN := c_NOT_WITHIN, c_NOT_THE_FORM := c_NOT_THE_FORM, c_NOT_THERE := c_NOT_THERE, c_NO_ORDERS := c_NO_ORDERS, c_TOO_LITTLE := c_TOO_LITTLE, c_TOO_MUCH := c_TOO_MUCH, c_MOST_ORDERS := c_MOST_ORDERS, c_GREATEST_VALUE := c_GREATEST_VALUE, c_GREATEST_UNITS := c_GREATEST_UNITS, c_FIRST_VALUE := c_FIRST_VALUE, c_FIRST_UNITS := c_FIRST_UNITS, k_Policy := k_Policy, a_Policy_mode := a_Policy_mode, a_Policy_fixed_in := a_Policy_fixed_in, a_Policy_fixed_out := a_Policy_fixed_out, a_Policy_factor := a_Policy_factor, a_Policy_threshold := a_Policy_threshold, a_Policy_greatest := a_Policy_greatest, k_Order := k_Order, a_Order_number := a_Order_number, a_Order_kind := a_Order_kind, a_Order_amount := a_Order_amount, k_Outcome := k_Outcome, a_Outcome_number := a_Outcome_number, a_Outcome_levy := a_Outcome_levy, a_Outcome_money := a_Outcome_money, a_Outcome_units := a_Outcome_units, k_Fund := k_Fund, a_Fund_value := a_Fund_value, a_Fund_units := a_Fund_units, a_Fund_buy_tiers := a_Fund_buy_tiers, a_Fund_sell_tiers := a_Fund_sell_tiers, a_Fund_policy := a_Fund_policy, a_Fund_orders := a_Fund_orders, a_Fund_last_number := a_Fund_last_number, a_Fund_outcomes := a_Fund_outcomes, k_Tier := k_Tier, a_Tier_start := a_Tier_start, a_Tier_rate := a_Tier_rate, k_Prices := k_Prices, a_Prices_going_in := a_Prices_going_in, a_Prices_going_out := a_Prices_going_out, a_Prices_over := a_Prices_over, k_Weighing := k_Weighing, a_Weighing_plain := a_Weighing_plain, a_Weighing_flow := a_Weighing_flow, a_Weighing_side := a_Weighing_side, a_Weighing_enough := a_Weighing_enough, k_Point := k_Point, a_Point_side := a_Point_side, a_Point_swing := a_Point_swing, a_Point_cost := a_Point_cost, a_Point_outcomes := a_Point_outcomes, a_Point_lacking := a_Point_lacking, a_Point_value := a_Point_value, a_Point_units := a_Point_units }
      Zp := ⟨by decide, by decide, by decide, by decide⟩
      Zw := ⟨by decide, by decide, by decide, by decide⟩
      D_rounded_up := D_rounded_up
      D_tiers_of := D_tiers_of
      D_tier_within := D_tier_within
      D_follows := D_follows
      D_trading_cost := D_trading_cost
      D_done := D_done
      D_outcomes_at := D_outcomes_at
      D_levied_outcomes := D_levied_outcomes
      D_flow_of := D_flow_of
      D_units_of := D_units_of
      D_cost_of := D_cost_of
      D_kept_of := D_kept_of
      D_covers := D_covers
      D_found_swing := D_found_swing
      D_lays_levies := D_lays_levies
      D_levies_of := D_levies_of
      D_weights_of := D_weights_of
      D_side_of_order := D_side_of_order
      D_shared_out := D_shared_out
      D_side_of := D_side_of
      D_weighs_enough := D_weighs_enough
      D_point_of := D_point_of
      D_policy_swing := D_policy_swing
      D_lacking_of := D_lacking_of
      D_all_within := D_all_within
      D_one_if := D_one_if
      D_begin := D_begin
      D_buys := D_buys
      D_sells := D_sells
      D_policy := D_policy
      D_order := D_order
      D_withdraw := D_withdraw
      D_result := D_result
      D_point := D_point
      D_try_at := D_try_at
      D_found := D_found
      D_cost := D_cost
      D_outcome := D_outcome
      D_orders := D_orders
      D_fund_now := D_fund_now
      D_flow := D_flow
      D_weights := D_weights
      D_answer_of := D_answer_of
      D_answers := D_answers
      D_numbers_start := D_numbers_start
      D_numbers_count := D_numbers_count
      K_Policy := K_Policy
      K_Order := K_Order
      K_Outcome := K_Outcome
      K_Fund := K_Fund
      K_Tier := K_Tier
      K_Prices := K_Prices
      K_Weighing := K_Weighing
      K_Point := K_Point
      M_renew := M_renew
      R_BEGIN_RANGES := R_BEGIN_RANGES
      R_POLICY_RANGES := R_POLICY_RANGES
      R_ORDER_RANGES := R_ORDER_RANGES
      R_WITHDRAW_RANGES := R_WITHDRAW_RANGES
      R_RESULT_RANGES := R_RESULT_RANGES
      R_TRY_RANGES := R_TRY_RANGES
      R_COST_RANGES := R_COST_RANGES
      R_OUTCOME_RANGES := R_OUTCOME_RANGES
      row := ⟨_, hra, hR⟩
      num := ⟨_, hda, hD⟩
      calls := ⟨_, _, _, _, _, _, _, _, _, _, _, _, _, _, _, _, _, hca, hst, h0, h1, h2, h3, h4, h5, h6, h7, h8, h9, h10, h11, h12, h13, h14, h15⟩ }
  case S =>
    intro K H xs a hHt hO hwi hask hx
    cases hx with
    | cons h1 h2 =>
      cases h2
      cases h1 with
      | lst hs ha =>
        have e := L2.ints_dw a.1 _ ha
        subst e
        exact ⟨_, a.1, rfl, hs, hask, ⟨#[], hHt, (by first | trivial | simp [TriplesOk] | decide), .inl rfl⟩, fun H' p hp => .lst (L2.SqL.of hp) (L2.dw_ints _)⟩
#print axioms PySem.Challenge.cw_fundswings_s01_answers_holds
