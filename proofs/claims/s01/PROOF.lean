import PyProof.Rows.All
import Wide.All
import OpenK.AllK
import Wide.FinOn
import Open.SpecLaws
import KE.OsGo
import HandS.ForSpec
import HandS.Comp
import HandS.Iter
import HandS.SortInts
import HandS.Flow
import HandS.Conv
import KE.DataMinMax
import PySem.Challenge.RW_coveredstock_s01_answers
set_option Elab.async false
set_option linter.all false
set_option maxRecDepth 100000
set_option maxHeartbeats 4000000
/-! the mathematics: core Lean alone -/
namespace Cs
open Km549
theorem sum_eq (l : List Nat) : Km549.sum l = l.sum := by
  unfold Km549.sum
  rw [← List.sum_eq_foldl]
def desc (l : List Nat) : List Nat := l.foldl (fun s x => insertDecreasing x s) []
theorem ins_perm (x : Nat) : ∀ l : List Nat, (insertDecreasing x l).Perm (x :: l)
  | [] => List.Perm.refl _
  | y :: r => by
    unfold insertDecreasing
    split
    · exact List.Perm.refl _
    · exact ((ins_perm x r).cons y).trans (List.Perm.swap x y r)
theorem ins_sorted (x : Nat) : ∀ l : List Nat, l.Pairwise (· ≥ ·) → (insertDecreasing x l).Pairwise (· ≥ ·)
  | [], _ => by simp [insertDecreasing]
  | y :: r, h => by
    unfold insertDecreasing
    have h1 := List.pairwise_cons.mp h
    split
    · refine List.pairwise_cons.mpr ⟨fun z hz => ?_, h⟩
      rcases List.mem_cons.mp hz with e | m
      · omega
      · have := h1.1 z m; omega
    · refine List.pairwise_cons.mpr ⟨fun z hz => ?_, ins_sorted x r h1.2⟩
      rcases List.mem_cons.mp ((ins_perm x r).mem_iff.mp hz) with e | m
      · omega
      · exact h1.1 z m
theorem fold_perm : ∀ (l acc : List Nat), (l.foldl (fun s x => insertDecreasing x s) acc).Perm (l ++ acc)
  | [], acc => List.Perm.refl _
  | x :: r, acc => by
    show (r.foldl _ (insertDecreasing x acc)).Perm _
    exact ((fold_perm r _).trans ((ins_perm x acc).append_left r)).trans List.perm_middle
theorem fold_sorted : ∀ (l acc : List Nat), acc.Pairwise (· ≥ ·) → (l.foldl (fun s x => insertDecreasing x s) acc).Pairwise (· ≥ ·)
  | [], acc, h => h
  | x :: r, acc, h => fold_sorted r _ (ins_sorted x acc h)
theorem desc_perm (l : List Nat) : (desc l).Perm l := by
  have := fold_perm l []
  rwa [List.append_nil] at this
theorem desc_sorted (l : List Nat) : (desc l).Pairwise (· ≥ ·) := fold_sorted l [] List.Pairwise.nil
theorem greatest_eq (k : Nat) (l : List Nat) : sumOfGreatest k l = ((desc l).take k).sum := sum_eq _
theorem perm_sum {a b : List Nat} (h : a.Perm b) : a.sum = b.sum := h.sum_nat
theorem perm_sumI {a b : List Int} (h : a.Perm b) : a.sum = b.sum := by
  induction h with
  | nil => rfl
  | cons x _ ih => rw [List.sum_cons, List.sum_cons, ih]
  | swap x y l => rw [List.sum_cons, List.sum_cons, List.sum_cons, List.sum_cons]; omega
  | trans _ _ h1 h2 => exact h1.trans h2
theorem split_sum (k : Nat) (l : List Nat) : (l.take k).sum + (l.drop k).sum = l.sum := by
  rw [← List.sum_append_nat, List.take_append_drop]
/-- the rest of the decreasing list -/
theorem kept_eq (k : Nat) (l : List Nat) : Km549.sum l - sumOfGreatest k l = ((desc l).drop k).sum := by
  rw [sum_eq, greatest_eq, ← perm_sum (desc_perm l)]
  have := split_sum k (desc l)
  omega
theorem cast_sum : ∀ l : List Nat, (l.map fun (x : Nat) => (x : Int)).sum = (l.sum : Int)
  | [] => rfl
  | x :: r => by
    rw [List.map_cons, List.sum_cons, List.sum_cons, cast_sum r]
    omega
/-- two rising lists with the same members are one -/
theorem rising_one {a b : List Int} (p : a.Perm b) (ha : a.Pairwise (· ≤ ·)) (hb : b.Pairwise (· ≤ ·)) : a = b :=
  p.eq_of_pairwise (fun x y _ _ h1 h2 => Int.le_antisymm h1 h2) ha hb
/-- a rising list of the amounts is the decreasing one from behind -/
theorem rising_desc {ns : List Int} {l : List Nat} (p : ns.Perm (l.map fun (x : Nat) => (x : Int))) (h : ns.Pairwise (· ≤ ·)) : ns = ((desc l).map fun (x : Nat) => (x : Int)).reverse := by
  refine rising_one (p.trans ?_) h ?_
  · exact ((desc_perm l).symm.map _).trans (List.reverse_perm _).symm
  · rw [List.pairwise_reverse, List.pairwise_map]
    exact (desc_sorted l).imp fun {a b} h => Int.ofNat_le.mpr h
theorem take_rising {ns : List Int} {l : List Nat} (p : ns.Perm (l.map fun (x : Nat) => (x : Int))) (h : ns.Pairwise (· ≤ ·)) (k : Nat) :
    (ns.take (ns.length - k)).sum = ((Km549.sum l - sumOfGreatest k l : Nat) : Int) := by
  rw [rising_desc p h, kept_eq, List.length_reverse, List.length_map]
  rw [show (((desc l).map fun (x : Nat) => (x : Int)).reverse).take ((desc l).length - k) = (((desc l).map fun (x : Nat) => (x : Int)).drop k).reverse by
    rw [List.take_reverse, List.length_map]
    by_cases hk : k ≤ (desc l).length
    · congr 2; omega
    · rw [List.drop_eq_nil_of_le (by rw [List.length_map]; omega), List.drop_eq_nil_of_le (by rw [List.length_map]; omega)]]
  rw [← List.map_drop, ← cast_sum]
  exact perm_sumI (List.reverse_perm _)
end Cs

/-! the calls, one by one: core Lean alone -/
namespace Cs
open Km549
/-- how many numbers a call is handed -/
def counts : List Nat := [1, 3, 2, 3, 1, 1, 1, 1, 0, 0, 0, 1, 2, 2, 2, 0, 1, 1, 1, 1, 3, 2, 1, 0]
def callOf : Nat → List Nat → Option Km549.Call
  | 0, [a] => some (.create a)
  | 1, [a, b, c] => some (.addDelivery a b c)
  | 2, [a, b] => some (.addCommitment a b)
  | 3, [a, b, c] => some (.addCoveredCommitment a b c)
  | 4, [a] => some (.cancelCommitment a)
  | 5, [a] => some (.deliveryArrived a)
  | 6, [a] => some (.deliveryFailed a)
  | 7, [a] => some (.fulfillCommitment a)
  | 8, [] => some .nextDay
  | 9, [] => some .listDeliveries
  | 10, [] => some .listCommitments
  | 11, [a] => some (.isCovered a)
  | 12, [a, b] => some (.surplus a b)
  | 13, [a, b] => some (.available a b)
  | 14, [a, b] => some (.earliestDay a b)
  | 15, [] => some .tolerance
  | 16, [a] => some (.safeCommitments a)
  | 17, [a] => some (.dependentCommitments a)
  | 18, [a] => some (.bestCancellation a)
  | 19, [a] => some (.cancelBest a)
  | 20, [a, b, c] => some (.isCoveredWithDelivery a b c)
  | 21, [a, b] => some (.toleranceWithCommitment a b)
  | 22, [a] => some (.firstShortage a)
  | 23, [] => some .summary
  | _, _ => none
def natI (xs : List Nat) : List Int := xs.map fun (x : Nat) => (x : Int)
theorem whole_id (c : List (List Int)) : PyKm549.whole c = c := by
  unfold PyKm549.whole
  split <;> rfl
theorem whole_map (l : List (List (List Int))) : l.map PyKm549.whole = l := by
  induction l with
  | nil => rfl
  | cons c r ih => rw [List.map_cons, whole_id, ih]
theorem u32 {z : Int} (h : Km549Neutral.isUnsigned32 z = true) : z = (z.toNat : Int) := by
  unfold Km549Neutral.isUnsigned32 at h
  rw [Bool.and_eq_true] at h
  have := of_decide_eq_true h.1
  omega
/-- a call's parts -/
structure Told (p : Int) (r : List Int) (n : Nat) : Prop where
  ex : ∃ (j : Nat) (xs : List Nat) (c : Km549.Call), p = (j : Int) ∧ counts[j]? = some n ∧ xs.length = n ∧ r.take n = natI xs ∧ callOf j xs = some c ∧ Km549Neutral.parseCall [p :: r.take n] = some c
theorem len0 {α : Type} {l : List α} (h : l.length = 0) : l = [] := List.eq_nil_of_length_eq_zero h
theorem len1 {α : Type} : ∀ {l : List α}, l.length = 1 → ∃ a, l = [a]
  | [a], _ => ⟨a, rfl⟩
theorem len2 {α : Type} : ∀ {l : List α}, l.length = 2 → ∃ a b, l = [a, b]
  | [a, b], _ => ⟨a, b, rfl⟩
theorem len3 {α : Type} : ∀ {l : List α}, l.length = 3 → ∃ a b c, l = [a, b, c]
  | [a, b, c], _ => ⟨a, b, c, rfl⟩
theorem natI_one {a : Int} (ha : a = (a.toNat : Int)) : [a] = natI [a.toNat] := by
  unfold natI
  rw [List.map_cons, List.map_nil, ← ha]
theorem natI_two {a b : Int} (ha : a = (a.toNat : Int)) (hb : b = (b.toNat : Int)) : [a, b] = natI [a.toNat, b.toNat] := by
  unfold natI
  rw [List.map_cons, List.map_cons, List.map_nil, ← ha, ← hb]
theorem natI_three {a b c : Int} (ha : a = (a.toNat : Int)) (hb : b = (b.toNat : Int)) (hc : c = (c.toNat : Int)) : [a, b, c] = natI [a.toNat, b.toNat, c.toNat] := by
  unfold natI
  rw [List.map_cons, List.map_cons, List.map_cons, List.map_nil, ← ha, ← hb, ← hc]
theorem told0 {p : Int} {r : List Int} (j : Nat) {c : Km549.Call} (hp : p = (j : Int)) (hn : counts[j]? = some 0) (hc : callOf j [] = some c) (hq : Km549Neutral.parseCall [[(j : Int)]] = some c) : Told p r 0 := by
  subst hp
  exact ⟨j, [], c, rfl, hn, rfl, rfl, hc, hq⟩
theorem told1 {p : Int} {r : List Int} (j : Nat) (mk : Nat → Km549.Call) (hp : p = (j : Int)) (hr : ¬ r.length < 1) (hn : counts[j]? = some 1) (hk : Km549Neutral.asked1 [p :: r.take 1] = true) (hc : ∀ a, callOf j [a] = some (mk a))
    (hq : ∀ a : Int, Km549Neutral.parseCall [[(j : Int), a]] = some (mk a.toNat)) (ha : ∀ a : Int, Km549Neutral.asked1 [[(j : Int), a]] = Km549Neutral.isUnsigned32 a) : Told p r 1 := by
  subst hp
  obtain ⟨a, e⟩ := len1 (l := r.take 1) (by rw [List.length_take]; omega)
  rw [e, ha] at hk
  exact ⟨j, [a.toNat], _, rfl, hn, rfl, by rw [e]; exact natI_one (u32 hk), hc _, by rw [e]; exact hq a⟩
theorem told2 {p : Int} {r : List Int} (j : Nat) (mk : Nat → Nat → Km549.Call) (hp : p = (j : Int)) (hr : ¬ r.length < 2) (hn : counts[j]? = some 2) (hk : Km549Neutral.asked1 [p :: r.take 2] = true) (hc : ∀ a b, callOf j [a, b] = some (mk a b))
    (hq : ∀ a b : Int, Km549Neutral.parseCall [[(j : Int), a, b]] = some (mk a.toNat b.toNat)) (ha : ∀ a b : Int, Km549Neutral.asked1 [[(j : Int), a, b]] = (Km549Neutral.isUnsigned32 a && Km549Neutral.isUnsigned32 b)) : Told p r 2 := by
  subst hp
  obtain ⟨a, b, e⟩ := len2 (l := r.take 2) (by rw [List.length_take]; omega)
  rw [e, ha, Bool.and_eq_true] at hk
  exact ⟨j, [a.toNat, b.toNat], _, rfl, hn, rfl, by rw [e]; exact natI_two (u32 hk.1) (u32 hk.2), hc _ _, by rw [e]; exact hq a b⟩
theorem told3 {p : Int} {r : List Int} (j : Nat) (mk : Nat → Nat → Nat → Km549.Call) (hp : p = (j : Int)) (hr : ¬ r.length < 3) (hn : counts[j]? = some 3) (hk : Km549Neutral.asked1 [p :: r.take 3] = true) (hc : ∀ a b c, callOf j [a, b, c] = some (mk a b c))
    (hq : ∀ a b c : Int, Km549Neutral.parseCall [[(j : Int), a, b, c]] = some (mk a.toNat b.toNat c.toNat)) (ha : ∀ a b c : Int, Km549Neutral.asked1 [[(j : Int), a, b, c]] = (Km549Neutral.isUnsigned32 a && Km549Neutral.isUnsigned32 b && Km549Neutral.isUnsigned32 c)) : Told p r 3 := by
  subst hp
  obtain ⟨a, b, c, e⟩ := len3 (l := r.take 3) (by rw [List.length_take]; omega)
  rw [e, ha, Bool.and_eq_true, Bool.and_eq_true] at hk
  exact ⟨j, [a.toNat, b.toNat, c.toNat], _, rfl, hn, rfl, by rw [e]; exact natI_three (u32 hk.1.1) (u32 hk.1.2) (u32 hk.2), hc _ _ _, by rw [e]; exact hq a b c⟩
theorem shape_told {p : Int} {r : List Int} {n k : Nat} (h : PyKm549.shape p = some (n, k)) (hr : ¬ r.length < n) (hk : Km549Neutral.asked1 [p :: r.take n] = true) : k = 0 ∧ Told p r n := by
  have inj : ∀ {a b : Nat}, some (a, b) = some (n, k) → n = a ∧ k = b := fun e => by
    have e := Option.some.inj e
    exact ⟨(Prod.mk.inj e).1.symm, (Prod.mk.inj e).2.symm⟩
  unfold PyKm549.shape at h
  by_cases e : p = 0
  · rw [if_pos e] at h; obtain ⟨rfl, rfl⟩ := inj h; exact ⟨rfl, told1 0 _ e hr rfl hk (fun _ => rfl) (fun _ => rfl) fun _ => rfl⟩
  rw [if_neg e] at h; clear e
  by_cases e : p = 1
  · rw [if_pos e] at h; obtain ⟨rfl, rfl⟩ := inj h; exact ⟨rfl, told3 1 _ e hr rfl hk (fun _ _ _ => rfl) (fun _ _ _ => rfl) fun _ _ _ => rfl⟩
  rw [if_neg e] at h; clear e
  by_cases e : p = 2
  · rw [if_pos e] at h; obtain ⟨rfl, rfl⟩ := inj h; exact ⟨rfl, told2 2 _ e hr rfl hk (fun _ _ => rfl) (fun _ _ => rfl) fun _ _ => rfl⟩
  rw [if_neg e] at h; clear e
  by_cases e : p = 3
  · rw [if_pos e] at h; obtain ⟨rfl, rfl⟩ := inj h; exact ⟨rfl, told3 3 _ e hr rfl hk (fun _ _ _ => rfl) (fun _ _ _ => rfl) fun _ _ _ => rfl⟩
  rw [if_neg e] at h; clear e
  by_cases e : p = 4
  · rw [if_pos e] at h; obtain ⟨rfl, rfl⟩ := inj h; exact ⟨rfl, told1 4 _ e hr rfl hk (fun _ => rfl) (fun _ => rfl) fun _ => rfl⟩
  rw [if_neg e] at h; clear e
  by_cases e : p = 5
  · rw [if_pos e] at h; obtain ⟨rfl, rfl⟩ := inj h; exact ⟨rfl, told1 5 _ e hr rfl hk (fun _ => rfl) (fun _ => rfl) fun _ => rfl⟩
  rw [if_neg e] at h; clear e
  by_cases e : p = 6
  · rw [if_pos e] at h; obtain ⟨rfl, rfl⟩ := inj h; exact ⟨rfl, told1 6 _ e hr rfl hk (fun _ => rfl) (fun _ => rfl) fun _ => rfl⟩
  rw [if_neg e] at h; clear e
  by_cases e : p = 7
  · rw [if_pos e] at h; obtain ⟨rfl, rfl⟩ := inj h; exact ⟨rfl, told1 7 _ e hr rfl hk (fun _ => rfl) (fun _ => rfl) fun _ => rfl⟩
  rw [if_neg e] at h; clear e
  by_cases e : p = 8
  · rw [if_pos e] at h; obtain ⟨rfl, rfl⟩ := inj h; exact ⟨rfl, told0 8 e rfl rfl rfl⟩
  rw [if_neg e] at h; clear e
  by_cases e : p = 9
  · rw [if_pos e] at h; obtain ⟨rfl, rfl⟩ := inj h; exact ⟨rfl, told0 9 e rfl rfl rfl⟩
  rw [if_neg e] at h; clear e
  by_cases e : p = 10
  · rw [if_pos e] at h; obtain ⟨rfl, rfl⟩ := inj h; exact ⟨rfl, told0 10 e rfl rfl rfl⟩
  rw [if_neg e] at h; clear e
  by_cases e : p = 11
  · rw [if_pos e] at h; obtain ⟨rfl, rfl⟩ := inj h; exact ⟨rfl, told1 11 _ e hr rfl hk (fun _ => rfl) (fun _ => rfl) fun _ => rfl⟩
  rw [if_neg e] at h; clear e
  by_cases e : p = 12
  · rw [if_pos e] at h; obtain ⟨rfl, rfl⟩ := inj h; exact ⟨rfl, told2 12 _ e hr rfl hk (fun _ _ => rfl) (fun _ _ => rfl) fun _ _ => rfl⟩
  rw [if_neg e] at h; clear e
  by_cases e : p = 13
  · rw [if_pos e] at h; obtain ⟨rfl, rfl⟩ := inj h; exact ⟨rfl, told2 13 _ e hr rfl hk (fun _ _ => rfl) (fun _ _ => rfl) fun _ _ => rfl⟩
  rw [if_neg e] at h; clear e
  by_cases e : p = 14
  · rw [if_pos e] at h; obtain ⟨rfl, rfl⟩ := inj h; exact ⟨rfl, told2 14 _ e hr rfl hk (fun _ _ => rfl) (fun _ _ => rfl) fun _ _ => rfl⟩
  rw [if_neg e] at h; clear e
  by_cases e : p = 15
  · rw [if_pos e] at h; obtain ⟨rfl, rfl⟩ := inj h; exact ⟨rfl, told0 15 e rfl rfl rfl⟩
  rw [if_neg e] at h; clear e
  by_cases e : p = 16
  · rw [if_pos e] at h; obtain ⟨rfl, rfl⟩ := inj h; exact ⟨rfl, told1 16 _ e hr rfl hk (fun _ => rfl) (fun _ => rfl) fun _ => rfl⟩
  rw [if_neg e] at h; clear e
  by_cases e : p = 17
  · rw [if_pos e] at h; obtain ⟨rfl, rfl⟩ := inj h; exact ⟨rfl, told1 17 _ e hr rfl hk (fun _ => rfl) (fun _ => rfl) fun _ => rfl⟩
  rw [if_neg e] at h; clear e
  by_cases e : p = 18
  · rw [if_pos e] at h; obtain ⟨rfl, rfl⟩ := inj h; exact ⟨rfl, told1 18 _ e hr rfl hk (fun _ => rfl) (fun _ => rfl) fun _ => rfl⟩
  rw [if_neg e] at h; clear e
  by_cases e : p = 19
  · rw [if_pos e] at h; obtain ⟨rfl, rfl⟩ := inj h; exact ⟨rfl, told1 19 _ e hr rfl hk (fun _ => rfl) (fun _ => rfl) fun _ => rfl⟩
  rw [if_neg e] at h; clear e
  by_cases e : p = 20
  · rw [if_pos e] at h; obtain ⟨rfl, rfl⟩ := inj h; exact ⟨rfl, told3 20 _ e hr rfl hk (fun _ _ _ => rfl) (fun _ _ _ => rfl) fun _ _ _ => rfl⟩
  rw [if_neg e] at h; clear e
  by_cases e : p = 21
  · rw [if_pos e] at h; obtain ⟨rfl, rfl⟩ := inj h; exact ⟨rfl, told2 21 _ e hr rfl hk (fun _ _ => rfl) (fun _ _ => rfl) fun _ _ => rfl⟩
  rw [if_neg e] at h; clear e
  by_cases e : p = 22
  · rw [if_pos e] at h; obtain ⟨rfl, rfl⟩ := inj h; exact ⟨rfl, told1 22 _ e hr rfl hk (fun _ => rfl) (fun _ => rfl) fun _ => rfl⟩
  rw [if_neg e] at h; clear e
  by_cases e : p = 23
  · rw [if_pos e] at h; obtain ⟨rfl, rfl⟩ := inj h; exact ⟨rfl, told0 23 e rfl rfl rfl⟩
  rw [if_neg e] at h; clear e
  cases h
theorem shape_k {p : Int} {n k : Nat} (h : PyKm549.shape p = some (n, k)) : k = 0 := by
  unfold PyKm549.shape at h
  by_cases e : p = 0
  · rw [if_pos e] at h; exact (Prod.mk.inj (Option.some.inj h)).2.symm
  rw [if_neg e] at h; clear e
  by_cases e : p = 1
  · rw [if_pos e] at h; exact (Prod.mk.inj (Option.some.inj h)).2.symm
  rw [if_neg e] at h; clear e
  by_cases e : p = 2
  · rw [if_pos e] at h; exact (Prod.mk.inj (Option.some.inj h)).2.symm
  rw [if_neg e] at h; clear e
  by_cases e : p = 3
  · rw [if_pos e] at h; exact (Prod.mk.inj (Option.some.inj h)).2.symm
  rw [if_neg e] at h; clear e
  by_cases e : p = 4
  · rw [if_pos e] at h; exact (Prod.mk.inj (Option.some.inj h)).2.symm
  rw [if_neg e] at h; clear e
  by_cases e : p = 5
  · rw [if_pos e] at h; exact (Prod.mk.inj (Option.some.inj h)).2.symm
  rw [if_neg e] at h; clear e
  by_cases e : p = 6
  · rw [if_pos e] at h; exact (Prod.mk.inj (Option.some.inj h)).2.symm
  rw [if_neg e] at h; clear e
  by_cases e : p = 7
  · rw [if_pos e] at h; exact (Prod.mk.inj (Option.some.inj h)).2.symm
  rw [if_neg e] at h; clear e
  by_cases e : p = 8
  · rw [if_pos e] at h; exact (Prod.mk.inj (Option.some.inj h)).2.symm
  rw [if_neg e] at h; clear e
  by_cases e : p = 9
  · rw [if_pos e] at h; exact (Prod.mk.inj (Option.some.inj h)).2.symm
  rw [if_neg e] at h; clear e
  by_cases e : p = 10
  · rw [if_pos e] at h; exact (Prod.mk.inj (Option.some.inj h)).2.symm
  rw [if_neg e] at h; clear e
  by_cases e : p = 11
  · rw [if_pos e] at h; exact (Prod.mk.inj (Option.some.inj h)).2.symm
  rw [if_neg e] at h; clear e
  by_cases e : p = 12
  · rw [if_pos e] at h; exact (Prod.mk.inj (Option.some.inj h)).2.symm
  rw [if_neg e] at h; clear e
  by_cases e : p = 13
  · rw [if_pos e] at h; exact (Prod.mk.inj (Option.some.inj h)).2.symm
  rw [if_neg e] at h; clear e
  by_cases e : p = 14
  · rw [if_pos e] at h; exact (Prod.mk.inj (Option.some.inj h)).2.symm
  rw [if_neg e] at h; clear e
  by_cases e : p = 15
  · rw [if_pos e] at h; exact (Prod.mk.inj (Option.some.inj h)).2.symm
  rw [if_neg e] at h; clear e
  by_cases e : p = 16
  · rw [if_pos e] at h; exact (Prod.mk.inj (Option.some.inj h)).2.symm
  rw [if_neg e] at h; clear e
  by_cases e : p = 17
  · rw [if_pos e] at h; exact (Prod.mk.inj (Option.some.inj h)).2.symm
  rw [if_neg e] at h; clear e
  by_cases e : p = 18
  · rw [if_pos e] at h; exact (Prod.mk.inj (Option.some.inj h)).2.symm
  rw [if_neg e] at h; clear e
  by_cases e : p = 19
  · rw [if_pos e] at h; exact (Prod.mk.inj (Option.some.inj h)).2.symm
  rw [if_neg e] at h; clear e
  by_cases e : p = 20
  · rw [if_pos e] at h; exact (Prod.mk.inj (Option.some.inj h)).2.symm
  rw [if_neg e] at h; clear e
  by_cases e : p = 21
  · rw [if_pos e] at h; exact (Prod.mk.inj (Option.some.inj h)).2.symm
  rw [if_neg e] at h; clear e
  by_cases e : p = 22
  · rw [if_pos e] at h; exact (Prod.mk.inj (Option.some.inj h)).2.symm
  rw [if_neg e] at h; clear e
  by_cases e : p = 23
  · rw [if_pos e] at h; exact (Prod.mk.inj (Option.some.inj h)).2.symm
  rw [if_neg e] at h; clear e
  cases h
/-- what is still to be answered -/
def due (s : Km549.State) (l : List (List (List Int))) : List Int := PyFlat.told (PyFlat.played Km549Neutral.step s l)
/-- one call: its answer, and what is behind it -/
structure Turn (l : List Int) (raw : List (List (List Int))) (s : Km549.State) (j : Nat) (xs : List Nat) (c : Km549.Call) (f : Nat) (cs : List (List (List Int))) : Prop where
  hd : l = (j : Int) :: (natI xs ++ l.drop (xs.length + 1))
  cn : counts[j]? = some xs.length
  co : callOf j xs = some c
  rest : PyFlat.calls PyKm549.shape f (l.drop (xs.length + 1)) = some cs
  ok : cs.all Km549Neutral.asked1 = true
  eq : due s raw = (((Km549.step s c).2.nums.length + 1 : Nat) : Int) :: (Km549.step s c).2.num :: (Km549.step s c).2.nums ++ due (Km549.step s c).1 cs
theorem turn {f : Nat} {l : List Int} {raw : List (List (List Int))} (h : PyFlat.calls PyKm549.shape f l = some raw) (hl : l ≠ []) (hk : raw.all Km549Neutral.asked1 = true) (s : Km549.State) : ∃ j xs c f' cs, Turn l raw s j xs c f' cs := by
  cases l with
  | nil => exact absurd rfl hl
  | cons p r =>
    cases f with
    | zero => cases h
    | succ f =>
      unfold PyFlat.calls PyFlat.call at h
      dsimp only at h
      cases e1 : PyKm549.shape p with
      | none => rw [e1] at h; cases h
      | some nk =>
        obtain ⟨n, k⟩ := nk
        rw [e1] at h
        dsimp only at h
        by_cases hr : r.length < n
        · rw [if_pos hr] at h; cases h
        · rw [if_neg hr] at h
          cases e2 : PyFlat.rows k (r.drop n) with
          | none => rw [e2] at h; cases h
          | some xt =>
            obtain ⟨xs', t⟩ := xt
            rw [e2] at h
            dsimp only at h
            cases e3 : PyFlat.calls PyKm549.shape f t with
            | none => rw [e3] at h; cases h
            | some cs =>
              rw [e3] at h
              have e4 := Option.some.inj h
              subst e4
              rw [List.all_cons, Bool.and_eq_true] at hk
              have hk0 : Km549Neutral.asked1 [p :: r.take n] = true ∧ k = 0 := by
                have k0 : k = 0 := by
                  exact shape_k e1
                subst k0
                have e5 := Option.some.inj e2
                have e6 := (Prod.mk.inj e5).1
                subst e6
                exact ⟨hk.1, rfl⟩
              obtain ⟨hk1, rfl⟩ := hk0
              have e5 := Option.some.inj e2
              obtain ⟨e6, e7⟩ := Prod.mk.inj e5
              subst e6 e7
              obtain ⟨_, ⟨j, xs, c, rfl, h1, h2, h3, h4, h5⟩⟩ := shape_told e1 hr hk1
              subst h2
              refine ⟨j, xs, c, f, cs, ⟨?_, h1, h4, e3, hk.2, ?_⟩⟩
              · rw [← h3]
                show _ = _ :: (_ ++ r.drop xs.length)
                rw [List.take_append_drop]
              · have es : Km549Neutral.step s [(j : Int) :: r.take xs.length] = ((Km549.step s c).1, (Km549.step s c).2.num :: (Km549.step s c).2.nums) := by
                  unfold Km549Neutral.step
                  rw [h5]
                show PyFlat.told ((Km549Neutral.step s [(j : Int) :: r.take xs.length]).2 :: PyFlat.played Km549Neutral.step (Km549Neutral.step s [(j : Int) :: r.take xs.length]).1 cs) = _
                rw [es]
                rfl
end Cs

/-! days, sets, tolerance: core Lean alone -/
namespace Cs
open Km549
theorem filter_from (m : Nat) : ∀ (n s : Nat), ((List.range' s n).filter fun u => decide (m ≤ u)) = List.range' (max s m) (s + n - max s m)
  | 0, s => by rw [show s + 0 - max s m = 0 by omega]; rfl
  | n + 1, s => by
    rw [List.range'_succ, List.filter_cons]
    have ih := filter_from m n (s + 1)
    by_cases h : m ≤ s
    · rw [if_pos (decide_eq_true h), ih, Nat.max_eq_left h, Nat.max_eq_left (by omega), show s + (n + 1) - s = n + 1 by omega, show s + 1 + n - (s + 1) = n by omega, List.range'_succ]
    · rw [if_neg (by rw [decide_eq_true_eq]; exact h), ih, Nat.max_eq_right (by omega), Nat.max_eq_right (by omega), show s + 1 + n - m = s + (n + 1) - m by omega]
theorem days_eq {p : Planner} {d : Nat} (h : p.today ≤ d) : daysFrom p d = List.range' d (31 - d) := by
  unfold daysFrom lastDay
  have e : (fun u => decide (d ≤ u ∧ p.today ≤ u)) = fun u => decide (d ≤ u) := by
    funext u
    rw [decide_eq_decide]
    omega
  rw [e, List.range_eq_range', filter_from, Nat.zero_max, Nat.zero_add]
theorem first_some {n s d : Nat} {P : Nat → Bool} (h1 : s ≤ d) (h2 : d < s + n) (h3 : P d = true) (h4 : ∀ t, s ≤ t → t < d → P t = false) : (List.range' s n).find? P = some d := by
  rw [List.find?_range'_eq_some]
  refine ⟨h3, ?_, fun j a b => ?_⟩
  · rw [List.mem_range'_1]
    exact ⟨h1, h2⟩
  · rw [h4 j a b]
    rfl
theorem first_none {n s : Nat} {P : Nat → Bool} (h : ∀ t, s ≤ t → t < s + n → P t = false) : (List.range' s n).find? P = none := by
  rw [List.find?_eq_none]
  intro t m
  rw [List.mem_range'_1] at m
  rw [h t m.1 m.2]
  exact Bool.false_ne_true
theorem of_first {n s d : Nat} {P : Nat → Bool} (h : (List.range' s n).find? P = some d) : s ≤ d ∧ d < s + n ∧ P d = true ∧ ∀ t, s ≤ t → t < d → P t = false := by
  rw [List.find?_range'_eq_some, List.mem_range'_1] at h
  refine ⟨h.2.1.1, h.2.1.2, h.1, fun t a b => ?_⟩
  have := h.2.2 t a b
  cases e : P t with
  | false => rfl
  | true => rw [e] at this; exact absurd this (by decide)
theorem of_first_none {n s : Nat} {P : Nat → Bool} (h : (List.range' s n).find? P = none) : ∀ t, s ≤ t → t < s + n → P t = false := by
  intro t a b
  rw [List.find?_eq_none] at h
  have := h t (by rw [List.mem_range'_1]; exact ⟨a, b⟩)
  exact Bool.eq_false_iff.mpr this
/-! ### the first short day -/
def fsd (p : Planner) (k : Nat) : Option Nat := (List.range' p.today (31 - p.today)).find? fun t => decide (Km549.surplus p k t < 0)
section
variable {p : Planner} {k d : Nat}
theorem fsd_none (h : ∀ t, p.today ≤ t → t ≤ 30 → 0 ≤ Km549.surplus p k t) : fsd p k = none := by
  refine first_none fun t a b => decide_eq_false ?_
  have := h t a (by omega)
  omega
theorem fsd_some (h1 : p.today ≤ d) (h2 : d ≤ 30) (h3 : Km549.surplus p k d < 0) (h4 : ∀ t, p.today ≤ t → t < d → 0 ≤ Km549.surplus p k t) : fsd p k = some d := by
  refine first_some h1 (by omega) (decide_eq_true h3) fun t a b => decide_eq_false ?_
  have := h4 t a b
  omega
theorem of_fsd_none (h : fsd p k = none) : ∀ t, p.today ≤ t → t ≤ 30 → 0 ≤ Km549.surplus p k t := by
  intro t a b
  have := of_decide_eq_false (of_first_none h t a (by omega))
  omega
theorem of_fsd_some (h : fsd p k = some d) : p.today ≤ d ∧ d ≤ 30 ∧ Km549.surplus p k d < 0 ∧ ∀ t, p.today ≤ t → t < d → 0 ≤ Km549.surplus p k t := by
  obtain ⟨a, b, c, e⟩ := of_first h
  refine ⟨a, by omega, of_decide_eq_true c, fun t x y => ?_⟩
  have := of_decide_eq_false (e t x y)
  omega
theorem all_days {P : Nat → Bool} : (List.range' p.today (31 - p.today)).all P = true ↔ ∀ t, p.today ≤ t → t ≤ 30 → P t = true := by
  rw [List.all_eq_true]
  constructor
  · intro h t a b
    exact h t (by rw [List.mem_range'_1]; omega)
  · intro h t m
    rw [List.mem_range'_1] at m
    exact h t m.1 (by omega)
theorem covered_fsd (p : Planner) (k : Nat) : Km549.isCovered p k = decide (fsd p k = none) := by
  unfold Km549.isCovered
  rw [days_eq (Nat.le_refl _), Bool.eq_iff_iff, decide_eq_true_iff, all_days]
  constructor
  · intro h
    exact fsd_none fun t a b => of_decide_eq_true (h t a b)
  · intro h t a b
    exact decide_eq_true (of_fsd_none h t a b)
theorem findSome_if {α β : Type} (P : α → Prop) [DecidablePred P] (g : α → β) : ∀ l : List α, (l.findSome? fun x => if P x then some (g x) else none) = (l.find? fun x => decide (P x)).map g
  | [] => rfl
  | x :: r => by
    rw [List.findSome?_cons, List.find?_cons]
    by_cases h : P x
    · rw [if_pos h, decide_eq_true h]
      rfl
    · rw [if_neg h, decide_eq_false h]
      exact findSome_if P g r
theorem shortage_fsd (p : Planner) (k : Nat) : Km549.firstShortage p k = (fsd p k).map fun d => (d, -Km549.surplus p k d) := by
  unfold Km549.firstShortage
  rw [days_eq (Nat.le_refl _)]
  exact findSome_if (fun d => Km549.surplus p k d < 0) (fun d => (d, -Km549.surplus p k d)) _
theorem safe_none (h : fsd p k = none) (c : Commitment) : Km549.isSafe p k c = true := by
  unfold Km549.isSafe
  rw [days_eq (Nat.le_refl _), all_days]
  intro t a b
  rw [decide_eq_true (of_fsd_none h t a b), Bool.or_true]
theorem safe_some (h : fsd p k = some d) (c : Commitment) : Km549.isSafe p k c = decide (c.due < d) := by
  obtain ⟨h1, h2, h3, h4⟩ := of_fsd_some h
  unfold Km549.isSafe
  rw [days_eq (Nat.le_refl _), Bool.eq_iff_iff, decide_eq_true_iff, all_days]
  constructor
  · intro g
    have := g d h1 h2
    rw [Bool.or_eq_true, decide_eq_true_iff, decide_eq_true_iff] at this
    omega
  · intro g t a b
    rw [Bool.or_eq_true, decide_eq_true_iff, decide_eq_true_iff]
    by_cases e : t < d
    · exact .inr (h4 t a e)
    · exact .inl (by omega)
end
/-! ### the available amount -/
theorem least_le (f : Nat → Int) : ∀ (l : List Nat) (b : Int), (l.foldl (fun (m : Int) u => min m (f u)) b ≤ b) ∧ ∀ u ∈ l, l.foldl (fun (m : Int) u => min m (f u)) b ≤ f u
  | [], b => ⟨Int.le_refl _, fun u m => absurd m (by simp)⟩
  | x :: r, b => by
    obtain ⟨h1, h2⟩ := least_le f r (min b (f x))
    rw [List.foldl_cons]
    refine ⟨by omega, fun u m => ?_⟩
    rcases List.mem_cons.mp m with e | m
    · rw [e]; omega
    · exact h2 u m
theorem least_is (f : Nat → Int) : ∀ (l : List Nat) (b : Int), l.foldl (fun (m : Int) u => min m (f u)) b = b ∨ ∃ u ∈ l, l.foldl (fun (m : Int) u => min m (f u)) b = f u
  | [], b => .inl rfl
  | x :: r, b => by
    rw [List.foldl_cons]
    rcases least_is f r (min b (f x)) with h | ⟨u, m, h⟩
    · rw [h]
      by_cases c : b ≤ f x
      · exact .inl (by omega)
      · exact .inr ⟨x, by simp, by omega⟩
    · exact .inr ⟨u, List.mem_cons_of_mem _ m, h⟩
theorem avail_eq {p : Planner} {k d : Nat} {m : Int} (h1 : p.today ≤ d) (h2 : d ≤ 30) (hm : m ∈ (List.range' d (31 - d)).map (Km549.surplus p k)) (hl : ∀ y ∈ (List.range' d (31 - d)).map (Km549.surplus p k), m ≤ y) : Km549.available p k d = m := by
  unfold Km549.available
  rw [days_eq h1]
  obtain ⟨u, mu, rfl⟩ := List.mem_map.mp hm
  have a := (least_le (Km549.surplus p k) (List.range' d (31 - d)) (Km549.surplus p k lastDay)).2 u mu
  have b : Km549.surplus p k u ≤ Km549.surplus p k lastDay := hl _ (List.mem_map_of_mem (by rw [List.mem_range'_1]; unfold lastDay; omega))
  rcases least_is (Km549.surplus p k) (List.range' d (31 - d)) (Km549.surplus p k lastDay) with c | ⟨v, mv, c⟩
  · rw [c] at a ⊢
    omega
  · have := hl _ (List.mem_map_of_mem mv)
    rw [c] at a ⊢
    omega
theorem earliest_some {p : Planner} {k x d : Nat} (h1 : p.today ≤ d) (h2 : d ≤ 30) (h3 : (x : Int) ≤ Km549.available p k d) (h4 : ∀ t, p.today ≤ t → t < d → Km549.available p k t < x) : Km549.earliestDay p k x = some d := by
  unfold Km549.earliestDay
  rw [days_eq (Nat.le_refl _)]
  refine first_some h1 (by omega) (decide_eq_true h3) fun t a b => decide_eq_false ?_
  have := h4 t a b
  omega
theorem earliest_none {p : Planner} {k x : Nat} (h : ∀ t, p.today ≤ t → t ≤ 30 → Km549.available p k t < x) : Km549.earliestDay p k x = none := by
  unfold Km549.earliestDay
  rw [days_eq (Nat.le_refl _)]
  refine first_none fun t a b => decide_eq_false ?_
  have := h t a (by omega)
  omega
/-! ### tolerance -/
theorem greatest_zero (l : List Nat) : Km549.sumOfGreatest 0 l = 0 := rfl
theorem surplus_zero (p : Planner) (k t : Nat) : Km549.surplus p k t ≤ Km549.surplus p 0 t := by
  unfold Km549.surplus Km549.certainSupply
  rw [greatest_zero]
  omega
theorem covered_zero {p : Planner} {k : Nat} (h : Km549.isCovered p k = true) : Km549.isCovered p 0 = true := by
  rw [covered_fsd, decide_eq_true_iff] at h ⊢
  refine fsd_none fun t a b => ?_
  have := of_fsd_none h t a b
  have := surplus_zero p k t
  omega
theorem rev_find {P : Nat → Bool} {k : Nat} (hk : P k = true) : ∀ n, k ≤ n → (∀ j, k < j → j ≤ n → P j = false) → (List.range (n + 1)).reverse.find? P = some k
  | 0, h, _ => by
    have e : k = 0 := by omega
    subst e
    show List.find? P [0] = some 0
    rw [List.find?_cons, hk]
  | n + 1, h, g => by
    rw [List.range_succ, List.reverse_append]
    show List.find? P ((n + 1) :: (List.range (n + 1)).reverse) = some k
    rw [List.find?_cons]
    by_cases e : k = n + 1
    · subst e
      rw [hk]
    · rw [g (n + 1) (by omega) (Nat.le_refl _)]
      exact rev_find hk n (by omega) fun j a b => g j a (by omega)
theorem tol_some {p : Planner} {k : Nat} (h1 : k ≤ p.deliveries.length) (h2 : Km549.isCovered p k = true) (h3 : ∀ j, k < j → j ≤ p.deliveries.length → Km549.isCovered p j = false) : Km549.tolerance p = some k := by
  unfold Km549.tolerance
  rw [if_neg (by rw [covered_zero h2]; exact Bool.noConfusion), rev_find (P := fun k => Km549.isCovered p k) h2 _ h1 h3]
  rfl
theorem tol_none {p : Planner} (h : ∀ j, j ≤ p.deliveries.length → Km549.isCovered p j = false) : Km549.tolerance p = none := by
  unfold Km549.tolerance
  rw [if_pos (h 0 (Nat.zero_le _))]
/-! ### safe commitments -/
def onC (cs : List Commitment) (P : Commitment → Bool) (j : Nat) : Bool := match cs[j]? with
  | none => false
  | some c => P c
def safeL (p : Planner) (k : Nat) : List Nat := (List.range p.commitments.length).filter (onC p.commitments (Km549.isSafe p k))
theorem onC_true {cs : List Commitment} {j : Nat} (h : j < cs.length) {P : Commitment → Bool} (hP : ∀ c, P c = true) : onC cs P j = true := by
  unfold onC
  rw [List.getElem?_eq_getElem h]
  exact hP _
theorem safeL_none {p : Planner} {k : Nat} (h : fsd p k = none) : safeL p k = List.range p.commitments.length := by
  unfold safeL
  rw [List.filter_eq_self]
  intro j m
  exact onC_true (List.mem_range.mp m) (safe_none h)
theorem safeL_some {p : Planner} {k d : Nat} (h : fsd p k = some d) : safeL p k = (List.range p.commitments.length).filter (onC p.commitments fun c => decide (c.due < d)) := by
  unfold safeL
  rw [show Km549.isSafe p k = fun c => decide (c.due < d) from funext fun c => safe_some h c]
theorem step_safe (p : Planner) (k : Nat) : Km549.step (some p) (.safeCommitments k) = (some p, if 6 < k then Km549.error (-22) else Km549.listResult (safeL p k)) := rfl
def depL (p : Planner) (i : Nat) : List Nat := (safeL p 0).filter fun j => !(safeL (Km549.withoutDelivery p i) 0).contains j
theorem dep_eq (p : Planner) (i : Nat) : ((List.range p.commitments.length).filter (onC p.commitments fun c => Km549.isSafe p 0 c && !(Km549.isSafe (Km549.withoutDelivery p i) 0 c))) = depL p i := by
  unfold depL safeL
  rw [List.filter_filter]
  refine List.filter_congr fun j m => ?_
  have hj := List.mem_range.mp m
  have e : ((List.range (Km549.withoutDelivery p i).commitments.length).filter (onC (Km549.withoutDelivery p i).commitments (Km549.isSafe (Km549.withoutDelivery p i) 0))).contains j = onC p.commitments (Km549.isSafe (Km549.withoutDelivery p i) 0) j := by
    rw [Bool.eq_iff_iff, List.contains_iff_mem, List.mem_filter]
    exact ⟨fun h => h.2, fun h => ⟨m, h⟩⟩
  rw [e]
  unfold onC
  rw [List.getElem?_eq_getElem hj]
  exact Bool.and_comm _ _
theorem step_dependent (p : Planner) (i : Nat) : Km549.step (some p) (.dependentCommitments i) = (some p, if p.deliveries.length ≤ i then Km549.error (-2) else Km549.listResult (depL p i)) := by
  rw [← dep_eq]
  rfl
/-! ### sets -/
def bits (n s : Nat) : List Nat := (List.range n).filter fun i => s.testBit i
def Sets : Nat → List (List Nat)
  | 0 => [[]]
  | n + 1 => Sets n ++ (Sets n).map fun m => m ++ [n]
theorem bits_low {n s : Nat} (h : s < 2 ^ n) : bits (n + 1) s = bits n s := by
  unfold bits
  rw [List.range_succ, List.filter_append]
  show _ ++ List.filter _ [n] = _
  rw [List.filter_cons, Nat.testBit_lt_two_pow h, if_neg Bool.false_ne_true]
  exact List.append_nil _
theorem bits_high {n s : Nat} (h : s < 2 ^ n) : bits (n + 1) (2 ^ n + s) = bits n s ++ [n] := by
  unfold bits
  rw [List.range_succ, List.filter_append]
  show _ ++ List.filter _ [n] = _
  rw [List.filter_cons, Nat.testBit_two_pow_add_eq, Nat.testBit_lt_two_pow h]
  refine congrArg (fun l => l ++ [n]) (List.filter_congr fun j m => ?_)
  exact Nat.testBit_two_pow_add_gt (List.mem_range.mp m) s
theorem sets_eq : ∀ n, Sets n = (List.range (2 ^ n)).map (bits n)
  | 0 => rfl
  | n + 1 => by
    show Sets n ++ (Sets n).map _ = _
    rw [sets_eq n, Nat.pow_succ, Nat.mul_two, List.range_add, List.map_append, List.map_map, List.map_map]
    congr 1
    · exact List.map_congr_left fun s m => (bits_low (List.mem_range.mp m)).symm
    · exact List.map_congr_left fun s m => (bits_high (List.mem_range.mp m)).symm
theorem members_eq {n s : Nat} (hn : n ≤ 7) (h : s < 2 ^ n) : Km549.members s = bits n s := by
  unfold Km549.members Km549.maxCommitments bits
  rw [show (7 : Nat) = n + (7 - n) by omega, List.range_add, List.filter_append]
  refine (congrArg (fun l => List.filter (fun i => s.testBit i) (List.range n) ++ l) ?_).trans (List.append_nil _)
  rw [List.filter_eq_nil_iff]
  intro j mj
  obtain ⟨i, _, rfl⟩ := List.mem_map.mp mj
  rw [Nat.testBit_lt_two_pow (Nat.lt_of_lt_of_le h (Nat.pow_le_pow_right (by decide) (by omega)))]
  exact Bool.false_ne_true
theorem size_eq {n s : Nat} (hn : n ≤ 7) (h : s < 2 ^ n) : Km549.setSize s = (bits n s).length := congrArg List.length (members_eq hn h)
def amounts (cs : List Commitment) (ms : List Nat) : List Nat := ms.filterMap fun j => (cs[j]?).map fun c => c.amount
theorem amount_eq {p : Planner} {n s : Nat} (hn : n ≤ 7) (h : s < 2 ^ n) : Km549.amountOf p s = (amounts p.commitments (bits n s)).sum := by
  unfold Km549.amountOf
  rw [members_eq hn h, sum_eq]
  rfl
/-- taken out from the last to the first -/
def cutOut {α : Type} (ms : List Nat) (cs : List α) : List α := ms.foldr (fun j l => l.eraseIdx j) cs
theorem cut_shift {α : Type} (c : α) (i : Nat) (cs : List α) : ∀ ms : List Nat, (∀ j ∈ ms, i + 1 ≤ j) → ms.foldr (fun j l => l.eraseIdx (j - i)) (c :: cs) = c :: ms.foldr (fun j l => l.eraseIdx (j - (i + 1))) cs
  | [], _ => rfl
  | j :: r, h => by
    rw [List.foldr_cons, List.foldr_cons, cut_shift c i cs r fun x m => h x (List.mem_cons_of_mem _ m)]
    have := h j List.mem_cons_self
    rw [show j - i = (j - (i + 1)) + 1 by omega, List.eraseIdx_cons_succ]
theorem keep_congr {α β : Type} {f g : α → Option β} : ∀ {l : List α}, (∀ x ∈ l, f x = g x) → l.filterMap f = l.filterMap g
  | [], _ => rfl
  | x :: r, h => by
    rw [List.filterMap_cons, List.filterMap_cons, h x List.mem_cons_self, keep_congr fun y m => h y (List.mem_cons_of_mem _ m)]
theorem cut_keep {α : Type} (P : Nat → Bool) : ∀ (cs : List α) (i : Nat), ((List.range' i cs.length).filter P).foldr (fun j l => l.eraseIdx (j - i)) cs = (List.range' i cs.length).filterMap fun j => if P j then none else cs[j - i]?
  | [], i => rfl
  | c :: cs, i => by
    rw [List.length_cons, List.range'_succ, List.filter_cons, List.filterMap_cons]
    have big : ∀ j ∈ (List.range' (i + 1) cs.length).filter P, i + 1 ≤ j := fun j m => (List.mem_range'_1.mp (List.mem_filter.mp m).1).1
    have rest : ((List.range' (i + 1) cs.length).filterMap fun j => if P j then none else (c :: cs)[j - i]?) = (List.range' (i + 1) cs.length).filterMap fun j => if P j then none else cs[j - (i + 1)]? := by
      refine keep_congr fun j m => ?_
      have := (List.mem_range'_1.mp m).1
      rw [show j - i = (j - (i + 1)) + 1 by omega, List.getElem?_cons_succ]
    rw [rest, ← cut_keep P cs (i + 1), Nat.sub_self]
    cases e : P i with
    | true =>
      simp only [if_true]
      rw [List.foldr_cons, cut_shift c i cs _ big, Nat.sub_self]
      rfl
    | false =>
      simp only [Bool.false_eq_true, if_false, List.getElem?_cons_zero]
      rw [cut_shift c i cs _ big]
theorem cut_bits {α : Type} (cs : List α) (s : Nat) : cutOut (bits cs.length s) cs = (List.range cs.length).filterMap fun j => if s.testBit j then none else cs[j]? := by
  unfold cutOut bits
  rw [List.range_eq_range']
  exact cut_keep (fun j => s.testBit j) cs 0
theorem without_eq (p : Planner) (s : Nat) : Km549.withoutSet p s = { p with commitments := cutOut (bits p.commitments.length s) p.commitments } := by
  rw [cut_bits]
  rfl
/-- what stands ahead of all that is taken out stays in its place -/
theorem cut_get {α : Type} (cs : List α) (j : Nat) : ∀ ms : List Nat, (∀ i ∈ ms, j < i) → (cutOut ms cs)[j]? = cs[j]?
  | [], _ => rfl
  | i :: r, h => by
    show ((cutOut r cs).eraseIdx i)[j]? = _
    rw [List.getElem?_eraseIdx_of_lt (h i List.mem_cons_self)]
    exact cut_get cs j r fun x m => h x (List.mem_cons_of_mem _ m)
theorem cut_length {α : Type} (cs : List α) : ∀ ms : List Nat, (cutOut ms cs).length ≤ cs.length
  | [] => Nat.le_refl _
  | i :: r => by
    show ((cutOut r cs).eraseIdx i).length ≤ _
    exact Nat.le_trans (List.length_eraseIdx_le _ _) (cut_length cs r)
theorem map_erase {α β : Type} (f : α → β) : ∀ (l : List α) (j : Nat), (l.map f).eraseIdx j = (l.eraseIdx j).map f
  | [], j => by simp
  | x :: r, 0 => rfl
  | x :: r, j + 1 => by
    show f x :: (r.map f).eraseIdx j = f x :: (r.eraseIdx j).map f
    rw [map_erase f r j]
theorem cut_map {α β : Type} (f : α → β) (cs : List α) : ∀ ms : List Nat, (cutOut ms (cs.map f)) = (cutOut ms cs).map f
  | [] => rfl
  | i :: r => by
    show (cutOut r (cs.map f)).eraseIdx i = ((cutOut r cs).eraseIdx i).map f
    rw [cut_map f cs r, map_erase]
theorem bits_lt {n s j : Nat} (h : j ∈ bits n s) : j < n := List.mem_range.mp (List.mem_filter.mp h).1
theorem bits_rising (n s : Nat) : (bits n s).Pairwise (· < ·) := List.pairwise_lt_range.filter _
theorem bits_length (n s : Nat) : (bits n s).length ≤ n := by
  refine Nat.le_trans (List.length_filter_le _ _) ?_
  rw [List.length_range]
  exact Nat.le_refl _
/-! ### the best cancellation -/
def good (p : Planner) (k s : Nat) : Bool := Km549.isCovered (Km549.withoutSet p s) k
def better (p : Planner) (a b : Nat) : Prop := Km549.setSize a < Km549.setSize b ∨ (Km549.setSize a = Km549.setSize b ∧ Km549.amountOf p a < Km549.amountOf p b)
instance (p : Planner) (a b : Nat) : Decidable (better p a b) := inferInstanceAs (Decidable (_ ∨ _))
def bestFold (p : Planner) (k m : Nat) : Option Nat := (List.range m).foldl (fun (best : Option Nat) (s : Nat) => if good p k s then (match best with
  | none => some s
  | some o => if better p s o then some s else some o) else best) none
theorem best_fold (p : Planner) (k : Nat) : Km549.bestCancellation p k = bestFold p k (2 ^ p.commitments.length) := rfl
theorem bestFold_succ (p : Planner) (k m : Nat) : bestFold p k (m + 1) = if good p k m then (match bestFold p k m with
  | none => some m
  | some o => if better p m o then some m else some o) else bestFold p k m := by
  unfold bestFold
  rw [List.range_succ, List.foldl_append]
  rfl
theorem best_is {p : Planner} {k N b : Nat} (hb : b < N) (hg : good p k b = true) (hm : ∀ s, s < N → good p k s = true → s ≠ b → better p b s ∨ (¬ better p s b ∧ b < s)) :
    ∀ m, m ≤ N → (bestFold p k m = none ∨ ∃ s, s < m ∧ good p k s = true ∧ bestFold p k m = some s) ∧ (b < m → bestFold p k m = some b)
  | 0, _ => ⟨.inl rfl, fun h => absurd h (Nat.not_lt_zero _)⟩
  | m + 1, hN => by
    obtain ⟨h1, h2⟩ := best_is hb hg hm m (by omega)
    rw [bestFold_succ]
    by_cases g : good p k m = true
    · rw [if_pos g]
      by_cases e : b < m
      · rw [h2 e]
        have nb : ¬ better p m b := by
          rcases hm m (by omega) g (by omega) with q | q
          · intro z
            unfold better at q z
            omega
          · exact q.1
        simp only [nb, if_false]
        exact ⟨.inr ⟨b, by omega, hg, rfl⟩, fun _ => trivial⟩
      · rcases h1 with h1 | ⟨s, s1, s2, h1⟩
        · rw [h1]
          exact ⟨.inr ⟨m, by omega, g, rfl⟩, fun z => congrArg some (by omega)⟩
        · rw [h1]
          by_cases e2 : b = m
          · subst e2
            have yb : better p b s := by
              rcases hm s (by omega) s2 (by omega) with q | q
              · exact q
              · omega
            simp only [yb, if_true]
            exact ⟨.inr ⟨b, by omega, hg, rfl⟩, fun _ => trivial⟩
          · refine ⟨.inr ?_, fun z => by omega⟩
            by_cases c : better p m s
            · simp only [c, if_true]
              exact ⟨m, by omega, g, rfl⟩
            · simp only [c, if_false]
              exact ⟨s, by omega, s2, rfl⟩
    · rw [if_neg g]
      refine ⟨h1.imp id fun ⟨s, a, c⟩ => ⟨s, by omega, c⟩, fun z => h2 ?_⟩
      have : b ≠ m := fun e => g (by rw [← e]; exact hg)
      omega
theorem best_eq {p : Planner} {k b : Nat} (hb : b < 2 ^ p.commitments.length) (hg : good p k b = true) (hm : ∀ s, s < 2 ^ p.commitments.length → good p k s = true → s ≠ b → better p b s ∨ (¬ better p s b ∧ b < s)) : Km549.bestCancellation p k = some b := by
  rw [best_fold]
  exact (best_is hb hg hm _ (Nat.le_refl _)).2 hb
/-- the set of all commitments always qualifies -/
theorem good_all (p : Planner) (k : Nat) : good p k (2 ^ p.commitments.length - 1) = true := by
  unfold good
  rw [covered_fsd, decide_eq_true_iff]
  refine fsd_none fun t a b => ?_
  have e : (Km549.withoutSet p (2 ^ p.commitments.length - 1)).commitments = [] := by
    show (List.range p.commitments.length).filterMap _ = []
    rw [List.filterMap_eq_nil_iff]
    intro j m
    rw [if_pos]
    rw [Nat.testBit_two_pow_sub_one]
    exact decide_eq_true (List.mem_range.mp m)
  unfold Km549.surplus Km549.dueBy
  rw [e]
  show 0 ≤ ((_ : Nat) : Int) - ((0 : Nat) : Int)
  omega
end Cs

namespace Cs
open PySem PySem.Spec PyProof.Rows L2
/-- the i-th statement of the program -/
def topS (i : Nat) : Stmt := PySem.Challenge.pw_coveredstock_s01_answers.main.body.getD i (.Pass ⟨0, 0, 0, 0⟩)
/-! ### lists -/
theorem take_more {α : Type} : ∀ {l : List α} {i : Nat} {x : α}, l[i]? = some x → l.take (i + 1) = l.take i ++ [x]
  | [], i, x, h => by simp at h
  | a :: l, 0, x, h => by
    have e : a = x := Option.some.inj h
    subst e
    rfl
  | a :: l, i + 1, x, h => by
    have ih := take_more (l := l) (i := i) (x := x) h
    show a :: l.take (i + 1) = a :: l.take i ++ [x]
    rw [ih]
    rfl
theorem lk_here {k : Str} {v : V} {r : List (Str × V)} : List.lookup k ((k, v) :: r) = some v := by
  have e : (k == k) = true := beq_self_eq_true k
  simp only [List.lookup, e]
theorem lk_past {k g : Str} {v : V} {r : List (Str × V)} (h : (k == g) = false) : List.lookup k ((g, v) :: r) = List.lookup k r := by
  simp only [List.lookup, h]
theorem put_here {f : Str} {v x : V} {r : List (Str × V)} : putF f v ((f, x) :: r) = (f, v) :: r := if_pos rfl
theorem put_past {f g : Str} {v x : V} {r : List (Str × V)} (h : ¬ g = f) : putF f v ((g, x) :: r) = (g, x) :: putF f v r := if_neg h
/-! ### a def that keeps its promise, by its name -/
structure Def (P : Program) (w : World) (K : PySem.W.Frag) (mg : Str → Option Value) (base : Heap) (k : Nat) (x : Str) (ps : List Str) (sp : Sp) : Prop where
  ex : ∃ f fd, FnOk P w K mg base CX0 k f fd ps sp ∧ mg x = some (.ref f) ∧ PySem.W.keepIn K (.ref f) = true ∧ Binds K fd ps []
/-- a def of the text behind the top -/
structure TDef (K : PySem.W.Frag) (mg : Str → Option Value) (x : Str) (st : Stmt) (ps : List Str) : Prop where
  ex : ∃ f fd, Fun K x x st f fd ∧ mg x = some (.ref f) ∧ Binds K fd ps []
theorem TDef.mk' {P : Program} {w : World} {K : PySem.W.Frag} {mg : Str → Option Value} {base : Heap} {k : Nat} {x : Str} {ps : List Str} {sp : Sp} {st : Stmt} (D : TDef K mg x st ps) (h : ∀ f fd, Fun K x x st f fd → FnOk P w K mg base CX0 k f fd ps sp) : Def P w K mg base k x ps sp := by
  obtain ⟨f, fd, F, m, b⟩ := D.ex
  exact ⟨f, fd, h f fd F, m, F.kp, b⟩
/-! ### a comprehension over a list: what is kept -/
theorem map_get {α β : Type} {f : α → β} {l : List α} {i : Nat} {x : β} (h : (l.map f)[i]? = some x) : ∃ q, l[i]? = some q ∧ x = f q := by
  rw [List.getElem?_map] at h
  cases e : l[i]? with
  | none => rw [e] at h; cases h
  | some q =>
    rw [e] at h
    exact ⟨q, rfl, (Option.some.inj h).symm⟩
theorem lc_keep {K : PySem.W.Frag} {a : Addr} {α : Type} {its : List α} {toV : α → V} {g : TG} {tt : TT} {te : TE} {vs : List Nat} {σ : L2.St} {H1 : Hp} {D : Addr} {Qd : Hp → Prop} (keep : α → Option V) (hx : SqL K H1 a (its.map toV)) (hD : H1 D = none) (hz : its.length < sizeLine)
    (step : ∀ (i : Nat) (x : α) (H : Hp) (Qy : V → Hp → Prop) (Qn : Hp → Prop), its[i]? = some x → Same H1 H → (∀ y H4, keep x = some y → Same H H4 → Qy y H4) → (∀ H3, keep x = none → Same H H3 → Qn H3) →
      g (toV x) (wipe σ vs) H fun σ2 H2 => wipe σ2 vs = wipe σ vs ∧ tt σ2 H2 fun b H3 => if b = true then te σ2 H3 Qy else Qn H3)
    (hd : ∀ H, Same H1 H → H D = some (.lst (its.filterMap keep)) → Qd H) :
    ∃ W : Nat → Nat → Hp → Prop, (∃ m, W 0 m (upd H1 D (.lst []))) ∧ ∀ i m H, W i m H →
      ((Itl K a).stop i H ∧ Qd H) ∨ ((Itl K a).go i H ∧ ∃ Nx : Hp → Prop, (∀ H', Nx H' → ∃ m', m' < m ∧ W (i + 1) m' H') ∧ ∀ x H', (Itl K a).yld i H x H' → g x (wipe σ vs) H' fun σ2 H2 => wipe σ2 vs = wipe σ vs ∧ tt σ2 H2 fun b H3 =>
        if b = true then te σ2 H3 fun y H4 => ∃ acc, H4 D = some (.lst acc) ∧ acc.length < sizeLine ∧ Nx (upd H4 D (.lst (acc ++ [y]))) else Nx H3) := by
  have s0 : ∀ o, Same H1 (upd H1 D o) := fun o b u e => by rw [upd_ne (ne_of_none e hD)]; exact e
  refine lc_list (K := K) (a := a) (xs := its.map toV) (fun i H => Same H1 H ∧ H D = some (.lst ((its.take i).filterMap keep))) ⟨s0 _, upd_same⟩ (fun i H _ p => p.1.seq hx) (fun i x H hi p => ?_) (fun H p => ?_)
  · obtain ⟨p1, p2⟩ := p
    obtain ⟨q, hq, rfl⟩ := map_get hi
    refine step i q H _ _ hq p1 (fun y H4 e s => ⟨_, s _ _ p2, ?_, ?_, ?_⟩) fun H3 e s => ⟨p1.trans s, ?_⟩
    · refine Nat.lt_of_le_of_lt (List.length_filterMap_le _ _) ?_
      rw [List.length_take]; omega
    · intro b u q
      rw [upd_ne (ne_of_none q hD)]
      exact s b u (p1 b u q)
    · rw [upd_same, take_more hq, List.filterMap_append]
      simp [e]
    · rw [s _ _ p2, take_more hq, List.filterMap_append]
      simp [e]
  · rw [List.length_map, List.take_length] at p
    exact hd H p.1 p.2
theorem ifT {c A B : Prop} [Decidable c] (hc : c) (h : A) : if decide c = true then A else B := by
  rw [decide_eq_true hc, if_pos rfl]
  exact h
theorem ifF {c A B : Prop} [Decidable c] (hc : ¬ c) (h : B) : if decide c = true then A else B := by
  rw [decide_eq_false hc, if_neg Bool.false_ne_true]
  exact h
theorem ifD {c A B : Prop} [Decidable c] (h1 : c → A) (h2 : ¬ c → B) : if decide c = true then A else B := by
  by_cases h : c
  · exact ifT h (h1 h)
  · exact ifF h (h2 h)
theorem ifN {c A B : Prop} [Decidable c] (h1 : ¬ c → A) (h2 : c → B) : if (!decide c) = true then A else B := by
  by_cases h : c
  · rw [decide_eq_true h, if_neg (by decide)]
    exact h2 h
  · rw [decide_eq_false h, if_pos (by decide)]
    exact h1 h
abbrev bLt : R2 := rI0 fun i j => .bl (decide (i < j))
abbrev bLe : R2 := rI0 fun i j => .bl (decide (i ≤ j))
abbrev bGt : R2 := rI0 fun i j => .bl (decide (j < i))
abbrev bGe : R2 := rI0 fun i j => .bl (decide (j ≤ i))
/-- a constant of a file's top -/
def Cst (mg : Str → Option Value) (x : Str) (v : V) : Prop := ∃ u, mg x = some u ∧ RelV v u
theorem pe_cst {X : Cx} {x : Str} {v : V} {pos : Pos} (hg : Gl X x) (h : Cst X.mg x v) (hd : (x == ("__debug__" : Str)) = false := by decide) : PE X (.Name x pos) (tC v) := by
  obtain ⟨u, m, r⟩ := h
  exact pe_glob hg m r hd
end Cs

namespace Cs
open PySem PySem.Spec PyProof.Rows L2
abbrev Plr := Km549.Planner
abbrev Dlv := Km549.Delivery
abbrev Cmt := Km549.Commitment
/-- the classes -/
structure Cl where
  D : Addr
  C : Addr
  P : Addr
  R : Addr
  N : Addr
def dF (d : Dlv) : List (Str × V) := [("amount", .int d.amount), ("earliest", .int d.earliest), ("latest", .int d.latest)]
def cF (c : Cmt) : List (Str × V) := [("amount", .int c.amount), ("due", .int c.due)]
def pF (p : Plr) (ld lc : Addr) : List (Str × V) := [("today", .int p.today), ("stock", .int p.stock), ("deliveries", .ref ld), ("commitments", .ref lc), ("arrived", .int p.arrivedCount), ("failed", .int p.failedCount), ("fulfilled", .int p.fulfilledCount)]
def DlvAt (T : Cl) (H : Hp) (a : Addr) (d : Dlv) : Prop := ∃ dx, H a = some (.ins T.D dx (dF d))
def CmtAt (T : Cl) (H : Hp) (a : Addr) (c : Cmt) : Prop := ∃ dx, H a = some (.ins T.C dx (cF c))
def refs {α : Type} (l : List (Addr × α)) : List V := l.map fun q => V.ref q.1
structure PlanAt (T : Cl) (H : Hp) (a ld lc : Addr) (p : Plr) (dx : Addr) (ds : List (Addr × Dlv)) (cs : List (Addr × Cmt)) : Prop where
  ob : H a = some (.ins T.P dx (pF p ld lc))
  hd : H ld = some (.lst (refs ds))
  hc : H lc = some (.lst (refs cs))
  ne : ld ≠ lc
  dl : ∀ q ∈ ds, DlvAt T H q.1 q.2
  cm : ∀ q ∈ cs, CmtAt T H q.1 q.2
  ed : p.deliveries = ds.map (·.2)
  ec : p.commitments = cs.map (·.2)
structure Fit (p : Plr) : Prop where
  td : p.today ≤ 30
  nd : p.deliveries.length ≤ 6
  nc : p.commitments.length ≤ 7
def IsPlan (T : Cl) (H : Hp) (a ld lc : Addr) (p : Plr) : Prop := (∃ dx ds cs, PlanAt T H a ld lc p dx ds cs) ∧ Fit p
theorem PlanAt.same {T : Cl} {H H' : Hp} {a ld lc : Addr} {p : Plr} {dx : Addr} {ds : List (Addr × Dlv)} {cs : List (Addr × Cmt)} (h : PlanAt T H a ld lc p dx ds cs) (s : Same H H') : PlanAt T H' a ld lc p dx ds cs :=
  ⟨s _ _ h.ob, s _ _ h.hd, s _ _ h.hc, h.ne, fun q m => let ⟨dx, e⟩ := h.dl q m; ⟨dx, s _ _ e⟩, fun q m => let ⟨dx, e⟩ := h.cm q m; ⟨dx, s _ _ e⟩, h.ed, h.ec⟩
theorem IsPlan.same {T : Cl} {H H' : Hp} {a ld lc : Addr} {p : Plr} (h : IsPlan T H a ld lc p) (s : Same H H') : IsPlan T H' a ld lc p := by
  obtain ⟨⟨dx, ds, cs, h⟩, f⟩ := h
  exact ⟨⟨dx, ds, cs, h.same s⟩, f⟩
/-- what the top has written -/
structure Txt (K : PySem.W.Frag) (mg : Str → Option Value) (T : Cl) : Prop where
  clD : Cls K T.D
  clC : Cls K T.C
  clP : Cls K T.P
  clR : Cls K T.R
  naD : ∀ f ∈ (["amount", "earliest", "latest"] : List Str), NoAttr K T.D f
  naC : ∀ f ∈ (["amount", "due"] : List Str), NoAttr K T.C f
  naP : ∀ f ∈ (["today", "stock", "deliveries", "commitments", "arrived", "failed", "fulfilled"] : List Str), NoAttr K T.P f
  naR : ∀ f ∈ (["plan"] : List Str), NoAttr K T.R f
  g_Delivery : mg "Delivery" = some (.ref T.D)
  g_Commitment : mg "Commitment" = some (.ref T.C)
  g_Plan : mg "Plan" = some (.ref T.P)
  g_Planner : mg "Planner" = some (.ref T.R)
  c_LAST_DAY : Cst mg "LAST_DAY" (.int 30)
  c_MOST_AMOUNT : Cst mg "MOST_AMOUNT" (.int 99)
  c_MOST_STOCK : Cst mg "MOST_STOCK" (.int 999)
  c_MOST_FAILURES : Cst mg "MOST_FAILURES" (.int 6)
  c_MOST_DELIVERIES : Cst mg "MOST_DELIVERIES" (.int 6)
  c_MOST_COMMITMENTS : Cst mg "MOST_COMMITMENTS" (.int 7)
  c_NO_INSTANCE : Cst mg "NO_INSTANCE" (.int (-11))
  c_NOT_FOUND : Cst mg "NOT_FOUND" (.int (-2))
  c_OUT_OF_RANGE : Cst mg "OUT_OF_RANGE" (.int (-22))
  c_TOO_MANY : Cst mg "TOO_MANY" (.int (-28))
  c_NOT_COVERED : Cst mg "NOT_COVERED" (.int (-30))
  c_STILL_DUE : Cst mg "STILL_DUE" (.int (-30))
  c_NOT_POSSIBLE : Cst mg "NOT_POSSIBLE" (.int (-33))
  c_STOCK_TOO_SMALL : Cst mg "STOCK_TOO_SMALL" (.int (-19))
  c_AT_LAST_DAY : Cst mg "AT_LAST_DAY" (.int (-75))
  c_CREATE : Cst mg "CREATE" (.int 0)
  c_ADD_DELIVERY : Cst mg "ADD_DELIVERY" (.int 1)
  c_ADD_COMMITMENT : Cst mg "ADD_COMMITMENT" (.int 2)
  c_ADD_COVERED_COMMITMENT : Cst mg "ADD_COVERED_COMMITMENT" (.int 3)
  c_CANCEL_COMMITMENT : Cst mg "CANCEL_COMMITMENT" (.int 4)
  c_DELIVERY_ARRIVED : Cst mg "DELIVERY_ARRIVED" (.int 5)
  c_DELIVERY_FAILED : Cst mg "DELIVERY_FAILED" (.int 6)
  c_FULFILL_COMMITMENT : Cst mg "FULFILL_COMMITMENT" (.int 7)
  c_NEXT_DAY : Cst mg "NEXT_DAY" (.int 8)
  c_LIST_DELIVERIES : Cst mg "LIST_DELIVERIES" (.int 9)
  c_LIST_COMMITMENTS : Cst mg "LIST_COMMITMENTS" (.int 10)
  c_IS_COVERED : Cst mg "IS_COVERED" (.int 11)
  c_SURPLUS : Cst mg "SURPLUS" (.int 12)
  c_AVAILABLE : Cst mg "AVAILABLE" (.int 13)
  c_EARLIEST_DAY : Cst mg "EARLIEST_DAY" (.int 14)
  c_TOLERANCE : Cst mg "TOLERANCE" (.int 15)
  c_SAFE_COMMITMENTS : Cst mg "SAFE_COMMITMENTS" (.int 16)
  c_DEPENDENT_COMMITMENTS : Cst mg "DEPENDENT_COMMITMENTS" (.int 17)
  c_BEST_CANCELLATION : Cst mg "BEST_CANCELLATION" (.int 18)
  c_CANCEL_BEST : Cst mg "CANCEL_BEST" (.int 19)
  c_IS_COVERED_WITH_DELIVERY : Cst mg "IS_COVERED_WITH_DELIVERY" (.int 20)
  c_TOLERANCE_WITH_COMMITMENT : Cst mg "TOLERANCE_WITH_COMMITMENT" (.int 21)
  c_FIRST_SHORTAGE : Cst mg "FIRST_SHORTAGE" (.int 22)
  c_PARAMETER_COUNTS : Cst mg "PARAMETER_COUNTS" (.ref T.N)
  t_counts : ∀ H : Hp, SqT K H T.N ((natI counts).map V.int)
  n_len : mg "len" = none
  n_sum : mg "sum" = none
  n_sorted : mg "sorted" = none
  n_max : mg "max" = none
  n_any : mg "any" = none
  n_range : mg "range" = none
  n_list : mg "list" = none
  n_min : mg "min" = none
  n_abs : mg "abs" = none
  n_reversed : mg "reversed" = none
/-! ### fields -/
section
variable {K : PySem.W.Frag} {mg : Str → Option Value} {T : Cl} {H : Hp} {a ld lc dx : Addr} {p : Plr} {ds : List (Addr × Dlv)} {cs : List (Addr × Cmt)} {i : Nat} {σ : L2.St} {Q : VK}
theorem rd (f : Str) {C : Addr} {fs : List (Str × V)} {v : V} (hσ : σ[i]? = some (some (.ref a))) (h : H a = some (.ins C dx fs)) (cl : Cls K C) (na : NoAttr K C f) (lk : fs.lookup f = some v) (q : Q v H) : tFld K (tVar i) f σ H Q :=
  ⟨_, hσ, a, C, dx, fs, v, rfl, h, cl, na, lk, q⟩
theorem lkP_today : (pF p ld lc).lookup ("today" : Str) = some (.int p.today) := lk_here
theorem lkP_stock : (pF p ld lc).lookup ("stock" : Str) = some (.int p.stock) := (lk_past (by decide +kernel)).trans lk_here
theorem lkP_deliveries : (pF p ld lc).lookup ("deliveries" : Str) = some (.ref ld) := (lk_past (by decide +kernel)).trans ((lk_past (by decide +kernel)).trans lk_here)
theorem lkP_commitments : (pF p ld lc).lookup ("commitments" : Str) = some (.ref lc) := (lk_past (by decide +kernel)).trans ((lk_past (by decide +kernel)).trans ((lk_past (by decide +kernel)).trans lk_here))
theorem lkP_arrived : (pF p ld lc).lookup ("arrived" : Str) = some (.int p.arrivedCount) := by kernel_rfl
theorem lkP_failed : (pF p ld lc).lookup ("failed" : Str) = some (.int p.failedCount) := by kernel_rfl
theorem lkP_fulfilled : (pF p ld lc).lookup ("fulfilled" : Str) = some (.int p.fulfilledCount) := by kernel_rfl
theorem lkD_amount {d : Dlv} : (dF d).lookup ("amount" : Str) = some (.int d.amount) := lk_here
theorem lkD_earliest {d : Dlv} : (dF d).lookup ("earliest" : Str) = some (.int d.earliest) := (lk_past (by decide +kernel)).trans lk_here
theorem lkD_latest {d : Dlv} : (dF d).lookup ("latest" : Str) = some (.int d.latest) := (lk_past (by decide +kernel)).trans ((lk_past (by decide +kernel)).trans lk_here)
theorem lkC_amount {c : Cmt} : (cF c).lookup ("amount" : Str) = some (.int c.amount) := lk_here
theorem lkC_due {c : Cmt} : (cF c).lookup ("due" : Str) = some (.int c.due) := (lk_past (by decide +kernel)).trans lk_here
end
end Cs

namespace Cs
open PySem PySem.Spec PyProof.Rows L2
/-! ### rules of the layer's kind: len's reading by name, the least of a list of tuples, a walk from the end -/
abbrev rLen (K : PySem.W.Frag) : List V → Hp → VK → Prop := fun xs H Q => ∃ p ys, xs = [.ref p] ∧ (SqL K H p ys ∨ SqT K H p ys) ∧ Q (.int ys.length) H
theorem lexLt_self : ∀ a : List Int, HT.lexLt a a = false
  | [] => rfl
  | x :: r => by rw [HT.lexLt_cons, if_pos rfl]; exact lexLt_self r
theorem lexLt_trans : ∀ {a b c : List Int}, HT.lexLt a b = true → HT.lexLt b c = true → HT.lexLt a c = true
  | [], [], _, h, _ => by cases h
  | [], _ :: _, [], _, h => by cases h
  | [], _ :: _, _ :: _, _, _ => rfl
  | _ :: _, [], _, h, _ => by cases h
  | _ :: _, _ :: _, [], _, h => by cases h
  | x :: a, y :: b, z :: c, h, g => by
    rw [HT.lexLt_cons] at h g ⊢
    by_cases e : x = y
    · subst e
      rw [if_pos rfl] at h
      by_cases e2 : x = z
      · subst e2
        rw [if_pos rfl] at g ⊢
        exact lexLt_trans h g
      · rw [if_neg e2] at g ⊢
        exact g
    · rw [if_neg e] at h
      have h := of_decide_eq_true h
      by_cases e2 : y = z
      · subst e2
        rw [if_neg e]
        exact decide_eq_true h
      · rw [if_neg e2] at g
        have g := of_decide_eq_true g
        rw [if_neg (by omega)]
        exact decide_eq_true (by omega)
theorem best_least (f : Nat → List Int) : ∀ k, argBest (fun i j => HT.lexLt (f i) (f j)) k ≤ k ∧ ∀ j, j ≤ k → HT.lexLt (f j) (f (argBest (fun i j => HT.lexLt (f i) (f j)) k)) = false
  | 0 => ⟨Nat.le_refl _, fun j h => by
    have e : j = 0 := by omega
    subst e
    exact lexLt_self _⟩
  | k + 1 => by
    obtain ⟨h1, h2⟩ := best_least f k
    unfold argBest
    cases e : HT.lexLt (f (k + 1)) (f (argBest (fun i j => HT.lexLt (f i) (f j)) k)) with
    | true =>
      simp only [if_true]
      refine ⟨Nat.le_refl _, fun j hj => ?_⟩
      by_cases q : j = k + 1
      · rw [q]; exact lexLt_self _
      · cases e2 : HT.lexLt (f j) (f (k + 1)) with
        | false => rfl
        | true =>
          have := lexLt_trans e2 e
          rw [h2 j (by omega)] at this
          cases this
    | false =>
      simp only [Bool.false_eq_true, if_false]
      refine ⟨Nat.le_succ_of_le h1, fun j hj => ?_⟩
      by_cases q : j = k + 1
      · rw [q]; exact e
      · exact h2 j (by omega)
/-- min(ts), ts a list of tuples of whole numbers: one of them that none is less than -/
def rMinT (K : PySem.W.Frag) : List V → Hp → VK → Prop := fun vs H Q => ∃ (a : Addr) (ts : List (Addr × List Int)), vs = [V.ref a] ∧ SqL K H a (refs ts) ∧ 0 < ts.length ∧ (∀ t ∈ ts, SqT K H t.1 (t.2.map V.int)) ∧
  ∀ t, t ∈ ts → (∀ u ∈ ts, HT.lexLt u.2 t.2 = false) → Q (.ref t.1) H
theorem cr_minT {X : Cx} (hc : X.calm = true) (hu : X.A.units + 1 < cLine) : CallR X (.builtin "min") (rMinT X.K) := by
  intro pins s σ H vs us Q I r h
  obtain ⟨a, ts, rfl, hs, hne, ht, q⟩ := h
  obtain ⟨its, rv, hl, _⟩ := I.list hs
  rw [Vals.ref1 r]
  have hlen : its.length = ts.length := by
    have e := rv.length
    unfold refs at e
    rw [List.length_map] at e
    exact e.symm
  have hat : ∀ (i : Nat) (v : Value), its.toArray[i]? = some v → ∃ t, ts[i]? = some t ∧ v = .ref t.1 := by
    intro i v hv
    have hi : i < its.length := by
      rw [List.getElem?_toArray] at hv
      exact (List.getElem?_eq_some_iff.mp hv).1
    have hi2 : i < ts.length := by omega
    have ex : (refs ts)[i]? = some (V.ref ts[i].1) := by
      unfold refs
      rw [List.getElem?_map, List.getElem?_eq_getElem hi2]
      rfl
    obtain ⟨u, hu, ru⟩ := rv.get ex
    rw [List.getElem?_toArray, hu] at hv
    cases hv
    cases ru
    exact ⟨ts[i], List.getElem?_eq_getElem hi2, rfl⟩
  refine PySem.call_min_walkH (PySem.W.iter_listW (A := X.A.in1) (I.ok.hd hc) hl.isList fun s₂ e W st hfp hw hk => ?_)
  refine ⟨_, _, _, _, _, _, _, s.heap, fun i j => HT.lexLt ((ts.map (·.2)).getD i []) ((ts.map (·.2)).getD j []), rfl, W, st, hfp, by rw [List.size_toArray]; omega, hw, hk, ?_, fun v s' hP m => ?_⟩
  · intro i j vi vj s' Q' E hk' hi hj hq
    obtain ⟨t, e1, rfl⟩ := hat i vi hi
    obtain ⟨u, e2, rfl⟩ := hat j vj hj
    obtain ⟨i1, r1, ⟨o1, a1, b1, n1, c1⟩, _⟩ := I.tuple (ht t (List.mem_of_getElem? e1))
    obtain ⟨i2, r2, ⟨o2, a2, b2, n2, c2⟩, _⟩ := I.tuple (ht u (List.mem_of_getElem? e2))
    have d1 : (ts.map (·.2)).getD i [] = t.2 := by rw [List.getD_eq_getElem?_getD, List.getElem?_map, e1]; rfl
    have d2 : (ts.map (·.2)).getD j [] = u.2 := by rw [List.getD_eq_getElem?_getD, List.getElem?_map, e2]; rfl
    simp only [d1, d2] at hq
    exact HT.lt_tupInts (A := X.A.in1) (items := i1.toArray) (items2 := i2.toArray) ⟨o1, hk' _ _ a1, b1, n1, c1⟩ ⟨o2, hk' _ _ a2, b2, n2, c2⟩ (intsAre_of r1) (intsAre_of r2) hu hq
  · obtain ⟨h', tk, rfl, hk'⟩ := PySem.W.moved_old e rfl m
    obtain ⟨t, e1, rfl⟩ := hat _ v hP
    refine ⟨.ref t.1, H, I.kept hk', rfl, q t (List.mem_of_getElem? e1) fun u mu => ?_⟩
    obtain ⟨j, hj⟩ := List.getElem?_of_mem mu
    have hj2 := (List.getElem?_eq_some_iff.mp hj).1
    have key := (best_least (fun i => (ts.map (·.2)).getD i []) (its.toArray.size - 1)).2 j (by rw [List.size_toArray]; omega)
    have d1 : (ts.map (·.2)).getD j [] = u.2 := by rw [List.getD_eq_getElem?_getD, List.getElem?_map, hj]; rfl
    have d2 : (ts.map (·.2)).getD (argBest (fun i j => HT.lexLt ((ts.map (·.2)).getD i []) ((ts.map (·.2)).getD j [])) (its.toArray.size - 1)) [] = t.2 := by
      rw [List.getD_eq_getElem?_getD, List.getElem?_map, e1]; rfl
    rw [d1, d2] at key
    exact key
/-- the turns of reversed(list), for the for loop -/
theorem for_rev {K : PySem.W.Frag} {a : Addr} {xs : List V} {g : TG} {tb : TS} {D : Ends} {σ : L2.St} {H : Hp} (Pv : Nat → L2.St → Hp → Prop) (h0 : Pv 0 σ H) (hl : ∀ i σ H, i ≤ xs.length → Pv i σ H → SqL K H a xs)
    (hs : ∀ i x σ H, i < xs.length → xs[xs.length - 1 - i]? = some x → Pv i σ H → g x σ H fun σ2 H2 => tb { D with nx := Pv (i + 1), ct := Pv (i + 1), bk := D.nx } σ2 H2) (hd : ∀ σ H, Pv xs.length σ H → D.nx σ H) :
    ∃ W : Nat → Nat → L2.St → Hp → Prop, (∃ m, W 0 m σ H) ∧ ∀ i m σ H, W i m σ H →
      ((Itv K a xs.length).stop i H ∧ D.nx σ H) ∨ ((Itv K a xs.length).go i H ∧ ∃ N : L2.St → Hp → Prop, (∀ σ' H', N σ' H' → ∃ m', m' < m ∧ W (i + 1) m' σ' H') ∧ ∀ x H', (Itv K a xs.length).yld i H x H' → g x σ H' fun σ2 H2 => tb { D with nx := N, ct := N, bk := D.nx } σ2 H2) := by
  refine ⟨fun i m σ H => m = xs.length - i ∧ i ≤ xs.length ∧ Pv i σ H, ⟨xs.length, by simp, Nat.zero_le _, h0⟩, ?_⟩
  rintro i m σ H ⟨rfl, hi, p⟩
  have q := hl i σ H hi p
  by_cases hlt : i < xs.length
  · refine .inr ⟨⟨hlt, xs, xs[xs.length - 1 - i], q, by rw [List.getElem?_eq_getElem (by omega)]⟩, Pv (i + 1), fun σ' H' p' => ⟨xs.length - (i + 1), by omega, rfl, hlt, p'⟩, fun x H' y => ?_⟩
    obtain ⟨e, y⟩ := y
    subst e
    exact hs i x σ _ hlt (y xs q) p
  · have e : i = xs.length := by omega
    subst e
    exact .inl ⟨Nat.le_refl _, hd σ H p⟩
/-- a list's whole numbers, walked by a comprehension that keeps some -/
theorem natI_refl (xs : List Nat) : (natI xs).map V.int = xs.map fun (n : Nat) => V.int (n : Int) := by
  unfold natI
  rw [List.map_map]
  rfl
end Cs

namespace Cs
open PySem PySem.Spec PyProof.Rows L2
section
variable {P : Program} {w : World} {K : PySem.W.Frag} {mg : Str → Option Value} {base : Heap} {C : Cl}
abbrev s_due_by : Stmt := topS 17
theorem sc_due_by : FnScope ["plan", "day", "commitment"] ["plan", "day"] (defScope s_due_by) := ⟨rfl, rfl, rfl, by decide +kernel, rfl, by decide +kernel, by decide +kernel⟩
def sp_due_by (C : Cl) : Sp := fun vs H Q _ => ∃ (a ld lc : Addr) (p : Plr) (t : Nat), vs = [.ref a, .int (t : Nat)] ∧ IsPlan C H a ld lc p ∧
  ∀ H', Same H H' → Q (.int (Km549.dueBy p t : Nat)) H'
theorem due_sum (p : Plr) (cs : List (Addr × Cmt)) (e : p.commitments = cs.map (·.2)) (t : Nat) :
    (cs.filterMap fun q => if q.2.due ≤ t then some (V.int (q.2.amount : Nat)) else none) = (((p.commitments.filter fun c => decide (c.due ≤ t)).map fun c => c.amount).map fun (x : Nat) => (x : Int)).map V.int := by
  rw [e]
  clear e
  induction cs with
  | nil => rfl
  | cons q r ih =>
    by_cases h : q.2.due ≤ t
    · simp [List.filterMap_cons, h, ih]
    · simp [List.filterMap_cons, h, ih]
theorem ok_due_by {f : Addr} {fd : FuncData} (T : Txt K mg C) (F : Fun K "due_by" "due_by" s_due_by f fd) : FnOk P w K mg base CX0 1 f fd ["plan", "day"] (sp_due_by C) := by
  refine F.ok sc_due_by (fun vs H Q E h => ?_) (fun cdv A outer s H vs Q E hr h => ?_)
  · obtain ⟨a, ld, lc, p, t, rfl, _⟩ := h
    rfl
  · refine ⟨_, (pss_one (ps_ret (pe_callB (cr_sum rfl) (by rfl) T.n_sum (by decide +kernel) (pa_cons (pe_lc (own := [("commitment", 2)]) (g := gName 2) (tt := (tTest (tOp bLe (tFld K (tVar 2) "due") (tVar 1)))) (te := (tFld K (tVar 2) "amount")) rfl sc_due_by.nd (pi_list (pe_fld (pv 0) rfl)) (blkOk_by (N := ["plan", "day", "commitment"]) (sc := defScope s_due_by) (by decide +kernel)) (fun _ _ _ _ _ => pg_name (i := 2) sc_due_by.nd rfl (Or.inl rfl)) (fun _ _ _ _ _ => pts_one (pt_cmpR op_le (pe_fld (pv 2) rfl) (pv 1) (nomark _))) (fun _ _ _ _ _ => (pe_fld (pv 2) rfl))) pa_nil)))), ?_⟩
    obtain ⟨a, ld, lc, p, t, rfl, hp, k⟩ := h
    obtain ⟨⟨dx, ds, cs, h⟩, f⟩ := hp
    refine ⟨_, rfl, a, C.P, dx, _, _, rfl, h.ob, T.clP, T.naP _ (by simp), lkP_commitments, _, rfl, ⟨_, SqL.of h.hc⟩, fun D hD => ?_⟩
    refine lc_keep (K := K) (its := cs) (toV := fun q => V.ref q.1) (fun q => if q.2.due ≤ t then some (V.int (q.2.amount : Nat)) else none) (SqL.of h.hc) hD ?_ ?_ ?_
    · have := f.nc
      rw [h.ec, List.length_map] at this
      exact small1000 (by omega)
    · intro i q H' Qy Qn hi s1 hy hn
      obtain ⟨dx2, hq⟩ := h.cm q (List.mem_of_getElem? hi)
      have hq := s1 _ _ hq
      refine ⟨rfl, _, rfl, q.1, C.C, dx2, _, _, rfl, hq, T.clC, T.naC _ (by simp), lkC_due, _, rfl, _, _, rfl, rfl, _, rfl, ?_⟩
      by_cases c : q.2.due ≤ t
      · refine ifT (Int.ofNat_le.mpr c) ?_
        exact ⟨_, rfl, q.1, C.C, dx2, _, _, rfl, hq, T.clC, T.naC _ (by simp), lkC_amount, hy _ _ (if_pos c) (Same.refl _)⟩
      · refine ifF (fun z => c (Int.ofNat_le.mp z)) ?_
        exact hn _ (if_neg c) (Same.refl _)
    · intro H' s1 hl
      rw [due_sum p cs h.ec t] at hl
      refine ⟨D, _, rfl, SqL.of hl, ?_⟩
      rw [cast_sum, ← sum_eq]
      exact k H' s1
abbrev s_certain_supply : Stmt := topS 16
theorem sc_certain_supply : FnScope ["plan", "k", "day", "amounts", "kept", "delivery"] ["plan", "k", "day"] (defScope s_certain_supply) := ⟨rfl, rfl, rfl, by decide +kernel, rfl, by decide +kernel, by decide +kernel⟩
def sp_certain_supply (C : Cl) : Sp := fun vs H Q _ => ∃ (a ld lc : Addr) (p : Plr) (k t : Nat), vs = [.ref a, .int (k : Nat), .int (t : Nat)] ∧ IsPlan C H a ld lc p ∧
  ∀ H', Same H H' → Q (.int (Km549.certainSupply p k t : Nat)) H'
theorem dlv_by (p : Plr) (ds : List (Addr × Dlv)) (e : p.deliveries = ds.map (·.2)) (t : Nat) :
    (ds.filterMap fun q => if q.2.latest ≤ t then some (V.int (q.2.amount : Nat)) else none) = ((Km549.deliveriesBy p t).map fun (x : Nat) => (x : Int)).map V.int := by
  unfold Km549.deliveriesBy
  rw [e]
  clear e
  induction ds with
  | nil => rfl
  | cons q r ih =>
    by_cases h : q.2.latest ≤ t
    · simp [List.filterMap_cons, h, ih]
    · simp [List.filterMap_cons, h, ih]
theorem cut_kept (ns : List Int) (k : Nat) : cutV (ns.map V.int) none (some (if 0 > ((ns.map V.int).length : Int) - (k : Int) then 0 else ((ns.map V.int).length : Int) - (k : Int))) = (ns.take (ns.length - k)).map V.int := by
  have e : (if 0 > ((ns.map V.int).length : Int) - (k : Int) then 0 else ((ns.map V.int).length : Int) - (k : Int)) = ((ns.length - k : Nat) : Int) := by
    rw [List.length_map]
    split <;> omega
  rw [e]
  unfold cutV
  rw [HT.sIx_none, HT.sIx_nat, List.length_map, List.drop_zero, Nat.sub_zero, Nat.min_eq_left (Nat.sub_le _ _), List.map_take]
theorem ok_certain_supply {f : Addr} {fd : FuncData} (T : Txt K mg C) (F : Fun K "certain_supply" "certain_supply" s_certain_supply f fd) : FnOk P w K mg base CX0 1 f fd ["plan", "k", "day"] (sp_certain_supply C) := by
  refine F.ok sc_certain_supply (fun vs H Q E h => ?_) (fun cdv A outer s H vs Q E hr h => ?_)
  · obtain ⟨a, ld, lc, p, k, t, rfl, _⟩ := h
    rfl
  · refine ⟨_, (pss_cons (ps_set (i := 3) sc_certain_supply.nd rfl (Or.inl rfl) (pe_callB cr_sortedI (by rfl) T.n_sorted (by decide +kernel) (pa_cons (pe_lc (own := [("delivery", 5)]) (g := gName 5) (tt := (tTest (tOp bLe (tFld K (tVar 5) "latest") (tVar 2)))) (te := (tFld K (tVar 5) "amount")) rfl sc_certain_supply.nd (pi_list (pe_fld (pv 0) rfl)) (blkOk_by (N := ["plan", "k", "day", "amounts", "kept", "delivery"]) (sc := defScope s_certain_supply) (by decide +kernel)) (fun _ _ _ _ _ => pg_name (i := 5) sc_certain_supply.nd rfl (Or.inl rfl)) (fun _ _ _ _ _ => pts_one (pt_cmpR op_le (pe_fld (pv 5) rfl) (pv 2) (nomark _))) (fun _ _ _ _ _ => (pe_fld (pv 5) rfl))) pa_nil)))
  (pss_cons (ps_set (i := 4) sc_certain_supply.nd rfl (Or.inl rfl) (pe_callB (call_max2 rfl) (by rfl) T.n_max (by decide +kernel) (pa_cons (pe_op op_sub (pe_callB call_len_seq (by rfl) T.n_len PySem.boot_len (pa_cons (pv 3) pa_nil)) (pv 1)) (pa_cons pe_int pa_nil))))
  (pss_one (ps_ret (pe_op op_add (pe_fld (pv 0) rfl) (pe_callB (cr_sum rfl) (by rfl) T.n_sum (by decide +kernel) (pa_cons (pe_slice sl_list (pv 3) po_none (po_some (pv 4))) pa_nil))))))), ?_⟩
    obtain ⟨a, ld, lc, p, k, t, rfl, hp, go⟩ := h
    obtain ⟨⟨dx, ds, cs, h⟩, f⟩ := hp
    refine ⟨_, rfl, a, C.P, dx, _, _, rfl, h.ob, T.clP, T.naP _ (by simp), lkP_deliveries, _, rfl, ⟨_, SqL.of h.hd⟩, fun D hD => ?_⟩
    refine lc_keep (K := K) (its := ds) (toV := fun q => V.ref q.1) (fun q => if q.2.latest ≤ t then some (V.int (q.2.amount : Nat)) else none) (SqL.of h.hd) hD ?_ ?_ ?_
    · have := f.nd
      rw [h.ed, List.length_map] at this
      exact small1000 (by omega)
    · intro i q H' Qy Qn hi s1 hy hn
      obtain ⟨dx2, hq⟩ := h.dl q (List.mem_of_getElem? hi)
      have hq := s1 _ _ hq
      refine ⟨rfl, _, rfl, q.1, C.D, dx2, _, _, rfl, hq, T.clD, T.naD _ (by simp), lkD_latest, _, rfl, _, _, rfl, rfl, _, rfl, ?_⟩
      by_cases c : q.2.latest ≤ t
      · refine ifT (Int.ofNat_le.mpr c) ?_
        exact ⟨_, rfl, q.1, C.D, dx2, _, _, rfl, hq, T.clD, T.naD _ (by simp), lkD_amount, hy _ _ (if_pos c) (Same.refl _)⟩
      · refine ifF (fun z => c (Int.ofNat_le.mp z)) ?_
        exact hn _ (if_neg c) (Same.refl _)
    · intro H1 s1 hl
      rw [dlv_by p ds h.ed t] at hl
      refine ⟨D, _, rfl, SqL.of hl, fun ns q perm rising hq => ?_⟩
      have s2 : Same H1 (upd H1 q (.lst (ns.map V.int))) := fun b u e => by rw [upd_ne (ne_of_none e hq)]; exact e
      refine ⟨_, rfl, q, _, rfl, .inl (SqL.of upd_same), _, rfl, _, _, rfl, rfl, _, _, rfl, ?_⟩
      refine ⟨_, rfl, a, C.P, dx, _, _, rfl, s2 _ _ (s1 _ _ h.ob), T.clP, T.naP _ (by simp), lkP_stock, ?_⟩
      refine ⟨_, rfl, _, rfl, _, rfl, q, _, rfl, SqL.of upd_same, fun r hr2 => ?_⟩
      refine ⟨r, ns.take (ns.length - k), rfl, SqL.of ?_, _, _, rfl, rfl, ?_⟩
      · rw [upd_same, cut_kept]
      · have e := take_rising perm rising k
        have e2 : (p.stock : Int) + (ns.take (ns.length - k)).sum = (Km549.certainSupply p k t : Nat) := by
          rw [e]
          unfold Km549.certainSupply
          omega
        show Q (.int _) _
        rw [e2]
        exact go _ (s1.trans (s2.trans fun b u e => by rw [upd_ne (ne_of_none e hr2)]; exact e))
end
end Cs

namespace Cs
open PySem PySem.Spec PyProof.Rows L2
section
variable {P : Program} {w : World} {K : PySem.W.Frag} {mg : Str → Option Value} {base : Heap} {C : Cl}
theorem yes_then {σ : L2.St} {H : Hp} {te : TE} {Qy : V → Hp → Prop} {Qn : Hp → Prop} (h : te σ H Qy) : tYes σ H fun b H3 => if b = true then te σ H3 Qy else Qn H3 := iteT (A := te σ H Qy) (B := Qn H) h
theorem Same.new {H : Hp} {a : Addr} {o : HO} (h : H a = none) : Same H (upd H a o) := fun b u e => by rw [upd_ne (ne_of_none e h)]; exact e
abbrev s_surplus_by : Stmt := topS 18
theorem sc_surplus_by : FnScope ["plan", "k", "day"] ["plan", "k", "day"] (defScope s_surplus_by) := ⟨rfl, rfl, rfl, by decide +kernel, rfl, by decide +kernel, by decide +kernel⟩
def sp_surplus_by (C : Cl) : Sp := fun vs H Q _ => ∃ (a ld lc : Addr) (p : Plr) (k t : Nat), vs = [.ref a, .int (k : Nat), .int (t : Nat)] ∧ IsPlan C H a ld lc p ∧
  ∀ H', Same H H' → Q (.int (Km549.surplus p k t)) H'
theorem ok_surplus_by {f : Addr} {fd : FuncData} (T : Txt K mg C) (F : Fun K "surplus_by" "surplus_by" s_surplus_by f fd)
    (D1 : Def P w K mg base 1 "certain_supply" ["plan", "k", "day"] (sp_certain_supply C)) (D2 : Def P w K mg base 1 "due_by" ["plan", "day"] (sp_due_by C)) : FnOk P w K mg base CX0 2 f fd ["plan", "k", "day"] (sp_surplus_by C) := by
  refine F.ok sc_surplus_by (fun vs H Q E h => ?_) (fun cdv A outer s H vs Q E hr h => ?_)
  · obtain ⟨a, ld, lc, p, k, t, rfl, _⟩ := h
    rfl
  · obtain ⟨_, _, G_certain_supply, m_certain_supply, k_certain_supply, b_certain_supply⟩ := D1.ex
    obtain ⟨_, _, G_due_by, m_due_by, k_due_by, b_due_by⟩ := D2.ex
    have hr_certain_supply := hr
    have hr_due_by := hr
    refine ⟨_, (pss_one (ps_ret (pe_op op_sub (pe_call G_certain_supply hr_certain_supply rfl m_certain_supply k_certain_supply b_certain_supply .nil pass0 (pa_cons (pv 0) (pa_cons (pv 1) (pa_cons (pv 2) pa_nil)))) (pe_call G_due_by hr_due_by rfl m_due_by k_due_by b_due_by .nil pass0 (pa_cons (pv 0) (pa_cons (pv 2) pa_nil)))))), ?_⟩
    obtain ⟨a, ld, lc, p, k, t, rfl, hp, go⟩ := h
    refine ⟨_, rfl, _, rfl, _, rfl, a, ld, lc, p, k, t, rfl, hp, fun H1 s1 => ?_⟩
    refine ⟨_, rfl, _, rfl, a, ld, lc, p, t, rfl, hp.same s1, fun H2 s2 => ?_⟩
    exact ⟨_, _, rfl, rfl, go _ (s1.trans s2)⟩
abbrev s_first_short_day : Stmt := topS 19
theorem sc_first_short_day : FnScope ["plan", "k", "day"] ["plan", "k"] (defScope s_first_short_day) := ⟨rfl, rfl, rfl, by decide +kernel, rfl, by decide +kernel, by decide +kernel⟩
def optV : Option Nat → V
  | none => .non
  | some d => .int (d : Nat)
def sp_first_short_day (C : Cl) : Sp := fun vs H Q _ => ∃ (a ld lc : Addr) (p : Plr) (k : Nat), vs = [.ref a, .int (k : Nat)] ∧ IsPlan C H a ld lc p ∧
  ∀ H', Same H H' → Q (optV (fsd p k)) H'
theorem ok_first_short_day {f : Addr} {fd : FuncData} (T : Txt K mg C) (F : Fun K "first_short_day" "first_short_day" s_first_short_day f fd)
    (D1 : Def P w K mg base 2 "surplus_by" ["plan", "k", "day"] (sp_surplus_by C)) : FnOk P w K mg base CX0 3 f fd ["plan", "k"] (sp_first_short_day C) := by
  refine F.ok sc_first_short_day (fun vs H Q E h => ?_) (fun cdv A outer s H vs Q E hr h => ?_)
  · obtain ⟨a, ld, lc, p, k, rfl, _⟩ := h
    rfl
  · obtain ⟨_, _, G_surplus_by, m_surplus_by, k_surplus_by, b_surplus_by⟩ := D1.ex
    have hr_surplus_by := hr
    refine ⟨_, (pss_cons (ps_for PassesOwn.never rfl (pi_range2 rfl T.n_range (pa_cons (pe_fld (pv 0) rfl) (pa_cons (pe_op op_add (pe_cst rfl T.c_LAST_DAY) pe_int) pa_nil))) (pg_name (i := 2) sc_first_short_day.nd rfl (Or.inl rfl))
    (pss_one (ps_if (pt_cmpR op_lt (pe_call G_surplus_by hr_surplus_by rfl m_surplus_by k_surplus_by b_surplus_by .nil pass0 (pa_cons (pv 0) (pa_cons (pv 1) (pa_cons (pv 2) pa_nil)))) pe_int (nomark _))
    (pss_one (ps_ret (pv 2)))
    pss_nil)))
  (pss_one (ps_ret pe_non))), ?_⟩
    obtain ⟨a, ld, lc, p, k, rfl, hp, go⟩ := h
    obtain ⟨⟨dx, ds, cs, h⟩, f⟩ := id hp
    have ftd := f.td
    refine ⟨_, rfl, a, C.P, dx, _, _, rfl, h.ob, T.clP, T.naP _ (by simp), lkP_today, _, _, rfl, rfl, _, _, rfl, ⟨by omega, by omega, by omega, by omega⟩, ?_⟩
    refine for_range (lo := (p.today : Int)) (n := ((30 : Int) + 1 - (p.today : Int)).toNat) (fun i σ H' => ∃ v : Option V, σ = [some (.ref a), some (.int (k : Nat)), v] ∧ Same H H' ∧ ∀ t, p.today ≤ t → t < p.today + i → 0 ≤ Km549.surplus p k t) ⟨none, rfl, Same.refl _, fun t h1 h2 => by omega⟩ ?_ ?_
    · rintro i σ H' hi ⟨v, rfl, s1, hall⟩
      refine ⟨_, rfl, _, rfl, _, rfl, a, ld, lc, p, k, p.today + i, rfl, hp.same s1, fun H1 s2 => ?_⟩
      refine ⟨_, _, rfl, rfl, _, rfl, ?_⟩
      refine ifD (fun c => ?_) (fun c => ?_)
      · refine ⟨_, rfl, ?_⟩
        have e := go _ (s1.trans s2)
        rw [fsd_some (p := p) (k := k) (d := p.today + i) (by omega) (by omega) c hall] at e
        exact e
      · refine ⟨_, rfl, s1.trans s2, fun t h1 h2 => ?_⟩
        by_cases e : t = p.today + i
        · rw [e]; omega
        · exact hall t h1 (by omega)
    · rintro σ H' ⟨v, rfl, s1, hall⟩
      have e := go _ s1
      rw [fsd_none (p := p) (k := k) (fun t h1 h2 => hall t h1 (by omega))] at e
      exact e
theorem optV_non (o : Option Nat) : decide (optV o = .non) = decide (o = none) := by
  cases o with
  | none => rfl
  | some d => rfl
abbrev s_covered_for : Stmt := topS 20
theorem sc_covered_for : FnScope ["plan", "k"] ["plan", "k"] (defScope s_covered_for) := ⟨rfl, rfl, rfl, by decide +kernel, rfl, by decide +kernel, by decide +kernel⟩
def sp_covered_for (C : Cl) : Sp := fun vs H Q _ => ∃ (a ld lc : Addr) (p : Plr) (k : Nat), vs = [.ref a, .int (k : Nat)] ∧ IsPlan C H a ld lc p ∧
  ∀ H', Same H H' → Q (.bl (Km549.isCovered p k)) H'
theorem ok_covered_for {f : Addr} {fd : FuncData} (T : Txt K mg C) (F : Fun K "covered_for" "covered_for" s_covered_for f fd)
    (D1 : Def P w K mg base 3 "first_short_day" ["plan", "k"] (sp_first_short_day C)) : FnOk P w K mg base CX0 4 f fd ["plan", "k"] (sp_covered_for C) := by
  refine F.ok sc_covered_for (fun vs H Q E h => ?_) (fun cdv A outer s H vs Q E hr h => ?_)
  · obtain ⟨a, ld, lc, p, k, rfl, _⟩ := h
    rfl
  · obtain ⟨_, _, G_first_short_day, m_first_short_day, k_first_short_day, b_first_short_day⟩ := D1.ex
    have hr_first_short_day := hr
    refine ⟨_, (pss_one (ps_ret (pe_cmp (pc_isN (pe_call G_first_short_day hr_first_short_day rfl m_first_short_day k_first_short_day b_first_short_day .nil pass0 (pa_cons (pv 0) (pa_cons (pv 1) pa_nil)))) rfl))), ?_⟩
    obtain ⟨a, ld, lc, p, k, rfl, hp, go⟩ := h
    refine ⟨_, rfl, _, rfl, a, ld, lc, p, k, rfl, hp, fun H1 s1 => ?_⟩
    show Q (.bl (decide (optV (fsd p k) = .non))) _
    rw [optV_non, ← covered_fsd]
    exact go _ s1
abbrev s_available_for : Stmt := topS 21
theorem sc_available_for : FnScope ["plan", "k", "day", "later"] ["plan", "k", "day"] (defScope s_available_for) := ⟨rfl, rfl, rfl, by decide +kernel, rfl, by decide +kernel, by decide +kernel⟩
def sp_available_for (C : Cl) : Sp := fun vs H Q _ => ∃ (a ld lc : Addr) (p : Plr) (k t : Nat), vs = [.ref a, .int (k : Nat), .int (t : Nat)] ∧ IsPlan C H a ld lc p ∧ p.today ≤ t ∧ t ≤ 30 ∧
  ∀ H', Same H H' → Q (.int (Km549.available p k t)) H'
theorem ok_available_for {f : Addr} {fd : FuncData} (T : Txt K mg C) (F : Fun K "available_for" "available_for" s_available_for f fd)
    (D1 : Def P w K mg base 2 "surplus_by" ["plan", "k", "day"] (sp_surplus_by C)) : FnOk P w K mg base CX0 3 f fd ["plan", "k", "day"] (sp_available_for C) := by
  refine F.ok sc_available_for (fun vs H Q E h => ?_) (fun cdv A outer s H vs Q E hr h => ?_)
  · obtain ⟨a, ld, lc, p, k, t, rfl, _⟩ := h
    rfl
  · obtain ⟨_, _, G_surplus_by, m_surplus_by, k_surplus_by, b_surplus_by⟩ := D1.ex
    have hr_surplus_by := hr
    refine ⟨_, (pss_one (ps_ret (pe_callB (cr_min rfl) (by rfl) T.n_min (by decide +kernel) (pa_cons (pe_lc (own := [("later", 3)]) (g := gName 3) (te := (tCall (sp_surplus_by C) [] E0 (tCons (tVar 0) (tCons (tVar 1) (tCons (tVar 3) tNil))))) rfl sc_available_for.nd (pi_range2 rfl T.n_range (pa_cons (pv 2) (pa_cons (pe_op op_add (pe_cst rfl T.c_LAST_DAY) pe_int) pa_nil))) (blkOk_by (N := ["plan", "k", "day", "later"]) (sc := defScope s_available_for) (by decide +kernel)) (fun _ _ _ _ _ => pg_name (i := 3) sc_available_for.nd rfl (Or.inl rfl)) (fun _ _ _ _ _ => pts_nil) (fun _ _ _ _ _ => (pe_call G_surplus_by hr_surplus_by rfl m_surplus_by k_surplus_by b_surplus_by .nil pass0 (pa_cons (pv 0) (pa_cons (pv 1) (pa_cons (pv 3) pa_nil)))))) pa_nil)))), ?_⟩
    obtain ⟨a, ld, lc, p, k, d, rfl, hp, h1, h2, go⟩ := h
    refine ⟨_, rfl, _, _, rfl, rfl, _, _, rfl, ⟨by omega, by omega, by omega, by omega⟩, fun D hD => ?_⟩
    refine lc_range (lo := (d : Int)) (n := ((30 : Int) + 1 - (d : Int)).toNat) (fun i H' => Same H H' ∧ H' D = some (.lst (((List.range' d i).map (Km549.surplus p k)).map V.int))) ⟨Same.new hD, upd_same⟩ ?_ ?_
    · rintro i H' hi ⟨s1, hl⟩
      refine ⟨rfl, yes_then ⟨_, rfl, _, rfl, _, rfl, a, ld, lc, p, k, d + i, rfl, hp.same s1, fun H1 s2 => ?_⟩⟩
      refine ⟨_, s2 _ _ hl, ?_, ?_, ?_⟩
      · rw [List.length_map, List.length_map, List.length_range']
        exact small1000 (by omega)
      · intro b u e
        rw [upd_ne (ne_of_none e hD)]
        exact s2 b u (s1 b u e)
      · rw [upd_same, List.range'_concat, List.map_append, List.map_append, Nat.one_mul]
        rfl
    · rintro H' ⟨s1, hl⟩
      refine ⟨D, _, rfl, SqL.of hl, ?_, fun m hm hle => ?_⟩
      · rw [List.length_map, List.length_range']; omega
      · have en : ((30 : Int) + 1 - (d : Int)).toNat = 31 - d := by omega
        rw [en] at hm hle
        have e := avail_eq (p := p) (k := k) h1 h2 hm hle
        have q := go _ s1
        rw [e] at q
        exact q
abbrev s_most_failures_covered : Stmt := topS 22
theorem sc_most_failures_covered : FnScope ["plan", "k"] ["plan"] (defScope s_most_failures_covered) := ⟨rfl, rfl, rfl, by decide +kernel, rfl, by decide +kernel, by decide +kernel⟩
def sp_most_failures_covered (C : Cl) : Sp := fun vs H Q _ => ∃ (a ld lc : Addr) (p : Plr), vs = [.ref a] ∧ IsPlan C H a ld lc p ∧
  ∀ H', Same H H' → Q (optV (Km549.tolerance p)) H'
theorem ok_most_failures_covered {f : Addr} {fd : FuncData} (T : Txt K mg C) (F : Fun K "most_failures_covered" "most_failures_covered" s_most_failures_covered f fd)
    (D1 : Def P w K mg base 4 "covered_for" ["plan", "k"] (sp_covered_for C)) : FnOk P w K mg base CX0 5 f fd ["plan"] (sp_most_failures_covered C) := by
  refine F.ok sc_most_failures_covered (fun vs H Q E h => ?_) (fun cdv A outer s H vs Q E hr h => ?_)
  · obtain ⟨a, ld, lc, p, rfl, _⟩ := h
    rfl
  · obtain ⟨_, _, G_covered_for, m_covered_for, k_covered_for, b_covered_for⟩ := D1.ex
    have hr_covered_for := hr
    refine ⟨_, (pss_cons (ps_for PassesOwn.never rfl (pi_range3 rfl T.n_range (pa_cons (pe_callB call_len_seq (by rfl) T.n_len PySem.boot_len (pa_cons (pe_fld (pv 0) rfl) pa_nil)) (pa_cons (pe_un un_neg pe_int) (pa_cons (pe_un un_neg pe_int) pa_nil)))) (pg_name (i := 1) sc_most_failures_covered.nd rfl (Or.inl rfl))
    (pss_one (ps_if (pt_val (pe_call G_covered_for hr_covered_for rfl m_covered_for k_covered_for b_covered_for .nil pass0 (pa_cons (pv 0) (pa_cons (pv 1) pa_nil))))
    (pss_one (ps_ret (pv 1)))
    pss_nil)))
  (pss_one (ps_ret pe_non))), ?_⟩
    obtain ⟨a, ld, lc, p, rfl, hp, go⟩ := h
    obtain ⟨⟨dx, ds, cs, h⟩, f⟩ := id hp
    have fnd := f.nd
    have len : (refs ds).length = p.deliveries.length := by unfold refs; rw [h.ed, List.length_map, List.length_map]
    refine ⟨_, rfl, a, C.P, dx, _, _, rfl, h.ob, T.clP, T.naP _ (by simp), lkP_deliveries, ld, _, rfl, .inl (SqL.of h.hd), _, rfl, _, rfl, ?_⟩
    rw [len]
    refine ⟨_, _, _, (((p.deliveries.length : Nat) : Int) - (-1)).toNat, rfl, RgC.neg (by omega) (by omega) (by omega) (by omega), ?_⟩
    refine for_rangeC (lo := ((p.deliveries.length : Nat) : Int)) (c := -1) (fun i σ H' => ∃ v : Option V, σ = [some (.ref a), v] ∧ Same H H' ∧ ∀ j, p.deliveries.length < j + i → j ≤ p.deliveries.length → Km549.isCovered p j = false) ⟨none, rfl, Same.refl _, fun t h1 h2 => by omega⟩ ?_ ?_
    · rintro i σ H' hi ⟨v, rfl, s1, hall⟩
      have ek : ((p.deliveries.length : Nat) : Int) + (i : Nat) * (-1) = ((p.deliveries.length - i : Nat) : Int) := by omega
      rw [ek]
      refine ⟨_, rfl, _, rfl, a, ld, lc, p, p.deliveries.length - i, rfl, hp.same s1, fun H1 s2 => ?_⟩
      refine ⟨_, rfl, ?_⟩
      cases b : Km549.isCovered p (p.deliveries.length - i) with
      | true =>
        refine iteT ⟨_, rfl, ?_⟩
        have e := go _ (s1.trans s2)
        rw [tol_some (by omega) b fun j a b => hall j (by omega) b] at e
        exact e
      | false =>
        refine iteF ⟨_, rfl, s1.trans s2, fun j h1 h2 => ?_⟩
        by_cases e : j = p.deliveries.length - i
        · rw [e]; exact b
        · exact hall j (by omega) h2
    · rintro σ H' ⟨v, rfl, s1, hall⟩
      have e := go _ s1
      rw [tol_none fun j hj => hall j (by omega) hj] at e
      exact e
abbrev s_safe_numbers : Stmt := topS 23
theorem sc_safe_numbers : FnScope ["plan", "k", "numbers", "short", "number"] ["plan", "k"] (defScope s_safe_numbers) := ⟨rfl, rfl, rfl, by decide +kernel, rfl, by decide +kernel, by decide +kernel⟩
def sp_safe_numbers (C : Cl) : Sp := fun vs H Q _ => ∃ (a ld lc : Addr) (p : Plr) (k : Nat), vs = [.ref a, .int (k : Nat)] ∧ IsPlan C H a ld lc p ∧
  ∀ H' l, Same H H' → H l = none → H' l = some (.lst ((natI (safeL p k)).map V.int)) → Q (.ref l) H'
theorem rg_nat (n : Nat) : rgV 0 ((n : Nat) : Int) = (List.range n).map fun (i : Nat) => V.int (i : Int) := by
  unfold rgV
  rw [show (((n : Nat) : Int) - 0).toNat = n by omega]
  exact List.map_congr_left fun i _ => congrArg V.int (Int.zero_add _)
theorem keep_if {α β : Type} (P : α → Bool) (g : α → β) : ∀ l : List α, (l.filterMap fun x => if P x = true then some (g x) else none) = (l.filter P).map g
  | [] => rfl
  | x :: r => by
    rw [List.filterMap_cons, List.filter_cons]
    by_cases h : P x = true
    · rw [if_pos h, if_pos h, List.map_cons, keep_if P g r]
    · rw [if_neg h, if_neg h, keep_if P g r]
theorem ok_safe_numbers {f : Addr} {fd : FuncData} (T : Txt K mg C) (F : Fun K "safe_numbers" "safe_numbers" s_safe_numbers f fd)
    (D1 : Def P w K mg base 3 "first_short_day" ["plan", "k"] (sp_first_short_day C)) : FnOk P w K mg base CX0 4 f fd ["plan", "k"] (sp_safe_numbers C) := by
  refine F.ok sc_safe_numbers (fun vs H Q E h => ?_) (fun cdv A outer s H vs Q E hr h => ?_)
  · obtain ⟨a, ld, lc, p, k, rfl, _⟩ := h
    rfl
  · obtain ⟨_, _, G_first_short_day, m_first_short_day, k_first_short_day, b_first_short_day⟩ := D1.ex
    have hr_first_short_day := hr
    refine ⟨_, (pss_cons (ps_set (i := 2) sc_safe_numbers.nd rfl (Or.inl rfl) (pe_listRg rfl rfl T.n_list (prg_1 rfl T.n_range (pe_callB call_len_seq (by rfl) T.n_len PySem.boot_len (pa_cons (pe_fld (pv 0) rfl) pa_nil)))))
  (pss_cons (ps_set (i := 3) sc_safe_numbers.nd rfl (Or.inr rfl) (pe_call G_first_short_day hr_first_short_day rfl m_first_short_day k_first_short_day b_first_short_day .nil pass0 (pa_cons (pv 0) (pa_cons (pv 1) pa_nil))))
  (pss_cons (ps_if (pt_cmpR op_isN (pv 3) pe_non (nomark _))
    (pss_one (ps_ret (pv 2)))
    pss_nil)
  (pss_one (ps_ret (pe_lc (own := [("number", 4)]) (g := gName 4) (tt := (tTest (tOp bLt (tFld K (tOp (rIxL K) (tFld K (tVar 0) "commitments") (tVar 4)) "due") (tVar 3)))) (te := (tVar 4)) rfl sc_safe_numbers.nd (pi_list (pv 2)) (blkOk_by (N := ["plan", "k", "numbers", "short", "number"]) (sc := defScope s_safe_numbers) (by decide +kernel)) (fun _ _ _ _ _ => pg_name (i := 4) sc_safe_numbers.nd rfl (Or.inl rfl)) (fun _ _ _ _ _ => pts_one (pt_cmpR op_lt (pe_fld (pe_ix ix_list (pe_fld (pv 0) rfl) (pv 4) (fun _ _ => rfl)) rfl) (pv 3) (nomark _))) (fun _ _ _ _ _ => (pv 4)))))))), ?_⟩
    obtain ⟨a, ld, lc, p, k, rfl, hp, go⟩ := h
    obtain ⟨⟨dx, ds, cs, h⟩, f⟩ := id hp
    have fnc := f.nc
    have len : (refs cs).length = p.commitments.length := by unfold refs; rw [h.ec, List.length_map, List.length_map]
    refine ⟨_, rfl, a, C.P, dx, _, _, rfl, h.ob, T.clP, T.naP _ (by simp), lkP_commitments, lc, _, rfl, .inl (SqL.of h.hc), _, rfl, ?_⟩
    rw [len]
    refine ⟨RgOk.of_le (by omega) (by omega) (by omega) (by omega), fun l hl => ?_⟩
    rw [rg_nat]
    have s1 := Same.new (o := .lst ((List.range p.commitments.length).map fun (i : Nat) => V.int (i : Int))) hl
    have e1 : (upd H l (.lst ((List.range p.commitments.length).map fun (i : Nat) => V.int (i : Int)))) l = some (.lst ((List.range p.commitments.length).map fun (i : Nat) => V.int (i : Int))) := upd_same
    generalize upd H l (.lst ((List.range p.commitments.length).map fun (i : Nat) => V.int (i : Int))) = H1 at s1 e1 ⊢
    refine ⟨_, rfl, _, rfl, a, ld, lc, p, k, rfl, hp.same s1, fun H2 s2 => ?_⟩
    cases sd : fsd p k with
    | none =>
      refine ⟨_, rfl, rfl, _, rfl, iteT ⟨_, rfl, ?_⟩⟩
      refine go _ l (s1.trans s2) hl ((s2 _ _ e1).trans ?_)
      rw [safeL_none sd, natI_refl]
    | some d =>
      refine ⟨_, rfl, rfl, _, rfl, iteF ?_⟩
      have h2 := (h.same s1).same s2
      refine ⟨_, rfl, _, rfl, ⟨_, SqL.of (s2 _ _ e1)⟩, fun D hD => ?_⟩
      refine lc_keep (K := K) (its := List.range p.commitments.length) (toV := fun (i : Nat) => V.int (i : Int)) (fun i => if onC p.commitments (fun c => decide (c.due < d)) i = true then some (V.int ((i : Nat) : Int)) else none) (SqL.of (s2 _ _ e1)) hD ?_ ?_ ?_
      · rw [List.length_range]
        exact small1000 (by omega)
      · intro i j H' Qy Qn hi s3 hy hn
        obtain ⟨hlt, ej⟩ := List.getElem?_eq_some_iff.mp hi
        rw [List.length_range] at hlt
        rw [List.getElem_range] at ej
        subst ej
        have h3 := h2.same s3
        have hcs : i < cs.length := by rw [h.ec, List.length_map] at hlt; exact hlt
        obtain ⟨dq, hq⟩ := h3.cm _ (List.getElem_mem hcs)
        have hr1 : (refs cs)[i]? = some (V.ref cs[i].1) := by
          unfold refs
          rw [List.getElem?_map, List.getElem?_eq_getElem hcs]
          rfl
        have hon : onC p.commitments (fun c => decide (c.due < d)) i = decide (cs[i].2.due < d) := by
          unfold onC
          rw [h.ec, List.getElem?_map, List.getElem?_eq_getElem hcs]
          rfl
        refine ⟨rfl, _, rfl, a, C.P, dx, _, _, rfl, h3.ob, T.clP, T.naP _ (by simp), lkP_commitments, _, rfl, lc, _, _, _, rfl, rfl, SqL.of h3.hc, atI_nat hr1, cs[i].1, C.C, dq, _, _, rfl, hq, T.clC, T.naC _ (by simp), lkC_due, _, rfl, _, _, rfl, rfl, _, rfl, ?_⟩
        by_cases c : cs[i].2.due < d
        · refine ifT (Int.ofNat_lt.mpr c) ⟨_, rfl, hy _ _ (if_pos ?_) (Same.refl _)⟩
          rw [hon]
          exact decide_eq_true c
        · refine ifF (fun z => c (Int.ofNat_lt.mp z)) (hn _ (if_neg ?_) (Same.refl _))
          rw [hon, decide_eq_true_eq]
          exact c
      · intro H3 s3 hl3
        refine go _ D ((s1.trans s2).trans s3) (s1.free (s2.free hD)) (hl3.trans ?_)
        rw [safeL_some sd, natI_refl]
        refine congrArg (fun q => some (HO.lst q)) ?_
        exact keep_if _ _ _
end
end Cs

namespace Cs
open PySem PySem.Spec PyProof.Rows L2
/-- a class that makes instances -/
structure Mkr (P : Program) (w : World) (K : PySem.W.Frag) (mg : Str → Option Value) (base : Heap) (k : Nat) (C : Addr) (ps : List Str) (sp : Sp) : Prop where
  ex : ∃ f fd, Mk K C f ∧ FnOk P w K mg base CX0 k f fd ps sp ∧ Binds K fd ps []
def fresh (st : Nat) : Plr := ⟨0, st, [], [], 0, 0, 0⟩
theorem dF_new (x y z : V) : putF "latest" z (putF "earliest" y (putF "amount" x [])) = ([("amount", x), ("earliest", y), ("latest", z)] : List (Str × V)) := by
  kernel_rfl
theorem cF_new (x y : V) : putF "due" y (putF "amount" x []) = ([("amount", x), ("due", y)] : List (Str × V)) := by
  kernel_rfl
theorem pF_new (st : Nat) (ld lc : Addr) : putF "fulfilled" (.int 0) (putF "failed" (.int 0) (putF "arrived" (.int 0) (putF "commitments" (.ref lc) (putF "deliveries" (.ref ld) (putF "stock" (.int (st : Nat)) (putF "today" (.int 0) [])))))) = pF (fresh st) ld lc := by
  kernel_rfl
theorem pF_today (p : Plr) (ld lc : Addr) (n : Nat) : putF "today" (.int (n : Nat)) (pF p ld lc) = pF { p with today := n } ld lc := by
  kernel_rfl
theorem pF_stock (p : Plr) (ld lc : Addr) (n : Nat) : putF "stock" (.int (n : Nat)) (pF p ld lc) = pF { p with stock := n } ld lc := by
  kernel_rfl
theorem pF_deliveries (p : Plr) (ld lc l : Addr) : putF "deliveries" (.ref l) (pF p ld lc) = pF p l lc := by
  kernel_rfl
theorem pF_commitments (p : Plr) (ld lc l : Addr) : putF "commitments" (.ref l) (pF p ld lc) = pF p ld l := by
  kernel_rfl
theorem pF_arrived (p : Plr) (ld lc : Addr) (n : Nat) : putF "arrived" (.int (n : Nat)) (pF p ld lc) = pF { p with arrivedCount := n } ld lc := by
  kernel_rfl
theorem pF_failed (p : Plr) (ld lc : Addr) (n : Nat) : putF "failed" (.int (n : Nat)) (pF p ld lc) = pF { p with failedCount := n } ld lc := by
  kernel_rfl
theorem pF_fulfilled (p : Plr) (ld lc : Addr) (n : Nat) : putF "fulfilled" (.int (n : Nat)) (pF p ld lc) = pF { p with fulfilledCount := n } ld lc := by
  kernel_rfl
section
variable {P : Program} {w : World} {K : PySem.W.Frag} {mg : Str → Option Value} {base : Heap} {C : Cl}
abbrev s_Delivery___init__ : Stmt := inClass (topS 25) 0
theorem sc_Delivery___init__ : FnScope ["self", "amount", "earliest", "latest"] ["self", "amount", "earliest", "latest"] (defScope s_Delivery___init__) := ⟨rfl, rfl, rfl, by decide +kernel, rfl, by decide +kernel, by decide +kernel⟩
def sp_Delivery (C : Cl) : Sp := fun vs H Q _ => ∃ (x dx : Addr) (d : Dlv), vs = [.ref x, .int (d.amount : Nat), .int (d.earliest : Nat), .int (d.latest : Nat)] ∧ H x = some (.ins C.D dx []) ∧
  ∀ H', H' x = some (.ins C.D dx (dF d)) → (∀ b o, H b = some o → b ≠ x → H' b = some o) → Q .non H'
theorem ok_Delivery {f : Addr} {fd : FuncData} (T : Txt K mg C) (F : Fun K "__init__" "Delivery.__init__" s_Delivery___init__ f fd) : FnOk P w K mg base CX0 1 f fd ["self", "amount", "earliest", "latest"] (sp_Delivery C) := by
  refine F.ok sc_Delivery___init__ (fun vs H Q E h => ?_) (fun cdv A outer s H vs Q E hr h => ?_)
  · obtain ⟨x, dx, d, rfl, _⟩ := h
    rfl
  · refine ⟨_, (pss_cons (ps_fld (pv 0) (pv 1) rfl)
  (pss_cons (ps_fld (pv 0) (pv 2) rfl)
  (pss_one (ps_fld (pv 0) (pv 3) rfl)))), ?_⟩
    obtain ⟨x, dx, d, rfl, hx, go⟩ := h
    refine ⟨_, rfl, _, rfl, x, C.D, dx, _, rfl, hx, T.clD, T.naD _ (by simp), (by show 0 < 1000; decide), ?_⟩
    refine ⟨_, rfl, _, rfl, x, C.D, dx, _, rfl, upd_same, T.clD, T.naD _ (by simp), (by show 1 < 1000; decide), ?_⟩
    refine ⟨_, rfl, _, rfl, x, C.D, dx, _, rfl, upd_same, T.clD, T.naD _ (by simp), (by show 2 < 1000; decide), ?_⟩
    refine go _ (upd_same.trans (congrArg (fun q => some (HO.ins C.D dx q)) (dF_new _ _ _))) fun b o e hb => ?_
    rw [upd_ne hb, upd_ne hb, upd_ne hb]
    exact e
abbrev s_Commitment___init__ : Stmt := inClass (topS 26) 0
theorem sc_Commitment___init__ : FnScope ["self", "amount", "due"] ["self", "amount", "due"] (defScope s_Commitment___init__) := ⟨rfl, rfl, rfl, by decide +kernel, rfl, by decide +kernel, by decide +kernel⟩
def sp_Commitment (C : Cl) : Sp := fun vs H Q _ => ∃ (x dx : Addr) (d : Cmt), vs = [.ref x, .int (d.amount : Nat), .int (d.due : Nat)] ∧ H x = some (.ins C.C dx []) ∧
  ∀ H', H' x = some (.ins C.C dx (cF d)) → (∀ b o, H b = some o → b ≠ x → H' b = some o) → Q .non H'
theorem ok_Commitment {f : Addr} {fd : FuncData} (T : Txt K mg C) (F : Fun K "__init__" "Commitment.__init__" s_Commitment___init__ f fd) : FnOk P w K mg base CX0 1 f fd ["self", "amount", "due"] (sp_Commitment C) := by
  refine F.ok sc_Commitment___init__ (fun vs H Q E h => ?_) (fun cdv A outer s H vs Q E hr h => ?_)
  · obtain ⟨x, dx, d, rfl, _⟩ := h
    rfl
  · refine ⟨_, (pss_cons (ps_fld (pv 0) (pv 1) rfl)
  (pss_one (ps_fld (pv 0) (pv 2) rfl))), ?_⟩
    obtain ⟨x, dx, d, rfl, hx, go⟩ := h
    refine ⟨_, rfl, _, rfl, x, C.C, dx, _, rfl, hx, T.clC, T.naC _ (by simp), (by show 0 < 1000; decide), ?_⟩
    refine ⟨_, rfl, _, rfl, x, C.C, dx, _, rfl, upd_same, T.clC, T.naC _ (by simp), (by show 1 < 1000; decide), ?_⟩
    refine go _ (upd_same.trans (congrArg (fun q => some (HO.ins C.C dx q)) (cF_new _ _))) fun b o e hb => ?_
    rw [upd_ne hb, upd_ne hb]
    exact e
abbrev s_Plan___init__ : Stmt := inClass (topS 27) 0
theorem sc_Plan___init__ : FnScope ["self", "stock"] ["self", "stock"] (defScope s_Plan___init__) := ⟨rfl, rfl, rfl, by decide +kernel, rfl, by decide +kernel, by decide +kernel⟩
def sp_Plan (C : Cl) : Sp := fun vs H Q _ => ∃ (x dx : Addr) (st : Nat), vs = [.ref x, .int (st : Nat)] ∧ H x = some (.ins C.P dx []) ∧
  ∀ (H' : Hp) (ld lc : Addr), H' x = some (.ins C.P dx (pF (fresh st) ld lc)) → H ld = none → H lc = none → ld ≠ lc → H' ld = some (.lst []) → H' lc = some (.lst []) → (∀ b o, H b = some o → b ≠ x → H' b = some o) → Q .non H'
theorem ok_Plan {f : Addr} {fd : FuncData} (T : Txt K mg C) (F : Fun K "__init__" "Plan.__init__" s_Plan___init__ f fd) : FnOk P w K mg base CX0 1 f fd ["self", "stock"] (sp_Plan C) := by
  refine F.ok sc_Plan___init__ (fun vs H Q E h => ?_) (fun cdv A outer s H vs Q E hr h => ?_)
  · obtain ⟨x, dx, st, rfl, _⟩ := h
    rfl
  · refine ⟨_, (pss_cons (ps_fld (pv 0) pe_int rfl)
  (pss_cons (ps_fld (pv 0) (pv 1) rfl)
  (pss_cons (ps_fld (pv 0) (pe_lst pa_nil) rfl)
  (pss_cons (ps_fld (pv 0) (pe_lst pa_nil) rfl)
  (pss_cons (ps_fld (pv 0) pe_int rfl)
  (pss_cons (ps_fld (pv 0) pe_int rfl)
  (pss_one (ps_fld (pv 0) pe_int rfl)))))))), ?_⟩
    obtain ⟨x, dx, st, rfl, hx, go⟩ := h
    refine ⟨_, rfl, x, C.P, dx, _, rfl, hx, T.clP, T.naP _ (by simp), (by show 0 < 1000; decide), ?_⟩
    refine ⟨_, rfl, _, rfl, x, C.P, dx, _, rfl, upd_same, T.clP, T.naP _ (by simp), (by show 1 < 1000; decide), ?_⟩
    refine ⟨(by show 0 ≤ sizeLine; decide), fun ld nld => ?_⟩
    have e1 : ld ≠ x := fun e => by rw [e, upd_same] at nld; cases nld
    refine ⟨_, rfl, x, C.P, dx, _, rfl, (upd_ne e1.symm).trans upd_same, T.clP, T.naP _ (by simp), (by show 2 < 1000; decide), ?_⟩
    refine ⟨(by show 0 ≤ sizeLine; decide), fun lc nlc => ?_⟩
    have e2 : lc ≠ x := fun e => by rw [e, upd_same] at nlc; cases nlc
    have e3 : ld ≠ lc := fun e => by rw [← e, upd_ne e1, upd_same] at nlc; cases nlc
    refine ⟨_, rfl, x, C.P, dx, _, rfl, (upd_ne e2.symm).trans upd_same, T.clP, T.naP _ (by simp), (by show 3 < 1000; decide), ?_⟩
    refine ⟨_, rfl, x, C.P, dx, _, rfl, upd_same, T.clP, T.naP _ (by simp), (by show 4 < 1000; decide), ?_⟩
    refine ⟨_, rfl, x, C.P, dx, _, rfl, upd_same, T.clP, T.naP _ (by simp), (by show 5 < 1000; decide), ?_⟩
    refine ⟨_, rfl, x, C.P, dx, _, rfl, upd_same, T.clP, T.naP _ (by simp), (by show 6 < 1000; decide), ?_⟩
    rw [upd_ne e1, upd_ne e1] at nld
    rw [upd_ne e2, upd_ne e3.symm, upd_ne e2, upd_ne e2] at nlc
    refine go _ ld lc (upd_same.trans (congrArg (fun q => some (HO.ins C.P dx q)) (pF_new st ld lc))) nld nlc e3 ?_ ?_ fun b o e hb => ?_
    · rw [upd_ne e1, upd_ne e1, upd_ne e1, upd_ne e1, upd_ne e3, upd_ne e1, upd_same]
    · rw [upd_ne e2, upd_ne e2, upd_ne e2, upd_ne e2, upd_same]
    · rw [upd_ne hb, upd_ne hb, upd_ne hb, upd_ne hb, upd_ne (ne_of_none e nlc), upd_ne hb, upd_ne (ne_of_none e nld), upd_ne hb, upd_ne hb]
      exact e
abbrev s_amount_in_range : Stmt := topS 36
theorem sc_amount_in_range : FnScope ["amount"] ["amount"] (defScope s_amount_in_range) := ⟨rfl, rfl, rfl, by decide +kernel, rfl, by decide +kernel, by decide +kernel⟩
def sp_amount_in_range : Sp := fun vs H Q _ => ∃ n : Nat, vs = [.int (n : Nat)] ∧ Q (.bl (decide (1 ≤ n ∧ n ≤ 99))) H
theorem ok_amount_in_range {f : Addr} {fd : FuncData} (T : Txt K mg C) (F : Fun K "amount_in_range" "amount_in_range" s_amount_in_range f fd) : FnOk P w K mg base CX0 1 f fd ["amount"] sp_amount_in_range := by
  refine F.ok sc_amount_in_range (fun vs H Q E h => ?_) (fun cdv A outer s H vs Q E hr h => ?_)
  · obtain ⟨n, rfl, _⟩ := h
    rfl
  · refine ⟨_, (pss_one (ps_ret (pe_chain op_le op_le pe_int (pv 0) (pe_cst rfl T.c_MOST_AMOUNT)))), ?_⟩
    obtain ⟨n, rfl, go⟩ := h
    refine ⟨_, rfl, _, _, rfl, rfl, _, rfl, ?_⟩
    refine ifD (fun c => ?_) (fun c => ?_)
    · refine ⟨_, _, rfl, rfl, ?_⟩
      show Q (.bl (decide ((n : Int) ≤ 99))) H
      rw [show decide ((n : Int) ≤ 99) = decide (1 ≤ n ∧ n ≤ 99) by rw [decide_eq_decide]; omega]
      exact go
    · show Q (.bl false) H
      rw [show false = decide (1 ≤ n ∧ n ≤ 99) by rw [eq_comm, decide_eq_false_iff_not]; omega]
      exact go
abbrev s_day_ahead : Stmt := topS 37
theorem sc_day_ahead : FnScope ["plan", "day"] ["plan", "day"] (defScope s_day_ahead) := ⟨rfl, rfl, rfl, by decide +kernel, rfl, by decide +kernel, by decide +kernel⟩
def sp_day_ahead (C : Cl) : Sp := fun vs H Q _ => ∃ (a ld lc : Addr) (p : Plr) (t : Nat), vs = [.ref a, .int (t : Nat)] ∧ IsPlan C H a ld lc p ∧ Q (.bl (decide (p.today ≤ t ∧ t ≤ 30))) H
theorem ok_day_ahead {f : Addr} {fd : FuncData} (T : Txt K mg C) (F : Fun K "day_ahead" "day_ahead" s_day_ahead f fd) : FnOk P w K mg base CX0 1 f fd ["plan", "day"] (sp_day_ahead C) := by
  refine F.ok sc_day_ahead (fun vs H Q E h => ?_) (fun cdv A outer s H vs Q E hr h => ?_)
  · obtain ⟨a, ld, lc, p, t, rfl, _⟩ := h
    rfl
  · refine ⟨_, (pss_one (ps_ret (pe_chain op_le op_le (pe_fld (pv 0) rfl) (pv 1) (pe_cst rfl T.c_LAST_DAY)))), ?_⟩
    obtain ⟨a, ld, lc, p, n, rfl, hp, go⟩ := h
    obtain ⟨⟨dx, ds, cs, h⟩, f⟩ := id hp
    refine ⟨_, rfl, a, C.P, dx, _, _, rfl, h.ob, T.clP, T.naP _ (by simp), lkP_today, _, rfl, _, _, rfl, rfl, _, rfl, ?_⟩
    refine ifD (fun c => ?_) (fun c => ?_)
    · refine ⟨_, _, rfl, rfl, ?_⟩
      show Q (.bl (decide ((n : Int) ≤ 30))) H
      rw [show decide ((n : Int) ≤ 30) = decide (p.today ≤ n ∧ n ≤ 30) by rw [decide_eq_decide]; omega]
      exact go
    · show Q (.bl false) H
      rw [show false = decide (p.today ≤ n ∧ n ≤ 30) by rw [eq_comm, decide_eq_false_iff_not]; omega]
      exact go
end
end Cs

namespace Cs
open PySem PySem.Spec PyProof.Rows L2
def Keep (a ld lc : Addr) (H H' : Hp) : Prop := ∀ b o, H b = some o → b ≠ a → b ≠ ld → b ≠ lc → H' b = some o
theorem same_keep {a ld lc : Addr} {H H' : Hp} (s : Same H H') : Keep a ld lc H H' := fun b o e _ _ _ => s b o e
theorem dF_pF {T T' dx dx' : Addr} {d : Dlv} {p : Plr} {ld lc : Addr} : HO.ins T dx (dF d) ≠ HO.ins T' dx' (pF p ld lc) := by
  intro z
  injection z with _ _ e
  exact nomatch (show (3 : Nat) = 7 from congrArg List.length e)
theorem cF_pF {T T' dx dx' : Addr} {d : Cmt} {p : Plr} {ld lc : Addr} : HO.ins T dx (cF d) ≠ HO.ins T' dx' (pF p ld lc) := by
  intro z
  injection z with _ _ e
  exact nomatch (show (2 : Nat) = 7 from congrArg List.length e)
theorem PlanAt.a_ld {T : Cl} {H : Hp} {a ld lc : Addr} {p : Plr} {dx : Addr} {ds : List (Addr × Dlv)} {cs : List (Addr × Cmt)} (h : PlanAt T H a ld lc p dx ds cs) : a ≠ ld := ne_of h.ob h.hd (by intro z; cases z)
theorem PlanAt.a_lc {T : Cl} {H : Hp} {a ld lc : Addr} {p : Plr} {dx : Addr} {ds : List (Addr × Dlv)} {cs : List (Addr × Cmt)} (h : PlanAt T H a ld lc p dx ds cs) : a ≠ lc := ne_of h.ob h.hc (by intro z; cases z)
/-- a plan that has changed -/
theorem PlanAt.move {T : Cl} {H H' : Hp} {a ld lc ld' lc' : Addr} {p p' : Plr} {dx : Addr} {ds ds' : List (Addr × Dlv)} {cs cs' : List (Addr × Cmt)} (h : PlanAt T H a ld lc p dx ds cs) (k : Keep a ld lc H H') (ob : H' a = some (.ins T.P dx (pF p' ld' lc')))
    (hd : H' ld' = some (.lst (refs ds'))) (hc : H' lc' = some (.lst (refs cs'))) (ne : ld' ≠ lc') (sd : ∀ q ∈ ds', q ∈ ds ∨ DlvAt T H' q.1 q.2) (sc : ∀ q ∈ cs', q ∈ cs ∨ CmtAt T H' q.1 q.2) (ed : p'.deliveries = ds'.map (·.2)) (ec : p'.commitments = cs'.map (·.2)) : PlanAt T H' a ld' lc' p' dx ds' cs' := by
  refine ⟨ob, hd, hc, ne, fun q m => ?_, fun q m => ?_, ed, ec⟩
  · rcases sd q m with m | m
    · obtain ⟨d, e⟩ := h.dl q m
      exact ⟨d, k _ _ e (ne_of e h.ob dF_pF) (ne_of e h.hd (by intro z; cases z)) (ne_of e h.hc (by intro z; cases z))⟩
    · exact m
  · rcases sc q m with m | m
    · obtain ⟨d, e⟩ := h.cm q m
      exact ⟨d, k _ _ e (ne_of e h.ob cF_pF) (ne_of e h.hd (by intro z; cases z)) (ne_of e h.hc (by intro z; cases z))⟩
    · exact m
section
variable {P : Program} {w : World} {K : PySem.W.Frag} {mg : Str → Option Value} {base : Heap} {C : Cl}
abbrev s_supposed_plan : Stmt := topS 28
theorem sc_supposed_plan : FnScope ["plan", "supposed"] ["plan"] (defScope s_supposed_plan) := ⟨rfl, rfl, rfl, by decide +kernel, rfl, by decide +kernel, by decide +kernel⟩
/-- the plan that is supposed -/
def sup (p : Plr) : Plr := { p with arrivedCount := 0, failedCount := 0, fulfilledCount := 0 }
def sp_supposed_plan (C : Cl) : Sp := fun vs H Q _ => ∃ (a ld lc : Addr) (p : Plr), vs = [.ref a] ∧ IsPlan C H a ld lc p ∧
  ∀ (H' : Hp) (x ld' lc' : Addr), H x = none → H ld' = none → H lc' = none → Same H H' → IsPlan C H' x ld' lc' (sup p) → Q (.ref x) H'
theorem ok_supposed_plan {f : Addr} {fd : FuncData} (T : Txt K mg C) (F : Fun K "supposed_plan" "supposed_plan" s_supposed_plan f fd)
    (D1 : Mkr P w K mg base 1 C.P ["self", "stock"] (sp_Plan C)) : FnOk P w K mg base CX0 3 f fd ["plan"] (sp_supposed_plan C) := by
  refine F.ok sc_supposed_plan (fun vs H Q E h => ?_) (fun cdv A outer s H vs Q E hr h => ?_)
  · obtain ⟨a, ld, lc, p, rfl, _⟩ := h
    rfl
  · obtain ⟨_, _, M_Plan, G_Plan, b_Plan⟩ := D1.ex
    have hr_Plan := hr
    refine ⟨_, (pss_cons (ps_set (i := 1) sc_supposed_plan.nd rfl (Or.inl rfl) (pe_make M_Plan G_Plan hr_Plan rfl T.g_Plan b_Plan .nil pass0 (pa_cons (pe_fld (pv 0) rfl) pa_nil)))
  (pss_cons (ps_fld (pv 1) (pe_fld (pv 0) rfl) rfl)
  (pss_cons (ps_fld (pv 1) (pe_callTy call_list_of (by rfl) T.n_list (by decide +kernel) (pa_cons (pe_fld (pv 0) rfl) pa_nil)) rfl)
  (pss_cons (ps_fld (pv 1) (pe_callTy call_list_of (by rfl) T.n_list (by decide +kernel) (pa_cons (pe_fld (pv 0) rfl) pa_nil)) rfl)
  (pss_one (ps_ret (pv 1))))))), ?_⟩
    obtain ⟨a, ld, lc, p, rfl, hp, go⟩ := h
    obtain ⟨⟨dx0, ds, cs, h⟩, f⟩ := id hp
    refine ⟨_, rfl, a, C.P, dx0, _, _, rfl, h.ob, T.clP, T.naP _ (by simp), lkP_stock, ?_⟩
    intro x dx nx nd ne
    refine ⟨x, dx, p.stock, rfl, upd_same, fun H1 ld1 lc1 o1 n1 n2 n3 e1 e2 kp => ⟨rfl, ?_⟩⟩
    have s1 : Same H H1 := Same.made nx nd kp
    -- supposed.today = plan.today
    refine ⟨_, rfl, a, C.P, dx0, _, _, rfl, s1 _ _ h.ob, T.clP, T.naP _ (by simp), lkP_today, ?_⟩
    refine ⟨_, rfl, x, C.P, dx, _, rfl, o1, T.clP, T.naP _ (by simp), (by show 7 < 1000; decide), ?_⟩
    rw [pF_today]
    have s2 : Same H (upd H1 x (.ins C.P dx (pF { fresh p.stock with today := p.today } ld1 lc1))) := fun b o e => by
      rw [upd_ne (ne_of_none e nx)]; exact s1 b o e
    generalize hH2 : upd H1 x (.ins C.P dx (pF { fresh p.stock with today := p.today } ld1 lc1)) = H2 at s2 ⊢
    have o2 : H2 x = some (.ins C.P dx (pF { fresh p.stock with today := p.today } ld1 lc1)) := by rw [← hH2]; exact upd_same
    -- supposed.deliveries = list(deliveries)
    refine ⟨_, rfl, a, C.P, dx0, _, _, rfl, s2 _ _ h.ob, T.clP, T.naP _ (by simp), lkP_deliveries, ld, _, rfl, .inl (s2.seq (SqL.of h.hd)), fun m1 hm1 => ?_⟩
    have e3 : m1 ≠ x := fun e => by rw [e, o2] at hm1; cases hm1
    refine ⟨_, rfl, x, C.P, dx, _, rfl, (upd_ne e3.symm).trans o2, T.clP, T.naP _ (by simp), (by show 7 < 1000; decide), ?_⟩
    rw [pF_deliveries]
    have s3 : Same H (upd (upd H2 m1 (.lst (refs ds))) x (.ins C.P dx (pF { fresh p.stock with today := p.today } m1 lc1))) := fun b o e => by
      rw [upd_ne (ne_of_none e nx)]; exact Same.new hm1 b o (s2 b o e)
    have d3 : (upd (upd H2 m1 (.lst (refs ds))) x (.ins C.P dx (pF { fresh p.stock with today := p.today } m1 lc1))) m1 = some (.lst (refs ds)) := by rw [upd_ne e3, upd_same]
    generalize hH3 : upd (upd H2 m1 (.lst (refs ds))) x (.ins C.P dx (pF { fresh p.stock with today := p.today } m1 lc1)) = H3 at s3 d3 ⊢
    have o3 : H3 x = some (.ins C.P dx (pF { fresh p.stock with today := p.today } m1 lc1)) := by rw [← hH3]; exact upd_same
    -- supposed.commitments = list(commitments)
    refine ⟨_, rfl, a, C.P, dx0, _, _, rfl, s3 _ _ h.ob, T.clP, T.naP _ (by simp), lkP_commitments, lc, _, rfl, .inl (s3.seq (SqL.of h.hc)), fun m2 hm2 => ?_⟩
    have e4 : m2 ≠ x := fun e => by rw [e, o3] at hm2; cases hm2
    have e5 : m1 ≠ m2 := fun e => by rw [← e, d3] at hm2; cases hm2
    refine ⟨_, rfl, x, C.P, dx, _, rfl, (upd_ne e4.symm).trans o3, T.clP, T.naP _ (by simp), (by show 7 < 1000; decide), ?_⟩
    rw [pF_commitments]
    have s4 : Same H (upd (upd H3 m2 (.lst (refs cs))) x (.ins C.P dx (pF { fresh p.stock with today := p.today } m1 m2))) := fun b o e => by
      rw [upd_ne (ne_of_none e nx)]; exact Same.new hm2 b o (s3 b o e)
    refine ⟨_, rfl, ?_⟩
    refine go _ x m1 m2 nx (s2.free hm1) (s3.free hm2) s4 ⟨⟨dx, ds, cs, ⟨upd_same, ?_, ?_, e5, fun q m => ?_, fun q m => ?_, h.ed, h.ec⟩⟩, ⟨f.td, f.nd, f.nc⟩⟩
    · rw [upd_ne e3, upd_ne e5, d3]
    · rw [upd_ne e4, upd_same]
    · obtain ⟨d, e⟩ := h.dl q m; exact ⟨d, s4 _ _ e⟩
    · obtain ⟨d, e⟩ := h.cm q m; exact ⟨d, s4 _ _ e⟩
end
end Cs

namespace Cs
open PySem PySem.Spec PyProof.Rows L2
/-- what a call's answer is, as values -/
def ans (r : Km549.Result) : List V := (r.num :: r.nums).map V.int
/-- the wish of a call on a plan: what the specification's step gives -/
def Done (C : Cl) (H : Hp) (a ld lc : Addr) (p : Plr) (c : Km549.Call) (Q : VK) : Prop := ∀ (H' : Hp) (l : Addr) (p' : Plr) (ld' lc' : Addr) (r : Km549.Result), Km549.step (some p) c = (some p', r) → IsPlan C H' a ld' lc' p' →
  (ld' = ld ∨ H ld' = none) → (lc' = lc ∨ H lc' = none) → Keep a ld lc H H' → H l = none → H' l = some (.lst (ans r)) → Q (.ref l) H'
/-- nothing is changed -/
theorem Done.nochange {C : Cl} {H H' : Hp} {a ld lc l : Addr} {p : Plr} {c : Km549.Call} {Q : VK} {r : Km549.Result} (go : Done C H a ld lc p c Q) (hp : IsPlan C H a ld lc p) (e : Km549.step (some p) c = (some p, r)) (s : Same H H') (n : H l = Option.none) (h : H' l = some (.lst (ans r))) : Q (.ref l) H' :=
  go H' l p ld lc r e (hp.same s) (.inl rfl) (.inl rfl) (same_keep s) n h
/-- .. and the answer is a new list at l -/
theorem Done.new {C : Cl} {H H' : Hp} {a ld lc l : Addr} {p : Plr} {c : Km549.Call} {Q : VK} {r : Km549.Result} (go : Done C H a ld lc p c Q) (hp : IsPlan C H a ld lc p) (e : Km549.step (some p) c = (some p, r)) (s : Same H H') (n : H' l = Option.none) : Q (.ref l) (upd H' l (.lst (ans r))) :=
  go.nochange hp e (s.trans (Same.new n)) (s.free n) upd_same
theorem one_le : 1 ≤ sizeLine := by decide
section
variable {P : Program} {w : World} {K : PySem.W.Frag} {mg : Str → Option Value} {base : Heap} {C : Cl}
abbrev s_add_delivery : Stmt := topS 38
theorem sc_add_delivery : FnScope ["plan", "amount", "earliest", "latest"] ["plan", "amount", "earliest", "latest"] (defScope s_add_delivery) := ⟨rfl, rfl, rfl, by decide +kernel, rfl, by decide +kernel, by decide +kernel⟩
def sp_add_delivery (C : Cl) : Sp := fun vs H Q _ => ∃ (a ld lc : Addr) (p : Plr) (x y z : Nat), vs = [.ref a, .int (x : Nat), .int (y : Nat), .int (z : Nat)] ∧ IsPlan C H a ld lc p ∧ Done C H a ld lc p (.addDelivery x y z) Q
theorem step_addDelivery (p : Plr) (x y z : Nat) : Km549.step (some p) (.addDelivery x y z) = if x = 0 ∨ 99 < x ∨ z < y ∨ z < p.today ∨ 30 < z then (some p, Km549.error (-22)) else if 6 ≤ p.deliveries.length then (some p, Km549.error (-28)) else (some (Km549.withDelivery p x y z), Km549.number (p.deliveries.length : Nat)) := rfl
theorem ok_add_delivery {f : Addr} {fd : FuncData} (T : Txt K mg C) (F : Fun K "add_delivery" "add_delivery" s_add_delivery f fd)
    (D1 : Def P w K mg base 1 "amount_in_range" ["amount"] sp_amount_in_range) (D2 : Def P w K mg base 1 "day_ahead" ["plan", "day"] (sp_day_ahead C)) (D3 : Mkr P w K mg base 1 C.D ["self", "amount", "earliest", "latest"] (sp_Delivery C)) :
    FnOk P w K mg base CX0 3 f fd ["plan", "amount", "earliest", "latest"] (sp_add_delivery C) := by
  refine F.ok sc_add_delivery (fun vs H Q E h => ?_) (fun cdv A outer s H vs Q E hr h => ?_)
  · obtain ⟨a, ld, lc, p, x, y, z, rfl, _⟩ := h
    rfl
  · obtain ⟨_, _, G_amount_in_range, m_amount_in_range, k_amount_in_range, b_amount_in_range⟩ := D1.ex
    obtain ⟨_, _, G_day_ahead, m_day_ahead, k_day_ahead, b_day_ahead⟩ := D2.ex
    obtain ⟨_, _, M_Delivery, G_Delivery, b_Delivery⟩ := D3.ex
    have hr_amount_in_range : Room 1 _ := hr.mono (by decide)
    have hr_day_ahead := hr_amount_in_range
    have hr_Delivery := hr
    refine ⟨_, (pss_cons (ps_if (PW.pt (pw_or (pt_not (pt_val (pe_call G_amount_in_range hr_amount_in_range rfl m_amount_in_range k_amount_in_range b_amount_in_range .nil pass0 (pa_cons (pv 1) pa_nil)))) (pw_or (pt_cmpR op_lt (pv 3) (pv 2) (nomark _)) (pw_or1 (pt_not (pt_val (pe_call G_day_ahead hr_day_ahead rfl m_day_ahead k_day_ahead b_day_ahead .nil pass0 (pa_cons (pv 0) (pa_cons (pv 3) pa_nil)))))))))
    (pss_one (ps_ret (pe_lst (pa_cons (pe_cst rfl T.c_OUT_OF_RANGE) pa_nil))))
    pss_nil)
  (pss_cons (ps_if (pt_cmpR op_ge (pe_callB call_len_seq (by rfl) T.n_len PySem.boot_len (pa_cons (pe_fld (pv 0) rfl) pa_nil)) (pe_cst rfl T.c_MOST_DELIVERIES) (nomark _))
    (pss_one (ps_ret (pe_lst (pa_cons (pe_cst rfl T.c_TOO_MANY) pa_nil))))
    pss_nil)
  (pss_cons (ps_expr (pe_bm PySem.F.plainAttrs_list PySem.F.slot_list_append PySem.F.type_list_append mt_append (pe_fld (pv 0) rfl) (pa_cons (pe_make M_Delivery G_Delivery hr_Delivery rfl T.g_Delivery b_Delivery .nil pass0 (pa_cons (pv 1) (pa_cons (pv 2) (pa_cons (pv 3) pa_nil)))) pa_nil)))
  (pss_one (ps_ret (pe_lst (pa_cons (pe_op op_sub (pe_callB call_len_seq (by rfl) T.n_len PySem.boot_len (pa_cons (pe_fld (pv 0) rfl) pa_nil)) pe_int) pa_nil))))))), ?_⟩
    obtain ⟨a, ld, lc, p, x, y, z, rfl, hp, go⟩ := h
    obtain ⟨⟨dx, ds, cs, h⟩, f⟩ := id hp
    have fnd := f.nd
    have bad : (x = 0 ∨ 99 < x ∨ z < y ∨ z < p.today ∨ 30 < z) → ∀ l, H l = none → Q (.ref l) (upd H l (.lst [.int (-22)])) := fun c l hl =>
      go.new hp ((step_addDelivery p x y z).trans (if_pos c)) (Same.refl _) hl
    refine ⟨_, rfl, x, rfl, _, rfl, ?_⟩
    refine ifN (fun c => iteT ⟨one_le, bad (by omega)⟩) fun c1 => ?_
    refine ⟨_, rfl, _, rfl, _, _, rfl, rfl, _, rfl, ?_⟩
    refine ifD (fun c => iteT ⟨one_le, bad (by omega)⟩) fun c2 => ?_
    refine ⟨_, rfl, _, rfl, a, ld, lc, p, z, rfl, hp, _, rfl, ?_⟩
    refine ifN (fun c => ⟨one_le, bad (by omega)⟩) fun c3 => ?_
    have ok : ¬ (x = 0 ∨ 99 < x ∨ z < y ∨ z < p.today ∨ 30 < z) := by omega
    refine ⟨_, rfl, a, C.P, dx, _, _, rfl, h.ob, T.clP, T.naP _ (by simp), lkP_deliveries, ld, _, rfl, .inl (SqL.of h.hd), _, _, rfl, rfl, _, rfl, ?_⟩
    have len : (refs ds).length = p.deliveries.length := by unfold refs; rw [h.ed, List.length_map, List.length_map]
    refine ifD (fun c => ⟨one_le, fun l hl => ?_⟩) fun c4 => ?_
    · exact go.new hp ((step_addDelivery p x y z).trans ((if_neg ok).trans (if_pos (by omega)))) (Same.refl _) hl
    refine ⟨_, rfl, a, C.P, dx, _, _, rfl, h.ob, T.clP, T.naP _ (by simp), lkP_deliveries, .inl ⟨rfl, _, SqL.of h.hd⟩, _, rfl, _, rfl, _, rfl, ?_⟩
    intro o od no nod neo
    refine ⟨o, od, ⟨x, y, z⟩, rfl, upd_same, fun H1 o1 kp => ⟨rfl, ?_⟩⟩
    have s1 : Same H H1 := Same.made no nod kp
    refine ⟨ld, _, _, rfl, rfl, s1 _ _ h.hd, small1000 (by omega), ?_⟩
    refine ⟨_, rfl, a, C.P, dx, _, _, rfl, (upd_ne h.a_ld).trans (s1 _ _ h.ob), T.clP, T.naP _ (by simp), lkP_deliveries, ld, _, rfl, .inl (SqL.of upd_same), _, _, rfl, rfl, one_le, fun l hl => ?_⟩
    have k2 : Keep a ld lc H (upd H1 ld (.lst (refs ds ++ [V.ref o]))) := fun b u e _ n _ => by rw [upd_ne n]; exact s1 _ _ e
    have nl : H1 l = none ∧ l ≠ ld := by
      by_cases e : l = ld
      · rw [e, upd_same] at hl; cases hl
      · rw [upd_ne e] at hl; exact ⟨hl, e⟩
    have k3 : Keep a ld lc H (upd (upd H1 ld (.lst (refs ds ++ [V.ref o]))) l (.lst [.int (((refs ds ++ [V.ref o]).length : Int) - 1)])) := fun b u e n1 n2 n3 => Same.new hl b u (k2 b u e n1 n2 n3)
    have ood : o ≠ ld := fun e => by rw [e, h.hd] at no; cases no
    refine go _ l _ ld lc _ ((step_addDelivery p x y z).trans ((if_neg ok).trans (if_neg (by omega)))) ⟨⟨dx, ds ++ [(o, ⟨x, y, z⟩)], cs, h.move k3 ?_ ?_ ?_ h.ne (fun q m => ?_) (fun q m => .inl m) ?_ ?_⟩, ⟨f.td, ?_, f.nc⟩⟩ (.inl rfl) (.inl rfl) k3 (s1.free nl.1) ?_
    · exact Same.new hl _ _ ((upd_ne h.a_ld).trans (s1 _ _ h.ob))
    · refine Same.new hl _ _ (upd_same.trans ?_)
      unfold refs
      rw [List.map_append]
      rfl
    · exact Same.new hl _ _ ((upd_ne h.ne.symm).trans (s1 _ _ h.hc))
    · rcases List.mem_append.mp m with m | m
      · exact .inl m
      · rw [List.mem_singleton.mp m]
        exact .inr ⟨od, Same.new hl _ _ ((upd_ne ood).trans o1)⟩
    · show p.deliveries ++ _ = _
      rw [h.ed, List.map_append]
      rfl
    · exact h.ec
    · show (p.deliveries ++ _).length ≤ 6
      rw [List.length_append]
      show p.deliveries.length + 1 ≤ 6
      omega
    · refine upd_same.trans (congrArg (fun n => some (HO.lst [V.int n])) ?_)
      rw [List.length_append]
      show ((((refs ds).length + 1 : Nat) : Int) - 1) = ((p.deliveries.length : Nat) : Int)
      omega
end
end Cs

namespace Cs
open PySem PySem.Spec PyProof.Rows L2
theorem refs_length {α : Type} (l : List (Addr × α)) : (refs l).length = l.length := by unfold refs; rw [List.length_map]
theorem refs_append {α : Type} (l : List (Addr × α)) (a : Addr) (x : α) : refs (l ++ [(a, x)]) = refs l ++ [V.ref a] := by
  unfold refs
  rw [List.map_append]
  rfl
theorem IsPlan.a_ld {C : Cl} {H : Hp} {a ld lc : Addr} {p : Plr} (h : IsPlan C H a ld lc p) : a ≠ ld := let ⟨⟨_, _, _, h⟩, _⟩ := h; h.a_ld
theorem IsPlan.a_lc {C : Cl} {H : Hp} {a ld lc : Addr} {p : Plr} (h : IsPlan C H a ld lc p) : a ≠ lc := let ⟨⟨_, _, _, h⟩, _⟩ := h; h.a_lc
section
variable {P : Program} {w : World} {K : PySem.W.Frag} {mg : Str → Option Value} {base : Heap} {C : Cl}
abbrev s_add_commitment : Stmt := topS 39
theorem sc_add_commitment : FnScope ["plan", "amount", "due"] ["plan", "amount", "due"] (defScope s_add_commitment) := ⟨rfl, rfl, rfl, by decide +kernel, rfl, by decide +kernel, by decide +kernel⟩
def sp_add_commitment (C : Cl) : Sp := fun vs H Q _ => ∃ (a ld lc : Addr) (p : Plr) (x y : Nat), vs = [.ref a, .int (x : Nat), .int (y : Nat)] ∧ IsPlan C H a ld lc p ∧ Done C H a ld lc p (.addCommitment x y) Q
theorem step_addCommitment (p : Plr) (x y : Nat) : Km549.step (some p) (.addCommitment x y) = if x = 0 ∨ 99 < x ∨ y < p.today ∨ 30 < y then (some p, Km549.error (-22)) else if 7 ≤ p.commitments.length then (some p, Km549.error (-28)) else (some (Km549.withCommitment p x y), Km549.number (p.commitments.length : Nat)) := rfl
theorem ok_add_commitment {f : Addr} {fd : FuncData} (T : Txt K mg C) (F : Fun K "add_commitment" "add_commitment" s_add_commitment f fd)
    (D1 : Def P w K mg base 1 "amount_in_range" ["amount"] sp_amount_in_range) (D2 : Def P w K mg base 1 "day_ahead" ["plan", "day"] (sp_day_ahead C)) (D3 : Mkr P w K mg base 1 C.C ["self", "amount", "due"] (sp_Commitment C)) :
    FnOk P w K mg base CX0 3 f fd ["plan", "amount", "due"] (sp_add_commitment C) := by
  refine F.ok sc_add_commitment (fun vs H Q E h => ?_) (fun cdv A outer s H vs Q E hr h => ?_)
  · obtain ⟨a, ld, lc, p, x, y, rfl, _⟩ := h
    rfl
  · obtain ⟨_, _, G_amount_in_range, m_amount_in_range, k_amount_in_range, b_amount_in_range⟩ := D1.ex
    obtain ⟨_, _, G_day_ahead, m_day_ahead, k_day_ahead, b_day_ahead⟩ := D2.ex
    obtain ⟨_, _, M_Commitment, G_Commitment, b_Commitment⟩ := D3.ex
    have hr_amount_in_range : Room 1 _ := hr.mono (by decide)
    have hr_day_ahead := hr_amount_in_range
    have hr_Commitment := hr
    refine ⟨_, (pss_cons (ps_if (PW.pt (pw_or (pt_not (pt_val (pe_call G_amount_in_range hr_amount_in_range rfl m_amount_in_range k_amount_in_range b_amount_in_range .nil pass0 (pa_cons (pv 1) pa_nil)))) (pw_or1 (pt_not (pt_val (pe_call G_day_ahead hr_day_ahead rfl m_day_ahead k_day_ahead b_day_ahead .nil pass0 (pa_cons (pv 0) (pa_cons (pv 2) pa_nil))))))))
    (pss_one (ps_ret (pe_lst (pa_cons (pe_cst rfl T.c_OUT_OF_RANGE) pa_nil))))
    pss_nil)
  (pss_cons (ps_if (pt_cmpR op_ge (pe_callB call_len_seq (by rfl) T.n_len PySem.boot_len (pa_cons (pe_fld (pv 0) rfl) pa_nil)) (pe_cst rfl T.c_MOST_COMMITMENTS) (nomark _))
    (pss_one (ps_ret (pe_lst (pa_cons (pe_cst rfl T.c_TOO_MANY) pa_nil))))
    pss_nil)
  (pss_cons (ps_expr (pe_bm PySem.F.plainAttrs_list PySem.F.slot_list_append PySem.F.type_list_append mt_append (pe_fld (pv 0) rfl) (pa_cons (pe_make M_Commitment G_Commitment hr_Commitment rfl T.g_Commitment b_Commitment .nil pass0 (pa_cons (pv 1) (pa_cons (pv 2) pa_nil))) pa_nil)))
  (pss_one (ps_ret (pe_lst (pa_cons (pe_op op_sub (pe_callB call_len_seq (by rfl) T.n_len PySem.boot_len (pa_cons (pe_fld (pv 0) rfl) pa_nil)) pe_int) pa_nil))))))), ?_⟩
    obtain ⟨a, ld, lc, p, x, z, rfl, hp, go⟩ := h
    obtain ⟨⟨dx, ds, cs, h⟩, f⟩ := id hp
    have fnc := f.nc
    have bad : (x = 0 ∨ 99 < x ∨ z < p.today ∨ 30 < z) → ∀ l, H l = none → Q (.ref l) (upd H l (.lst [.int (-22)])) := fun c l hl =>
      go.new hp ((step_addCommitment p x z).trans (if_pos c)) (Same.refl _) hl
    refine ⟨_, rfl, x, rfl, _, rfl, ?_⟩
    refine ifN (fun c => iteT ⟨one_le, bad (by omega)⟩) fun c1 => ?_
    refine ⟨_, rfl, _, rfl, a, ld, lc, p, z, rfl, hp, _, rfl, ?_⟩
    refine ifN (fun c => ⟨one_le, bad (by omega)⟩) fun c3 => ?_
    have ok : ¬ (x = 0 ∨ 99 < x ∨ z < p.today ∨ 30 < z) := by omega
    refine ⟨_, rfl, a, C.P, dx, _, _, rfl, h.ob, T.clP, T.naP _ (by simp), lkP_commitments, lc, _, rfl, .inl (SqL.of h.hc), _, _, rfl, rfl, _, rfl, ?_⟩
    have len : (refs cs).length = p.commitments.length := by unfold refs; rw [h.ec, List.length_map, List.length_map]
    refine ifD (fun c => ⟨one_le, fun l hl => ?_⟩) fun c4 => ?_
    · exact go.new hp ((step_addCommitment p x z).trans ((if_neg ok).trans (if_pos (by omega)))) (Same.refl _) hl
    refine ⟨_, rfl, a, C.P, dx, _, _, rfl, h.ob, T.clP, T.naP _ (by simp), lkP_commitments, .inl ⟨rfl, _, SqL.of h.hc⟩, _, rfl, _, rfl, ?_⟩
    intro o od no nod neo
    refine ⟨o, od, ⟨x, z⟩, rfl, upd_same, fun H1 o1 kp => ⟨rfl, ?_⟩⟩
    have s1 : Same H H1 := Same.made no nod kp
    refine ⟨lc, _, _, rfl, rfl, s1 _ _ h.hc, small1000 (by omega), ?_⟩
    refine ⟨_, rfl, a, C.P, dx, _, _, rfl, (upd_ne h.a_lc).trans (s1 _ _ h.ob), T.clP, T.naP _ (by simp), lkP_commitments, lc, _, rfl, .inl (SqL.of upd_same), _, _, rfl, rfl, one_le, fun l hl => ?_⟩
    have k2 : Keep a ld lc H (upd H1 lc (.lst (refs cs ++ [V.ref o]))) := fun b u e _ _ n => by rw [upd_ne n]; exact s1 _ _ e
    have nl : H1 l = none ∧ l ≠ lc := by
      by_cases e : l = lc
      · rw [e, upd_same] at hl; cases hl
      · rw [upd_ne e] at hl; exact ⟨hl, e⟩
    have k3 : Keep a ld lc H (upd (upd H1 lc (.lst (refs cs ++ [V.ref o]))) l (.lst [.int (((refs cs ++ [V.ref o]).length : Int) - 1)])) := fun b u e n1 n2 n3 => Same.new hl b u (k2 b u e n1 n2 n3)
    have ood : o ≠ lc := fun e => by rw [e, h.hc] at no; cases no
    refine go _ l _ ld lc _ ((step_addCommitment p x z).trans ((if_neg ok).trans (if_neg (by omega)))) ⟨⟨dx, ds, cs ++ [(o, ⟨x, z⟩)], h.move k3 ?_ ?_ ?_ h.ne (fun q m => .inl m) (fun q m => ?_) ?_ ?_⟩, ⟨f.td, f.nd, ?_⟩⟩ (.inl rfl) (.inl rfl) k3 (s1.free nl.1) ?_
    · exact Same.new hl _ _ ((upd_ne h.a_lc).trans (s1 _ _ h.ob))
    · exact Same.new hl _ _ ((upd_ne h.ne).trans (s1 _ _ h.hd))
    · rw [refs_append]
      exact Same.new hl _ _ upd_same
    · rcases List.mem_append.mp m with m | m
      · exact .inl m
      · rw [List.mem_singleton.mp m]
        exact .inr ⟨od, Same.new hl _ _ ((upd_ne ood).trans o1)⟩
    · exact h.ed
    · show p.commitments ++ _ = _
      rw [h.ec, List.map_append]
      rfl
    · show (p.commitments ++ _).length ≤ 7
      rw [List.length_append]
      show p.commitments.length + 1 ≤ 7
      omega
    · refine upd_same.trans (congrArg (fun n => some (HO.lst [V.int n])) ?_)
      rw [List.length_append]
      show ((((refs cs).length + 1 : Nat) : Int) - 1) = ((p.commitments.length : Nat) : Int)
      omega
abbrev s_add_covered_commitment : Stmt := topS 40
theorem sc_add_covered_commitment : FnScope ["plan", "k", "amount", "due", "supposed", "result"] ["plan", "k", "amount", "due"] (defScope s_add_covered_commitment) := ⟨rfl, rfl, rfl, by decide +kernel, rfl, by decide +kernel, by decide +kernel⟩
def sp_add_covered_commitment (C : Cl) : Sp := fun vs H Q _ => ∃ (a ld lc : Addr) (p : Plr) (k x y : Nat), vs = [.ref a, .int (k : Nat), .int (x : Nat), .int (y : Nat)] ∧ IsPlan C H a ld lc p ∧ Done C H a ld lc p (.addCoveredCommitment k x y) Q
theorem step_addCovered (p : Plr) (k x y : Nat) : Km549.step (some p) (.addCoveredCommitment k x y) = if 6 < k ∨ x = 0 ∨ 99 < x ∨ y < p.today ∨ 30 < y then (some p, Km549.error (-22)) else if 7 ≤ p.commitments.length then (some p, Km549.error (-28)) else if Km549.isCovered (Km549.withCommitment p x y) k = false then (some p, Km549.error (-30)) else (some (Km549.withCommitment p x y), Km549.number (p.commitments.length : Nat)) := rfl
theorem ok_add_covered_commitment {f : Addr} {fd : FuncData} (T : Txt K mg C) (F : Fun K "add_covered_commitment" "add_covered_commitment" s_add_covered_commitment f fd)
    (D1 : Def P w K mg base 3 "supposed_plan" ["plan"] (sp_supposed_plan C)) (D2 : Def P w K mg base 3 "add_commitment" ["plan", "amount", "due"] (sp_add_commitment C)) (D3 : Def P w K mg base 4 "covered_for" ["plan", "k"] (sp_covered_for C)) :
    FnOk P w K mg base CX0 5 f fd ["plan", "k", "amount", "due"] (sp_add_covered_commitment C) := by
  refine F.ok sc_add_covered_commitment (fun vs H Q E h => ?_) (fun cdv A outer s H vs Q E hr h => ?_)
  · obtain ⟨a, ld, lc, p, k, x, y, rfl, _⟩ := h
    rfl
  · obtain ⟨_, _, G_supposed_plan, m_supposed_plan, k_supposed_plan, b_supposed_plan⟩ := D1.ex
    obtain ⟨_, _, G_add_commitment, m_add_commitment, k_add_commitment, b_add_commitment⟩ := D2.ex
    obtain ⟨_, _, G_covered_for, m_covered_for, k_covered_for, b_covered_for⟩ := D3.ex
    have hr_supposed_plan : Room 3 _ := hr.mono (by decide)
    have hr_add_commitment := hr_supposed_plan
    have hr_covered_for := hr
    refine ⟨_, (pss_cons (ps_if (pt_cmpR op_gt (pv 1) (pe_cst rfl T.c_MOST_FAILURES) (nomark _))
    (pss_one (ps_ret (pe_lst (pa_cons (pe_cst rfl T.c_OUT_OF_RANGE) pa_nil))))
    pss_nil)
  (pss_cons (ps_set (i := 4) sc_add_covered_commitment.nd rfl (Or.inl rfl) (pe_call G_supposed_plan hr_supposed_plan rfl m_supposed_plan k_supposed_plan b_supposed_plan .nil pass0 (pa_cons (pv 0) pa_nil)))
  (pss_cons (ps_set (i := 5) sc_add_covered_commitment.nd rfl (Or.inl rfl) (pe_call G_add_commitment hr_add_commitment rfl m_add_commitment k_add_commitment b_add_commitment .nil pass0 (pa_cons (pv 4) (pa_cons (pv 2) (pa_cons (pv 3) pa_nil)))))
  (pss_cons (ps_if (pt_cmpR op_lt (pe_ix ix_list (pv 5) pe_int (fun _ _ => rfl)) pe_int (nomark _))
    (pss_one (ps_ret (pv 5)))
    pss_nil)
  (pss_cons (ps_if (pt_not (pt_val (pe_call G_covered_for hr_covered_for rfl m_covered_for k_covered_for b_covered_for .nil pass0 (pa_cons (pv 4) (pa_cons (pv 1) pa_nil)))))
    (pss_one (ps_ret (pe_lst (pa_cons (pe_cst rfl T.c_NOT_COVERED) pa_nil))))
    pss_nil)
  (pss_one (ps_ret (pe_call G_add_commitment hr_add_commitment rfl m_add_commitment k_add_commitment b_add_commitment .nil pass0 (pa_cons (pv 0) (pa_cons (pv 2) (pa_cons (pv 3) pa_nil))))))))))), ?_⟩
    obtain ⟨a, ld, lc, p, k, x, y, rfl, hp, go⟩ := h
    refine ⟨_, rfl, _, _, rfl, rfl, _, rfl, ?_⟩
    refine ifD (fun c => ⟨one_le, fun l hl => go.new hp ((step_addCovered p k x y).trans (if_pos (.inl (by omega)))) (Same.refl _) hl⟩) fun c1 => ?_
    -- supposed = supposed_plan(plan)
    refine ⟨_, rfl, a, ld, lc, p, rfl, hp, fun H1 x1 ld1 lc1 n1 n2 n3 s1 hp1 => ?_⟩
    -- result = add_commitment(supposed, amount, due)
    refine ⟨_, rfl, _, rfl, _, rfl, x1, ld1, lc1, _, x, y, rfl, hp1, fun H2 l p2 ld2 lc2 r e2 hp2 g1 g2 kp nl hl => ?_⟩
    have s2 : Same H H2 := fun b o e => kp b o (s1 b o e) (ne_of_none e n1) (ne_of_none e n2) (ne_of_none e n3)
    refine ⟨_, rfl, l, _, _, _, rfl, rfl, SqL.of hl, at_of (j := 0) rfl rfl, _, _, rfl, rfl, _, rfl, ?_⟩
    have fl : H l = none := s1.free nl
    rw [step_addCommitment] at e2
    by_cases A1 : x = 0 ∨ 99 < x ∨ y < p.today ∨ 30 < y
    · have e3 : r = Km549.error (-22) := (Prod.mk.inj ((if_pos (c := x = 0 ∨ 99 < x ∨ y < (sup p).today ∨ 30 < y) A1).symm.trans e2)).2.symm
      subst e3
      exact ifT (by decide) ⟨_, rfl, go.nochange hp ((step_addCovered p k x y).trans (if_pos (.inr A1))) s2 fl hl⟩
    have e2 := (if_neg (c := x = 0 ∨ 99 < x ∨ y < (sup p).today ∨ 30 < y) A1).symm.trans e2
    have A2 : ¬ (6 < k ∨ x = 0 ∨ 99 < x ∨ y < p.today ∨ 30 < y) := by omega
    by_cases B : 7 ≤ p.commitments.length
    · have e3 : r = Km549.error (-28) := (Prod.mk.inj ((if_pos (c := 7 ≤ (sup p).commitments.length) B).symm.trans e2)).2.symm
      subst e3
      exact ifT (by decide) ⟨_, rfl, go.nochange hp ((step_addCovered p k x y).trans ((if_neg A2).trans (if_pos B))) s2 fl hl⟩
    have e3 := Prod.mk.inj ((if_neg (c := 7 ≤ (sup p).commitments.length) B).symm.trans e2)
    have e4 : p2 = Km549.withCommitment (sup p) x y := (Option.some.inj e3.1).symm
    have e5 := e3.2
    subst e4 e5
    refine ifF (by show ¬ ((((sup p).commitments.length : Nat) : Int) < 0); omega) ?_
    have ecov : Km549.isCovered (Km549.withCommitment (sup p) x y) k = Km549.isCovered (Km549.withCommitment p x y) k := rfl
    -- if not covered_for(supposed, k)
    refine ⟨_, rfl, _, rfl, x1, ld2, lc2, _, k, rfl, hp2, fun H3 s3 => ?_⟩
    have s4 : Same H H3 := s2.trans s3
    rw [ecov]
    refine ⟨_, rfl, ?_⟩
    cases hc : Km549.isCovered (Km549.withCommitment p x y) k with
    | false =>
      exact iteT ⟨one_le, fun l2 hl2 => go.new hp ((step_addCovered p k x y).trans ((if_neg A2).trans ((if_neg B).trans (if_pos hc)))) s4 hl2⟩
    | true =>
      refine iteF ?_
      refine ⟨_, rfl, _, rfl, _, rfl, a, ld, lc, p, x, y, rfl, hp.same s4, fun H5 l5 p5 ld5 lc5 r5 e5 hp5 g5 g6 kp5 nl5 hl5 => ?_⟩
      have e6 := (if_neg (c := 7 ≤ p.commitments.length) B).symm.trans ((if_neg (c := x = 0 ∨ 99 < x ∨ y < p.today ∨ 30 < y) A1).symm.trans ((step_addCommitment p x y).symm.trans e5))
      refine go H5 l5 p5 ld5 lc5 r5 ((step_addCovered p k x y).trans ((if_neg A2).trans ((if_neg B).trans ((if_neg (by rw [hc]; exact Bool.noConfusion)).trans e6)))) hp5 (g5.imp id s4.free) (g6.imp id s4.free) (fun b o e q1 q2 q3 => kp5 b o (s4 b o e) q1 q2 q3) (s4.free nl5) hl5
end
end Cs

namespace Cs
open PySem PySem.Spec PyProof.Rows L2
theorem map_eraseIdx' {α β : Type} (f : α → β) : ∀ (l : List α) (j : Nat), (l.map f).eraseIdx j = (l.eraseIdx j).map f
  | [], j => by simp
  | x :: r, 0 => rfl
  | x :: r, j + 1 => by
    show f x :: (r.map f).eraseIdx j = f x :: (r.eraseIdx j).map f
    rw [map_eraseIdx' f r j]
theorem refs_erase {α : Type} (l : List (Addr × α)) (j : Nat) : (refs l).eraseIdx j = refs (l.eraseIdx j) := map_eraseIdx' _ l j
theorem refs_at {α : Type} {l : List (Addr × α)} {j : Nat} {q : Addr × α} (h : l[j]? = some q) : (refs l)[j]? = some (.ref q.1) := by
  unfold refs
  rw [List.getElem?_map, h]
  rfl
theorem Keep.refl {a ld lc : Addr} {H : Hp} : Keep a ld lc H H := fun _ _ e _ _ _ => e
theorem Keep.same {a ld lc : Addr} {H H1 H2 : Hp} (k : Keep a ld lc H H1) (s : Same H1 H2) : Keep a ld lc H H2 := fun b o e n1 n2 n3 => s b o (k b o e n1 n2 n3)
theorem Keep.at_a {a ld lc : Addr} {H H1 : Hp} {o : HO} (k : Keep a ld lc H H1) : Keep a ld lc H (upd H1 a o) := fun b u e n1 n2 n3 => by rw [upd_ne n1]; exact k b u e n1 n2 n3
theorem Keep.at_ld {a ld lc : Addr} {H H1 : Hp} {o : HO} (k : Keep a ld lc H H1) : Keep a ld lc H (upd H1 ld o) := fun b u e n1 n2 n3 => by rw [upd_ne n2]; exact k b u e n1 n2 n3
theorem Keep.at_lc {a ld lc : Addr} {H H1 : Hp} {o : HO} (k : Keep a ld lc H H1) : Keep a ld lc H (upd H1 lc o) := fun b u e n1 n2 n3 => by rw [upd_ne n3]; exact k b u e n1 n2 n3
section
variable {T : Cl} {H : Hp} {a ld lc : Addr} {p : Plr} {dx : Addr} {ds : List (Addr × Dlv)} {cs : List (Addr × Cmt)}
theorem PlanAt.setF (h : PlanAt T H a ld lc p dx ds cs) {p' : Plr} (e1 : p'.deliveries = p.deliveries) (e2 : p'.commitments = p.commitments) : PlanAt T (upd H a (.ins T.P dx (pF p' ld lc))) a ld lc p' dx ds cs :=
  h.move Keep.refl.at_a upd_same ((upd_ne h.a_ld.symm).trans h.hd) ((upd_ne h.a_lc.symm).trans h.hc) h.ne (fun _ m => .inl m) (fun _ m => .inl m) (e1.trans h.ed) (e2.trans h.ec)
theorem PlanAt.popC (h : PlanAt T H a ld lc p dx ds cs) (j : Nat) : PlanAt T (upd H lc (.lst ((refs cs).eraseIdx j))) a ld lc { p with commitments := p.commitments.eraseIdx j } dx ds (cs.eraseIdx j) :=
  h.move Keep.refl.at_lc ((upd_ne h.a_lc).trans h.ob) ((upd_ne h.ne).trans h.hd) (upd_same.trans (by rw [refs_erase])) h.ne (fun _ m => .inl m) (fun _ m => .inl (List.mem_of_mem_eraseIdx m)) h.ed (by show p.commitments.eraseIdx j = _; rw [h.ec, map_eraseIdx'])
theorem PlanAt.popD (h : PlanAt T H a ld lc p dx ds cs) (j : Nat) : PlanAt T (upd H ld (.lst ((refs ds).eraseIdx j))) a ld lc { p with deliveries := p.deliveries.eraseIdx j } dx (ds.eraseIdx j) cs :=
  h.move Keep.refl.at_ld ((upd_ne h.a_ld).trans h.ob) (upd_same.trans (by rw [refs_erase])) ((upd_ne h.ne.symm).trans h.hc) h.ne (fun _ m => .inl (List.mem_of_mem_eraseIdx m)) (fun _ m => .inl m) (by show p.deliveries.eraseIdx j = _; rw [h.ed, map_eraseIdx']) h.ec
theorem PlanAt.lenC (h : PlanAt T H a ld lc p dx ds cs) : (refs cs).length = p.commitments.length := by rw [refs_length, h.ec, List.length_map]
theorem PlanAt.lenD (h : PlanAt T H a ld lc p dx ds cs) : (refs ds).length = p.deliveries.length := by rw [refs_length, h.ed, List.length_map]
theorem PlanAt.getC (h : PlanAt T H a ld lc p dx ds cs) {j : Nat} (hj : j < p.commitments.length) : ∃ q, cs[j]? = some q ∧ p.commitments[j]? = some q.2 ∧ CmtAt T H q.1 q.2 := by
  have hj' : j < cs.length := by rw [h.ec, List.length_map] at hj; exact hj
  refine ⟨cs[j], List.getElem?_eq_getElem hj', ?_, h.cm _ (List.getElem_mem hj')⟩
  rw [h.ec, List.getElem?_map, List.getElem?_eq_getElem hj']
  rfl
theorem PlanAt.getD (h : PlanAt T H a ld lc p dx ds cs) {j : Nat} (hj : j < p.deliveries.length) : ∃ q, ds[j]? = some q ∧ p.deliveries[j]? = some q.2 ∧ DlvAt T H q.1 q.2 := by
  have hj' : j < ds.length := by rw [h.ed, List.length_map] at hj; exact hj
  refine ⟨ds[j], List.getElem?_eq_getElem hj', ?_, h.dl _ (List.getElem_mem hj')⟩
  rw [h.ed, List.getElem?_map, List.getElem?_eq_getElem hj']
  rfl
end
/-- the end of a call that has changed the plan -/
theorem Done.fin {C : Cl} {H H' : Hp} {a ld lc l : Addr} {p p' : Plr} {c : Km549.Call} {Q : VK} {r : Km549.Result} {dx : Addr} {ds : List (Addr × Dlv)} {cs : List (Addr × Cmt)} (go : Done C H a ld lc p c Q) (e : Km549.step (some p) c = (some p', r)) (h : PlanAt C H' a ld lc p' dx ds cs) (f : Fit p') (k : Keep a ld lc H H') (n : H' l = none) (nH : H l = none) {vs : List V} (ev : vs = ans r) : Q (.ref l) (upd H' l (.lst vs)) := by
  subst ev
  exact go _ l p' ld lc r e ⟨⟨dx, ds, cs, h.same (Same.new n)⟩, f⟩ (.inl rfl) (.inl rfl) (k.same (Same.new n)) nH upd_same
theorem Keep.free {a ld lc : Addr} {H H1 : Hp} (k : Keep a ld lc H H1) {l : Addr} (n : H1 l = none) (n1 : l ≠ a) (n2 : l ≠ ld) (n3 : l ≠ lc) : H l = none := by
  cases e : H l with
  | none => rfl
  | some o =>
    rw [k l o e n1 n2 n3] at n
    cases n
theorem PlanAt.free {T : Cl} {H H1 : Hp} {a ld lc : Addr} {p : Plr} {dx : Addr} {ds : List (Addr × Dlv)} {cs : List (Addr × Cmt)} (h : PlanAt T H1 a ld lc p dx ds cs) (k : Keep a ld lc H H1) {l : Addr} (n : H1 l = none) : H l = none :=
  k.free n (fun e => by rw [e, h.ob] at n; cases n) (fun e => by rw [e, h.hd] at n; cases n) (fun e => by rw [e, h.hc] at n; cases n)
theorem pop_ok {j n : Nat} (h : j < n) : seqIndex? (j : Int) n = some j := by
  rw [seqIndex_of (Int.natCast_nonneg j) (by omega), Int.toNat_natCast]
section
variable {P : Program} {w : World} {K : PySem.W.Frag} {mg : Str → Option Value} {base : Heap} {C : Cl}
abbrev s_cancel_commitment : Stmt := topS 41
theorem sc_cancel_commitment : FnScope ["plan", "commitment"] ["plan", "commitment"] (defScope s_cancel_commitment) := ⟨rfl, rfl, rfl, by decide +kernel, rfl, by decide +kernel, by decide +kernel⟩
def sp_cancel_commitment (C : Cl) : Sp := fun vs H Q _ => ∃ (a ld lc : Addr) (p : Plr) (j : Nat), vs = [.ref a, .int (j : Nat)] ∧ IsPlan C H a ld lc p ∧ Done C H a ld lc p (.cancelCommitment j) Q
theorem step_cancel (p : Plr) (j : Nat) : Km549.step (some p) (.cancelCommitment j) = if p.commitments.length ≤ j then (some p, Km549.error (-2)) else (some (Km549.withoutCommitment p j), Km549.number (p.commitments.length - 1 : Nat)) := rfl
theorem ok_cancel_commitment {f : Addr} {fd : FuncData} (T : Txt K mg C) (F : Fun K "cancel_commitment" "cancel_commitment" s_cancel_commitment f fd) : FnOk P w K mg base CX0 1 f fd ["plan", "commitment"] (sp_cancel_commitment C) := by
  refine F.ok sc_cancel_commitment (fun vs H Q E h => ?_) (fun cdv A outer s H vs Q E hr h => ?_)
  · obtain ⟨a, ld, lc, p, j, rfl, _⟩ := h
    rfl
  · refine ⟨_, (pss_cons (ps_if (pt_cmpR op_ge (pv 1) (pe_callB call_len_seq (by rfl) T.n_len PySem.boot_len (pa_cons (pe_fld (pv 0) rfl) pa_nil)) (nomark _))
    (pss_one (ps_ret (pe_lst (pa_cons (pe_cst rfl T.c_NOT_FOUND) pa_nil))))
    pss_nil)
  (pss_cons (ps_expr (pe_bm PySem.F.plainAttrs_list PySem.F.slot_list_pop PySem.F.type_list_pop mt_popAt (pe_fld (pv 0) rfl) (pa_cons (pv 1) pa_nil)))
  (pss_one (ps_ret (pe_lst (pa_cons (pe_callB call_len_seq (by rfl) T.n_len PySem.boot_len (pa_cons (pe_fld (pv 0) rfl) pa_nil)) pa_nil)))))), ?_⟩
    obtain ⟨a, ld, lc, p, j, rfl, hp, go⟩ := h
    obtain ⟨⟨dx, ds, cs, h⟩, f⟩ := id hp
    have fnc := f.nc
    refine ⟨_, rfl, _, rfl, a, C.P, dx, _, _, rfl, h.ob, T.clP, T.naP _ (by simp), lkP_commitments, lc, _, rfl, .inl (SqL.of h.hc), _, _, rfl, rfl, _, rfl, ?_⟩
    rw [h.lenC]
    refine ifD (fun c => ⟨one_le, fun l hl => go.new hp ((step_cancel p j).trans (if_pos (by omega))) (Same.refl _) hl⟩) fun c => ?_
    obtain ⟨q, g1, g2, _⟩ := h.getC (j := j) (by omega)
    refine ⟨_, rfl, a, C.P, dx, _, _, rfl, h.ob, T.clP, T.naP _ (by simp), lkP_commitments, .inl ⟨rfl, _, SqL.of h.hc⟩, _, rfl, lc, _, _, j, _, rfl, rfl, h.hc, by omega, by omega, pop_ok (by rw [h.lenC]; omega), refs_at g1, ?_⟩
    have h1 := h.popC j
    refine ⟨_, rfl, a, C.P, dx, _, _, rfl, h1.ob, T.clP, T.naP _ (by simp), lkP_commitments, lc, _, rfl, .inl (SqL.of upd_same), one_le, fun l hl => ?_⟩
    refine go.fin ((step_cancel p j).trans (if_neg (by omega))) h1 ⟨f.td, f.nd, ?_⟩ Keep.refl.at_lc hl (h1.free Keep.refl.at_lc hl) ?_
    · show (p.commitments.eraseIdx j).length ≤ 7
      rw [List.length_eraseIdx_of_lt (by omega)]
      omega
    · refine congrArg (fun n => [V.int n]) ?_
      rw [refs_erase, refs_length, List.length_eraseIdx_of_lt (by have := h.lenC; rw [refs_length] at this; omega), ← refs_length, h.lenC]
      rfl
abbrev s_delivery_failed : Stmt := topS 43
theorem sc_delivery_failed : FnScope ["plan", "delivery"] ["plan", "delivery"] (defScope s_delivery_failed) := ⟨rfl, rfl, rfl, by decide +kernel, rfl, by decide +kernel, by decide +kernel⟩
def sp_delivery_failed (C : Cl) : Sp := fun vs H Q _ => ∃ (a ld lc : Addr) (p : Plr) (j : Nat), vs = [.ref a, .int (j : Nat)] ∧ IsPlan C H a ld lc p ∧ Done C H a ld lc p (.deliveryFailed j) Q
theorem step_failed_none {p : Plr} {j : Nat} (h : p.deliveries.length ≤ j) : Km549.step (some p) (.deliveryFailed j) = (some p, Km549.error (-2)) := by
  show (match p.deliveries[j]? with | none => _ | some _ => _) = _
  rw [List.getElem?_eq_none h]
theorem step_failed_some {p : Plr} {j : Nat} {d : Dlv} (h : p.deliveries[j]? = some d) : Km549.step (some p) (.deliveryFailed j) = (some { Km549.withoutDelivery p j with failedCount := p.failedCount + 1 }, Km549.number (p.deliveries.length - 1 : Nat)) := by
  show (match p.deliveries[j]? with | none => _ | some _ => _) = _
  rw [h]
theorem ok_delivery_failed {f : Addr} {fd : FuncData} (T : Txt K mg C) (F : Fun K "delivery_failed" "delivery_failed" s_delivery_failed f fd) : FnOk P w K mg base CX0 1 f fd ["plan", "delivery"] (sp_delivery_failed C) := by
  refine F.ok sc_delivery_failed (fun vs H Q E h => ?_) (fun cdv A outer s H vs Q E hr h => ?_)
  · obtain ⟨a, ld, lc, p, j, rfl, _⟩ := h
    rfl
  · refine ⟨_, (pss_cons (ps_if (pt_cmpR op_ge (pv 1) (pe_callB call_len_seq (by rfl) T.n_len PySem.boot_len (pa_cons (pe_fld (pv 0) rfl) pa_nil)) (nomark _))
    (pss_one (ps_ret (pe_lst (pa_cons (pe_cst rfl T.c_NOT_FOUND) pa_nil))))
    pss_nil)
  (pss_cons (ps_expr (pe_bm PySem.F.plainAttrs_list PySem.F.slot_list_pop PySem.F.type_list_pop mt_popAt (pe_fld (pv 0) rfl) (pa_cons (pv 1) pa_nil)))
  (pss_cons (ps_fldaug (pv 0) pe_int in_add)
  (pss_one (ps_ret (pe_lst (pa_cons (pe_callB call_len_seq (by rfl) T.n_len PySem.boot_len (pa_cons (pe_fld (pv 0) rfl) pa_nil)) pa_nil))))))), ?_⟩
    obtain ⟨a, ld, lc, p, j, rfl, hp, go⟩ := h
    obtain ⟨⟨dx, ds, cs, h⟩, f⟩ := id hp
    have fnd := f.nd
    refine ⟨_, rfl, _, rfl, a, C.P, dx, _, _, rfl, h.ob, T.clP, T.naP _ (by simp), lkP_deliveries, ld, _, rfl, .inl (SqL.of h.hd), _, _, rfl, rfl, _, rfl, ?_⟩
    rw [h.lenD]
    refine ifD (fun c => ⟨one_le, fun l hl => go.new hp (step_failed_none (by omega)) (Same.refl _) hl⟩) fun c => ?_
    obtain ⟨q, g1, g2, _⟩ := h.getD (j := j) (by omega)
    refine ⟨_, rfl, a, C.P, dx, _, _, rfl, h.ob, T.clP, T.naP _ (by simp), lkP_deliveries, .inl ⟨rfl, _, SqL.of h.hd⟩, _, rfl, ld, _, _, j, _, rfl, rfl, h.hd, by omega, by omega, pop_ok (by rw [h.lenD]; omega), refs_at g1, ?_⟩
    have h1 := h.popD j
    have k1 : Keep a ld lc H (upd H ld (.lst ((refs ds).eraseIdx j))) := Keep.refl.at_ld
    generalize upd H ld (.lst ((refs ds).eraseIdx j)) = H1 at h1 k1 ⊢
    refine ⟨_, rfl, a, C.P, dx, _, _, rfl, h1.ob, T.clP, T.naP _ (by simp), lkP_failed, _, _, rfl, rfl, dx, _, h1.ob, (by show 7 < 1000; decide), ?_⟩
    rw [show (.int ((p.failedCount : Int) + 1) : V) = .int ((p.failedCount + 1 : Nat) : Int) from rfl, pF_failed]
    have h2 := h1.setF (p' := { Km549.withoutDelivery p j with failedCount := p.failedCount + 1 }) rfl rfl
    have k2 := k1.at_a (o := .ins C.P dx (pF { Km549.withoutDelivery p j with failedCount := p.failedCount + 1 } ld lc))
    refine ⟨_, rfl, a, C.P, dx, _, _, rfl, h2.ob, T.clP, T.naP _ (by simp), lkP_deliveries, ld, _, rfl, .inl (SqL.of h2.hd), one_le, fun l hl => ?_⟩
    refine go.fin (step_failed_some g2) h2 ⟨f.td, ?_, f.nc⟩ k2 hl (h2.free k2 hl) ?_
    · show (p.deliveries.eraseIdx j).length ≤ 6
      rw [List.length_eraseIdx_of_lt (by omega)]
      omega
    · refine congrArg (fun n => [V.int n]) ?_
      rw [refs_length, List.length_eraseIdx_of_lt (by have := h.lenD; rw [refs_length] at this; omega), ← refs_length, h.lenD]
      rfl
abbrev s_delivery_arrived : Stmt := topS 42
theorem sc_delivery_arrived : FnScope ["plan", "delivery"] ["plan", "delivery"] (defScope s_delivery_arrived) := ⟨rfl, rfl, rfl, by decide +kernel, rfl, by decide +kernel, by decide +kernel⟩
def sp_delivery_arrived (C : Cl) : Sp := fun vs H Q _ => ∃ (a ld lc : Addr) (p : Plr) (j : Nat), vs = [.ref a, .int (j : Nat)] ∧ IsPlan C H a ld lc p ∧ Done C H a ld lc p (.deliveryArrived j) Q
theorem step_arrived_none {p : Plr} {j : Nat} (h : p.deliveries.length ≤ j) : Km549.step (some p) (.deliveryArrived j) = (some p, Km549.error (-2)) := by
  show (match p.deliveries[j]? with | none => _ | some _ => _) = _
  rw [List.getElem?_eq_none h]
theorem step_arrived_some {p : Plr} {j : Nat} {d : Dlv} (h : p.deliveries[j]? = some d) : Km549.step (some p) (.deliveryArrived j) = if p.today < d.earliest then (some p, Km549.error (-33)) else (some { Km549.withoutDelivery p j with stock := p.stock + d.amount, arrivedCount := p.arrivedCount + 1 }, Km549.number (p.stock + d.amount : Nat)) := by
  show (match p.deliveries[j]? with | none => _ | some _ => _) = _
  rw [h]
theorem ok_delivery_arrived {f : Addr} {fd : FuncData} (T : Txt K mg C) (F : Fun K "delivery_arrived" "delivery_arrived" s_delivery_arrived f fd) : FnOk P w K mg base CX0 1 f fd ["plan", "delivery"] (sp_delivery_arrived C) := by
  refine F.ok sc_delivery_arrived (fun vs H Q E h => ?_) (fun cdv A outer s H vs Q E hr h => ?_)
  · obtain ⟨a, ld, lc, p, j, rfl, _⟩ := h
    rfl
  · refine ⟨_, (pss_cons (ps_if (pt_cmpR op_ge (pv 1) (pe_callB call_len_seq (by rfl) T.n_len PySem.boot_len (pa_cons (pe_fld (pv 0) rfl) pa_nil)) (nomark _))
    (pss_one (ps_ret (pe_lst (pa_cons (pe_cst rfl T.c_NOT_FOUND) pa_nil))))
    pss_nil)
  (pss_cons (ps_if (pt_cmpR op_lt (pe_fld (pv 0) rfl) (pe_fld (pe_ix ix_list (pe_fld (pv 0) rfl) (pv 1) (fun _ _ => rfl)) rfl) (nomark _))
    (pss_one (ps_ret (pe_lst (pa_cons (pe_cst rfl T.c_NOT_POSSIBLE) pa_nil))))
    pss_nil)
  (pss_cons (ps_fldaug (pv 0) (pe_fld (pe_ix ix_list (pe_fld (pv 0) rfl) (pv 1) (fun _ _ => rfl)) rfl) in_add)
  (pss_cons (ps_expr (pe_bm PySem.F.plainAttrs_list PySem.F.slot_list_pop PySem.F.type_list_pop mt_popAt (pe_fld (pv 0) rfl) (pa_cons (pv 1) pa_nil)))
  (pss_cons (ps_fldaug (pv 0) pe_int in_add)
  (pss_one (ps_ret (pe_lst (pa_cons (pe_fld (pv 0) rfl) pa_nil))))))))), ?_⟩
    obtain ⟨a, ld, lc, p, j, rfl, hp, go⟩ := h
    obtain ⟨⟨dx, ds, cs, h⟩, f⟩ := id hp
    have fnd := f.nd
    refine ⟨_, rfl, _, rfl, a, C.P, dx, _, _, rfl, h.ob, T.clP, T.naP _ (by simp), lkP_deliveries, ld, _, rfl, .inl (SqL.of h.hd), _, _, rfl, rfl, _, rfl, ?_⟩
    rw [h.lenD]
    refine ifD (fun c => ⟨one_le, fun l hl => go.new hp (step_arrived_none (by omega)) (Same.refl _) hl⟩) fun c => ?_
    obtain ⟨q, g1, g2, dq, hq⟩ := h.getD (j := j) (by omega)
    refine ⟨_, rfl, a, C.P, dx, _, _, rfl, h.ob, T.clP, T.naP _ (by simp), lkP_today, _, rfl, a, C.P, dx, _, _, rfl, h.ob, T.clP, T.naP _ (by simp), lkP_deliveries, _, rfl, ld, _, _, _, rfl, rfl, SqL.of h.hd, atI_nat (refs_at g1), q.1, C.D, dq, _, _, rfl, hq, T.clD, T.naD _ (by simp), lkD_earliest, _, _, rfl, rfl, _, rfl, ?_⟩
    refine ifD (fun c => ⟨one_le, fun l hl => go.new hp ((step_arrived_some g2).trans (if_pos (by omega))) (Same.refl _) hl⟩) fun c2 => ?_
    -- plan.stock += plan.deliveries[delivery].amount
    refine ⟨_, rfl, a, C.P, dx, _, _, rfl, h.ob, T.clP, T.naP _ (by simp), lkP_stock, _, rfl, a, C.P, dx, _, _, rfl, h.ob, T.clP, T.naP _ (by simp), lkP_deliveries, _, rfl, ld, _, _, _, rfl, rfl, SqL.of h.hd, atI_nat (refs_at g1), q.1, C.D, dq, _, _, rfl, hq, T.clD, T.naD _ (by simp), lkD_amount, _, _, rfl, rfl, dx, _, h.ob, (by show 7 < 1000; decide), ?_⟩
    rw [show (.int ((p.stock : Int) + (q.2.amount : Int)) : V) = .int ((p.stock + q.2.amount : Nat) : Int) from rfl, pF_stock]
    have h1 := h.setF (p' := { p with stock := p.stock + q.2.amount }) rfl rfl
    have k1 : Keep a ld lc H _ := Keep.refl.at_a (o := .ins C.P dx (pF { p with stock := p.stock + q.2.amount } ld lc))
    generalize upd H a (.ins C.P dx (pF { p with stock := p.stock + q.2.amount } ld lc)) = H1 at h1 k1 ⊢
    -- plan.deliveries.pop(delivery)
    refine ⟨_, rfl, a, C.P, dx, _, _, rfl, h1.ob, T.clP, T.naP _ (by simp), lkP_deliveries, .inl ⟨rfl, _, SqL.of h1.hd⟩, _, rfl, ld, _, _, j, _, rfl, rfl, h1.hd, by omega, by omega, pop_ok (by rw [h.lenD]; omega), refs_at g1, ?_⟩
    have h2 := h1.popD j
    have k2 := k1.at_ld (o := .lst ((refs ds).eraseIdx j))
    generalize upd H1 ld (.lst ((refs ds).eraseIdx j)) = H2 at h2 k2 ⊢
    -- plan.arrived += 1
    refine ⟨_, rfl, a, C.P, dx, _, _, rfl, h2.ob, T.clP, T.naP _ (by simp), lkP_arrived, _, _, rfl, rfl, dx, _, h2.ob, (by show 7 < 1000; decide), ?_⟩
    rw [show (.int ((p.arrivedCount : Int) + 1) : V) = .int ((p.arrivedCount + 1 : Nat) : Int) from rfl, pF_arrived]
    have h3 := h2.setF (p' := { Km549.withoutDelivery p j with stock := p.stock + q.2.amount, arrivedCount := p.arrivedCount + 1 }) rfl rfl
    have k3 := k2.at_a (o := .ins C.P dx (pF { Km549.withoutDelivery p j with stock := p.stock + q.2.amount, arrivedCount := p.arrivedCount + 1 } ld lc))
    refine ⟨_, rfl, a, C.P, dx, _, _, rfl, h3.ob, T.clP, T.naP _ (by simp), lkP_stock, one_le, fun l hl => ?_⟩
    refine go.fin ((step_arrived_some g2).trans (if_neg (by omega))) h3 ⟨f.td, ?_, f.nc⟩ k3 hl (h3.free k3 hl) rfl
    show (p.deliveries.eraseIdx j).length ≤ 6
    rw [List.length_eraseIdx_of_lt (by omega)]
    omega
abbrev s_fulfill_commitment : Stmt := topS 44
theorem sc_fulfill_commitment : FnScope ["plan", "commitment"] ["plan", "commitment"] (defScope s_fulfill_commitment) := ⟨rfl, rfl, rfl, by decide +kernel, rfl, by decide +kernel, by decide +kernel⟩
def sp_fulfill_commitment (C : Cl) : Sp := fun vs H Q _ => ∃ (a ld lc : Addr) (p : Plr) (j : Nat), vs = [.ref a, .int (j : Nat)] ∧ IsPlan C H a ld lc p ∧ Done C H a ld lc p (.fulfillCommitment j) Q
theorem step_fulfill_none {p : Plr} {j : Nat} (h : p.commitments.length ≤ j) : Km549.step (some p) (.fulfillCommitment j) = (some p, Km549.error (-2)) := by
  show (match p.commitments[j]? with | none => _ | some _ => _) = _
  rw [List.getElem?_eq_none h]
theorem step_fulfill_some {p : Plr} {j : Nat} {d : Cmt} (h : p.commitments[j]? = some d) : Km549.step (some p) (.fulfillCommitment j) = if p.stock < d.amount then (some p, Km549.error (-19)) else (some { Km549.withoutCommitment p j with stock := p.stock - d.amount, fulfilledCount := p.fulfilledCount + 1 }, Km549.number (p.stock - d.amount : Nat)) := by
  show (match p.commitments[j]? with | none => _ | some _ => _) = _
  rw [h]
theorem ok_fulfill_commitment {f : Addr} {fd : FuncData} (T : Txt K mg C) (F : Fun K "fulfill_commitment" "fulfill_commitment" s_fulfill_commitment f fd) : FnOk P w K mg base CX0 1 f fd ["plan", "commitment"] (sp_fulfill_commitment C) := by
  refine F.ok sc_fulfill_commitment (fun vs H Q E h => ?_) (fun cdv A outer s H vs Q E hr h => ?_)
  · obtain ⟨a, ld, lc, p, j, rfl, _⟩ := h
    rfl
  · refine ⟨_, (pss_cons (ps_if (pt_cmpR op_ge (pv 1) (pe_callB call_len_seq (by rfl) T.n_len PySem.boot_len (pa_cons (pe_fld (pv 0) rfl) pa_nil)) (nomark _))
    (pss_one (ps_ret (pe_lst (pa_cons (pe_cst rfl T.c_NOT_FOUND) pa_nil))))
    pss_nil)
  (pss_cons (ps_if (pt_cmpR op_lt (pe_fld (pv 0) rfl) (pe_fld (pe_ix ix_list (pe_fld (pv 0) rfl) (pv 1) (fun _ _ => rfl)) rfl) (nomark _))
    (pss_one (ps_ret (pe_lst (pa_cons (pe_cst rfl T.c_STOCK_TOO_SMALL) pa_nil))))
    pss_nil)
  (pss_cons (ps_fldaug (pv 0) (pe_fld (pe_ix ix_list (pe_fld (pv 0) rfl) (pv 1) (fun _ _ => rfl)) rfl) in_sub)
  (pss_cons (ps_expr (pe_bm PySem.F.plainAttrs_list PySem.F.slot_list_pop PySem.F.type_list_pop mt_popAt (pe_fld (pv 0) rfl) (pa_cons (pv 1) pa_nil)))
  (pss_cons (ps_fldaug (pv 0) pe_int in_add)
  (pss_one (ps_ret (pe_lst (pa_cons (pe_fld (pv 0) rfl) pa_nil))))))))), ?_⟩
    obtain ⟨a, ld, lc, p, j, rfl, hp, go⟩ := h
    obtain ⟨⟨dx, ds, cs, h⟩, f⟩ := id hp
    have fnd := f.nc
    refine ⟨_, rfl, _, rfl, a, C.P, dx, _, _, rfl, h.ob, T.clP, T.naP _ (by simp), lkP_commitments, lc, _, rfl, .inl (SqL.of h.hc), _, _, rfl, rfl, _, rfl, ?_⟩
    rw [h.lenC]
    refine ifD (fun c => ⟨one_le, fun l hl => go.new hp (step_fulfill_none (by omega)) (Same.refl _) hl⟩) fun c => ?_
    obtain ⟨q, g1, g2, dq, hq⟩ := h.getC (j := j) (by omega)
    refine ⟨_, rfl, a, C.P, dx, _, _, rfl, h.ob, T.clP, T.naP _ (by simp), lkP_stock, _, rfl, a, C.P, dx, _, _, rfl, h.ob, T.clP, T.naP _ (by simp), lkP_commitments, _, rfl, lc, _, _, _, rfl, rfl, SqL.of h.hc, atI_nat (refs_at g1), q.1, C.C, dq, _, _, rfl, hq, T.clC, T.naC _ (by simp), lkC_amount, _, _, rfl, rfl, _, rfl, ?_⟩
    refine ifD (fun c => ⟨one_le, fun l hl => go.new hp ((step_fulfill_some g2).trans (if_pos (by omega))) (Same.refl _) hl⟩) fun c2 => ?_
    refine ⟨_, rfl, a, C.P, dx, _, _, rfl, h.ob, T.clP, T.naP _ (by simp), lkP_stock, _, rfl, a, C.P, dx, _, _, rfl, h.ob, T.clP, T.naP _ (by simp), lkP_commitments, _, rfl, lc, _, _, _, rfl, rfl, SqL.of h.hc, atI_nat (refs_at g1), q.1, C.C, dq, _, _, rfl, hq, T.clC, T.naC _ (by simp), lkC_amount, _, _, rfl, rfl, dx, _, h.ob, (by show 7 < 1000; decide), ?_⟩
    rw [show (.int ((p.stock : Int) - (q.2.amount : Int)) : V) = .int ((p.stock - q.2.amount : Nat) : Int) from congrArg V.int (by omega), pF_stock]
    have h1 := h.setF (p' := { p with stock := p.stock - q.2.amount }) rfl rfl
    have k1 : Keep a ld lc H _ := Keep.refl.at_a (o := .ins C.P dx (pF { p with stock := p.stock - q.2.amount } ld lc))
    generalize upd H a (.ins C.P dx (pF { p with stock := p.stock - q.2.amount } ld lc)) = H1 at h1 k1 ⊢
    refine ⟨_, rfl, a, C.P, dx, _, _, rfl, h1.ob, T.clP, T.naP _ (by simp), lkP_commitments, .inl ⟨rfl, _, SqL.of h1.hc⟩, _, rfl, lc, _, _, j, _, rfl, rfl, h1.hc, by omega, by omega, pop_ok (by rw [h.lenC]; omega), refs_at g1, ?_⟩
    have h2 := h1.popC j
    have k2 := k1.at_lc (o := .lst ((refs cs).eraseIdx j))
    generalize upd H1 lc (.lst ((refs cs).eraseIdx j)) = H2 at h2 k2 ⊢
    refine ⟨_, rfl, a, C.P, dx, _, _, rfl, h2.ob, T.clP, T.naP _ (by simp), lkP_fulfilled, _, _, rfl, rfl, dx, _, h2.ob, (by show 7 < 1000; decide), ?_⟩
    rw [show (.int ((p.fulfilledCount : Int) + 1) : V) = .int ((p.fulfilledCount + 1 : Nat) : Int) from rfl, pF_fulfilled]
    have h3 := h2.setF (p' := { Km549.withoutCommitment p j with stock := p.stock - q.2.amount, fulfilledCount := p.fulfilledCount + 1 }) rfl rfl
    have k3 := k2.at_a (o := .ins C.P dx (pF { Km549.withoutCommitment p j with stock := p.stock - q.2.amount, fulfilledCount := p.fulfilledCount + 1 } ld lc))
    refine ⟨_, rfl, a, C.P, dx, _, _, rfl, h3.ob, T.clP, T.naP _ (by simp), lkP_stock, one_le, fun l hl => ?_⟩
    refine go.fin ((step_fulfill_some g2).trans (if_neg (by omega))) h3 ⟨f.td, f.nd, ?_⟩ k3 hl (h3.free k3 hl) rfl
    show (p.commitments.eraseIdx j).length ≤ 7
    rw [List.length_eraseIdx_of_lt (by omega)]
    omega
end
end Cs

namespace Cs
open PySem PySem.Spec PyProof.Rows L2
section
variable {P : Program} {w : World} {K : PySem.W.Frag} {mg : Str → Option Value} {base : Heap} {C : Cl}
abbrev s_next_day : Stmt := topS 45
theorem sc_next_day : FnScope ["plan", "commitment", "delivery"] ["plan"] (defScope s_next_day) := ⟨rfl, rfl, rfl, by decide +kernel, rfl, by decide +kernel, by decide +kernel⟩
def sp_next_day (C : Cl) : Sp := fun vs H Q _ => ∃ (a ld lc : Addr) (p : Plr), vs = [.ref a] ∧ IsPlan C H a ld lc p ∧ Done C H a ld lc p .nextDay Q
theorem step_nextDay (p : Plr) : Km549.step (some p) .nextDay = if (p.commitments.any fun c => decide (c.due ≤ p.today)) = true then (some p, Km549.error (-30)) else if (p.deliveries.any fun d => decide (d.latest ≤ p.today)) = true then (some p, Km549.error (-33)) else if 30 ≤ p.today then (some p, Km549.error (-75)) else (some { p with today := p.today + 1 }, Km549.number (p.today + 1 : Nat)) := rfl
theorem any_bl {α : Type} (l : List α) (g : α → Bool) : (l.filterMap fun q => some (V.bl (g q))) = (l.map g).map V.bl := by
  rw [List.map_map]
  exact congrFun (List.filterMap_eq_map (f := fun q => V.bl (g q))) l
theorem any_id {α β : Type} (l : List (α × β)) (g : β → Bool) : ((l.map fun q => g q.2).any id) = ((l.map (·.2)).any g) := by
  rw [List.any_map, List.any_map]
  rfl
theorem ok_next_day {f : Addr} {fd : FuncData} (T : Txt K mg C) (F : Fun K "next_day" "next_day" s_next_day f fd) : FnOk P w K mg base CX0 1 f fd ["plan"] (sp_next_day C) := by
  refine F.ok sc_next_day (fun vs H Q E h => ?_) (fun cdv A outer s H vs Q E hr h => ?_)
  · obtain ⟨a, ld, lc, p, rfl, _⟩ := h
    rfl
  · refine ⟨_, (pss_cons (ps_if (pt_val (pe_callB (cr_any rfl) (by rfl) T.n_any (by decide +kernel) (pa_cons (pe_lc (own := [("commitment", 1)]) (g := gName 1) (te := (tOp bLe (tFld K (tVar 1) "due") (tFld K (tVar 0) "today"))) rfl sc_next_day.nd (pi_list (pe_fld (pv 0) rfl)) (blkOk_by (N := ["plan", "commitment", "delivery"]) (sc := defScope s_next_day) (by decide +kernel)) (fun _ _ _ _ _ => pg_name (i := 1) sc_next_day.nd rfl (Or.inl rfl)) (fun _ _ _ _ _ => pts_nil) (fun _ _ _ _ _ => (pe_cmpR op_le (pe_fld (pv 1) rfl) (pe_fld (pv 0) rfl) (nomark _)))) pa_nil)))
    (pss_one (ps_ret (pe_lst (pa_cons (pe_cst rfl T.c_STILL_DUE) pa_nil))))
    pss_nil)
  (pss_cons (ps_if (pt_val (pe_callB (cr_any rfl) (by rfl) T.n_any (by decide +kernel) (pa_cons (pe_lc (own := [("delivery", 2)]) (g := gName 2) (te := (tOp bLe (tFld K (tVar 2) "latest") (tFld K (tVar 0) "today"))) rfl sc_next_day.nd (pi_list (pe_fld (pv 0) rfl)) (blkOk_by (N := ["plan", "commitment", "delivery"]) (sc := defScope s_next_day) (by decide +kernel)) (fun _ _ _ _ _ => pg_name (i := 2) sc_next_day.nd rfl (Or.inl rfl)) (fun _ _ _ _ _ => pts_nil) (fun _ _ _ _ _ => (pe_cmpR op_le (pe_fld (pv 2) rfl) (pe_fld (pv 0) rfl) (nomark _)))) pa_nil)))
    (pss_one (ps_ret (pe_lst (pa_cons (pe_cst rfl T.c_NOT_POSSIBLE) pa_nil))))
    pss_nil)
  (pss_cons (ps_if (pt_cmpR op_eq (pe_fld (pv 0) rfl) (pe_cst rfl T.c_LAST_DAY) (nomark _))
    (pss_one (ps_ret (pe_lst (pa_cons (pe_cst rfl T.c_AT_LAST_DAY) pa_nil))))
    pss_nil)
  (pss_cons (ps_fldaug (pv 0) pe_int in_add)
  (pss_one (ps_ret (pe_lst (pa_cons (pe_fld (pv 0) rfl) pa_nil)))))))), ?_⟩
    obtain ⟨a, ld, lc, p, rfl, hp, go⟩ := h
    obtain ⟨⟨dx, ds, cs, h⟩, f⟩ := id hp
    have fnd := f.nd
    have fnc := f.nc
    refine ⟨_, rfl, a, C.P, dx, _, _, rfl, h.ob, T.clP, T.naP _ (by simp), lkP_commitments, _, rfl, ⟨_, SqL.of h.hc⟩, fun D hD => ?_⟩
    refine lc_keep (K := K) (its := cs) (toV := fun q => V.ref q.1) (fun q => some (V.bl (decide (q.2.due ≤ p.today)))) (SqL.of h.hc) hD (small1000 (by have := h.lenC; rw [refs_length] at this; omega)) ?_ ?_
    · intro i q H' Qy Qn hi s1 hy hn
      obtain ⟨dq, hq⟩ := h.cm q (List.mem_of_getElem? hi)
      refine ⟨rfl, yes_then ⟨_, rfl, q.1, C.C, dq, _, _, rfl, s1 _ _ hq, T.clC, T.naC _ (by simp), lkC_due, _, rfl, a, C.P, dx, _, _, rfl, s1 _ _ h.ob, T.clP, T.naP _ (by simp), lkP_today, _, _, rfl, rfl, ?_⟩⟩
      exact hy _ _ (congrArg some (congrArg V.bl (by rw [decide_eq_decide]; omega))) (Same.refl _)
    intro H1 s1 hl
    rw [any_bl] at hl
    refine ⟨D, _, rfl, SqL.of hl, _, rfl, ?_⟩
    rw [any_id cs fun c => decide (c.due ≤ p.today), ← h.ec]
    cases b1 : p.commitments.any fun c => decide (c.due ≤ p.today) with
    | true => exact iteT ⟨one_le, fun l hl => go.new hp ((step_nextDay p).trans (if_pos b1)) s1 hl⟩
    | false =>
    refine iteF ?_
    have h1 := h.same s1
    refine ⟨_, rfl, a, C.P, dx, _, _, rfl, h1.ob, T.clP, T.naP _ (by simp), lkP_deliveries, _, rfl, ⟨_, SqL.of h1.hd⟩, fun D2 hD2 => ?_⟩
    refine lc_keep (K := K) (its := ds) (toV := fun q => V.ref q.1) (fun q => some (V.bl (decide (q.2.latest ≤ p.today)))) (SqL.of h1.hd) hD2 (small1000 (by have := h.lenD; rw [refs_length] at this; omega)) ?_ ?_
    · intro i q H' Qy Qn hi s2 hy hn
      obtain ⟨dq, hq⟩ := h1.dl q (List.mem_of_getElem? hi)
      refine ⟨rfl, yes_then ⟨_, rfl, q.1, C.D, dq, _, _, rfl, s2 _ _ hq, T.clD, T.naD _ (by simp), lkD_latest, _, rfl, a, C.P, dx, _, _, rfl, s2 _ _ h1.ob, T.clP, T.naP _ (by simp), lkP_today, _, _, rfl, rfl, ?_⟩⟩
      exact hy _ _ (congrArg some (congrArg V.bl (by rw [decide_eq_decide]; omega))) (Same.refl _)
    intro H2 s2 hl2
    rw [any_bl] at hl2
    refine ⟨D2, _, rfl, SqL.of hl2, _, rfl, ?_⟩
    rw [any_id ds fun c => decide (c.latest ≤ p.today), ← h.ed]
    have nb1 : ¬ (p.commitments.any fun c => decide (c.due ≤ p.today)) = true := by rw [b1]; exact Bool.false_ne_true
    cases b2 : p.deliveries.any fun c => decide (c.latest ≤ p.today) with
    | true => exact iteT ⟨one_le, fun l hl => go.new hp ((step_nextDay p).trans ((if_neg nb1).trans (if_pos b2))) (s1.trans s2) hl⟩
    | false =>
    refine iteF ?_
    have nb2 : ¬ (p.deliveries.any fun c => decide (c.latest ≤ p.today)) = true := by rw [b2]; exact Bool.false_ne_true
    have h2 := h1.same s2
    have ftd := f.td
    refine ⟨_, rfl, a, C.P, dx, _, _, rfl, h2.ob, T.clP, T.naP _ (by simp), lkP_today, rfl, _, rfl, ?_⟩
    refine ifD (fun c => ⟨one_le, fun l hl => go.new hp ((step_nextDay p).trans ((if_neg nb1).trans ((if_neg nb2).trans (if_pos (by have := V.int.inj c; omega))))) (s1.trans s2) hl⟩) fun c => ?_
    have c' : p.today ≠ 30 := fun e => c (by rw [e]; rfl)
    refine ⟨_, rfl, a, C.P, dx, _, _, rfl, h2.ob, T.clP, T.naP _ (by simp), lkP_today, _, _, rfl, rfl, dx, _, h2.ob, (by show 7 < 1000; decide), ?_⟩
    rw [show (.int ((p.today : Int) + 1) : V) = .int ((p.today + 1 : Nat) : Int) from rfl, pF_today]
    have h3 := h2.setF (p' := { p with today := p.today + 1 }) rfl rfl
    have k3 : Keep a ld lc H _ := (same_keep (s1.trans s2)).at_a (o := .ins C.P dx (pF { p with today := p.today + 1 } ld lc))
    refine ⟨_, rfl, a, C.P, dx, _, _, rfl, h3.ob, T.clP, T.naP _ (by simp), lkP_today, one_le, fun l hl => ?_⟩
    refine go.fin ((step_nextDay p).trans ((if_neg nb1).trans ((if_neg nb2).trans (if_neg (by omega))))) h3 ⟨?_, f.nd, f.nc⟩ k3 hl (h3.free k3 hl) rfl
    show p.today + 1 ≤ 30
    omega
end
end Cs

namespace Cs
open PySem PySem.Spec PyProof.Rows L2
section
variable {P : Program} {w : World} {K : PySem.W.Frag} {mg : Str → Option Value} {base : Heap} {C : Cl}
abbrev s_is_covered : Stmt := topS 51
theorem sc_is_covered : FnScope ["plan", "k"] ["plan", "k"] (defScope s_is_covered) := ⟨rfl, rfl, rfl, by decide +kernel, rfl, by decide +kernel, by decide +kernel⟩
def sp_is_covered (C : Cl) : Sp := fun vs H Q _ => ∃ (a ld lc : Addr) (p : Plr) (k : Nat), vs = [.ref a, .int (k : Nat)] ∧ IsPlan C H a ld lc p ∧ Done C H a ld lc p (.isCovered k) Q
theorem step_isCovered (p : Plr) (k : Nat) : Km549.step (some p) (.isCovered k) = (some p, if 6 < k then Km549.error (-22) else Km549.boolean (Km549.isCovered p k)) := rfl
theorem ok_is_covered {f : Addr} {fd : FuncData} (T : Txt K mg C) (F : Fun K "is_covered" "is_covered" s_is_covered f fd) (D1 : Def P w K mg base 4 "covered_for" ["plan", "k"] (sp_covered_for C)) : FnOk P w K mg base CX0 5 f fd ["plan", "k"] (sp_is_covered C) := by
  refine F.ok sc_is_covered (fun vs H Q E h => ?_) (fun cdv A outer s H vs Q E hr h => ?_)
  · obtain ⟨a, ld, lc, p, k, rfl, _⟩ := h
    rfl
  · obtain ⟨_, _, G_covered_for, m_covered_for, k_covered_for, b_covered_for⟩ := D1.ex
    have hr_covered_for := hr
    refine ⟨_, (pss_cons (ps_if (pt_cmpR op_gt (pv 1) (pe_cst rfl T.c_MOST_FAILURES) (nomark _))
    (pss_one (ps_ret (pe_lst (pa_cons (pe_cst rfl T.c_OUT_OF_RANGE) pa_nil))))
    pss_nil)
  (pss_one (ps_ret (pe_lst (pa_cons (pe_ifExp (pt_val (pe_call G_covered_for hr_covered_for rfl m_covered_for k_covered_for b_covered_for .nil pass0 (pa_cons (pv 0) (pa_cons (pv 1) pa_nil)))) pe_int pe_int) pa_nil))))), ?_⟩
    obtain ⟨a, ld, lc, p, k, rfl, hp, go⟩ := h
    refine ⟨_, rfl, _, _, rfl, rfl, _, rfl, ?_⟩
    refine ifD (fun c => ⟨one_le, fun l hl => go.new hp ((step_isCovered p k).trans (congrArg (Prod.mk (some p)) (if_pos (by omega)))) (Same.refl _) hl⟩) fun c => ?_
    have e := (step_isCovered p k).trans (congrArg (Prod.mk (some p)) (if_neg (by omega)))
    refine ⟨_, rfl, _, rfl, a, ld, lc, p, k, rfl, hp, fun H1 s1 => ?_⟩
    refine ⟨_, rfl, ?_⟩
    cases b : Km549.isCovered p k with
    | true =>
      rw [b] at e
      exact iteT ⟨one_le, fun l hl => go.new hp e s1 hl⟩
    | false =>
      rw [b] at e
      exact iteF ⟨one_le, fun l hl => go.new hp e s1 hl⟩
abbrev s_list_deliveries : Stmt := topS 49
theorem sc_list_deliveries : FnScope ["plan", "result", "delivery"] ["plan"] (defScope s_list_deliveries) := ⟨rfl, rfl, rfl, by decide +kernel, rfl, by decide +kernel, by decide +kernel⟩
def sp_list_deliveries (C : Cl) : Sp := fun vs H Q _ => ∃ (a ld lc : Addr) (p : Plr), vs = [.ref a] ∧ IsPlan C H a ld lc p ∧ Done C H a ld lc p .listDeliveries Q
def dInts (d : Dlv) : List Int := [(d.amount : Int), (d.earliest : Int), (d.latest : Int)]
theorem step_listDeliveries (p : Plr) : Km549.step (some p) .listDeliveries = (some p, ⟨(p.deliveries.length : Int), p.deliveries.flatMap dInts⟩) := rfl
theorem ok_list_deliveries {f : Addr} {fd : FuncData} (T : Txt K mg C) (F : Fun K "list_deliveries" "list_deliveries" s_list_deliveries f fd) : FnOk P w K mg base CX0 1 f fd ["plan"] (sp_list_deliveries C) := by
  refine F.ok sc_list_deliveries (fun vs H Q E h => ?_) (fun cdv A outer s H vs Q E hr h => ?_)
  · obtain ⟨a, ld, lc, p, rfl, _⟩ := h
    rfl
  · refine ⟨_, (pss_cons (ps_set (i := 1) sc_list_deliveries.nd rfl (Or.inl rfl) (pe_lst (pa_cons (pe_callB call_len_seq (by rfl) T.n_len PySem.boot_len (pa_cons (pe_fld (pv 0) rfl) pa_nil)) pa_nil)))
  (pss_cons (ps_for PassesOwn.never rfl (pi_list (pe_fld (pv 0) rfl)) (pg_name (i := 2) sc_list_deliveries.nd rfl (Or.inl rfl))
    (pss_one (ps_expr (pe_bm PySem.F.plainAttrs_list PySem.F.slot_list_extend PySem.F.type_list_extend mt_extend (pv 1) (pa_cons (pe_lst (pa_cons (pe_fld (pv 2) rfl) (pa_cons (pe_fld (pv 2) rfl) (pa_cons (pe_fld (pv 2) rfl) pa_nil)))) pa_nil)))))
  (pss_one (ps_ret (pv 1))))), ?_⟩
    obtain ⟨a, ld, lc, p, rfl, hp, go⟩ := h
    obtain ⟨⟨dx, ds, cs, h⟩, f⟩ := id hp
    have fnd := f.nd
    have fl := h.lenD
    rw [refs_length] at fl
    refine ⟨_, rfl, a, C.P, dx, _, _, rfl, h.ob, T.clP, T.naP _ (by simp), lkP_deliveries, ld, _, rfl, .inl (SqL.of h.hd), one_le, fun l hl => ?_⟩
    refine ⟨_, rfl, a, C.P, dx, _, _, rfl, Same.new hl _ _ h.ob, T.clP, T.naP _ (by simp), lkP_deliveries, _, rfl, ⟨_, SqL.of (Same.new hl _ _ h.hd)⟩, ?_⟩
    refine for_list (K := K) (a := ld) (xs := refs ds) (fun i σ H' => ∃ v : Option V, σ = [some (.ref a), some (.ref l), v] ∧ Same H H' ∧ H' l = some (.lst ((((ds.length : Nat) : Int) :: ((ds.take i).map (·.2)).flatMap dInts).map V.int)))
      ⟨none, rfl, Same.new hl, ?_⟩ (fun i σ H' _ ⟨_, _, s1, _⟩ => s1.seq (SqL.of h.hd)) ?_ ?_
    · rw [upd_same, refs_length]
      rfl
    · rintro i x σ H' hi ⟨v, rfl, s1, hl1⟩
      obtain ⟨q, hq, rfl⟩ := map_get hi
      obtain ⟨dq, hd⟩ := h.dl q (List.mem_of_getElem? hq)
      have hd := s1 _ _ hd
      refine ⟨_, rfl, .inl ⟨rfl, _, SqL.of hl1⟩, _, rfl, q.1, C.D, dq, _, _, rfl, hd, T.clD, T.naD _ (by simp), lkD_amount, _, rfl, q.1, C.D, dq, _, _, rfl, hd, T.clD, T.naD _ (by simp), lkD_earliest, _, rfl, q.1, C.D, dq, _, _, rfl, hd, T.clD, T.naD _ (by simp), lkD_latest, (by show 3 ≤ sizeLine; decide), fun m hm => ?_⟩
      have nlm : m ≠ l := fun e => by rw [e, hl1] at hm; cases hm
      have hz : i < ds.length := (List.getElem?_eq_some_iff.mp hq).1
      refine ⟨l, m, _, _, rfl, rfl, (upd_ne nlm.symm).trans hl1, upd_same, ?_, ?_⟩
      · refine Nat.le_of_lt (small1000 ?_)
        rw [List.length_map, List.length_cons, List.length_flatMap]
        show ((((ds.take i).map (·.2)).map fun d => 3).sum + 1) + 3 ≤ 1000
        rw [List.map_const', List.sum_replicate_nat, List.length_map, List.length_take]
        omega
      · refine ⟨_, rfl, fun b o e => ?_, ?_⟩
        · rw [upd_ne (ne_of_none e hl)]
          exact Same.new hm b o (s1 b o e)
        · rw [upd_same, take_more hq, List.map_append, List.flatMap_append]
          show _ = some (HO.lst (List.map V.int (_ :: (_ ++ _))))
          rw [← List.cons_append, List.map_append]
          rfl
    · rintro σ H' ⟨v, rfl, s1, hl1⟩
      rw [refs_length, List.take_length, ← h.ed, fl] at hl1
      exact ⟨_, rfl, go.nochange hp (step_listDeliveries p) s1 hl hl1⟩
abbrev s_list_commitments : Stmt := topS 50
theorem sc_list_commitments : FnScope ["plan", "result", "commitment"] ["plan"] (defScope s_list_commitments) := ⟨rfl, rfl, rfl, by decide +kernel, rfl, by decide +kernel, by decide +kernel⟩
def sp_list_commitments (C : Cl) : Sp := fun vs H Q _ => ∃ (a ld lc : Addr) (p : Plr), vs = [.ref a] ∧ IsPlan C H a ld lc p ∧ Done C H a ld lc p .listCommitments Q
def cInts (d : Cmt) : List Int := [(d.amount : Int), (d.due : Int)]
theorem step_listCommitments (p : Plr) : Km549.step (some p) .listCommitments = (some p, ⟨(p.commitments.length : Int), p.commitments.flatMap cInts⟩) := rfl
theorem ok_list_commitments {f : Addr} {fd : FuncData} (T : Txt K mg C) (F : Fun K "list_commitments" "list_commitments" s_list_commitments f fd) : FnOk P w K mg base CX0 1 f fd ["plan"] (sp_list_commitments C) := by
  refine F.ok sc_list_commitments (fun vs H Q E h => ?_) (fun cdv A outer s H vs Q E hr h => ?_)
  · obtain ⟨a, ld, lc, p, rfl, _⟩ := h
    rfl
  · refine ⟨_, (pss_cons (ps_set (i := 1) sc_list_commitments.nd rfl (Or.inl rfl) (pe_lst (pa_cons (pe_callB call_len_seq (by rfl) T.n_len PySem.boot_len (pa_cons (pe_fld (pv 0) rfl) pa_nil)) pa_nil)))
  (pss_cons (ps_for PassesOwn.never rfl (pi_list (pe_fld (pv 0) rfl)) (pg_name (i := 2) sc_list_commitments.nd rfl (Or.inl rfl))
    (pss_one (ps_expr (pe_bm PySem.F.plainAttrs_list PySem.F.slot_list_extend PySem.F.type_list_extend mt_extend (pv 1) (pa_cons (pe_lst (pa_cons (pe_fld (pv 2) rfl) (pa_cons (pe_fld (pv 2) rfl) pa_nil))) pa_nil)))))
  (pss_one (ps_ret (pv 1))))), ?_⟩
    obtain ⟨a, ld, lc, p, rfl, hp, go⟩ := h
    obtain ⟨⟨dx, ds, cs, h⟩, f⟩ := id hp
    have fnc := f.nc
    have fl := h.lenC
    rw [refs_length] at fl
    refine ⟨_, rfl, a, C.P, dx, _, _, rfl, h.ob, T.clP, T.naP _ (by simp), lkP_commitments, lc, _, rfl, .inl (SqL.of h.hc), one_le, fun l hl => ?_⟩
    refine ⟨_, rfl, a, C.P, dx, _, _, rfl, Same.new hl _ _ h.ob, T.clP, T.naP _ (by simp), lkP_commitments, _, rfl, ⟨_, SqL.of (Same.new hl _ _ h.hc)⟩, ?_⟩
    refine for_list (K := K) (a := lc) (xs := refs cs) (fun i σ H' => ∃ v : Option V, σ = [some (.ref a), some (.ref l), v] ∧ Same H H' ∧ H' l = some (.lst ((((cs.length : Nat) : Int) :: ((cs.take i).map (·.2)).flatMap cInts).map V.int)))
      ⟨none, rfl, Same.new hl, ?_⟩ (fun i σ H' _ ⟨_, _, s1, _⟩ => s1.seq (SqL.of h.hc)) ?_ ?_
    · rw [upd_same, refs_length]
      rfl
    · rintro i x σ H' hi ⟨v, rfl, s1, hl1⟩
      obtain ⟨q, hq, rfl⟩ := map_get hi
      obtain ⟨dq, hd⟩ := h.cm q (List.mem_of_getElem? hq)
      have hd := s1 _ _ hd
      refine ⟨_, rfl, .inl ⟨rfl, _, SqL.of hl1⟩, _, rfl, q.1, C.C, dq, _, _, rfl, hd, T.clC, T.naC _ (by simp), lkC_amount, _, rfl, q.1, C.C, dq, _, _, rfl, hd, T.clC, T.naC _ (by simp), lkC_due, (by show 2 ≤ sizeLine; decide), fun m hm => ?_⟩
      have nlm : m ≠ l := fun e => by rw [e, hl1] at hm; cases hm
      have hz : i < cs.length := (List.getElem?_eq_some_iff.mp hq).1
      refine ⟨l, m, _, _, rfl, rfl, (upd_ne nlm.symm).trans hl1, upd_same, ?_, ?_⟩
      · refine Nat.le_of_lt (small1000 ?_)
        rw [List.length_map, List.length_cons, List.length_flatMap]
        show ((((cs.take i).map (·.2)).map fun d => 2).sum + 1) + 2 ≤ 1000
        rw [List.map_const', List.sum_replicate_nat, List.length_map, List.length_take]
        omega
      · refine ⟨_, rfl, fun b o e => ?_, ?_⟩
        · rw [upd_ne (ne_of_none e hl)]
          exact Same.new hm b o (s1 b o e)
        · rw [upd_same, take_more hq, List.map_append, List.flatMap_append]
          show _ = some (HO.lst (List.map V.int (_ :: (_ ++ _))))
          rw [← List.cons_append, List.map_append]
          rfl
    · rintro σ H' ⟨v, rfl, s1, hl1⟩
      rw [refs_length, List.take_length, ← h.ec, fl] at hl1
      exact ⟨_, rfl, go.nochange hp (step_listCommitments p) s1 hl hl1⟩
theorem Done.new' {C : Cl} {H H' : Hp} {a ld lc l : Addr} {p : Plr} {c : Km549.Call} {Q : VK} {r : Km549.Result} {xs : List V} (go : Done C H a ld lc p c Q) (hp : IsPlan C H a ld lc p) (e : Km549.step (some p) c = (some p, r)) (s : Same H H') (n : H' l = Option.none) (ex : xs = ans r) : Q (.ref l) (upd H' l (.lst xs)) := by
  subst ex
  exact go.new hp e s n
abbrev s_counted : Stmt := topS 48
theorem sc_counted : FnScope ["numbers"] ["numbers"] (defScope s_counted) := ⟨rfl, rfl, rfl, by decide +kernel, rfl, by decide +kernel, by decide +kernel⟩
def sp_counted (C : Cl) : Sp := fun vs H Q _ => ∃ (m : Addr) (xs : List Nat), vs = [.ref m] ∧ H m = some (.lst ((natI xs).map V.int)) ∧ xs.length ≤ 100 ∧
  ∀ H' l, Same H H' → H l = none → H' l = some (.lst (ans (Km549.listResult xs))) → Q (.ref l) H'
theorem natI_length (xs : List Nat) : ((natI xs).map V.int).length = xs.length := by unfold natI; rw [List.length_map, List.length_map]
theorem ok_counted {f : Addr} {fd : FuncData} (T : Txt K mg C) (F : Fun K "counted" "counted" s_counted f fd) : FnOk P w K mg base CX0 1 f fd ["numbers"] (sp_counted C) := by
  refine F.ok sc_counted (fun vs H Q E h => ?_) (fun cdv A outer s H vs Q E hr h => ?_)
  · obtain ⟨m, xs, rfl, _⟩ := h
    rfl
  · refine ⟨_, (pss_one (ps_ret (pe_op op_cat (pe_lst (pa_cons (pe_callB call_len_seq (by rfl) T.n_len PySem.boot_len (pa_cons (pv 0) pa_nil)) pa_nil)) (pv 0)))), ?_⟩
    obtain ⟨m, xs, rfl, hm, hz, go⟩ := h
    refine ⟨_, rfl, m, _, rfl, .inl (SqL.of hm), one_le, fun l1 n1 => ?_⟩
    refine ⟨_, rfl, l1, m, _, _, rfl, rfl, upd_same, Same.new n1 _ _ hm, ?_, fun l n => ?_⟩
    · rw [natI_length]
      exact Nat.le_of_lt (small1000 (show 1 + xs.length ≤ 1000 by omega))
    · refine go _ l ((Same.new n1).trans (Same.new n)) ((Same.new n1).free n) (upd_same.trans ?_)
      rw [natI_length]
      rfl
abbrev s_surplus : Stmt := topS 52
theorem sc_surplus : FnScope ["plan", "k", "day", "supply", "due"] ["plan", "k", "day"] (defScope s_surplus) := ⟨rfl, rfl, rfl, by decide +kernel, rfl, by decide +kernel, by decide +kernel⟩
def sp_surplus (C : Cl) : Sp := fun vs H Q _ => ∃ (a ld lc : Addr) (p : Plr) (k t : Nat), vs = [.ref a, .int (k : Nat), .int (t : Nat)] ∧ IsPlan C H a ld lc p ∧ Done C H a ld lc p (.surplus k t) Q
theorem step_surplus (p : Plr) (k t : Nat) : Km549.step (some p) (.surplus k t) = (some p, if 6 < k ∨ 30 < t ∨ t < p.today then Km549.error (-22) else ⟨(if 0 ≤ Km549.surplus p k t then 1 else 0), [if 0 ≤ Km549.surplus p k t then Km549.surplus p k t else -Km549.surplus p k t, (Km549.certainSupply p k t : Int), (Km549.dueBy p t : Int)]⟩) := rfl
theorem ok_surplus {f : Addr} {fd : FuncData} (T : Txt K mg C) (F : Fun K "surplus" "surplus" s_surplus f fd)
    (D1 : Def P w K mg base 1 "day_ahead" ["plan", "day"] (sp_day_ahead C)) (D2 : Def P w K mg base 1 "certain_supply" ["plan", "k", "day"] (sp_certain_supply C)) (D3 : Def P w K mg base 1 "due_by" ["plan", "day"] (sp_due_by C)) :
    FnOk P w K mg base CX0 2 f fd ["plan", "k", "day"] (sp_surplus C) := by
  refine F.ok sc_surplus (fun vs H Q E h => ?_) (fun cdv A outer s H vs Q E hr h => ?_)
  · obtain ⟨a, ld, lc, p, k, t, rfl, _⟩ := h
    rfl
  · obtain ⟨_, _, G_day_ahead, m_day_ahead, k_day_ahead, b_day_ahead⟩ := D1.ex
    obtain ⟨_, _, G_certain_supply, m_certain_supply, k_certain_supply, b_certain_supply⟩ := D2.ex
    obtain ⟨_, _, G_due_by, m_due_by, k_due_by, b_due_by⟩ := D3.ex
    have hr_day_ahead := hr
    have hr_certain_supply := hr
    have hr_due_by := hr
    refine ⟨_, (pss_cons (ps_if (PW.pt (pw_or (pt_cmpR op_gt (pv 1) (pe_cst rfl T.c_MOST_FAILURES) (nomark _)) (pw_or1 (pt_not (pt_val (pe_call G_day_ahead hr_day_ahead rfl m_day_ahead k_day_ahead b_day_ahead .nil pass0 (pa_cons (pv 0) (pa_cons (pv 2) pa_nil))))))))
    (pss_one (ps_ret (pe_lst (pa_cons (pe_cst rfl T.c_OUT_OF_RANGE) pa_nil))))
    pss_nil)
  (pss_cons (ps_set (i := 3) sc_surplus.nd rfl (Or.inl rfl) (pe_call G_certain_supply hr_certain_supply rfl m_certain_supply k_certain_supply b_certain_supply .nil pass0 (pa_cons (pv 0) (pa_cons (pv 1) (pa_cons (pv 2) pa_nil)))))
  (pss_cons (ps_set (i := 4) sc_surplus.nd rfl (Or.inl rfl) (pe_call G_due_by hr_due_by rfl m_due_by k_due_by b_due_by .nil pass0 (pa_cons (pv 0) (pa_cons (pv 2) pa_nil))))
  (pss_one (ps_ret (pe_lst (pa_cons (pe_ifExp (pt_cmpR op_ge (pv 3) (pv 4) (nomark _)) pe_int pe_int) (pa_cons (pe_callB call_abs (by rfl) T.n_abs (by decide +kernel) (pa_cons (pe_op op_sub (pv 3) (pv 4)) pa_nil)) (pa_cons (pv 3) (pa_cons (pv 4) pa_nil)))))))))), ?_⟩
    obtain ⟨a, ld, lc, p, k, t, rfl, hp, go⟩ := h
    have bad : (6 < k ∨ 30 < t ∨ t < p.today) → ∀ l, H l = none → Q (.ref l) (upd H l (.lst [.int (-22)])) := fun c l hl =>
      go.new hp ((step_surplus p k t).trans (congrArg (Prod.mk (some p)) (if_pos c))) (Same.refl _) hl
    refine ⟨_, rfl, _, _, rfl, rfl, _, rfl, ?_⟩
    refine ifD (fun c => iteT ⟨one_le, bad (by omega)⟩) fun c1 => ?_
    refine ⟨_, rfl, _, rfl, a, ld, lc, p, t, rfl, hp, _, rfl, ?_⟩
    refine ifN (fun c => ⟨one_le, bad (by omega)⟩) fun c2 => ?_
    have e := (step_surplus p k t).trans (congrArg (Prod.mk (some p)) (if_neg (by omega)))
    refine ⟨_, rfl, _, rfl, _, rfl, a, ld, lc, p, k, t, rfl, hp, fun H1 s1 => ?_⟩
    refine ⟨_, rfl, _, rfl, a, ld, lc, p, t, rfl, hp.same s1, fun H2 s2 => ?_⟩
    refine ⟨_, rfl, _, rfl, _, _, rfl, rfl, _, rfl, ?_⟩
    have es : Km549.surplus p k t = (Km549.certainSupply p k t : Int) - (Km549.dueBy p t : Int) := rfl
    refine ifD (fun c => ?_) (fun c => ?_)
    · refine ⟨_, rfl, _, rfl, _, _, rfl, rfl, _, rfl, _, rfl, _, rfl, (by show 4 ≤ sizeLine; decide), fun l hl => go.new' hp e (s1.trans s2) hl ?_⟩
      have h0 : 0 ≤ Km549.surplus p k t := by omega
      simp only [if_pos h0]
      rw [es, if_neg (by omega)]
      rfl
    · refine ⟨_, rfl, _, rfl, _, _, rfl, rfl, _, rfl, _, rfl, _, rfl, (by show 4 ≤ sizeLine; decide), fun l hl => go.new' hp e (s1.trans s2) hl ?_⟩
      have h0 : ¬ 0 ≤ Km549.surplus p k t := by omega
      simp only [if_neg h0]
      rw [es, if_pos (by omega)]
      rfl
abbrev s_available : Stmt := topS 53
theorem sc_available : FnScope ["plan", "k", "day", "amount"] ["plan", "k", "day"] (defScope s_available) := ⟨rfl, rfl, rfl, by decide +kernel, rfl, by decide +kernel, by decide +kernel⟩
def sp_available (C : Cl) : Sp := fun vs H Q _ => ∃ (a ld lc : Addr) (p : Plr) (k t : Nat), vs = [.ref a, .int (k : Nat), .int (t : Nat)] ∧ IsPlan C H a ld lc p ∧ Done C H a ld lc p (.available k t) Q
theorem step_available (p : Plr) (k t : Nat) : Km549.step (some p) (.available k t) = (some p, if 6 < k ∨ 30 < t ∨ t < p.today then Km549.error (-22) else if Km549.available p k t < 0 then Km549.error (-33) else Km549.number (Km549.available p k t)) := rfl
theorem ok_available {f : Addr} {fd : FuncData} (T : Txt K mg C) (F : Fun K "available" "available" s_available f fd)
    (D1 : Def P w K mg base 1 "day_ahead" ["plan", "day"] (sp_day_ahead C)) (D2 : Def P w K mg base 3 "available_for" ["plan", "k", "day"] (sp_available_for C)) :
    FnOk P w K mg base CX0 4 f fd ["plan", "k", "day"] (sp_available C) := by
  refine F.ok sc_available (fun vs H Q E h => ?_) (fun cdv A outer s H vs Q E hr h => ?_)
  · obtain ⟨a, ld, lc, p, k, t, rfl, _⟩ := h
    rfl
  · obtain ⟨_, _, G_day_ahead, m_day_ahead, k_day_ahead, b_day_ahead⟩ := D1.ex
    obtain ⟨_, _, G_available_for, m_available_for, k_available_for, b_available_for⟩ := D2.ex
    have hr_day_ahead : Room 1 _ := hr.mono (by decide)
    have hr_available_for := hr
    refine ⟨_, (pss_cons (ps_if (PW.pt (pw_or (pt_cmpR op_gt (pv 1) (pe_cst rfl T.c_MOST_FAILURES) (nomark _)) (pw_or1 (pt_not (pt_val (pe_call G_day_ahead hr_day_ahead rfl m_day_ahead k_day_ahead b_day_ahead .nil pass0 (pa_cons (pv 0) (pa_cons (pv 2) pa_nil))))))))
    (pss_one (ps_ret (pe_lst (pa_cons (pe_cst rfl T.c_OUT_OF_RANGE) pa_nil))))
    pss_nil)
  (pss_cons (ps_set (i := 3) sc_available.nd rfl (Or.inl rfl) (pe_call G_available_for hr_available_for rfl m_available_for k_available_for b_available_for .nil pass0 (pa_cons (pv 0) (pa_cons (pv 1) (pa_cons (pv 2) pa_nil)))))
  (pss_cons (ps_if (pt_cmpR op_lt (pv 3) pe_int (nomark _))
    (pss_one (ps_ret (pe_lst (pa_cons (pe_cst rfl T.c_NOT_POSSIBLE) pa_nil))))
    pss_nil)
  (pss_one (ps_ret (pe_lst (pa_cons (pv 3) pa_nil))))))), ?_⟩
    obtain ⟨a, ld, lc, p, k, t, rfl, hp, go⟩ := h
    have bad : (6 < k ∨ 30 < t ∨ t < p.today) → ∀ l, H l = none → Q (.ref l) (upd H l (.lst [.int (-22)])) := fun c l hl =>
      go.new hp ((step_available p k t).trans (congrArg (Prod.mk (some p)) (if_pos c))) (Same.refl _) hl
    refine ⟨_, rfl, _, _, rfl, rfl, _, rfl, ?_⟩
    refine ifD (fun c => iteT ⟨one_le, bad (by omega)⟩) fun c1 => ?_
    refine ⟨_, rfl, _, rfl, a, ld, lc, p, t, rfl, hp, _, rfl, ?_⟩
    refine ifN (fun c => ⟨one_le, bad (by omega)⟩) fun c2 => ?_
    have e := (step_available p k t).trans (congrArg (Prod.mk (some p)) (if_neg (by omega)))
    refine ⟨_, rfl, _, rfl, _, rfl, a, ld, lc, p, k, t, rfl, hp, c2.1, c2.2, fun H1 s1 => ?_⟩
    refine ⟨_, rfl, _, _, rfl, rfl, _, rfl, ?_⟩
    refine ifD (fun c => ?_) (fun c => ?_)
    · refine ⟨one_le, fun l hl => go.new hp (e.trans (congrArg (Prod.mk (some p)) (if_pos c))) s1 hl⟩
    · refine ⟨_, rfl, one_le, fun l hl => go.new hp (e.trans (congrArg (Prod.mk (some p)) (if_neg c))) s1 hl⟩
abbrev s_earliest_day : Stmt := topS 54
theorem sc_earliest_day : FnScope ["plan", "k", "amount", "day"] ["plan", "k", "amount"] (defScope s_earliest_day) := ⟨rfl, rfl, rfl, by decide +kernel, rfl, by decide +kernel, by decide +kernel⟩
def sp_earliest_day (C : Cl) : Sp := fun vs H Q _ => ∃ (a ld lc : Addr) (p : Plr) (k t : Nat), vs = [.ref a, .int (k : Nat), .int (t : Nat)] ∧ IsPlan C H a ld lc p ∧ Done C H a ld lc p (.earliestDay k t) Q
theorem step_earliest (p : Plr) (k x : Nat) : Km549.step (some p) (.earliestDay k x) = (some p, if 6 < k ∨ x = 0 then Km549.error (-22) else Km549.optionResult (Km549.earliestDay p k x)) := rfl
theorem ok_earliest_day {f : Addr} {fd : FuncData} (T : Txt K mg C) (F : Fun K "earliest_day" "earliest_day" s_earliest_day f fd)
    (D1 : Def P w K mg base 3 "available_for" ["plan", "k", "day"] (sp_available_for C)) : FnOk P w K mg base CX0 4 f fd ["plan", "k", "amount"] (sp_earliest_day C) := by
  refine F.ok sc_earliest_day (fun vs H Q E h => ?_) (fun cdv A outer s H vs Q E hr h => ?_)
  · obtain ⟨a, ld, lc, p, k, t, rfl, _⟩ := h
    rfl
  · obtain ⟨_, _, G_available_for, m_available_for, k_available_for, b_available_for⟩ := D1.ex
    have hr_available_for := hr
    refine ⟨_, (pss_cons (ps_if (PW.pt (pw_or (pt_cmpR op_gt (pv 1) (pe_cst rfl T.c_MOST_FAILURES) (nomark _)) (pw_or1 (pt_cmpR op_eq (pv 2) pe_int (nomark _)))))
    (pss_one (ps_ret (pe_lst (pa_cons (pe_cst rfl T.c_OUT_OF_RANGE) pa_nil))))
    pss_nil)
  (pss_cons (ps_for PassesOwn.never rfl (pi_range2 rfl T.n_range (pa_cons (pe_fld (pv 0) rfl) (pa_cons (pe_op op_add (pe_cst rfl T.c_LAST_DAY) pe_int) pa_nil))) (pg_name (i := 3) sc_earliest_day.nd rfl (Or.inl rfl))
    (pss_one (ps_if (pt_cmpR op_ge (pe_call G_available_for hr_available_for rfl m_available_for k_available_for b_available_for .nil pass0 (pa_cons (pv 0) (pa_cons (pv 1) (pa_cons (pv 3) pa_nil)))) (pv 2) (nomark _))
    (pss_one (ps_ret (pe_lst (pa_cons (pv 3) pa_nil))))
    pss_nil)))
  (pss_one (ps_ret (pe_lst (pa_cons (pe_cst rfl T.c_NOT_POSSIBLE) pa_nil)))))), ?_⟩
    obtain ⟨a, ld, lc, p, k, x, rfl, hp, go⟩ := h
    obtain ⟨⟨dx, ds, cs, h⟩, f⟩ := id hp
    have ftd := f.td
    have bad : (6 < k ∨ x = 0) → ∀ l, H l = none → Q (.ref l) (upd H l (.lst [.int (-22)])) := fun c l hl =>
      go.new hp ((step_earliest p k x).trans (congrArg (Prod.mk (some p)) (if_pos c))) (Same.refl _) hl
    refine ⟨_, rfl, _, _, rfl, rfl, _, rfl, ?_⟩
    refine ifD (fun c => iteT ⟨one_le, bad (by omega)⟩) fun c1 => ?_
    refine ⟨_, rfl, rfl, _, rfl, ?_⟩
    refine ifD (fun c => ⟨one_le, bad (.inr (by have := V.int.inj c; omega))⟩) fun c2 => ?_
    have c3 : x ≠ 0 := fun e => c2 (by rw [e]; rfl)
    have e := (step_earliest p k x).trans (congrArg (Prod.mk (some p)) (if_neg (by omega)))
    refine ⟨_, rfl, a, C.P, dx, _, _, rfl, h.ob, T.clP, T.naP _ (by simp), lkP_today, _, _, rfl, rfl, _, _, rfl, ⟨by omega, by omega, by omega, by omega⟩, ?_⟩
    refine for_range (lo := (p.today : Int)) (n := ((30 : Int) + 1 - (p.today : Int)).toNat) (fun i σ H' => ∃ v : Option V, σ = [some (.ref a), some (.int (k : Nat)), some (.int (x : Nat)), v] ∧ Same H H' ∧ ∀ t, p.today ≤ t → t < p.today + i → Km549.available p k t < x) ⟨none, rfl, Same.refl _, fun t h1 h2 => by omega⟩ ?_ ?_
    · rintro i σ H' hi ⟨v, rfl, s1, hall⟩
      refine ⟨_, rfl, _, rfl, _, rfl, a, ld, lc, p, k, p.today + i, rfl, hp.same s1, by omega, by omega, fun H1 s2 => ?_⟩
      refine ⟨_, rfl, _, _, rfl, rfl, _, rfl, ?_⟩
      refine ifD (fun c => ?_) (fun c => ?_)
      · refine ⟨_, rfl, one_le, fun l hl => go.new' hp e (s1.trans s2) hl ?_⟩
        rw [earliest_some (p := p) (k := k) (x := x) (d := p.today + i) (by omega) (by omega) c hall]
        rfl
      · refine ⟨_, rfl, s1.trans s2, fun t h1 h2 => ?_⟩
        by_cases q : t = p.today + i
        · rw [q]; omega
        · exact hall t h1 (by omega)
    · rintro σ H' ⟨v, rfl, s1, hall⟩
      refine ⟨one_le, fun l hl => go.new' hp e s1 hl ?_⟩
      rw [earliest_none (p := p) (k := k) (x := x) (fun t h1 h2 => hall t h1 (by omega))]
      rfl
abbrev s_tolerance : Stmt := topS 55
theorem sc_tolerance : FnScope ["plan", "k"] ["plan"] (defScope s_tolerance) := ⟨rfl, rfl, rfl, by decide +kernel, rfl, by decide +kernel, by decide +kernel⟩
def sp_tolerance (C : Cl) : Sp := fun vs H Q _ => ∃ (a ld lc : Addr) (p : Plr), vs = [.ref a] ∧ IsPlan C H a ld lc p ∧ Done C H a ld lc p .tolerance Q
theorem step_tolerance (p : Plr) : Km549.step (some p) .tolerance = (some p, Km549.optionResult (Km549.tolerance p)) := rfl
theorem ok_tolerance {f : Addr} {fd : FuncData} (T : Txt K mg C) (F : Fun K "tolerance" "tolerance" s_tolerance f fd)
    (D1 : Def P w K mg base 5 "most_failures_covered" ["plan"] (sp_most_failures_covered C)) : FnOk P w K mg base CX0 6 f fd ["plan"] (sp_tolerance C) := by
  refine F.ok sc_tolerance (fun vs H Q E h => ?_) (fun cdv A outer s H vs Q E hr h => ?_)
  · obtain ⟨a, ld, lc, p, rfl, _⟩ := h
    rfl
  · obtain ⟨_, _, G_most_failures_covered, m_most_failures_covered, k_most_failures_covered, b_most_failures_covered⟩ := D1.ex
    have hr_most_failures_covered := hr
    refine ⟨_, (pss_cons (ps_set (i := 1) sc_tolerance.nd rfl (Or.inl rfl) (pe_call G_most_failures_covered hr_most_failures_covered rfl m_most_failures_covered k_most_failures_covered b_most_failures_covered .nil pass0 (pa_cons (pv 0) pa_nil)))
  (pss_cons (ps_if (pt_cmpR op_isN (pv 1) pe_non (nomark _))
    (pss_one (ps_ret (pe_lst (pa_cons (pe_cst rfl T.c_NOT_POSSIBLE) pa_nil))))
    pss_nil)
  (pss_one (ps_ret (pe_lst (pa_cons (pv 1) pa_nil)))))), ?_⟩
    obtain ⟨a, ld, lc, p, rfl, hp, go⟩ := h
    refine ⟨_, rfl, a, ld, lc, p, rfl, hp, fun H1 s1 => ?_⟩
    have e := step_tolerance p
    cases b : Km549.tolerance p with
    | none =>
      rw [b] at e
      exact ⟨_, rfl, rfl, _, rfl, iteT ⟨one_le, fun l hl => go.new hp e s1 hl⟩⟩
    | some k =>
      rw [b] at e
      exact ⟨_, rfl, rfl, _, rfl, iteF ⟨_, rfl, one_le, fun l hl => go.new hp e s1 hl⟩⟩
abbrev s_safe_commitments : Stmt := topS 56
theorem sc_safe_commitments : FnScope ["plan", "k"] ["plan", "k"] (defScope s_safe_commitments) := ⟨rfl, rfl, rfl, by decide +kernel, rfl, by decide +kernel, by decide +kernel⟩
def sp_safe_commitments (C : Cl) : Sp := fun vs H Q _ => ∃ (a ld lc : Addr) (p : Plr) (k : Nat), vs = [.ref a, .int (k : Nat)] ∧ IsPlan C H a ld lc p ∧ Done C H a ld lc p (.safeCommitments k) Q
theorem safeL_length (p : Plr) (k : Nat) : (safeL p k).length ≤ p.commitments.length := by
  unfold safeL
  refine Nat.le_trans (List.length_filter_le _ _) ?_
  rw [List.length_range]
  exact Nat.le_refl _
theorem ok_safe_commitments {f : Addr} {fd : FuncData} (T : Txt K mg C) (F : Fun K "safe_commitments" "safe_commitments" s_safe_commitments f fd)
    (D1 : Def P w K mg base 4 "safe_numbers" ["plan", "k"] (sp_safe_numbers C)) (D2 : Def P w K mg base 1 "counted" ["numbers"] (sp_counted C)) : FnOk P w K mg base CX0 5 f fd ["plan", "k"] (sp_safe_commitments C) := by
  refine F.ok sc_safe_commitments (fun vs H Q E h => ?_) (fun cdv A outer s H vs Q E hr h => ?_)
  · obtain ⟨a, ld, lc, p, k, rfl, _⟩ := h
    rfl
  · obtain ⟨_, _, G_safe_numbers, m_safe_numbers, k_safe_numbers, b_safe_numbers⟩ := D1.ex
    obtain ⟨_, _, G_counted, m_counted, k_counted, b_counted⟩ := D2.ex
    have hr_safe_numbers := hr
    have hr_counted : Room 1 _ := hr.mono (by decide)
    refine ⟨_, (pss_cons (ps_if (pt_cmpR op_gt (pv 1) (pe_cst rfl T.c_MOST_FAILURES) (nomark _))
    (pss_one (ps_ret (pe_lst (pa_cons (pe_cst rfl T.c_OUT_OF_RANGE) pa_nil))))
    pss_nil)
  (pss_one (ps_ret (pe_call G_counted hr_counted rfl m_counted k_counted b_counted .nil pass0 (pa_cons (pe_call G_safe_numbers hr_safe_numbers rfl m_safe_numbers k_safe_numbers b_safe_numbers .nil pass0 (pa_cons (pv 0) (pa_cons (pv 1) pa_nil))) pa_nil))))), ?_⟩
    obtain ⟨a, ld, lc, p, k, rfl, hp, go⟩ := h
    have fnc := hp.2.nc
    refine ⟨_, rfl, _, _, rfl, rfl, _, rfl, ?_⟩
    refine ifD (fun c => ⟨one_le, fun l hl => go.new hp ((step_safe p k).trans (congrArg (Prod.mk (some p)) (if_pos (by omega)))) (Same.refl _) hl⟩) fun c => ?_
    have e := (step_safe p k).trans (congrArg (Prod.mk (some p)) (if_neg (by omega)))
    refine ⟨_, rfl, _, rfl, a, ld, lc, p, k, rfl, hp, fun H1 l1 s1 n1 e1 => ?_⟩
    refine ⟨l1, _, rfl, e1, by have := safeL_length p k; omega, fun H2 l2 s2 n2 e2 => ?_⟩
    exact go.nochange hp e (s1.trans s2) (s1.free n2) e2
abbrev s_first_shortage : Stmt := topS 58
theorem sc_first_shortage : FnScope ["plan", "k", "day"] ["plan", "k"] (defScope s_first_shortage) := ⟨rfl, rfl, rfl, by decide +kernel, rfl, by decide +kernel, by decide +kernel⟩
def sp_first_shortage (C : Cl) : Sp := fun vs H Q _ => ∃ (a ld lc : Addr) (p : Plr) (k : Nat), vs = [.ref a, .int (k : Nat)] ∧ IsPlan C H a ld lc p ∧ Done C H a ld lc p (.firstShortage k) Q
theorem step_shortage (p : Plr) (k : Nat) : Km549.step (some p) (.firstShortage k) = (some p, if 6 < k then Km549.error (-22) else match fsd p k with
    | none => Km549.error (-33)
    | some d => ⟨(d : Int), [-Km549.surplus p k d]⟩) := by
  show (some p, if 6 < k then Km549.error (-22) else match Km549.firstShortage p k with
    | none => Km549.error (-33)
    | some shortage => ⟨(shortage.1 : Int), [shortage.2]⟩) = _
  rw [shortage_fsd]
  cases fsd p k with
  | none => rfl
  | some d => rfl
theorem ok_first_shortage {f : Addr} {fd : FuncData} (T : Txt K mg C) (F : Fun K "first_shortage" "first_shortage" s_first_shortage f fd)
    (D1 : Def P w K mg base 3 "first_short_day" ["plan", "k"] (sp_first_short_day C)) (D2 : Def P w K mg base 2 "surplus_by" ["plan", "k", "day"] (sp_surplus_by C)) : FnOk P w K mg base CX0 4 f fd ["plan", "k"] (sp_first_shortage C) := by
  refine F.ok sc_first_shortage (fun vs H Q E h => ?_) (fun cdv A outer s H vs Q E hr h => ?_)
  · obtain ⟨a, ld, lc, p, k, rfl, _⟩ := h
    rfl
  · obtain ⟨_, _, G_first_short_day, m_first_short_day, k_first_short_day, b_first_short_day⟩ := D1.ex
    obtain ⟨_, _, G_surplus_by, m_surplus_by, k_surplus_by, b_surplus_by⟩ := D2.ex
    have hr_first_short_day := hr
    have hr_surplus_by : Room 2 _ := hr.mono (by decide)
    refine ⟨_, (pss_cons (ps_if (pt_cmpR op_gt (pv 1) (pe_cst rfl T.c_MOST_FAILURES) (nomark _))
    (pss_one (ps_ret (pe_lst (pa_cons (pe_cst rfl T.c_OUT_OF_RANGE) pa_nil))))
    pss_nil)
  (pss_cons (ps_set (i := 2) sc_first_shortage.nd rfl (Or.inl rfl) (pe_call G_first_short_day hr_first_short_day rfl m_first_short_day k_first_short_day b_first_short_day .nil pass0 (pa_cons (pv 0) (pa_cons (pv 1) pa_nil))))
  (pss_cons (ps_if (pt_cmpR op_isN (pv 2) pe_non (nomark _))
    (pss_one (ps_ret (pe_lst (pa_cons (pe_cst rfl T.c_NOT_POSSIBLE) pa_nil))))
    pss_nil)
  (pss_one (ps_ret (pe_lst (pa_cons (pv 2) (pa_cons (pe_un un_neg (pe_call G_surplus_by hr_surplus_by rfl m_surplus_by k_surplus_by b_surplus_by .nil pass0 (pa_cons (pv 0) (pa_cons (pv 1) (pa_cons (pv 2) pa_nil))))) pa_nil)))))))), ?_⟩
    obtain ⟨a, ld, lc, p, k, rfl, hp, go⟩ := h
    refine ⟨_, rfl, _, _, rfl, rfl, _, rfl, ?_⟩
    refine ifD (fun c => ⟨one_le, fun l hl => go.new hp ((step_shortage p k).trans (congrArg (Prod.mk (some p)) (if_pos (by omega)))) (Same.refl _) hl⟩) fun c => ?_
    have e := (step_shortage p k).trans (congrArg (Prod.mk (some p)) (if_neg (by omega)))
    refine ⟨_, rfl, _, rfl, a, ld, lc, p, k, rfl, hp, fun H1 s1 => ?_⟩
    cases b : fsd p k with
    | none =>
      rw [b] at e
      exact ⟨_, rfl, rfl, _, rfl, iteT ⟨one_le, fun l hl => go.new hp e s1 hl⟩⟩
    | some d =>
      rw [b] at e
      refine ⟨_, rfl, rfl, _, rfl, iteF ?_⟩
      refine ⟨_, rfl, _, rfl, _, rfl, _, rfl, a, ld, lc, p, k, d, rfl, hp.same s1, fun H2 s2 => ?_⟩
      exact ⟨_, rfl, (by show 2 ≤ sizeLine; decide), fun l hl => go.new hp e (s1.trans s2) hl⟩
abbrev s_summary : Stmt := topS 59
theorem sc_summary : FnScope ["plan", "counts"] ["plan"] (defScope s_summary) := ⟨rfl, rfl, rfl, by decide +kernel, rfl, by decide +kernel, by decide +kernel⟩
def sp_summary (C : Cl) : Sp := fun vs H Q _ => ∃ (a ld lc : Addr) (p : Plr), vs = [.ref a] ∧ IsPlan C H a ld lc p ∧ Done C H a ld lc p .summary Q
theorem step_summary (p : Plr) : Km549.step (some p) .summary = (some p, ⟨(p.today : Int), [(p.stock : Int), (p.deliveries.length : Int), (p.commitments.length : Int), (p.arrivedCount : Int), (p.failedCount : Int), (p.fulfilledCount : Int)]⟩) := rfl
theorem ok_summary {f : Addr} {fd : FuncData} (T : Txt K mg C) (F : Fun K "summary" "summary" s_summary f fd) : FnOk P w K mg base CX0 1 f fd ["plan"] (sp_summary C) := by
  refine F.ok sc_summary (fun vs H Q E h => ?_) (fun cdv A outer s H vs Q E hr h => ?_)
  · obtain ⟨a, ld, lc, p, rfl, _⟩ := h
    rfl
  · refine ⟨_, (pss_cons (ps_set (i := 1) sc_summary.nd rfl (Or.inl rfl) (pe_lst (pa_cons (pe_callB call_len_seq (by rfl) T.n_len PySem.boot_len (pa_cons (pe_fld (pv 0) rfl) pa_nil)) (pa_cons (pe_callB call_len_seq (by rfl) T.n_len PySem.boot_len (pa_cons (pe_fld (pv 0) rfl) pa_nil)) (pa_cons (pe_fld (pv 0) rfl) (pa_cons (pe_fld (pv 0) rfl) (pa_cons (pe_fld (pv 0) rfl) pa_nil)))))))
  (pss_one (ps_ret (pe_op op_cat (pe_lst (pa_cons (pe_fld (pv 0) rfl) (pa_cons (pe_fld (pv 0) rfl) pa_nil))) (pv 1))))), ?_⟩
    obtain ⟨a, ld, lc, p, rfl, hp, go⟩ := h
    obtain ⟨⟨dx, ds, cs, h⟩, f⟩ := id hp
    refine ⟨_, rfl, a, C.P, dx, _, _, rfl, h.ob, T.clP, T.naP _ (by simp), lkP_deliveries, ld, _, rfl, .inl (SqL.of h.hd), ?_⟩
    refine ⟨_, rfl, a, C.P, dx, _, _, rfl, h.ob, T.clP, T.naP _ (by simp), lkP_commitments, lc, _, rfl, .inl (SqL.of h.hc), ?_⟩
    refine ⟨_, rfl, a, C.P, dx, _, _, rfl, h.ob, T.clP, T.naP _ (by simp), lkP_arrived, ?_⟩
    refine ⟨_, rfl, a, C.P, dx, _, _, rfl, h.ob, T.clP, T.naP _ (by simp), lkP_failed, ?_⟩
    refine ⟨_, rfl, a, C.P, dx, _, _, rfl, h.ob, T.clP, T.naP _ (by simp), lkP_fulfilled, (by show 5 ≤ sizeLine; decide), fun l1 n1 => ?_⟩
    have s1 := Same.new (o := .lst [.int ((refs ds).length : Nat), .int ((refs cs).length : Nat), .int p.arrivedCount, .int p.failedCount, .int p.fulfilledCount]) n1
    have e1 : (upd H l1 (.lst [.int ((refs ds).length : Nat), .int ((refs cs).length : Nat), .int p.arrivedCount, .int p.failedCount, .int p.fulfilledCount])) l1 = some (.lst [.int ((refs ds).length : Nat), .int ((refs cs).length : Nat), .int p.arrivedCount, .int p.failedCount, .int p.fulfilledCount]) := upd_same
    generalize upd H l1 (.lst [.int ((refs ds).length : Nat), .int ((refs cs).length : Nat), .int p.arrivedCount, .int p.failedCount, .int p.fulfilledCount]) = H1 at s1 e1 ⊢
    have h1 := h.same s1
    refine ⟨_, rfl, a, C.P, dx, _, _, rfl, h1.ob, T.clP, T.naP _ (by simp), lkP_today, ?_⟩
    refine ⟨_, rfl, a, C.P, dx, _, _, rfl, h1.ob, T.clP, T.naP _ (by simp), lkP_stock, (by show 2 ≤ sizeLine; decide), fun l2 n2 => ?_⟩
    refine ⟨_, rfl, l2, l1, _, _, rfl, rfl, upd_same, Same.new n2 _ _ e1, (by show 7 ≤ sizeLine; decide), fun l n => ?_⟩
    refine go.new' hp (step_summary p) (s1.trans (Same.new n2)) n ?_
    rw [h.lenD, h.lenC]
    rfl
end
end Cs

namespace Cs
open PySem PySem.Spec PyProof.Rows L2
/-- a list of lists of numbers -/
structure SetsAt (H : Hp) (l : Addr) (qs : List (Addr × List Nat)) : Prop where
  top : H l = some (.lst (refs qs))
  each : ∀ q ∈ qs, H q.1 = some (.lst ((natI q.2).map V.int))
theorem SetsAt.same {H H' : Hp} {l : Addr} {qs : List (Addr × List Nat)} (h : SetsAt H l qs) (s : Same H H') : SetsAt H' l qs := ⟨s _ _ h.top, fun q m => s _ _ (h.each q m)⟩
theorem natI_add (xs : List Nat) (n : Nat) : (natI xs).map V.int ++ [V.int (n : Nat)] = (natI (xs ++ [n])).map V.int := by
  unfold natI
  rw [List.map_append, List.map_append]
  rfl
theorem sets_len (n : Nat) : (Sets n).length = 2 ^ n := by rw [sets_eq, List.length_map, List.length_range]
theorem sets_mem {n : Nat} {m : List Nat} (h : m ∈ Sets n) : m.length ≤ n := by
  rw [sets_eq] at h
  obtain ⟨s, _, rfl⟩ := List.mem_map.mp h
  exact bits_length n s
theorem pow_small {i : Nat} (h : i ≤ 7) : 2 ^ i ≤ 128 := Nat.le_trans (Nat.pow_le_pow_right (by decide) h) (by decide)
section
variable {P : Program} {w : World} {K : PySem.W.Frag} {mg : Str → Option Value} {base : Heap} {C : Cl}
abbrev s_sets_of_numbers : Stmt := topS 30
theorem sc_sets_of_numbers : FnScope ["count", "sets", "number", "members"] ["count"] (defScope s_sets_of_numbers) := ⟨rfl, rfl, rfl, by decide +kernel, rfl, by decide +kernel, by decide +kernel⟩
def sp_sets_of_numbers (C : Cl) : Sp := fun vs H Q _ => ∃ n : Nat, vs = [.int (n : Nat)] ∧ n ≤ 7 ∧
  ∀ H' l qs, Same H H' → SetsAt H' l qs → (∀ q ∈ qs, H q.1 = none) → qs.map (·.2) = Sets n → Q (.ref l) H'
theorem ok_sets_of_numbers {f : Addr} {fd : FuncData} (T : Txt K mg C) (F : Fun K "sets_of_numbers" "sets_of_numbers" s_sets_of_numbers f fd) : FnOk P w K mg base CX0 1 f fd ["count"] (sp_sets_of_numbers C) := by
  refine F.ok sc_sets_of_numbers (fun vs H Q E h => ?_) (fun cdv A outer s H vs Q E hr h => ?_)
  · obtain ⟨n, rfl, _⟩ := h
    rfl
  · refine ⟨_, (pss_cons (ps_set (i := 1) sc_sets_of_numbers.nd rfl (Or.inl rfl) (pe_lst (pa_cons (pe_lst pa_nil) pa_nil)))
  (pss_cons (ps_for PassesOwn.never rfl (pi_range1 rfl T.n_range (pa_cons (pv 0) pa_nil)) (pg_name (i := 2) sc_sets_of_numbers.nd rfl (Or.inr rfl))
    (pss_one (ps_set (i := 1) sc_sets_of_numbers.nd rfl (Or.inl rfl) (pe_op op_cat (pv 1) (pe_lc (own := [("members", 3)]) (g := gName 3) (te := (tOp rCat (tVar 3) (tLst (tCons (tVar 2) tNil)))) rfl sc_sets_of_numbers.nd (pi_list (pv 1)) (blkOk_by (N := ["count", "sets", "number", "members"]) (sc := defScope s_sets_of_numbers) (by decide +kernel)) (fun _ _ _ _ _ => pg_name (i := 3) sc_sets_of_numbers.nd rfl (Or.inl rfl)) (fun _ _ _ _ _ => pts_nil) (fun _ _ _ _ _ => (pe_op op_cat (pv 3) (pe_lst (pa_cons (pv 2) pa_nil)))))))))
  (pss_one (ps_ret (pv 1))))), ?_⟩
    obtain ⟨n, rfl, hn, go⟩ := h
    refine ⟨(by show 0 ≤ sizeLine; decide), fun l0 n0 => ⟨one_le, fun l1 n1 => ?_⟩⟩
    have s0 := Same.new (o := .lst []) n0
    have s1 := Same.new (o := .lst [V.ref l0]) n1
    refine ⟨_, rfl, _, rfl, by omega, by omega, ?_⟩
    refine for_range (lo := 0) (n := ((n : Nat) : Int).toNat) (fun i σ H' => ∃ (l : Addr) (qs : List (Addr × List Nat)) (v w : Option V), σ = [some (.int (n : Nat)), some (.ref l), v, w] ∧ Same H H' ∧ SetsAt H' l qs ∧ (∀ q ∈ qs, H q.1 = none) ∧ qs.map (·.2) = Sets i)
      ⟨l1, [(l0, [])], none, none, rfl, s0.trans s1, ⟨upd_same, fun q m => ?_⟩, fun q m => ?_, rfl⟩ ?_ ?_
    · rw [List.mem_singleton.mp m]
      exact s1 _ _ upd_same
    · rw [List.mem_singleton.mp m]
      exact n0
    · rintro i σ H' hi ⟨l, qs, v, w, rfl, s2, hs, fr, eq⟩
      have hi7 : i < 7 := by omega
      have ql : qs.length = 2 ^ i := by
        have e := congrArg List.length eq
        rwa [List.length_map, sets_len] at e
      have p128 := pow_small (i := i) (by omega)
      refine ⟨_, rfl, _, rfl, _, rfl, ⟨_, SqL.of hs.top⟩, fun D hD => ?_⟩
      refine lc_list (K := K) (a := l) (xs := refs qs) (fun j H2 => Same H' H2 ∧ ∃ rs : List (Addr × List Nat), H2 D = some (.lst (refs rs)) ∧ (∀ q ∈ rs, H2 q.1 = some (.lst ((natI q.2).map V.int))) ∧ (∀ q ∈ rs, H' q.1 = none ∧ q.1 ≠ D) ∧ rs.map (·.2) = (qs.take j).map fun q => q.2 ++ [i])
        ⟨Same.new hD, [], upd_same, fun q m => absurd m (by simp), fun q m => absurd m (by simp), rfl⟩ (fun j H2 _ p => p.1.seq (SqL.of hs.top)) ?_ ?_
      · rintro j x H2 hj ⟨s3, rs, e1, e2, e3, e4⟩
        obtain ⟨q, hq, rfl⟩ := map_get hj
        have hqm := List.mem_of_getElem? hq
        have hq2 := s3 _ _ (hs.each q hqm)
        have qlen : q.2.length ≤ i := sets_mem (by rw [← eq]; exact List.mem_map_of_mem hqm)
        refine ⟨rfl, yes_then ⟨_, rfl, _, rfl, one_le, fun l2 n2 => ?_⟩⟩
        refine ⟨q.1, l2, _, _, rfl, rfl, Same.new n2 _ _ hq2, upd_same, ?_, fun l3 n3 => ?_⟩
        · rw [natI_length]
          exact Nat.le_of_lt (small1000 (show q.2.length + 1 ≤ 1000 by omega))
        · have s4 := (Same.new (o := .lst [.int ((0 : Int) + (i : Nat))]) n2).trans (Same.new (o := .lst ((natI q.2).map V.int ++ [.int ((0 : Int) + (i : Nat))])) n3)
          have e5 := upd_same (H := upd H2 l2 (.lst [.int ((0 : Int) + (i : Nat))])) (a := l3) (o := .lst ((natI q.2).map V.int ++ [.int ((0 : Int) + (i : Nat))]))
          have f3 : H2 l3 = none := (Same.new n2).free n3
          generalize upd (upd H2 l2 (.lst [.int ((0 : Int) + (i : Nat))])) l3 (.lst ((natI q.2).map V.int ++ [.int ((0 : Int) + (i : Nat))])) = H4 at s4 e5 ⊢
          rw [Int.zero_add, natI_add] at e5
          have rl : rs.length ≤ 128 := by
            have e := congrArg List.length e4
            rw [List.length_map, List.length_map, List.length_take] at e
            omega
          have nD : ∀ b o, H4 b = some o → H2 b = none → b ≠ D := fun b o e z y => by rw [y, e1] at z; cases z
          refine ⟨_, s4 _ _ e1, by rw [refs_length]; exact small1000 (by omega), ?_, rs ++ [(l3, q.2 ++ [i])], ?_, ?_, ?_, ?_⟩
          · intro b u e
            rw [upd_ne (ne_of_none e hD)]
            exact s4 b u (s3 b u e)
          · rw [upd_same, refs_append]
          · intro r mr
            rcases List.mem_append.mp mr with mr | mr
            · have z := e2 r mr
              rw [upd_ne (e3 r mr).2]
              exact s4 _ _ z
            · rw [List.mem_singleton.mp mr]
              rw [upd_ne (nD _ _ e5 f3)]
              exact e5
          · intro r mr
            rcases List.mem_append.mp mr with mr | mr
            · exact e3 r mr
            · rw [List.mem_singleton.mp mr]
              exact ⟨s3.free f3, nD _ _ e5 f3⟩
          · rw [List.map_append, e4, take_more hq, List.map_append]
            rfl
      · rintro H2 ⟨s3, rs, e1, e2, e3, e4⟩
        rw [refs_length, List.take_length] at e4
        have rl : rs.length = 2 ^ i := by
          have e := congrArg List.length e4
          rwa [List.length_map, List.length_map, ql] at e
        refine ⟨l, D, _, _, rfl, rfl, s3 _ _ hs.top, e1, ?_, fun l4 n4 => ?_⟩
        · rw [refs_length, refs_length]
          exact Nat.le_of_lt (small1000 (by omega))
        · refine ⟨l4, qs ++ rs, _, _, rfl, (s2.trans s3).trans (Same.new n4), ⟨?_, fun q m => ?_⟩, fun q m => ?_, ?_⟩
          · rw [upd_same]
            unfold refs
            rw [List.map_append]
          · refine Same.new n4 _ _ ?_
            rcases List.mem_append.mp m with m | m
            · exact s3 _ _ (hs.each q m)
            · exact e2 q m
          · rcases List.mem_append.mp m with m | m
            · exact fr q m
            · exact s2.free (e3 q m).1
          · have e6 : (qs.map fun q => q.2 ++ [i]) = (qs.map (·.2)).map fun m => m ++ [i] := by
              rw [List.map_map]
              rfl
            rw [List.map_append, e4, e6, eq]
            rfl
    · rintro σ H' ⟨l, qs, v, w, rfl, s2, hs, fr, eq⟩
      rw [Int.toNat_natCast] at eq
      exact ⟨_, rfl, go H' l qs s2 hs fr eq⟩
end
end Cs

namespace Cs
open PySem PySem.Spec PyProof.Rows L2
/-- the numbers of commitments that can be taken out -/
structure Fits (p : Plr) (ms : List Nat) : Prop where
  up : ms.Pairwise (· < ·)
  lt : ∀ j ∈ ms, j < p.commitments.length
def lessC (p : Plr) (ms : List Nat) : Plr := { p with commitments := cutOut ms p.commitments }
theorem fit_less {p : Plr} (f : Fit p) (ms : List Nat) : Fit (lessC p ms) := ⟨f.td, f.nd, Nat.le_trans (cut_length _ _) f.nc⟩
section
variable {P : Program} {w : World} {K : PySem.W.Frag} {mg : Str → Option Value} {base : Heap} {C : Cl}
abbrev s_cancel_members : Stmt := topS 31
theorem sc_cancel_members : FnScope ["plan", "members", "number"] ["plan", "members"] (defScope s_cancel_members) := ⟨rfl, rfl, rfl, by decide +kernel, rfl, by decide +kernel, by decide +kernel⟩
def sp_cancel_members (C : Cl) : Sp := fun vs H Q _ => ∃ (a ld lc : Addr) (p : Plr) (m : Addr) (ms : List Nat) (dx : Addr) (ds : List (Addr × Dlv)) (cs : List (Addr × Cmt)), vs = [.ref a, .ref m] ∧ PlanAt C H a ld lc p dx ds cs ∧ Fit p ∧ H m = some (.lst ((natI ms).map V.int)) ∧ m ≠ lc ∧ Fits p ms ∧
  ∀ H', PlanAt C H' a ld lc (lessC p ms) dx ds (cutOut ms cs) → (∀ b o, H b = some o → b ≠ lc → H' b = some o) → Q .non H'
theorem ok_cancel_members {f : Addr} {fd : FuncData} (T : Txt K mg C) (F : Fun K "cancel_members" "cancel_members" s_cancel_members f fd) : FnOk P w K mg base CX0 1 f fd ["plan", "members"] (sp_cancel_members C) := by
  refine F.ok sc_cancel_members (fun vs H Q E h => ?_) (fun cdv A outer s H vs Q E hr h => ?_)
  · obtain ⟨a, ld, lc, p, m, ms, dx, ds, cs, rfl, _⟩ := h
    rfl
  · refine ⟨_, (pss_one (ps_for PassesOwn.never rfl (pi_reversed rfl T.n_reversed (pa_cons (pv 1) pa_nil)) (pg_name (i := 2) sc_cancel_members.nd rfl (Or.inl rfl))
    (pss_one (ps_expr (pe_bm PySem.F.plainAttrs_list PySem.F.slot_list_pop PySem.F.type_list_pop mt_popAt (pe_fld (pv 0) rfl) (pa_cons (pv 2) pa_nil)))))), ?_⟩
    obtain ⟨a, ld, lc, p, m, ms, dx, ds, cs, rfl, h, fp, hm, nm, ft, go⟩ := h
    have fnc := fp.nc
    have ml := natI_length ms
    refine ⟨_, rfl, m, _, rfl, SqL.of hm, ?_⟩
    refine for_rev (K := K) (a := m) (xs := (natI ms).map V.int) (fun i σ H' => ∃ v : Option V, σ = [some (.ref a), some (.ref m), v] ∧ (∀ b o, H b = some o → b ≠ lc → H' b = some o) ∧ PlanAt C H' a ld lc (lessC p (ms.drop (ms.length - i))) dx ds (cutOut (ms.drop (ms.length - i)) cs))
      ⟨none, rfl, fun b o e _ => e, ?_⟩ (fun i σ H' _ ⟨_, _, k, _⟩ => SqL.of (k _ _ hm nm)) ?_ ?_
    · rw [Nat.sub_zero, List.drop_length]
      exact h
    · rintro i x σ H' hi hx ⟨v, rfl, k, h1⟩
      rw [ml] at hi hx
      have hj : ms.length - 1 - i < ms.length := by omega
      have ed : ms.drop (ms.length - (i + 1)) = ms[ms.length - 1 - i] :: ms.drop (ms.length - i) := by
        rw [List.drop_eq_getElem_cons (by omega)]
        congr 1
        · congr 1; omega
        · congr 1; omega
      rw [natI_refl, List.getElem?_map, List.getElem?_eq_getElem hj] at hx
      have ex : x = .int ((ms[ms.length - 1 - i] : Nat) : Int) := (Option.some.inj hx).symm
      subst ex
      have up1 : ∀ z ∈ ms.drop (ms.length - i), ms[ms.length - 1 - i] < z := by
        have := ft.up.sublist (List.drop_sublist (ms.length - (i + 1)) ms)
        rw [ed, List.pairwise_cons] at this
        exact this.1
      generalize hjj : ms[ms.length - 1 - i] = j at up1 ed ⊢
      have jl : j < p.commitments.length := ft.lt j (by rw [← hjj]; exact List.getElem_mem hj)
      have jl2 : j < (lessC p (ms.drop (ms.length - i))).commitments.length := by
        have e := cut_get p.commitments j (ms.drop (ms.length - i)) up1
        rw [List.getElem?_eq_getElem jl] at e
        exact (List.getElem?_eq_some_iff.mp e).1
      obtain ⟨q, g1, g2, _⟩ := h1.getC jl2
      refine ⟨_, rfl, a, C.P, dx, _, _, rfl, h1.ob, T.clP, T.naP _ (by simp), lkP_commitments, .inl ⟨rfl, _, SqL.of h1.hc⟩, _, rfl, lc, _, _, j, _, rfl, rfl, h1.hc, by omega, by omega, pop_ok (by rw [h1.lenC]; exact jl2), refs_at g1, ?_⟩
      have h2 := h1.popC j
      refine ⟨_, rfl, fun b o e n => ?_, ?_⟩
      · rw [upd_ne n]
        exact k b o e n
      · rw [ed]
        exact h2
    · rintro σ H' ⟨v, rfl, k, h1⟩
      rw [ml, Nat.sub_self, List.drop_zero] at h1
      exact go H' h1 k
abbrev s_others_covered : Stmt := topS 32
theorem sc_others_covered : FnScope ["plan", "members", "k", "supposed"] ["plan", "members", "k"] (defScope s_others_covered) := ⟨rfl, rfl, rfl, by decide +kernel, rfl, by decide +kernel, by decide +kernel⟩
def sp_others_covered (C : Cl) : Sp := fun vs H Q _ => ∃ (a ld lc : Addr) (p : Plr) (m : Addr) (ms : List Nat) (k : Nat), vs = [.ref a, .ref m, .int (k : Nat)] ∧ IsPlan C H a ld lc p ∧ H m = some (.lst ((natI ms).map V.int)) ∧ Fits p ms ∧
  ∀ H', Same H H' → Q (.bl (Km549.isCovered (lessC p ms) k)) H'
theorem ok_others_covered {f : Addr} {fd : FuncData} (T : Txt K mg C) (F : Fun K "others_covered" "others_covered" s_others_covered f fd)
    (D1 : Def P w K mg base 3 "supposed_plan" ["plan"] (sp_supposed_plan C)) (D2 : Def P w K mg base 1 "cancel_members" ["plan", "members"] (sp_cancel_members C)) (D3 : Def P w K mg base 4 "covered_for" ["plan", "k"] (sp_covered_for C)) :
    FnOk P w K mg base CX0 5 f fd ["plan", "members", "k"] (sp_others_covered C) := by
  refine F.ok sc_others_covered (fun vs H Q E h => ?_) (fun cdv A outer s H vs Q E hr h => ?_)
  · obtain ⟨a, ld, lc, p, m, ms, k, rfl, _⟩ := h
    rfl
  · obtain ⟨_, _, G_supposed_plan, m_supposed_plan, k_supposed_plan, b_supposed_plan⟩ := D1.ex
    obtain ⟨_, _, G_cancel_members, m_cancel_members, k_cancel_members, b_cancel_members⟩ := D2.ex
    obtain ⟨_, _, G_covered_for, m_covered_for, k_covered_for, b_covered_for⟩ := D3.ex
    have hr_supposed_plan : Room 3 _ := hr.mono (by decide)
    have hr_cancel_members : Room 1 _ := hr.mono (by decide)
    have hr_covered_for := hr
    refine ⟨_, (pss_cons (ps_set (i := 3) sc_others_covered.nd rfl (Or.inl rfl) (pe_call G_supposed_plan hr_supposed_plan rfl m_supposed_plan k_supposed_plan b_supposed_plan .nil pass0 (pa_cons (pv 0) pa_nil)))
  (pss_cons (ps_expr (pe_call G_cancel_members hr_cancel_members rfl m_cancel_members k_cancel_members b_cancel_members .nil pass0 (pa_cons (pv 3) (pa_cons (pv 1) pa_nil))))
  (pss_one (ps_ret (pe_call G_covered_for hr_covered_for rfl m_covered_for k_covered_for b_covered_for .nil pass0 (pa_cons (pv 3) (pa_cons (pv 2) pa_nil))))))), ?_⟩
    obtain ⟨a, ld, lc, p, m, ms, k, rfl, hp, hm, ft, go⟩ := h
    refine ⟨_, rfl, a, ld, lc, p, rfl, hp, fun H1 x1 ld1 lc1 n1 n2 n3 s1 hp1 => ?_⟩
    obtain ⟨⟨dx1, ds1, cs1, h1⟩, f1⟩ := id hp1
    refine ⟨_, rfl, _, rfl, x1, ld1, lc1, sup p, m, ms, dx1, ds1, cs1, rfl, h1, f1, s1 _ _ hm, ne_of_none hm n3, ⟨ft.up, ft.lt⟩, fun H2 h2 k2 => ?_⟩
    have s2 : Same H H2 := fun b o e => k2 b o (s1 b o e) (ne_of_none e n3)
    refine ⟨_, rfl, _, rfl, x1, ld1, lc1, _, k, rfl, ⟨⟨dx1, ds1, _, h2⟩, fit_less f1 ms⟩, fun H3 s3 => ?_⟩
    exact go H3 (s2.trans s3)
abbrev s_total_amount : Stmt := topS 33
theorem sc_total_amount : FnScope ["plan", "members", "number"] ["plan", "members"] (defScope s_total_amount) := ⟨rfl, rfl, rfl, by decide +kernel, rfl, by decide +kernel, by decide +kernel⟩
def sp_total_amount (C : Cl) : Sp := fun vs H Q _ => ∃ (a ld lc : Addr) (p : Plr) (m : Addr) (ms : List Nat), vs = [.ref a, .ref m] ∧ IsPlan C H a ld lc p ∧ H m = some (.lst ((natI ms).map V.int)) ∧ Fits p ms ∧ ms.length ≤ 7 ∧
  ∀ H', Same H H' → Q (.int ((amounts p.commitments ms).sum : Nat)) H'
theorem amounts_vals (p : Plr) (ms : List Nat) : (ms.filterMap fun j => (p.commitments[j]?).map fun c => V.int (c.amount : Nat)) = ((amounts p.commitments ms).map fun (x : Nat) => (x : Int)).map V.int := by
  unfold amounts
  rw [List.map_map, List.map_filterMap]
  refine keep_congr fun j _ => ?_
  cases p.commitments[j]? with
  | none => rfl
  | some c => rfl
theorem ok_total_amount {f : Addr} {fd : FuncData} (T : Txt K mg C) (F : Fun K "total_amount" "total_amount" s_total_amount f fd) : FnOk P w K mg base CX0 1 f fd ["plan", "members"] (sp_total_amount C) := by
  refine F.ok sc_total_amount (fun vs H Q E h => ?_) (fun cdv A outer s H vs Q E hr h => ?_)
  · obtain ⟨a, ld, lc, p, m, ms, rfl, _⟩ := h
    rfl
  · refine ⟨_, (pss_one (ps_ret (pe_callB (cr_sum rfl) (by rfl) T.n_sum (by decide +kernel) (pa_cons (pe_lc (own := [("number", 2)]) (g := gName 2) (te := (tFld K (tOp (rIxL K) (tFld K (tVar 0) "commitments") (tVar 2)) "amount")) rfl sc_total_amount.nd (pi_list (pv 1)) (blkOk_by (N := ["plan", "members", "number"]) (sc := defScope s_total_amount) (by decide +kernel)) (fun _ _ _ _ _ => pg_name (i := 2) sc_total_amount.nd rfl (Or.inl rfl)) (fun _ _ _ _ _ => pts_nil) (fun _ _ _ _ _ => (pe_fld (pe_ix ix_list (pe_fld (pv 0) rfl) (pv 2) (fun _ _ => rfl)) rfl))) pa_nil)))), ?_⟩
    obtain ⟨a, ld, lc, p, m, ms, rfl, hp, hm, ft, hz, go⟩ := h
    obtain ⟨⟨dx, ds, cs, h⟩, f⟩ := id hp
    rw [natI_refl] at hm
    refine ⟨_, rfl, _, rfl, ⟨_, SqL.of hm⟩, fun D hD => ?_⟩
    refine lc_keep (K := K) (its := ms) (toV := fun (n : Nat) => V.int (n : Int)) (fun j => (p.commitments[j]?).map fun c => V.int (c.amount : Nat)) (SqL.of hm) hD (small1000 (by omega)) ?_ ?_
    · intro i j H' Qy Qn hi s1 hy hn
      have h1 := h.same s1
      obtain ⟨q, g1, g2, dq, hq⟩ := h1.getC (ft.lt j (List.mem_of_getElem? hi))
      refine ⟨rfl, yes_then ⟨_, rfl, a, C.P, dx, _, _, rfl, h1.ob, T.clP, T.naP _ (by simp), lkP_commitments, _, rfl, lc, _, _, _, rfl, rfl, SqL.of h1.hc, atI_nat (refs_at g1), q.1, C.C, dq, _, _, rfl, hq, T.clC, T.naC _ (by simp), lkC_amount, ?_⟩⟩
      exact hy _ _ (by rw [g2]; rfl) (Same.refl _)
    · intro H' s1 hl
      rw [amounts_vals] at hl
      refine ⟨D, _, rfl, SqL.of hl, ?_⟩
      rw [cast_sum]
      exact go H' s1
end
end Cs

namespace Cs
open PySem PySem.Spec PyProof.Rows L2
theorem fits_bits (p : Plr) (s : Nat) : Fits p (bits p.commitments.length s) := ⟨bits_rising _ _, fun _ m => bits_lt m⟩
theorem less_bits (p : Plr) (s : Nat) : lessC p (bits p.commitments.length s) = Km549.withoutSet p s := (without_eq p s).symm
/-- a set's rank: its size, its total, its number -/
def rank (p : Plr) (s : Nat) : List Int := [((bits p.commitments.length s).length : Nat), ((amounts p.commitments (bits p.commitments.length s)).sum : Nat), (s : Nat)]
theorem rank_better {p : Plr} (hn : p.commitments.length ≤ 7) {s b : Nat} (hs : s < 2 ^ p.commitments.length) (hb : b < 2 ^ p.commitments.length) (ne : s ≠ b) (h : HT.lexLt (rank p s) (rank p b) = false) : better p b s ∨ (¬ better p s b ∧ b < s) := by
  unfold better
  rw [size_eq hn hs, size_eq hn hb, amount_eq hn hs, amount_eq hn hb]
  unfold rank at h
  rw [HT.lexLt_cons, HT.lexLt_cons, HT.lexLt_cons] at h
  split at h
  · split at h
    · split at h
      · omega
      · have := of_decide_eq_false h
        omega
    · have := of_decide_eq_false h
      omega
  · have := of_decide_eq_false h
    omega
section
variable {P : Program} {w : World} {K : PySem.W.Frag} {mg : Str → Option Value} {base : Heap} {C : Cl}
abbrev s_best_members : Stmt := topS 34
theorem sc_best_members : FnScope ["plan", "k", "sets", "fitting", "ranks", "place"] ["plan", "k"] (defScope s_best_members) := ⟨rfl, rfl, rfl, by decide +kernel, rfl, by decide +kernel, by decide +kernel⟩
def sp_best_members (C : Cl) : Sp := fun vs H Q _ => ∃ (a ld lc : Addr) (p : Plr) (k : Nat), vs = [.ref a, .int (k : Nat)] ∧ IsPlan C H a ld lc p ∧
  ∀ H' m b, Same H H' → H m = none → Km549.bestCancellation p k = some b → b < 2 ^ p.commitments.length → H' m = some (.lst ((natI (bits p.commitments.length b)).map V.int)) → Q (.ref m) H'
theorem ok_best_members {f : Addr} {fd : FuncData} (T : Txt K mg C) (F : Fun K "best_members" "best_members" s_best_members f fd)
    (D1 : Def P w K mg base 1 "sets_of_numbers" ["count"] (sp_sets_of_numbers C)) (D2 : Def P w K mg base 5 "others_covered" ["plan", "members", "k"] (sp_others_covered C)) (D3 : Def P w K mg base 1 "total_amount" ["plan", "members"] (sp_total_amount C)) :
    FnOk P w K mg base CX0 6 f fd ["plan", "k"] (sp_best_members C) := by
  refine F.ok sc_best_members (fun vs H Q E h => ?_) (fun cdv A outer s H vs Q E hr h => ?_)
  · obtain ⟨a, ld, lc, p, k, rfl, _⟩ := h
    rfl
  · obtain ⟨_, _, G_sets_of_numbers, m_sets_of_numbers, k_sets_of_numbers, b_sets_of_numbers⟩ := D1.ex
    obtain ⟨_, _, G_others_covered, m_others_covered, k_others_covered, b_others_covered⟩ := D2.ex
    obtain ⟨_, _, G_total_amount, m_total_amount, k_total_amount, b_total_amount⟩ := D3.ex
    have hr_sets_of_numbers : Room 1 _ := hr.mono (by decide)
    have hr_others_covered := hr
    have hr_total_amount : Room 1 _ := hr.mono (by decide)
    refine ⟨_, (pss_cons (ps_set (i := 2) sc_best_members.nd rfl (Or.inr rfl) (pe_call G_sets_of_numbers hr_sets_of_numbers rfl m_sets_of_numbers k_sets_of_numbers b_sets_of_numbers .nil pass0 (pa_cons (pe_callB call_len_seq (by rfl) T.n_len PySem.boot_len (pa_cons (pe_fld (pv 0) rfl) pa_nil)) pa_nil)))
  (pss_cons (ps_setLc (i := 3) (own := [("place", 5)]) (g := gName 5) (tt := (tB (tCall (sp_others_covered C) [] E0 (tCons (tVar 0) (tCons (tOp (rIxL K) (tVar 2) (tVar 5)) (tCons (tVar 1) tNil)))))) (te := (tVar 5)) rfl sc_best_members.nd rfl rfl (sw_true rfl rfl rfl (by decide +kernel)) (pi_range1 rfl T.n_range (pa_cons (pe_callB call_len_seq (by rfl) T.n_len PySem.boot_len (pa_cons (pv 2) pa_nil)) pa_nil)) (blkOk_by (N := ["plan", "k", "sets", "fitting", "ranks", "place"]) (sc := defScope s_best_members) (by decide +kernel)) (fun _ _ _ _ _ => pg_name (i := 5) sc_best_members.nd rfl (Or.inl rfl)) (fun _ _ _ _ _ => pts_one (pt_val (pe_call G_others_covered hr_others_covered rfl m_others_covered k_others_covered b_others_covered .nil pass0 (pa_cons (pv 0) (pa_cons (pe_ix ix_list (pv 2) (pv 5) (fun _ _ => rfl)) (pa_cons (pv 1) pa_nil)))))) (fun _ _ _ _ _ => (pv 5)))
  (pss_cons (ps_setLc (i := 4) (own := [("place", 5)]) (g := gName 5) (te := (tTup (tCons (tCB (rLen K) (tCons (tOp (rIxL K) (tVar 2) (tVar 5)) tNil)) (tCons (tCall (sp_total_amount C) [] E0 (tCons (tVar 0) (tCons (tOp (rIxL K) (tVar 2) (tVar 5)) tNil))) (tCons (tVar 5) tNil))))) rfl sc_best_members.nd rfl rfl (sw_true rfl rfl rfl (by decide +kernel)) (pi_list (pv 3)) (blkOk_by (N := ["plan", "k", "sets", "fitting", "ranks", "place"]) (sc := defScope s_best_members) (by decide +kernel)) (fun _ _ _ _ _ => pg_name (i := 5) sc_best_members.nd rfl (Or.inl rfl)) (fun _ _ _ _ _ => pts_nil) (fun _ _ _ _ _ => (pe_tup (pa_cons (pe_callB call_len_seq (by rfl) T.n_len PySem.boot_len (pa_cons (pe_ix ix_list (pv 2) (pv 5) (fun _ _ => rfl)) pa_nil)) (pa_cons (pe_call G_total_amount hr_total_amount rfl m_total_amount k_total_amount b_total_amount .nil pass0 (pa_cons (pv 0) (pa_cons (pe_ix ix_list (pv 2) (pv 5) (fun _ _ => rfl)) pa_nil))) (pa_cons (pv 5) pa_nil))))))
  (pss_one (ps_ret (pe_ix ix_list (pv 2) (pe_ix ix_tup (pe_callB (cr_minT rfl (hu_of hr)) (by rfl) T.n_min (by decide +kernel) (pa_cons (pv 4) pa_nil)) pe_int (fun _ _ => rfl)) (fun _ _ => rfl))))))), ?_⟩
    obtain ⟨a, ld, lc, p, k, rfl, hp, go⟩ := h
    obtain ⟨⟨dx, ds, cs, h⟩, f⟩ := id hp
    have fnc := f.nc
    -- sets = sets_of_numbers(len(plan.commitments))
    refine ⟨_, rfl, a, C.P, dx, _, _, rfl, h.ob, T.clP, T.naP _ (by simp), lkP_commitments, lc, _, rfl, .inl (SqL.of h.hc), ?_⟩
    rw [h.lenC]
    refine ⟨p.commitments.length, rfl, fnc, fun H1 ls qs s1 hs1 fr eq => ?_⟩
    rw [sets_eq] at eq
    have ql : qs.length = 2 ^ p.commitments.length := by
      have e := congrArg List.length eq
      rwa [List.length_map, List.length_map, List.length_range] at e
    have p128 := pow_small fnc
    have qat : ∀ i, i < 2 ^ p.commitments.length → ∃ q, qs[i]? = some q ∧ q.2 = bits p.commitments.length i := by
      intro i hi
      have hq : i < qs.length := by omega
      refine ⟨qs[i], List.getElem?_eq_getElem hq, ?_⟩
      have e := congrArg (fun l : List (List Nat) => l[i]?) eq
      simp only [List.getElem?_map, List.getElem?_eq_getElem hq, List.getElem?_range hi] at e
      exact Option.some.inj e
    have qref : ∀ {i : Nat} {q : Addr × List Nat}, qs[i]? = some q → (refs qs)[i]? = some (V.ref q.1) := fun e => refs_at e
    -- fitting
    refine ⟨_, rfl, ls, _, rfl, .inl (SqL.of hs1.top), _, rfl, by rw [refs_length]; omega, by rw [refs_length]; omega, fun D hD => ?_⟩
    rw [refs_length, ql, Int.toNat_natCast]
    refine lc_range (lo := 0) (n := 2 ^ p.commitments.length) (fun i H2 => Same H1 H2 ∧ H2 D = some (.lst (((List.range i).filter (good p k)).map fun (s : Nat) => V.int (s : Int)))) ⟨Same.new hD, upd_same⟩ ?_ ?_
    · rintro i H2 hi ⟨s2, e2⟩
      obtain ⟨q, q1, q2⟩ := qat i hi
      have hs2 := hs1.same s2
      have hq := hs2.each q (List.mem_of_getElem? q1)
      rw [q2] at hq
      refine ⟨rfl, _, rfl, _, rfl, _, rfl, ls, _, _, _, rfl, rfl, SqL.of hs2.top, by rw [Int.zero_add]; exact atI_nat (qref q1), _, rfl, ?_⟩
      refine ⟨a, ld, lc, p, q.1, bits p.commitments.length i, k, rfl, (hp.same s1).same s2, hq, fits_bits p i, fun H3 s3 => ?_⟩
      refine ⟨_, rfl, ?_⟩
      rw [less_bits]
      have len : ((List.range i).filter (good p k)).length ≤ i := by
        refine Nat.le_trans (List.length_filter_le _ _) ?_
        rw [List.length_range]
        exact Nat.le_refl _
      cases g : Km549.isCovered (Km549.withoutSet p i) k with
      | true =>
        refine iteT ⟨_, rfl, _, s3 _ _ e2, by rw [List.length_map]; exact small1000 (by omega), fun b u e => ?_, ?_⟩
        · rw [upd_ne (ne_of_none e hD)]
          exact s3 b u (s2 b u e)
        · rw [upd_same, List.range_succ, List.filter_append, List.map_append, Int.zero_add]
          have e : List.filter (good p k) [i] = [i] := by
            rw [List.filter_cons, if_pos (show good p k i = true from g)]
            rfl
          rw [e]
          rfl
      | false =>
        refine iteF ⟨s2.trans s3, (s3 _ _ e2).trans ?_⟩
        rw [List.range_succ, List.filter_append]
        have e : List.filter (good p k) [i] = [] := by
          rw [List.filter_cons, if_neg (by unfold good; rw [g]; exact Bool.false_ne_true)]
          rfl
        rw [e, List.append_nil]
    rintro H2 ⟨s2, e2⟩
    have hs2 := hs1.same s2
    -- ranks
    generalize hfit : (List.range (2 ^ p.commitments.length)).filter (good p k) = fit at e2
    have fitm : ∀ s, s ∈ fit ↔ s < 2 ^ p.commitments.length ∧ good p k s = true := by
      intro s
      rw [← hfit, List.mem_filter, List.mem_range]
    have fitl : fit.length ≤ 128 := by
      rw [← hfit]
      refine Nat.le_trans (List.length_filter_le _ _) ?_
      rw [List.length_range]
      exact p128
    refine ⟨_, rfl, _, rfl, ⟨_, SqL.of e2⟩, fun D2 hD2 => ?_⟩
    refine lc_list (K := K) (a := D) (xs := fit.map fun (s : Nat) => V.int (s : Int)) (fun j H3 => Same H2 H3 ∧ ∃ ts : List (Addr × List Int), H3 D2 = some (.lst (refs ts)) ∧ (∀ t ∈ ts, H3 t.1 = some (.tup (t.2.map V.int))) ∧ ts.map (·.2) = (fit.take j).map (rank p))
      ⟨Same.new hD2, [], upd_same, fun q m => absurd m (by simp), rfl⟩ (fun j H3 _ z => z.1.seq (SqL.of e2)) ?_ ?_
    · rintro j x H3 hj ⟨s3, ts, t1, t2, t3⟩
      obtain ⟨s, hsj, rfl⟩ := map_get hj
      have hsm := (fitm s).mp (List.mem_of_getElem? hsj)
      obtain ⟨q, q1, q2⟩ := qat s hsm.1
      have hs3 := hs2.same s3
      have hq := hs3.each q (List.mem_of_getElem? q1)
      rw [q2] at hq
      refine ⟨rfl, yes_then ⟨_, rfl, _, rfl, ls, _, _, _, rfl, rfl, SqL.of hs3.top, atI_nat (qref q1), q.1, _, rfl, .inl (SqL.of hq), ?_⟩⟩
      refine ⟨_, rfl, _, rfl, _, rfl, ls, _, _, _, rfl, rfl, SqL.of hs3.top, atI_nat (qref q1), ?_⟩
      refine ⟨a, ld, lc, p, q.1, bits p.commitments.length s, rfl, ((hp.same s1).same s2).same s3, hq, fits_bits p s, Nat.le_trans (bits_length _ _) fnc, fun H4 s4 => ?_⟩
      refine ⟨_, rfl, (by show 3 ≤ sizeLine; decide), fun t nt => ?_⟩
      have tl : ts.length ≤ 128 := by
        have e := congrArg List.length t3
        rw [List.length_map, List.length_map, List.length_take] at e
        omega
      have s5 := s4.trans (Same.new (o := .tup [.int (((natI (bits p.commitments.length s)).map V.int).length : Nat), .int ((amounts p.commitments (bits p.commitments.length s)).sum : Nat), .int (s : Nat)]) nt)
      refine ⟨_, s5 _ _ t1, by rw [refs_length]; exact small1000 (by omega), fun b u e => ?_, ts ++ [(t, rank p s)], ?_, ?_, ?_⟩
      · rw [upd_ne (ne_of_none e hD2)]
        exact s5 b u (s3 b u e)
      · rw [upd_same, refs_append]
      · intro r mr
        have hD3 : (upd H4 t (.tup [.int (((natI (bits p.commitments.length s)).map V.int).length : Nat), .int ((amounts p.commitments (bits p.commitments.length s)).sum : Nat), .int (s : Nat)])) D2 = some (.lst (refs ts)) := s5 _ _ t1
        rcases List.mem_append.mp mr with mr | mr
        · have z := s5 _ _ (t2 r mr)
          rw [upd_ne (ne_of z hD3 (by intro y; cases y))]
          exact z
        · rw [List.mem_singleton.mp mr]
          have z : (upd H4 t (.tup [.int (((natI (bits p.commitments.length s)).map V.int).length : Nat), .int ((amounts p.commitments (bits p.commitments.length s)).sum : Nat), .int (s : Nat)])) t = some (.tup ((rank p s).map V.int)) := upd_same.trans (by rw [natI_length]; rfl)
          rw [upd_ne (ne_of z hD3 (by intro y; cases y))]
          exact z
      · rw [List.map_append, t3, take_more hsj, List.map_append]
        rfl
    rintro H3 ⟨s3, ts, t1, t2, t3⟩
    rw [List.length_map, List.take_length] at t3
    have hs3 := hs2.same s3
    have some_one : 0 < fit.length := by
      have m : (2 ^ p.commitments.length - 1) ∈ fit := (fitm _).mpr ⟨by have := Nat.two_pow_pos p.commitments.length; omega, good_all p k⟩
      exact List.length_pos_of_mem m
    have tl : ts.length = fit.length := by
      have e := congrArg List.length t3
      rwa [List.length_map, List.length_map] at e
    -- return sets[min(ranks)[2]]
    refine ⟨_, rfl, _, rfl, D2, ts, rfl, SqL.of t1, by omega, fun t m => SqT.of (t2 t m), fun t mt least => ?_⟩
    have mrank : t.2 ∈ fit.map (rank p) := by
      rw [← t3]
      exact List.mem_map_of_mem mt
    obtain ⟨s, ms, es⟩ := List.mem_map.mp mrank
    have hsm := (fitm s).mp ms
    obtain ⟨q, q1, q2⟩ := qat s hsm.1
    have ht := t2 t mt
    rw [← es] at ht
    refine ⟨t.1, _, _, _, rfl, rfl, SqT.of ht, at_of (j := 2) rfl rfl, ls, _, _, _, rfl, rfl, SqL.of hs3.top, atI_nat (qref q1), ?_⟩
    have hq := hs3.each q (List.mem_of_getElem? q1)
    rw [q2] at hq
    refine go H3 q.1 s ((s1.trans s2).trans s3) (fr q (List.mem_of_getElem? q1)) (best_eq hsm.1 hsm.2 fun z z1 z2 zne => ?_) hsm.1 hq
    have mz : rank p z ∈ ts.map (·.2) := by
      rw [t3]
      exact List.mem_map_of_mem ((fitm z).mpr ⟨z1, z2⟩)
    obtain ⟨u, mu, eu⟩ := List.mem_map.mp mz
    have l := least u mu
    rw [eu, ← es] at l
    exact rank_better fnc z1 hsm.1 zne l
abbrev s_best_cancellation : Stmt := topS 57
theorem sc_best_cancellation : FnScope ["plan", "k"] ["plan", "k"] (defScope s_best_cancellation) := ⟨rfl, rfl, rfl, by decide +kernel, rfl, by decide +kernel, by decide +kernel⟩
def sp_best_cancellation (C : Cl) : Sp := fun vs H Q _ => ∃ (a ld lc : Addr) (p : Plr) (k : Nat), vs = [.ref a, .int (k : Nat)] ∧ IsPlan C H a ld lc p ∧ Done C H a ld lc p (.bestCancellation k) Q
theorem step_best {p : Plr} {k b : Nat} (h : Km549.bestCancellation p k = some b) : Km549.step (some p) (.bestCancellation k) = (some p, if 6 < k then Km549.error (-22) else Km549.listResult (Km549.members b)) := by
  show (some p, if 6 < k then Km549.error (-22) else match Km549.bestCancellation p k with
    | none => Km549.error (-33)
    | some set => Km549.listResult (Km549.members set)) = _
  rw [h]
theorem step_best_bad {p : Plr} {k : Nat} (h : 6 < k) : Km549.step (some p) (.bestCancellation k) = (some p, Km549.error (-22)) := congrArg (Prod.mk (some p)) (if_pos h)
theorem ok_best_cancellation {f : Addr} {fd : FuncData} (T : Txt K mg C) (F : Fun K "best_cancellation" "best_cancellation" s_best_cancellation f fd)
    (D1 : Def P w K mg base 6 "best_members" ["plan", "k"] (sp_best_members C)) (D2 : Def P w K mg base 1 "counted" ["numbers"] (sp_counted C)) : FnOk P w K mg base CX0 7 f fd ["plan", "k"] (sp_best_cancellation C) := by
  refine F.ok sc_best_cancellation (fun vs H Q E h => ?_) (fun cdv A outer s H vs Q E hr h => ?_)
  · obtain ⟨a, ld, lc, p, k, rfl, _⟩ := h
    rfl
  · obtain ⟨_, _, G_best_members, m_best_members, k_best_members, b_best_members⟩ := D1.ex
    obtain ⟨_, _, G_counted, m_counted, k_counted, b_counted⟩ := D2.ex
    have hr_best_members := hr
    have hr_counted : Room 1 _ := hr.mono (by decide)
    refine ⟨_, (pss_cons (ps_if (pt_cmpR op_gt (pv 1) (pe_cst rfl T.c_MOST_FAILURES) (nomark _))
    (pss_one (ps_ret (pe_lst (pa_cons (pe_cst rfl T.c_OUT_OF_RANGE) pa_nil))))
    pss_nil)
  (pss_one (ps_ret (pe_call G_counted hr_counted rfl m_counted k_counted b_counted .nil pass0 (pa_cons (pe_call G_best_members hr_best_members rfl m_best_members k_best_members b_best_members .nil pass0 (pa_cons (pv 0) (pa_cons (pv 1) pa_nil))) pa_nil))))), ?_⟩
    obtain ⟨a, ld, lc, p, k, rfl, hp, go⟩ := h
    have fnc := hp.2.nc
    refine ⟨_, rfl, _, _, rfl, rfl, _, rfl, ?_⟩
    refine ifD (fun c => ⟨one_le, fun l hl => go.new hp (step_best_bad (by omega)) (Same.refl _) hl⟩) fun c => ?_
    refine ⟨_, rfl, _, rfl, a, ld, lc, p, k, rfl, hp, fun H1 m b s1 n1 eb hb e1 => ?_⟩
    have e := (step_best eb).trans (congrArg (Prod.mk (some p)) (if_neg (by omega)))
    rw [members_eq fnc hb] at e
    refine ⟨m, _, rfl, e1, Nat.le_trans (bits_length _ _) (by omega), fun H2 l2 s2 n2 e2 => ?_⟩
    exact go.nochange hp e (s1.trans s2) (s1.free n2) e2
abbrev s_cancel_best : Stmt := topS 46
theorem sc_cancel_best : FnScope ["plan", "k", "members"] ["plan", "k"] (defScope s_cancel_best) := ⟨rfl, rfl, rfl, by decide +kernel, rfl, by decide +kernel, by decide +kernel⟩
def sp_cancel_best (C : Cl) : Sp := fun vs H Q _ => ∃ (a ld lc : Addr) (p : Plr) (k : Nat), vs = [.ref a, .int (k : Nat)] ∧ IsPlan C H a ld lc p ∧ Done C H a ld lc p (.cancelBest k) Q
theorem step_cut {p : Plr} {k b : Nat} (h : Km549.bestCancellation p k = some b) : Km549.step (some p) (.cancelBest k) = if 6 < k then (some p, Km549.error (-22)) else (some (Km549.withoutSet p b), Km549.number (Km549.setSize b : Nat)) := by
  show (if 6 < k then (some p, Km549.error (-22)) else match Km549.bestCancellation p k with
    | none => (some p, Km549.error (-33))
    | some set => (some (Km549.withoutSet p set), Km549.number (Km549.setSize set : Nat))) = _
  rw [h]
theorem step_cut_bad {p : Plr} {k : Nat} (h : 6 < k) : Km549.step (some p) (.cancelBest k) = (some p, Km549.error (-22)) := if_pos h
theorem ok_cancel_best {f : Addr} {fd : FuncData} (T : Txt K mg C) (F : Fun K "cancel_best" "cancel_best" s_cancel_best f fd)
    (D1 : Def P w K mg base 6 "best_members" ["plan", "k"] (sp_best_members C)) (D2 : Def P w K mg base 1 "cancel_members" ["plan", "members"] (sp_cancel_members C)) : FnOk P w K mg base CX0 7 f fd ["plan", "k"] (sp_cancel_best C) := by
  refine F.ok sc_cancel_best (fun vs H Q E h => ?_) (fun cdv A outer s H vs Q E hr h => ?_)
  · obtain ⟨a, ld, lc, p, k, rfl, _⟩ := h
    rfl
  · obtain ⟨_, _, G_best_members, m_best_members, k_best_members, b_best_members⟩ := D1.ex
    obtain ⟨_, _, G_cancel_members, m_cancel_members, k_cancel_members, b_cancel_members⟩ := D2.ex
    have hr_best_members := hr
    have hr_cancel_members : Room 1 _ := hr.mono (by decide)
    refine ⟨_, (pss_cons (ps_if (pt_cmpR op_gt (pv 1) (pe_cst rfl T.c_MOST_FAILURES) (nomark _))
    (pss_one (ps_ret (pe_lst (pa_cons (pe_cst rfl T.c_OUT_OF_RANGE) pa_nil))))
    pss_nil)
  (pss_cons (ps_set (i := 2) sc_cancel_best.nd rfl (Or.inl rfl) (pe_call G_best_members hr_best_members rfl m_best_members k_best_members b_best_members .nil pass0 (pa_cons (pv 0) (pa_cons (pv 1) pa_nil))))
  (pss_cons (ps_expr (pe_call G_cancel_members hr_cancel_members rfl m_cancel_members k_cancel_members b_cancel_members .nil pass0 (pa_cons (pv 0) (pa_cons (pv 2) pa_nil))))
  (pss_one (ps_ret (pe_lst (pa_cons (pe_callB call_len_seq (by rfl) T.n_len PySem.boot_len (pa_cons (pv 2) pa_nil)) pa_nil))))))), ?_⟩
    obtain ⟨a, ld, lc, p, k, rfl, hp, go⟩ := h
    have fnc := hp.2.nc
    refine ⟨_, rfl, _, _, rfl, rfl, _, rfl, ?_⟩
    refine ifD (fun c => ⟨one_le, fun l hl => go.new hp (step_cut_bad (by omega)) (Same.refl _) hl⟩) fun c => ?_
    refine ⟨_, rfl, _, rfl, a, ld, lc, p, k, rfl, hp, fun H1 m b s1 n1 eb hb e1 => ?_⟩
    have e := (step_cut eb).trans (if_neg (by omega))
    rw [← less_bits, size_eq fnc hb] at e
    obtain ⟨⟨dx, ds, cs, h0⟩, f⟩ := id hp
    have h1 := h0.same s1
    have nm : m ≠ lc := fun q => by rw [q, h0.hc] at n1; cases n1
    refine ⟨_, rfl, _, rfl, a, ld, lc, p, m, _, dx, ds, cs, rfl, h1, f, e1, nm, fits_bits p b, fun H2 h2 k2 => ?_⟩
    have kp : Keep a ld lc H H2 := fun x o z _ _ n => k2 x o (s1 x o z) n
    refine ⟨_, rfl, m, _, rfl, .inl (SqL.of (k2 _ _ e1 nm)), one_le, fun l hl => ?_⟩
    exact go.fin e h2 (fit_less f _) kp hl (h2.free kp hl) (by rw [natI_length]; rfl)
end
end Cs

namespace Cs
open PySem PySem.Spec PyProof.Rows L2
theorem in_nats (x : Nat) : ∀ l : List Nat, inV (.int (x : Nat)) ((natI l).map V.int) = l.contains x
  | [] => rfl
  | y :: r => by
    have ih := in_nats x r
    show (((y : Int) == (x : Int)) || inV (.int (x : Nat)) ((natI r).map V.int)) = (y :: r).contains x
    rw [ih, List.contains_cons]
    congr 1
    rw [Bool.eq_iff_iff, beq_iff_eq, beq_iff_eq]
    omega
theorem flat_nats : ∀ l : List Nat, ((natI l).map V.int).all flatV = true
  | [] => rfl
  | y :: r => by
    show (flatV (.int y) && ((natI r).map V.int).all flatV) = true
    rw [flat_nats r]
    rfl
theorem depL_length (p : Plr) (i : Nat) : (depL p i).length ≤ p.commitments.length := by
  unfold depL
  exact Nat.le_trans (List.length_filter_le _ _) (safeL_length p 0)
section
variable {P : Program} {w : World} {K : PySem.W.Frag} {mg : Str → Option Value} {base : Heap} {C : Cl}
abbrev s_dependent_commitments : Stmt := topS 61
theorem sc_dependent_commitments : FnScope ["plan", "delivery", "supposed", "still_safe", "number"] ["plan", "delivery"] (defScope s_dependent_commitments) := ⟨rfl, rfl, rfl, by decide +kernel, rfl, by decide +kernel, by decide +kernel⟩
def sp_dependent_commitments (C : Cl) : Sp := fun vs H Q _ => ∃ (a ld lc : Addr) (p : Plr) (j : Nat), vs = [.ref a, .int (j : Nat)] ∧ IsPlan C H a ld lc p ∧ Done C H a ld lc p (.dependentCommitments j) Q
theorem ok_dependent_commitments {f : Addr} {fd : FuncData} (T : Txt K mg C) (F : Fun K "dependent_commitments" "dependent_commitments" s_dependent_commitments f fd)
    (D1 : Def P w K mg base 3 "supposed_plan" ["plan"] (sp_supposed_plan C)) (D2 : Def P w K mg base 4 "safe_numbers" ["plan", "k"] (sp_safe_numbers C)) (D3 : Def P w K mg base 1 "counted" ["numbers"] (sp_counted C)) :
    FnOk P w K mg base CX0 5 f fd ["plan", "delivery"] (sp_dependent_commitments C) := by
  refine F.ok sc_dependent_commitments (fun vs H Q E h => ?_) (fun cdv A outer s H vs Q E hr h => ?_)
  · obtain ⟨a, ld, lc, p, j, rfl, _⟩ := h
    rfl
  · obtain ⟨_, _, G_supposed_plan, m_supposed_plan, k_supposed_plan, b_supposed_plan⟩ := D1.ex
    obtain ⟨_, _, G_safe_numbers, m_safe_numbers, k_safe_numbers, b_safe_numbers⟩ := D2.ex
    obtain ⟨_, _, G_counted, m_counted, k_counted, b_counted⟩ := D3.ex
    have hr_supposed_plan : Room 3 _ := hr.mono (by decide)
    have hr_safe_numbers := hr
    have hr_counted : Room 1 _ := hr.mono (by decide)
    refine ⟨_, (pss_cons (ps_if (pt_cmpR op_ge (pv 1) (pe_callB call_len_seq (by rfl) T.n_len PySem.boot_len (pa_cons (pe_fld (pv 0) rfl) pa_nil)) (nomark _))
    (pss_one (ps_ret (pe_lst (pa_cons (pe_cst rfl T.c_NOT_FOUND) pa_nil))))
    pss_nil)
  (pss_cons (ps_set (i := 2) sc_dependent_commitments.nd rfl (Or.inl rfl) (pe_call G_supposed_plan hr_supposed_plan rfl m_supposed_plan k_supposed_plan b_supposed_plan .nil pass0 (pa_cons (pv 0) pa_nil)))
  (pss_cons (ps_expr (pe_bm PySem.F.plainAttrs_list PySem.F.slot_list_pop PySem.F.type_list_pop mt_popAt (pe_fld (pv 2) rfl) (pa_cons (pv 1) pa_nil)))
  (pss_cons (ps_set (i := 3) sc_dependent_commitments.nd rfl (Or.inr rfl) (pe_call G_safe_numbers hr_safe_numbers rfl m_safe_numbers k_safe_numbers b_safe_numbers .nil pass0 (pa_cons (pv 2) (pa_cons pe_int pa_nil))))
  (pss_one (ps_ret (pe_call G_counted hr_counted rfl m_counted k_counted b_counted .nil pass0 (pa_cons (pe_lc (own := [("number", 4)]) (g := gName 4) (tt := (tTest (tOp (rIn K true) (tVar 4) (tVar 3)))) (te := (tVar 4)) rfl sc_dependent_commitments.nd (pi_list (pe_call G_safe_numbers hr_safe_numbers rfl m_safe_numbers k_safe_numbers b_safe_numbers .nil pass0 (pa_cons (pv 0) (pa_cons pe_int pa_nil)))) (blkOk_by (N := ["plan", "delivery", "supposed", "still_safe", "number"]) (sc := defScope s_dependent_commitments) (by decide +kernel)) (fun _ _ _ _ _ => pg_name (i := 4) sc_dependent_commitments.nd rfl (Or.inl rfl)) (fun _ _ _ _ _ => pts_one (pt_cmpR op_notIn_seq (pv 4) (pv 3) (by rfl))) (fun _ _ _ _ _ => (pv 4))) pa_nil)))))))), ?_⟩
    obtain ⟨a, ld, lc, p, j, rfl, hp, go⟩ := h
    obtain ⟨⟨dx, ds, cs, h⟩, f⟩ := id hp
    have fnd := f.nd
    have fnc := f.nc
    refine ⟨_, rfl, _, rfl, a, C.P, dx, _, _, rfl, h.ob, T.clP, T.naP _ (by simp), lkP_deliveries, ld, _, rfl, .inl (SqL.of h.hd), _, _, rfl, rfl, _, rfl, ?_⟩
    rw [h.lenD]
    refine ifD (fun c => ⟨one_le, fun l hl => go.new hp ((step_dependent p j).trans (congrArg (Prod.mk (some p)) (if_pos (by omega)))) (Same.refl _) hl⟩) fun c => ?_
    have e := (step_dependent p j).trans (congrArg (Prod.mk (some p)) (if_neg (by omega)))
    -- supposed = supposed_plan(plan)
    refine ⟨_, rfl, a, ld, lc, p, rfl, hp, fun H1 x1 ld1 lc1 n1 n2 n3 s1 hp1 => ?_⟩
    obtain ⟨⟨dx1, ds1, cs1, h1⟩, f1⟩ := id hp1
    have jl : j < (sup p).deliveries.length := by show j < p.deliveries.length; omega
    obtain ⟨q, g1, g2, _⟩ := h1.getD jl
    -- supposed.deliveries.pop(delivery)
    refine ⟨_, rfl, x1, C.P, dx1, _, _, rfl, h1.ob, T.clP, T.naP _ (by simp), lkP_deliveries, .inl ⟨rfl, _, SqL.of h1.hd⟩, _, rfl, ld1, _, _, j, _, rfl, rfl, h1.hd, by omega, by omega, pop_ok (by rw [h1.lenD]; exact jl), refs_at g1, ?_⟩
    have h2 := h1.popD j
    have s2 : Same H (upd H1 ld1 (.lst ((refs ds1).eraseIdx j))) := fun b o z => by
      rw [upd_ne (ne_of_none z n2)]
      exact s1 b o z
    generalize upd H1 ld1 (.lst ((refs ds1).eraseIdx j)) = H2 at h2 s2 ⊢
    have f2 : Fit { sup p with deliveries := (sup p).deliveries.eraseIdx j } := ⟨f.td, Nat.le_trans (List.length_eraseIdx_le _ _) f.nd, f.nc⟩
    -- still_safe = safe_numbers(supposed, 0)
    refine ⟨_, rfl, x1, ld1, lc1, _, 0, rfl, ⟨⟨dx1, _, cs1, h2⟩, f2⟩, fun H3 l3 s3 n3 e3 => ?_⟩
    have s03 := s2.trans s3
    -- the comprehension
    refine ⟨_, rfl, a, ld, lc, p, 0, rfl, hp.same s03, fun H4 l4 s4 n4 e4 => ?_⟩
    have e34 := s4 _ _ e3
    rw [natI_refl] at e4
    refine ⟨_, rfl, ⟨_, SqL.of e4⟩, fun D hD => ?_⟩
    refine lc_keep (K := K) (its := safeL p 0) (toV := fun (n : Nat) => V.int (n : Int)) (fun i => if (!(safeL (Km549.withoutDelivery p j) 0).contains i) = true then some (V.int ((i : Nat) : Int)) else none) (SqL.of e4) hD ?_ ?_ ?_
    · have := safeL_length p 0
      exact small1000 (by omega)
    · intro i x H' Qy Qn hi s5 hy hn
      refine ⟨rfl, _, rfl, _, rfl, l3, _, rfl, .inl (SqL.of (s5 _ _ e34)), rfl, flat_nats _, _, rfl, ?_⟩
      rw [in_nats]
      show if (!(safeL (Km549.withoutDelivery p j) 0).contains x) = true then _ else _
      cases b : !(safeL (Km549.withoutDelivery p j) 0).contains x with
      | true => exact iteT ⟨_, rfl, hy _ _ (by rw [b]; rfl) (Same.refl _)⟩
      | false => exact iteF (hn _ (by rw [b]; rfl) (Same.refl _))
    · intro H5 s5 e5
      have s05 := (s03.trans s4).trans s5
      have e6 : H5 D = some (.lst ((natI (depL p j)).map V.int)) := e5.trans (congrArg (fun q => some (HO.lst q)) ((keep_if _ _ _).trans (natI_refl _).symm))
      refine ⟨D, _, rfl, e6, by have := depL_length p j; omega, fun H6 l6 s6 n6 e7 => ?_⟩
      exact go.nochange hp e (s05.trans s6) (s05.free n6) e7
abbrev s_is_covered_with_delivery : Stmt := topS 62
theorem sc_is_covered_with_delivery : FnScope ["plan", "amount", "latest", "k", "supposed", "result"] ["plan", "amount", "latest", "k"] (defScope s_is_covered_with_delivery) := ⟨rfl, rfl, rfl, by decide +kernel, rfl, by decide +kernel, by decide +kernel⟩
def sp_is_covered_with_delivery (C : Cl) : Sp := fun vs H Q _ => ∃ (a ld lc : Addr) (p : Plr) (x z k : Nat), vs = [.ref a, .int (x : Nat), .int (z : Nat), .int (k : Nat)] ∧ IsPlan C H a ld lc p ∧ Done C H a ld lc p (.isCoveredWithDelivery x z k) Q
theorem step_withDelivery (p : Plr) (x z k : Nat) : Km549.step (some p) (.isCoveredWithDelivery x z k) = (some p, if x = 0 ∨ 99 < x ∨ z < p.today ∨ 30 < z ∨ 6 < k then Km549.error (-22) else if 6 ≤ p.deliveries.length then Km549.error (-28) else Km549.boolean (Km549.isCovered (Km549.withDelivery p x z z) k)) := rfl
theorem ok_is_covered_with_delivery {f : Addr} {fd : FuncData} (T : Txt K mg C) (F : Fun K "is_covered_with_delivery" "is_covered_with_delivery" s_is_covered_with_delivery f fd)
    (D1 : Def P w K mg base 3 "supposed_plan" ["plan"] (sp_supposed_plan C)) (D2 : Def P w K mg base 3 "add_delivery" ["plan", "amount", "earliest", "latest"] (sp_add_delivery C)) (D3 : Def P w K mg base 5 "is_covered" ["plan", "k"] (sp_is_covered C)) :
    FnOk P w K mg base CX0 6 f fd ["plan", "amount", "latest", "k"] (sp_is_covered_with_delivery C) := by
  refine F.ok sc_is_covered_with_delivery (fun vs H Q E h => ?_) (fun cdv A outer s H vs Q E hr h => ?_)
  · obtain ⟨a, ld, lc, p, x, z, k, rfl, _⟩ := h
    rfl
  · obtain ⟨_, _, G_supposed_plan, m_supposed_plan, k_supposed_plan, b_supposed_plan⟩ := D1.ex
    obtain ⟨_, _, G_add_delivery, m_add_delivery, k_add_delivery, b_add_delivery⟩ := D2.ex
    obtain ⟨_, _, G_is_covered, m_is_covered, k_is_covered, b_is_covered⟩ := D3.ex
    have hr_supposed_plan : Room 3 _ := hr.mono (by decide)
    have hr_add_delivery := hr_supposed_plan
    have hr_is_covered := hr
    refine ⟨_, (pss_cons (ps_if (pt_cmpR op_gt (pv 3) (pe_cst rfl T.c_MOST_FAILURES) (nomark _))
    (pss_one (ps_ret (pe_lst (pa_cons (pe_cst rfl T.c_OUT_OF_RANGE) pa_nil))))
    pss_nil)
  (pss_cons (ps_set (i := 4) sc_is_covered_with_delivery.nd rfl (Or.inl rfl) (pe_call G_supposed_plan hr_supposed_plan rfl m_supposed_plan k_supposed_plan b_supposed_plan .nil pass0 (pa_cons (pv 0) pa_nil)))
  (pss_cons (ps_set (i := 5) sc_is_covered_with_delivery.nd rfl (Or.inl rfl) (pe_call G_add_delivery hr_add_delivery rfl m_add_delivery k_add_delivery b_add_delivery .nil pass0 (pa_cons (pv 4) (pa_cons (pv 1) (pa_cons (pv 2) (pa_cons (pv 2) pa_nil))))))
  (pss_cons (ps_if (pt_cmpR op_lt (pe_ix ix_list (pv 5) pe_int (fun _ _ => rfl)) pe_int (nomark _))
    (pss_one (ps_ret (pv 5)))
    pss_nil)
  (pss_one (ps_ret (pe_call G_is_covered hr_is_covered rfl m_is_covered k_is_covered b_is_covered .nil pass0 (pa_cons (pv 4) (pa_cons (pv 3) pa_nil))))))))), ?_⟩
    obtain ⟨a, ld, lc, p, x, z, k, rfl, hp, go⟩ := h
    refine ⟨_, rfl, _, _, rfl, rfl, _, rfl, ?_⟩
    refine ifD (fun c => ⟨one_le, fun l hl => go.new hp ((step_withDelivery p x z k).trans (congrArg (Prod.mk (some p)) (if_pos (by omega)))) (Same.refl _) hl⟩) fun c1 => ?_
    refine ⟨_, rfl, a, ld, lc, p, rfl, hp, fun H1 x1 ld1 lc1 n1 n2 n3 s1 hp1 => ?_⟩
    refine ⟨_, rfl, _, rfl, _, rfl, _, rfl, x1, ld1, lc1, _, x, z, z, rfl, hp1, fun H2 l p2 ld2 lc2 r e2 hp2 g1 g2 kp nl hl => ?_⟩
    have s2 : Same H H2 := fun b o e => kp b o (s1 b o e) (ne_of_none e n1) (ne_of_none e n2) (ne_of_none e n3)
    refine ⟨_, rfl, l, _, _, _, rfl, rfl, SqL.of hl, at_of (j := 0) rfl rfl, _, _, rfl, rfl, _, rfl, ?_⟩
    have fl : H l = none := s1.free nl
    rw [step_addDelivery] at e2
    by_cases A1 : x = 0 ∨ 99 < x ∨ z < z ∨ z < p.today ∨ 30 < z
    · have e3 : r = Km549.error (-22) := (Prod.mk.inj ((if_pos (c := x = 0 ∨ 99 < x ∨ z < z ∨ z < (sup p).today ∨ 30 < z) A1).symm.trans e2)).2.symm
      subst e3
      exact ifT (by decide) ⟨_, rfl, go.nochange hp ((step_withDelivery p x z k).trans (congrArg (Prod.mk (some p)) (if_pos (by omega)))) s2 fl hl⟩
    have e2 := (if_neg (c := x = 0 ∨ 99 < x ∨ z < z ∨ z < (sup p).today ∨ 30 < z) A1).symm.trans e2
    have A2 : ¬ (x = 0 ∨ 99 < x ∨ z < p.today ∨ 30 < z ∨ 6 < k) := by omega
    by_cases B : 6 ≤ p.deliveries.length
    · have e3 : r = Km549.error (-28) := (Prod.mk.inj ((if_pos (c := 6 ≤ (sup p).deliveries.length) B).symm.trans e2)).2.symm
      subst e3
      exact ifT (by decide) ⟨_, rfl, go.nochange hp ((step_withDelivery p x z k).trans (congrArg (Prod.mk (some p)) ((if_neg A2).trans (if_pos B)))) s2 fl hl⟩
    have e3 := Prod.mk.inj ((if_neg (c := 6 ≤ (sup p).deliveries.length) B).symm.trans e2)
    have e4 : p2 = Km549.withDelivery (sup p) x z z := (Option.some.inj e3.1).symm
    have e5 := e3.2
    subst e4 e5
    refine ifF (by show ¬ ((((sup p).deliveries.length : Nat) : Int) < 0); omega) ?_
    have e := (step_withDelivery p x z k).trans (congrArg (Prod.mk (some p)) ((if_neg A2).trans (if_neg B)))
    refine ⟨_, rfl, _, rfl, x1, ld2, lc2, _, k, rfl, hp2, fun H3 l3 p3 ld3 lc3 r3 e6 hp3 g3 g4 kp3 nl3 hl3 => ?_⟩
    rw [step_isCovered, if_neg (by omega)] at e6
    have e7 := Prod.mk.inj e6
    have ecov : Km549.isCovered (Km549.withDelivery (sup p) x z z) k = Km549.isCovered (Km549.withDelivery p x z z) k := rfl
    rw [← e7.2, ecov] at hl3
    have fr : ∀ {b : Addr}, (b = ld1 ∨ H1 b = none) → H b = none := fun g => g.elim (fun e => by rw [e]; exact n2) fun e => s1.free e
    have fr2 : ∀ {b : Addr}, (b = lc1 ∨ H1 b = none) → H b = none := fun g => g.elim (fun e => by rw [e]; exact n3) fun e => s1.free e
    have s3 : Same H H3 := fun b o y => kp3 b o (s2 b o y) (ne_of_none y n1) (ne_of_none y (fr g1)) (ne_of_none y (fr2 g2))
    exact go.nochange hp e s3 (s2.free nl3) hl3
abbrev s_tolerance_with_commitment : Stmt := topS 63
theorem sc_tolerance_with_commitment : FnScope ["plan", "amount", "due", "supposed", "result"] ["plan", "amount", "due"] (defScope s_tolerance_with_commitment) := ⟨rfl, rfl, rfl, by decide +kernel, rfl, by decide +kernel, by decide +kernel⟩
def sp_tolerance_with_commitment (C : Cl) : Sp := fun vs H Q _ => ∃ (a ld lc : Addr) (p : Plr) (x y : Nat), vs = [.ref a, .int (x : Nat), .int (y : Nat)] ∧ IsPlan C H a ld lc p ∧ Done C H a ld lc p (.toleranceWithCommitment x y) Q
theorem step_withCommitment (p : Plr) (x y : Nat) : Km549.step (some p) (.toleranceWithCommitment x y) = (some p, if x = 0 ∨ 99 < x ∨ y < p.today ∨ 30 < y then Km549.error (-22) else if 7 ≤ p.commitments.length then Km549.error (-28) else Km549.optionResult (Km549.tolerance (Km549.withCommitment p x y))) := rfl
theorem ok_tolerance_with_commitment {f : Addr} {fd : FuncData} (T : Txt K mg C) (F : Fun K "tolerance_with_commitment" "tolerance_with_commitment" s_tolerance_with_commitment f fd)
    (D1 : Def P w K mg base 3 "supposed_plan" ["plan"] (sp_supposed_plan C)) (D2 : Def P w K mg base 3 "add_commitment" ["plan", "amount", "due"] (sp_add_commitment C)) (D3 : Def P w K mg base 6 "tolerance" ["plan"] (sp_tolerance C)) :
    FnOk P w K mg base CX0 7 f fd ["plan", "amount", "due"] (sp_tolerance_with_commitment C) := by
  refine F.ok sc_tolerance_with_commitment (fun vs H Q E h => ?_) (fun cdv A outer s H vs Q E hr h => ?_)
  · obtain ⟨a, ld, lc, p, x, y, rfl, _⟩ := h
    rfl
  · obtain ⟨_, _, G_supposed_plan, m_supposed_plan, k_supposed_plan, b_supposed_plan⟩ := D1.ex
    obtain ⟨_, _, G_add_commitment, m_add_commitment, k_add_commitment, b_add_commitment⟩ := D2.ex
    obtain ⟨_, _, G_tolerance, m_tolerance, k_tolerance, b_tolerance⟩ := D3.ex
    have hr_supposed_plan : Room 3 _ := hr.mono (by decide)
    have hr_add_commitment := hr_supposed_plan
    have hr_tolerance := hr
    refine ⟨_, (pss_cons (ps_set (i := 3) sc_tolerance_with_commitment.nd rfl (Or.inl rfl) (pe_call G_supposed_plan hr_supposed_plan rfl m_supposed_plan k_supposed_plan b_supposed_plan .nil pass0 (pa_cons (pv 0) pa_nil)))
  (pss_cons (ps_set (i := 4) sc_tolerance_with_commitment.nd rfl (Or.inl rfl) (pe_call G_add_commitment hr_add_commitment rfl m_add_commitment k_add_commitment b_add_commitment .nil pass0 (pa_cons (pv 3) (pa_cons (pv 1) (pa_cons (pv 2) pa_nil)))))
  (pss_cons (ps_if (pt_cmpR op_lt (pe_ix ix_list (pv 4) pe_int (fun _ _ => rfl)) pe_int (nomark _))
    (pss_one (ps_ret (pv 4)))
    pss_nil)
  (pss_one (ps_ret (pe_call G_tolerance hr_tolerance rfl m_tolerance k_tolerance b_tolerance .nil pass0 (pa_cons (pv 3) pa_nil))))))), ?_⟩
    obtain ⟨a, ld, lc, p, x, y, rfl, hp, go⟩ := h
    refine ⟨_, rfl, a, ld, lc, p, rfl, hp, fun H1 x1 ld1 lc1 n1 n2 n3 s1 hp1 => ?_⟩
    refine ⟨_, rfl, _, rfl, _, rfl, x1, ld1, lc1, _, x, y, rfl, hp1, fun H2 l p2 ld2 lc2 r e2 hp2 g1 g2 kp nl hl => ?_⟩
    have s2 : Same H H2 := fun b o e => kp b o (s1 b o e) (ne_of_none e n1) (ne_of_none e n2) (ne_of_none e n3)
    refine ⟨_, rfl, l, _, _, _, rfl, rfl, SqL.of hl, at_of (j := 0) rfl rfl, _, _, rfl, rfl, _, rfl, ?_⟩
    have fl : H l = none := s1.free nl
    rw [step_addCommitment] at e2
    by_cases A1 : x = 0 ∨ 99 < x ∨ y < p.today ∨ 30 < y
    · have e3 : r = Km549.error (-22) := (Prod.mk.inj ((if_pos (c := x = 0 ∨ 99 < x ∨ y < (sup p).today ∨ 30 < y) A1).symm.trans e2)).2.symm
      subst e3
      exact ifT (by decide) ⟨_, rfl, go.nochange hp ((step_withCommitment p x y).trans (congrArg (Prod.mk (some p)) (if_pos A1))) s2 fl hl⟩
    have e2 := (if_neg (c := x = 0 ∨ 99 < x ∨ y < (sup p).today ∨ 30 < y) A1).symm.trans e2
    by_cases B : 7 ≤ p.commitments.length
    · have e3 : r = Km549.error (-28) := (Prod.mk.inj ((if_pos (c := 7 ≤ (sup p).commitments.length) B).symm.trans e2)).2.symm
      subst e3
      exact ifT (by decide) ⟨_, rfl, go.nochange hp ((step_withCommitment p x y).trans (congrArg (Prod.mk (some p)) ((if_neg A1).trans (if_pos B)))) s2 fl hl⟩
    have e3 := Prod.mk.inj ((if_neg (c := 7 ≤ (sup p).commitments.length) B).symm.trans e2)
    have e4 : p2 = Km549.withCommitment (sup p) x y := (Option.some.inj e3.1).symm
    have e5 := e3.2
    subst e4 e5
    refine ifF (by show ¬ ((((sup p).commitments.length : Nat) : Int) < 0); omega) ?_
    have e := (step_withCommitment p x y).trans (congrArg (Prod.mk (some p)) ((if_neg A1).trans (if_neg B)))
    refine ⟨_, rfl, x1, ld2, lc2, _, rfl, hp2, fun H3 l3 p3 ld3 lc3 r3 e6 hp3 g3 g4 kp3 nl3 hl3 => ?_⟩
    rw [step_tolerance] at e6
    have e7 := Prod.mk.inj e6
    have ecov : Km549.tolerance (Km549.withCommitment (sup p) x y) = Km549.tolerance (Km549.withCommitment p x y) := rfl
    rw [← e7.2, ecov] at hl3
    have fr : ∀ {b : Addr}, (b = ld1 ∨ H1 b = none) → H b = none := fun g => g.elim (fun e => by rw [e]; exact n2) fun e => s1.free e
    have fr2 : ∀ {b : Addr}, (b = lc1 ∨ H1 b = none) → H b = none := fun g => g.elim (fun e => by rw [e]; exact n3) fun e => s1.free e
    have s3 : Same H H3 := fun b o z => kp3 b o (s2 b o z) (ne_of_none z n1) (ne_of_none z (fr g1)) (ne_of_none z (fr2 g2))
    exact go.nochange hp e s3 (s2.free nl3) hl3
end
end Cs

namespace Cs
open PySem PySem.Spec PyProof.Rows L2
/-- the machine: the object at x, and the plan that it holds -/
def StAt (C : Cl) (H : Hp) (x : Addr) (own : List Addr) : Km549.State → Prop
  | none => own = [x] ∧ ∃ dx, H x = some (.ins C.R dx [("plan", .non)])
  | some p => ∃ dx a ld lc, own = [x, a, ld, lc] ∧ H x = some (.ins C.R dx [("plan", .ref a)]) ∧ IsPlan C H a ld lc p
theorem StAt.same {C : Cl} {H H' : Hp} {x : Addr} {own : List Addr} : ∀ {s : Km549.State}, StAt C H x own s → Same H H' → StAt C H' x own s
  | none, ⟨e, dx, h⟩, s => ⟨e, dx, s _ _ h⟩
  | some p, ⟨dx, a, ld, lc, e, h, hp⟩, s => ⟨dx, a, ld, lc, e, s _ _ h, hp.same s⟩
theorem IsPlan.mem {C : Cl} {H : Hp} {a ld lc : Addr} {p : Plr} (h : IsPlan C H a ld lc p) : H a ≠ none ∧ H ld ≠ none ∧ H lc ≠ none := by
  obtain ⟨⟨dx, ds, cs, h⟩, _⟩ := h
  exact ⟨by rw [h.ob]; exact Option.some_ne_none _, by rw [h.hd]; exact Option.some_ne_none _, by rw [h.hc]; exact Option.some_ne_none _⟩
/-- what is owned is there -/
theorem StAt.there {C : Cl} {H : Hp} {x : Addr} {own : List Addr} : ∀ {s : Km549.State}, StAt C H x own s → ∀ b ∈ own, H b ≠ none
  | none, ⟨e, dx, h⟩, b, m => by
    subst e
    rw [List.mem_singleton.mp m, h]
    exact Option.some_ne_none _
  | some p, ⟨dx, a, ld, lc, e, h, hp⟩, b, m => by
    subst e
    have := hp.mem
    simp only [List.mem_cons, List.not_mem_nil, or_false] at m
    rcases m with rfl | rfl | rfl | rfl
    · rw [h]; exact Option.some_ne_none _
    · exact this.1
    · exact this.2.1
    · exact this.2.2
theorem StAt.at {C : Cl} {H : Hp} {x t : Addr} {own : List Addr} {xs ys : List V} (ht : H t = some (.lst xs)) : ∀ {s : Km549.State}, StAt C H x own s → t ∉ own → StAt C (upd H t (.lst ys)) x own s
  | none, ⟨e, dx, h⟩, _ => ⟨e, dx, (upd_ne (ne_of h ht (by intro z; cases z))).trans h⟩
  | some p, ⟨dx, a, ld, lc, e, h, ⟨⟨d2, ds, cs, hp⟩, f⟩⟩, m => by
    subst e
    simp only [List.mem_cons, List.not_mem_nil, or_false, not_or] at m
    refine ⟨dx, a, ld, lc, rfl, (upd_ne (ne_of h ht (by intro z; cases z))).trans h, ⟨⟨d2, ds, cs, ⟨(upd_ne (Ne.symm m.2.1)).trans hp.ob, (upd_ne (Ne.symm m.2.2.1)).trans hp.hd, (upd_ne (Ne.symm m.2.2.2)).trans hp.hc, hp.ne, fun q mm => ?_, fun q mm => ?_, hp.ed, hp.ec⟩⟩, f⟩⟩
    · obtain ⟨d, e⟩ := hp.dl q mm
      exact ⟨d, (upd_ne (ne_of e ht (by intro z; cases z))).trans e⟩
    · obtain ⟨d, e⟩ := hp.cm q mm
      exact ⟨d, (upd_ne (ne_of e ht (by intro z; cases z))).trans e⟩
/-- the wish of a call on the machine -/
def Went (C : Cl) (H : Hp) (x : Addr) (own : List Addr) (s : Km549.State) (c : Km549.Call) (Q : VK) : Prop := ∀ (H' : Hp) (l : Addr) (own' : List Addr), StAt C H' x own' (Km549.step s c).1 → (∀ b ∈ own', b ∈ own ∨ H b = none) →
  (∀ b o, H b = some o → b ∉ own → H' b = some o) → H l = none → H' l = some (.lst (ans (Km549.step s c).2)) → Q (.ref l) H'
theorem natI_get {xs : List Nat} {i n : Nat} (h : xs[i]? = some n) : ((natI xs).map V.int)[i]? = some (.int (n : Nat)) := by
  unfold natI
  rw [List.map_map, List.getElem?_map, h]
  rfl
section
variable {P : Program} {w : World} {K : PySem.W.Frag} {mg : Str → Option Value} {base : Heap} {C : Cl}
abbrev s_Planner___init__ : Stmt := inClass (topS 89) 0
theorem sc_Planner___init__ : FnScope ["self"] ["self"] (defScope s_Planner___init__) := ⟨rfl, rfl, rfl, by decide +kernel, rfl, by decide +kernel, by decide +kernel⟩
def sp_Planner (C : Cl) : Sp := fun vs H Q _ => ∃ (x dx : Addr), vs = [.ref x] ∧ H x = some (.ins C.R dx []) ∧
  ∀ H', H' x = some (.ins C.R dx [("plan", .non)]) → (∀ b o, H b = some o → b ≠ x → H' b = some o) → Q .non H'
theorem ok_Planner {f : Addr} {fd : FuncData} (T : Txt K mg C) (F : Fun K "__init__" "Planner.__init__" s_Planner___init__ f fd) : FnOk P w K mg base CX0 1 f fd ["self"] (sp_Planner C) := by
  refine F.ok sc_Planner___init__ (fun vs H Q E h => ?_) (fun cdv A outer s H vs Q E hr h => ?_)
  · obtain ⟨x, dx, rfl, _⟩ := h
    rfl
  · refine ⟨_, (pss_one (ps_fld (pv 0) pe_non rfl)), ?_⟩
    obtain ⟨x, dx, rfl, hx, go⟩ := h
    refine ⟨_, rfl, x, C.R, dx, _, rfl, hx, T.clR, T.naR _ (by simp), (by show 0 < 1000; decide), ?_⟩
    exact go _ upd_same fun b o e hb => by rw [upd_ne hb]; exact e
def sp_execute (K : PySem.W.Frag) (C : Cl) : Sp := fun vs H Q _ => ∃ (x nl : Addr) (own : List Addr) (s : Km549.State) (j : Nat) (xs : List Nat) (c : Km549.Call), vs = [.ref x, .int (j : Nat), .ref nl] ∧ StAt C H x own s ∧ SqL K H nl ((natI xs).map V.int) ∧ callOf j xs = some c ∧ Went C H x own s c Q
abbrev s_answers : Stmt := topS 95
theorem sc_answers : FnScope ["calls", "planner", "told", "place", "call", "following", "result"] ["calls"] (defScope s_answers) := ⟨rfl, rfl, rfl, by decide +kernel, rfl, by decide +kernel, by decide +kernel⟩
def sp_answers (K : PySem.W.Frag) : Sp := fun vs H Q _ => ∃ (a : Addr) (ns : List Int), vs = [.ref a] ∧ SqL K H a (ns.map V.int) ∧ PyKm549.answers_asked ns = true ∧
  ∀ (H' : Hp) (p : Addr), H' p = some (.lst ((PyKm549.answers ns).map V.int)) → Q (.ref p) H'
/-- the loop's word -/
def W (C : Cl) (H : Hp) (ns : List Int) (a x t : Addr) (σ : L2.St) (H' : Hp) : Prop := ∃ (n : Nat) (s : Km549.State) (own : List Addr) (out : List Int) (f : Nat) (raw : List (List (List Int))) (v4 v5 v6 : Option V),
  σ = [some (.ref a), some (.ref x), some (.ref t), some (.int (n : Nat)), v4, v5, v6] ∧ Same H H' ∧ StAt C H' x own s ∧ H' t = some (.lst (out.map V.int)) ∧ t ∉ own ∧ (∀ b ∈ own, H b = none) ∧ H t = none ∧ n ≤ ns.length ∧
  PyFlat.calls PyKm549.shape f (ns.drop n) = some raw ∧ raw.all Km549Neutral.asked1 = true ∧ PyKm549.answers ns = out ++ due s raw
def left (ns : List Int) (σ : L2.St) (_ : Hp) : Nat := match σ[3]? with
  | some (some (V.int i)) => ns.length - i.toNat
  | _ => 0
theorem asked_start {ns : List Int} (h : PyKm549.answers_asked ns = true) : ∃ raw, PyFlat.calls PyKm549.shape ns.length ns = some raw ∧ raw.all Km549Neutral.asked1 = true ∧ PyKm549.answers ns = due none raw ∧ (PyKm549.answers ns).length ≤ 10000000 := by
  unfold PyKm549.answers_asked at h
  cases e : PyFlat.calls PyKm549.shape ns.length ns with
  | none => rw [e] at h; cases h
  | some raw =>
    rw [e] at h
    simp only [Bool.and_eq_true] at h
    obtain ⟨⟨_, h2⟩, h3⟩ := h
    unfold Km549Neutral.asked at h2
    rw [whole_map] at h2
    simp only [Bool.and_eq_true] at h2
    refine ⟨raw, rfl, h2.2.2, ?_, of_decide_eq_true h3⟩
    unfold PyKm549.answers PyKm549.calls
    rw [e]
    dsimp only
    rw [whole_map]
    rfl
theorem cut_args {ns : List Int} {n : Nat} {j : Nat} {xs : List Nat} (hd : ns.drop n = (j : Int) :: (natI xs ++ (ns.drop n).drop (xs.length + 1))) :
    cutV (ns.map V.int) (some ((n : Int) + 1)) (some ((n : Int) + 1 + (xs.length : Nat))) = (natI xs).map V.int := by
  have hl := congrArg List.length hd
  rw [List.length_cons, List.length_append, List.length_drop, List.length_drop, List.length_drop] at hl
  have hi : (natI xs).length = xs.length := by unfold natI; rw [List.length_map]
  unfold cutV
  rw [show (n : Int) + 1 = ((n + 1 : Nat) : Int) from rfl, show ((n + 1 : Nat) : Int) + (xs.length : Nat) = ((n + 1 + xs.length : Nat) : Int) from rfl, HT.sIx_nat, HT.sIx_nat, List.length_map]
  rw [Nat.min_eq_left (by omega), Nat.min_eq_left (by omega), show n + 1 + xs.length - (n + 1) = xs.length by omega, ← List.map_drop, ← List.map_take]
  refine congrArg (List.map V.int) ?_
  rw [show ns.drop (n + 1) = (ns.drop n).drop 1 by rw [List.drop_drop]]
  rw [hd]
  show (natI xs ++ _).take xs.length = natI xs
  rw [← hi, List.take_left]
theorem ok_answers {f : Addr} {fd : FuncData} (T : Txt K mg C) (F : Fun K "answers" "answers" s_answers f fd) (lv : Nat) (hlv : 1 ≤ lv) (D1 : Mkr P w K mg base 1 C.R ["self"] (sp_Planner C)) (D2 : Def P w K mg base (lv + 1) "execute" ["planner", "call", "numbers"] (sp_execute K C)) :
    FnOk P w K mg base CX0 (lv + 1 + 1) f fd ["calls"] (sp_answers K) := by
  refine F.ok sc_answers (fun vs H Q E h => ?_) (fun cdv A outer s H vs Q E hr h => ?_)
  · obtain ⟨a, ns, rfl, _⟩ := h
    rfl
  · obtain ⟨_, _, M_Planner, G_Planner, b_Planner⟩ := D1.ex
    obtain ⟨_, _, G_execute, m_execute, k_execute, b_execute⟩ := D2.ex
    have hr_Planner : Room (1 + 1) _ := hr.mono (by omega)
    have hr_execute := hr
    refine ⟨_, (pss_cons (ps_set (i := 1) sc_answers.nd rfl (Or.inl rfl) (pe_make0 M_Planner G_Planner hr_Planner rfl T.g_Planner b_Planner .nil pass0))
  (pss_cons (ps_set (i := 2) sc_answers.nd rfl (Or.inl rfl) (pe_lst pa_nil))
  (pss_cons (ps_set (i := 3) sc_answers.nd rfl (Or.inl rfl) pe_int)
  (pss_cons (ps_while PassesOwn.never (pt_cmpR op_lt (pv 3) (pe_callB call_len_seq (by rfl) T.n_len PySem.boot_len (pa_cons (pv 0) pa_nil)) (nomark _))
    (pss_cons (ps_set (i := 4) sc_answers.nd rfl (Or.inl rfl) (pe_ix ix_list (pv 0) (pv 3) (fun _ _ => rfl)))
  (pss_cons (ps_set (i := 5) sc_answers.nd rfl (Or.inl rfl) (pe_op op_add (pe_op op_add (pv 3) pe_int) (pe_ix ix_tup (pe_cst rfl T.c_PARAMETER_COUNTS) (pv 4) (fun _ _ => rfl))))
  (pss_cons (ps_set (i := 6) sc_answers.nd rfl (Or.inl rfl) (pe_call G_execute hr_execute rfl m_execute k_execute b_execute .nil pass0 (pa_cons (pv 1) (pa_cons (pv 4) (pa_cons (pe_slice sl_list (pv 0) (po_some (pe_op op_add (pv 3) pe_int)) (po_some (pv 5))) pa_nil)))))
  (pss_cons (ps_expr (pe_bm PySem.F.plainAttrs_list PySem.F.slot_list_append PySem.F.type_list_append mt_append (pv 2) (pa_cons (pe_callB call_len_seq (by rfl) T.n_len PySem.boot_len (pa_cons (pv 6) pa_nil)) pa_nil)))
  (pss_cons (ps_expr (pe_bm PySem.F.plainAttrs_list PySem.F.slot_list_extend PySem.F.type_list_extend mt_extend (pv 2) (pa_cons (pv 6) pa_nil)))
  (pss_one (ps_set (i := 3) sc_answers.nd rfl (Or.inl rfl) (pv 5)))))))))
  (pss_one (ps_ret (pv 2))))))), ?_⟩
    obtain ⟨a, ns, rfl, hS, hask, go⟩ := h
    obtain ⟨raw0, r1, r2, r3, r4⟩ := asked_start hask
    intro x dx nx nd ne
    refine ⟨x, dx, rfl, upd_same, fun H1 o1 kp => ⟨rfl, ?_⟩⟩
    have s1 : Same H H1 := Same.made nx nd kp
    refine ⟨(by show 0 ≤ sizeLine; decide), fun t nt => ?_⟩
    have ntx : t ≠ x := fun e => by rw [e, o1] at nt; cases nt
    have s2 : Same H1 (upd H1 t (.lst [])) := Same.new nt
    refine while_by (W C H ns a x t) (left ns) ?_ ?_ ?_
    · refine ⟨0, none, [x], [], ns.length, raw0, none, none, none, rfl, s1.trans s2, ⟨rfl, dx, s2 _ _ o1⟩, upd_same, ?_, ?_, s1.free nt, Nat.zero_le _, r1, r2, r3⟩
      · intro m
        exact ntx (List.mem_singleton.mp m)
      · intro b m
        rw [List.mem_singleton.mp m]
        exact nx
    · rintro σ H' ⟨n, s, own, out, f, raw, v4, v5, v6, rfl, s3, st, ht, tno, ofr, tfr, hn, p1, p2, p3⟩
      refine ⟨_, rfl, _, rfl, a, _, rfl, .inl (s3.seq hS), _, _, rfl, rfl, _, rfl, ?_⟩
      refine ifD (fun c => ?_) (fun c => ?_)
      · have hlt : n < ns.length := by rw [List.length_map] at c; omega
        have hne : ns.drop n ≠ [] := fun e => by have := congrArg List.length e; rw [List.length_drop, List.length_nil] at this; omega
        obtain ⟨j, xs, cc, f', cs, tn⟩ := turn p1 hne p2 s
        have hcall : (ns.map V.int)[n]? = some (.int (j : Nat)) := by
          have e := congrArg (fun l : List Int => l[0]?) tn.hd
          rw [List.getElem?_map]
          have e2 : ns[n]? = some (j : Int) := by
            have e3 : (ns.drop n)[0]? = some (j : Int) := e
            rwa [List.getElem?_drop, Nat.add_zero] at e3
          rw [e2]
          rfl
        have hxl : n + 1 + xs.length ≤ ns.length := by
          have hl := congrArg List.length tn.hd
          rw [List.length_cons, List.length_append, List.length_drop, List.length_drop, List.length_drop] at hl
          have hi : (natI xs).length = xs.length := by unfold natI; rw [List.length_map]
          omega
        -- call = calls[place]
        refine ⟨_, rfl, _, rfl, a, _, _, _, rfl, rfl, s3.seq hS, atI_nat hcall, ?_⟩
        -- following = place + 1 + PARAMETER_COUNTS[call]
        refine ⟨_, rfl, _, _, rfl, rfl, _, rfl, C.N, _, _, _, rfl, rfl, T.t_counts _, atI_nat (natI_get tn.cn), _, _, rfl, rfl, ?_⟩
        -- result = execute(planner, call, calls[place + 1:following])
        refine ⟨_, rfl, _, rfl, _, rfl, _, rfl, _, _, rfl, rfl, _, rfl, _, rfl, _, rfl, a, _, rfl, s3.seq hS, fun nl hnl => ?_⟩
        refine ⟨x, nl, own, s, j, xs, cc, rfl, st.same (Same.new hnl), SqL.of (upd_same.trans (congrArg (fun q => some (HO.lst q)) (cut_args tn.hd))), tn.co, fun H2 l own' st2 ow2 kp2 fl hl2 => ?_⟩
        have ht1 : (upd H' nl (.lst (cutV (ns.map V.int) (some ((n : Int) + 1)) (some ((n : Int) + 1 + (xs.length : Nat)))))) t = some (.lst (out.map V.int)) := Same.new hnl _ _ ht
        have ht2 : H2 t = some (.lst (out.map V.int)) := kp2 t _ ht1 tno
        have nlt : l ≠ t := fun e => by rw [e, ht1] at fl; cases fl
        have tno' : t ∉ own' := fun m => (ow2 t m).elim tno fun e => by rw [ht1] at e; cases e
        have size : (out ++ ((((Km549.step s cc).2.nums.length + 1 : Nat) : Int) :: (Km549.step s cc).2.num :: (Km549.step s cc).2.nums)).length ≤ 10000000 := by
          have e := congrArg List.length p3
          rw [tn.eq, ← List.append_assoc, List.length_append] at e
          omega
        rw [List.length_append, List.length_cons, List.length_cons] at size
        have big : 10000000 < sizeLine := by decide
        -- told.append(len(result))
        refine ⟨_, rfl, .inl ⟨rfl, _, SqL.of ht2⟩, _, rfl, l, _, rfl, .inl (SqL.of hl2), t, _, _, rfl, rfl, ht2, by rw [List.length_map]; omega, ?_⟩
        -- told.extend(result)
        refine ⟨_, rfl, .inl ⟨rfl, _, SqL.of upd_same⟩, _, rfl, t, l, _, _, rfl, rfl, upd_same, (upd_ne nlt).trans hl2, ?_, ?_⟩
        · unfold ans
          rw [List.length_append, List.length_map, List.length_map, List.length_cons]
          show out.length + 1 + ((Km549.step s cc).2.nums.length + 1) ≤ sizeLine
          omega
        -- place = following
        refine ⟨_, rfl, ⟨n + 1 + xs.length, (Km549.step s cc).1, own', out ++ ((((Km549.step s cc).2.nums.length + 1 : Nat) : Int) :: (Km549.step s cc).2.num :: (Km549.step s cc).2.nums), f', cs, _, _, _, rfl, ?_, ?_, ?_, tno', ?_, tfr, hxl, ?_, tn.ok, ?_⟩, ?_⟩
        · intro b o e
          have hb : b ≠ t := ne_of_none e tfr
          rw [upd_ne hb, upd_ne hb]
          exact kp2 b o (Same.new hnl _ _ (s3 b o e)) fun m => by rw [ofr b m] at e; cases e
        · rw [upd_upd]
          exact StAt.at ht2 st2 tno'
        · rw [upd_same]
          refine congrArg (fun q => some (HO.lst q)) ?_
          unfold ans
          rw [List.map_append, List.append_assoc]
          refine congrArg (fun q => out.map V.int ++ q) ?_
          rw [List.length_map]
          rfl
        · intro b m
          rcases ow2 b m with m | m
          · exact ofr b m
          · exact s3.free ((Same.new hnl).free m)
        · have := tn.rest
          rw [List.drop_drop] at this
          rwa [show n + 1 + xs.length = n + (xs.length + 1) by omega]
        · rw [p3, tn.eq, List.append_assoc]
        · show ns.length - ((n : Int) + 1 + (xs.length : Nat)).toNat < ns.length - (n : Int).toNat
          omega
      · have e : n = ns.length := by rw [List.length_map] at c; omega
        subst e
        rw [List.drop_length] at p1
        have er : raw = [] := by
          cases f with
          | zero => exact (Option.some.inj p1).symm
          | succ f => exact (Option.some.inj p1).symm
        subst er
        refine ⟨_, rfl, go H' t ?_⟩
        rw [p3, ht]
        exact congrArg (fun q => some (HO.lst (List.map V.int q))) (List.append_nil out).symm
    · rintro σ H' Q1 Q2 imp ⟨v1, e1, v2, e2, b, ys, e3, e4, i1, i2, e5, e6, k, e7, q⟩
      exact ⟨v1, e1, v2, e2, b, ys, e3, e4, i1, i2, e5, e6, k, e7, imp _ _ q⟩
end
end Cs

namespace Cs
open PySem PySem.Spec PyProof.Rows L2
theorem Done.mono {C : Cl} {H H1 : Hp} {a ld lc : Addr} {p : Plr} {c : Km549.Call} {Q : VK} (go : Done C H a ld lc p c Q) (s : Same H H1) : Done C H1 a ld lc p c Q :=
  fun H' l p' ld' lc' r e hp g1 g2 k n hl => go H' l p' ld' lc' r e hp (g1.imp id s.free) (g2.imp id s.free) (fun b o z n1 n2 n3 => k b o (s b o z) n1 n2 n3) (s.free n) hl
theorem rF_pF {T T' dx dx' : Addr} {v : V} {p : Plr} {ld lc : Addr} : HO.ins T dx [("plan", v)] ≠ HO.ins T' dx' (pF p ld lc) := by
  intro z
  injection z with _ _ e
  exact nomatch (show (1 : Nat) = 7 from congrArg List.length e)
/-- the machine's wish, as the plan's -/
theorem Went.done {C : Cl} {H : Hp} {x a ld lc dx : Addr} {p : Plr} {c : Km549.Call} {Q : VK} (hx : H x = some (.ins C.R dx [("plan", .ref a)])) (hp : IsPlan C H a ld lc p) (go : Went C H x [x, a, ld, lc] (some p) c Q) : Done C H a ld lc p c Q := by
  intro H' l p' ld' lc' r e hp' g1 g2 k n hl
  obtain ⟨⟨d2, ds, cs, h⟩, f⟩ := hp
  have e1 : (Km549.step (some p) c).1 = some p' := congrArg Prod.fst e
  have e2 : (Km549.step (some p) c).2 = r := congrArg Prod.snd e
  refine go H' l [x, a, ld', lc'] ?_ ?_ ?_ n (by rw [e2]; exact hl)
  · rw [e1]
    exact ⟨dx, a, ld', lc', rfl, k x _ hx (ne_of hx h.ob rF_pF) (ne_of hx h.hd (by intro z; cases z)) (ne_of hx h.hc (by intro z; cases z)), hp'⟩
  · intro b m
    simp only [List.mem_cons, List.not_mem_nil, or_false] at m
    rcases m with rfl | rfl | rfl | rfl
    · exact .inl (by simp)
    · exact .inl (by simp)
    · rcases g1 with rfl | g
      · exact .inl (by simp)
      · exact .inr g
    · rcases g2 with rfl | g
      · exact .inl (by simp)
      · exact .inr g
  · intro b o z m
    simp only [List.mem_cons, List.not_mem_nil, or_false, not_or] at m
    exact k b o z m.2.1 m.2.2.1 m.2.2.2
theorem ni {i j : Int} (h : i ≠ j) : ¬ (V.int i = V.int j) := fun z => h (V.int.inj z)
section
variable {P : Program} {w : World} {K : PySem.W.Frag} {mg : Str → Option Value} {base : Heap} {C : Cl}
/-- a call of a plan, by its number -/
def sp_run (K : PySem.W.Frag) (C : Cl) (ok : Nat → Prop) : Sp := fun vs H Q _ => ∃ (a ld lc nl : Addr) (p : Plr) (j : Nat) (xs : List Nat) (c : Km549.Call), vs = [.ref a, .int (j : Nat), .ref nl] ∧ IsPlan C H a ld lc p ∧ SqL K H nl ((natI xs).map V.int) ∧ callOf j xs = some c ∧ ok j ∧ Done C H a ld lc p c Q
abbrev s_execute_change : Stmt := topS 91
theorem sc_execute_change : FnScope ["plan", "call", "numbers"] ["plan", "call", "numbers"] (defScope s_execute_change) := ⟨rfl, rfl, rfl, by decide +kernel, rfl, by decide +kernel, by decide +kernel⟩
theorem ok_execute_change {f : Addr} {fd : FuncData} (T : Txt K mg C) (F : Fun K "execute_change" "execute_change" s_execute_change f fd)
    (D1 : Def P w K mg base 3 "add_delivery" ["plan", "amount", "earliest", "latest"] (sp_add_delivery C))
    (D2 : Def P w K mg base 3 "add_commitment" ["plan", "amount", "due"] (sp_add_commitment C))
    (D3 : Def P w K mg base 5 "add_covered_commitment" ["plan", "k", "amount", "due"] (sp_add_covered_commitment C))
    (D4 : Def P w K mg base 1 "cancel_commitment" ["plan", "commitment"] (sp_cancel_commitment C))
    (D5 : Def P w K mg base 1 "delivery_arrived" ["plan", "delivery"] (sp_delivery_arrived C))
    (D6 : Def P w K mg base 1 "delivery_failed" ["plan", "delivery"] (sp_delivery_failed C))
    (D7 : Def P w K mg base 1 "fulfill_commitment" ["plan", "commitment"] (sp_fulfill_commitment C))
    (D8 : Def P w K mg base 1 "next_day" ["plan"] (sp_next_day C))
    (D9 : Def P w K mg base 7 "cancel_best" ["plan", "k"] (sp_cancel_best C))
    : FnOk P w K mg base CX0 8 f fd ["plan", "call", "numbers"] (sp_run K C fun j => (1 ≤ j ∧ j ≤ 8) ∨ j = 19) := by
  refine F.ok sc_execute_change (fun vs H Q E h => ?_) (fun cdv A outer s H vs Q E hr h => ?_)
  · obtain ⟨a, ld, lc, nl, p, j, xs, c, rfl, _⟩ := h
    rfl
  · obtain ⟨_, _, G_add_delivery, m_add_delivery, k_add_delivery, b_add_delivery⟩ := D1.ex
    obtain ⟨_, _, G_add_commitment, m_add_commitment, k_add_commitment, b_add_commitment⟩ := D2.ex
    obtain ⟨_, _, G_add_covered_commitment, m_add_covered_commitment, k_add_covered_commitment, b_add_covered_commitment⟩ := D3.ex
    obtain ⟨_, _, G_cancel_commitment, m_cancel_commitment, k_cancel_commitment, b_cancel_commitment⟩ := D4.ex
    obtain ⟨_, _, G_delivery_arrived, m_delivery_arrived, k_delivery_arrived, b_delivery_arrived⟩ := D5.ex
    obtain ⟨_, _, G_delivery_failed, m_delivery_failed, k_delivery_failed, b_delivery_failed⟩ := D6.ex
    obtain ⟨_, _, G_fulfill_commitment, m_fulfill_commitment, k_fulfill_commitment, b_fulfill_commitment⟩ := D7.ex
    obtain ⟨_, _, G_next_day, m_next_day, k_next_day, b_next_day⟩ := D8.ex
    obtain ⟨_, _, G_cancel_best, m_cancel_best, k_cancel_best, b_cancel_best⟩ := D9.ex
    have hr_add_delivery : Room 3 _ := hr.mono (by decide)
    have hr_add_commitment : Room 3 _ := hr.mono (by decide)
    have hr_add_covered_commitment : Room 5 _ := hr.mono (by decide)
    have hr_cancel_commitment : Room 1 _ := hr.mono (by decide)
    have hr_delivery_arrived : Room 1 _ := hr.mono (by decide)
    have hr_delivery_failed : Room 1 _ := hr.mono (by decide)
    have hr_fulfill_commitment : Room 1 _ := hr.mono (by decide)
    have hr_next_day : Room 1 _ := hr.mono (by decide)
    have hr_cancel_best : Room 7 _ := hr.mono (by decide)
    refine ⟨_, (pss_cons (ps_if (pt_cmpR op_eq (pv 1) (pe_cst rfl T.c_ADD_DELIVERY) (nomark _))
    (pss_one (ps_ret (pe_call G_add_delivery hr_add_delivery rfl m_add_delivery k_add_delivery b_add_delivery .nil pass0 (pa_cons (pv 0) (pa_cons (pe_ix ix_list (pv 2) pe_int (fun _ _ => rfl)) (pa_cons (pe_ix ix_list (pv 2) pe_int (fun _ _ => rfl)) (pa_cons (pe_ix ix_list (pv 2) pe_int (fun _ _ => rfl)) pa_nil)))))))
    pss_nil)
  (pss_cons (ps_if (pt_cmpR op_eq (pv 1) (pe_cst rfl T.c_ADD_COMMITMENT) (nomark _))
    (pss_one (ps_ret (pe_call G_add_commitment hr_add_commitment rfl m_add_commitment k_add_commitment b_add_commitment .nil pass0 (pa_cons (pv 0) (pa_cons (pe_ix ix_list (pv 2) pe_int (fun _ _ => rfl)) (pa_cons (pe_ix ix_list (pv 2) pe_int (fun _ _ => rfl)) pa_nil))))))
    pss_nil)
  (pss_cons (ps_if (pt_cmpR op_eq (pv 1) (pe_cst rfl T.c_ADD_COVERED_COMMITMENT) (nomark _))
    (pss_one (ps_ret (pe_call G_add_covered_commitment hr_add_covered_commitment rfl m_add_covered_commitment k_add_covered_commitment b_add_covered_commitment .nil pass0 (pa_cons (pv 0) (pa_cons (pe_ix ix_list (pv 2) pe_int (fun _ _ => rfl)) (pa_cons (pe_ix ix_list (pv 2) pe_int (fun _ _ => rfl)) (pa_cons (pe_ix ix_list (pv 2) pe_int (fun _ _ => rfl)) pa_nil)))))))
    pss_nil)
  (pss_cons (ps_if (pt_cmpR op_eq (pv 1) (pe_cst rfl T.c_CANCEL_COMMITMENT) (nomark _))
    (pss_one (ps_ret (pe_call G_cancel_commitment hr_cancel_commitment rfl m_cancel_commitment k_cancel_commitment b_cancel_commitment .nil pass0 (pa_cons (pv 0) (pa_cons (pe_ix ix_list (pv 2) pe_int (fun _ _ => rfl)) pa_nil)))))
    pss_nil)
  (pss_cons (ps_if (pt_cmpR op_eq (pv 1) (pe_cst rfl T.c_DELIVERY_ARRIVED) (nomark _))
    (pss_one (ps_ret (pe_call G_delivery_arrived hr_delivery_arrived rfl m_delivery_arrived k_delivery_arrived b_delivery_arrived .nil pass0 (pa_cons (pv 0) (pa_cons (pe_ix ix_list (pv 2) pe_int (fun _ _ => rfl)) pa_nil)))))
    pss_nil)
  (pss_cons (ps_if (pt_cmpR op_eq (pv 1) (pe_cst rfl T.c_DELIVERY_FAILED) (nomark _))
    (pss_one (ps_ret (pe_call G_delivery_failed hr_delivery_failed rfl m_delivery_failed k_delivery_failed b_delivery_failed .nil pass0 (pa_cons (pv 0) (pa_cons (pe_ix ix_list (pv 2) pe_int (fun _ _ => rfl)) pa_nil)))))
    pss_nil)
  (pss_cons (ps_if (pt_cmpR op_eq (pv 1) (pe_cst rfl T.c_FULFILL_COMMITMENT) (nomark _))
    (pss_one (ps_ret (pe_call G_fulfill_commitment hr_fulfill_commitment rfl m_fulfill_commitment k_fulfill_commitment b_fulfill_commitment .nil pass0 (pa_cons (pv 0) (pa_cons (pe_ix ix_list (pv 2) pe_int (fun _ _ => rfl)) pa_nil)))))
    pss_nil)
  (pss_cons (ps_if (pt_cmpR op_eq (pv 1) (pe_cst rfl T.c_NEXT_DAY) (nomark _))
    (pss_one (ps_ret (pe_call G_next_day hr_next_day rfl m_next_day k_next_day b_next_day .nil pass0 (pa_cons (pv 0) pa_nil))))
    pss_nil)
  (pss_one (ps_ret (pe_call G_cancel_best hr_cancel_best rfl m_cancel_best k_cancel_best b_cancel_best .nil pass0 (pa_cons (pv 0) (pa_cons (pe_ix ix_list (pv 2) pe_int (fun _ _ => rfl)) pa_nil))))))))))))), ?_⟩
    obtain ⟨a, ld, lc, nl, p, j, xs, c, rfl, hp, hS, hc, hj, go⟩ := h
    unfold callOf at hc
    split at hc
    · exact absurd hj (by decide)
    · cases hc
      exact ⟨_, rfl, rfl, _, rfl, ifT rfl ⟨_, rfl, _, rfl, nl, _, _, _, rfl, rfl, hS, at_of (j := 0) rfl rfl, _, rfl, nl, _, _, _, rfl, rfl, hS, at_of (j := 1) rfl rfl, _, rfl, nl, _, _, _, rfl, rfl, hS, at_of (j := 2) rfl rfl, a, ld, lc, p, _, _, _, rfl, hp, go⟩⟩
    · cases hc
      refine ⟨_, rfl, rfl, _, rfl, ifF (ni (by decide)) ?_⟩
      exact ⟨_, rfl, rfl, _, rfl, ifT rfl ⟨_, rfl, _, rfl, nl, _, _, _, rfl, rfl, hS, at_of (j := 0) rfl rfl, _, rfl, nl, _, _, _, rfl, rfl, hS, at_of (j := 1) rfl rfl, a, ld, lc, p, _, _, rfl, hp, go⟩⟩
    · cases hc
      refine ⟨_, rfl, rfl, _, rfl, ifF (ni (by decide)) ?_⟩
      refine ⟨_, rfl, rfl, _, rfl, ifF (ni (by decide)) ?_⟩
      exact ⟨_, rfl, rfl, _, rfl, ifT rfl ⟨_, rfl, _, rfl, nl, _, _, _, rfl, rfl, hS, at_of (j := 0) rfl rfl, _, rfl, nl, _, _, _, rfl, rfl, hS, at_of (j := 1) rfl rfl, _, rfl, nl, _, _, _, rfl, rfl, hS, at_of (j := 2) rfl rfl, a, ld, lc, p, _, _, _, rfl, hp, go⟩⟩
    · cases hc
      refine ⟨_, rfl, rfl, _, rfl, ifF (ni (by decide)) ?_⟩
      refine ⟨_, rfl, rfl, _, rfl, ifF (ni (by decide)) ?_⟩
      refine ⟨_, rfl, rfl, _, rfl, ifF (ni (by decide)) ?_⟩
      exact ⟨_, rfl, rfl, _, rfl, ifT rfl ⟨_, rfl, _, rfl, nl, _, _, _, rfl, rfl, hS, at_of (j := 0) rfl rfl, a, ld, lc, p, _, rfl, hp, go⟩⟩
    · cases hc
      refine ⟨_, rfl, rfl, _, rfl, ifF (ni (by decide)) ?_⟩
      refine ⟨_, rfl, rfl, _, rfl, ifF (ni (by decide)) ?_⟩
      refine ⟨_, rfl, rfl, _, rfl, ifF (ni (by decide)) ?_⟩
      refine ⟨_, rfl, rfl, _, rfl, ifF (ni (by decide)) ?_⟩
      exact ⟨_, rfl, rfl, _, rfl, ifT rfl ⟨_, rfl, _, rfl, nl, _, _, _, rfl, rfl, hS, at_of (j := 0) rfl rfl, a, ld, lc, p, _, rfl, hp, go⟩⟩
    · cases hc
      refine ⟨_, rfl, rfl, _, rfl, ifF (ni (by decide)) ?_⟩
      refine ⟨_, rfl, rfl, _, rfl, ifF (ni (by decide)) ?_⟩
      refine ⟨_, rfl, rfl, _, rfl, ifF (ni (by decide)) ?_⟩
      refine ⟨_, rfl, rfl, _, rfl, ifF (ni (by decide)) ?_⟩
      refine ⟨_, rfl, rfl, _, rfl, ifF (ni (by decide)) ?_⟩
      exact ⟨_, rfl, rfl, _, rfl, ifT rfl ⟨_, rfl, _, rfl, nl, _, _, _, rfl, rfl, hS, at_of (j := 0) rfl rfl, a, ld, lc, p, _, rfl, hp, go⟩⟩
    · cases hc
      refine ⟨_, rfl, rfl, _, rfl, ifF (ni (by decide)) ?_⟩
      refine ⟨_, rfl, rfl, _, rfl, ifF (ni (by decide)) ?_⟩
      refine ⟨_, rfl, rfl, _, rfl, ifF (ni (by decide)) ?_⟩
      refine ⟨_, rfl, rfl, _, rfl, ifF (ni (by decide)) ?_⟩
      refine ⟨_, rfl, rfl, _, rfl, ifF (ni (by decide)) ?_⟩
      refine ⟨_, rfl, rfl, _, rfl, ifF (ni (by decide)) ?_⟩
      exact ⟨_, rfl, rfl, _, rfl, ifT rfl ⟨_, rfl, _, rfl, nl, _, _, _, rfl, rfl, hS, at_of (j := 0) rfl rfl, a, ld, lc, p, _, rfl, hp, go⟩⟩
    · cases hc
      refine ⟨_, rfl, rfl, _, rfl, ifF (ni (by decide)) ?_⟩
      refine ⟨_, rfl, rfl, _, rfl, ifF (ni (by decide)) ?_⟩
      refine ⟨_, rfl, rfl, _, rfl, ifF (ni (by decide)) ?_⟩
      refine ⟨_, rfl, rfl, _, rfl, ifF (ni (by decide)) ?_⟩
      refine ⟨_, rfl, rfl, _, rfl, ifF (ni (by decide)) ?_⟩
      refine ⟨_, rfl, rfl, _, rfl, ifF (ni (by decide)) ?_⟩
      refine ⟨_, rfl, rfl, _, rfl, ifF (ni (by decide)) ?_⟩
      exact ⟨_, rfl, rfl, _, rfl, ifT rfl ⟨_, rfl, a, ld, lc, p, rfl, hp, go⟩⟩
    · exact absurd hj (by decide)
    · exact absurd hj (by decide)
    · exact absurd hj (by decide)
    · exact absurd hj (by decide)
    · exact absurd hj (by decide)
    · exact absurd hj (by decide)
    · exact absurd hj (by decide)
    · exact absurd hj (by decide)
    · exact absurd hj (by decide)
    · exact absurd hj (by decide)
    · cases hc
      refine ⟨_, rfl, rfl, _, rfl, ifF (ni (by decide)) ?_⟩
      refine ⟨_, rfl, rfl, _, rfl, ifF (ni (by decide)) ?_⟩
      refine ⟨_, rfl, rfl, _, rfl, ifF (ni (by decide)) ?_⟩
      refine ⟨_, rfl, rfl, _, rfl, ifF (ni (by decide)) ?_⟩
      refine ⟨_, rfl, rfl, _, rfl, ifF (ni (by decide)) ?_⟩
      refine ⟨_, rfl, rfl, _, rfl, ifF (ni (by decide)) ?_⟩
      refine ⟨_, rfl, rfl, _, rfl, ifF (ni (by decide)) ?_⟩
      refine ⟨_, rfl, rfl, _, rfl, ifF (ni (by decide)) ?_⟩
      exact ⟨_, rfl, _, rfl, nl, _, _, _, rfl, rfl, hS, at_of (j := 0) rfl rfl, a, ld, lc, p, _, rfl, hp, go⟩
    · exact absurd hj (by decide)
    · exact absurd hj (by decide)
    · exact absurd hj (by decide)
    · exact absurd hj (by decide)
    · cases hc
abbrev s_execute_report : Stmt := topS 92
theorem sc_execute_report : FnScope ["plan", "call", "numbers"] ["plan", "call", "numbers"] (defScope s_execute_report) := ⟨rfl, rfl, rfl, by decide +kernel, rfl, by decide +kernel, by decide +kernel⟩
theorem ok_execute_report {f : Addr} {fd : FuncData} (T : Txt K mg C) (F : Fun K "execute_report" "execute_report" s_execute_report f fd)
    (D1 : Def P w K mg base 1 "list_deliveries" ["plan"] (sp_list_deliveries C))
    (D2 : Def P w K mg base 1 "list_commitments" ["plan"] (sp_list_commitments C))
    (D3 : Def P w K mg base 5 "is_covered" ["plan", "k"] (sp_is_covered C))
    (D4 : Def P w K mg base 2 "surplus" ["plan", "k", "day"] (sp_surplus C))
    (D5 : Def P w K mg base 4 "available" ["plan", "k", "day"] (sp_available C))
    (D6 : Def P w K mg base 4 "earliest_day" ["plan", "k", "amount"] (sp_earliest_day C))
    (D7 : Def P w K mg base 6 "tolerance" ["plan"] (sp_tolerance C))
    (D8 : Def P w K mg base 5 "safe_commitments" ["plan", "k"] (sp_safe_commitments C))
    (D9 : Def P w K mg base 7 "best_cancellation" ["plan", "k"] (sp_best_cancellation C))
    (D10 : Def P w K mg base 4 "first_shortage" ["plan", "k"] (sp_first_shortage C))
    (D11 : Def P w K mg base 1 "summary" ["plan"] (sp_summary C))
    : FnOk P w K mg base CX0 8 f fd ["plan", "call", "numbers"] (sp_run K C fun j => (9 ≤ j ∧ j ≤ 16) ∨ j = 18 ∨ 22 ≤ j) := by
  refine F.ok sc_execute_report (fun vs H Q E h => ?_) (fun cdv A outer s H vs Q E hr h => ?_)
  · obtain ⟨a, ld, lc, nl, p, j, xs, c, rfl, _⟩ := h
    rfl
  · obtain ⟨_, _, G_list_deliveries, m_list_deliveries, k_list_deliveries, b_list_deliveries⟩ := D1.ex
    obtain ⟨_, _, G_list_commitments, m_list_commitments, k_list_commitments, b_list_commitments⟩ := D2.ex
    obtain ⟨_, _, G_is_covered, m_is_covered, k_is_covered, b_is_covered⟩ := D3.ex
    obtain ⟨_, _, G_surplus, m_surplus, k_surplus, b_surplus⟩ := D4.ex
    obtain ⟨_, _, G_available, m_available, k_available, b_available⟩ := D5.ex
    obtain ⟨_, _, G_earliest_day, m_earliest_day, k_earliest_day, b_earliest_day⟩ := D6.ex
    obtain ⟨_, _, G_tolerance, m_tolerance, k_tolerance, b_tolerance⟩ := D7.ex
    obtain ⟨_, _, G_safe_commitments, m_safe_commitments, k_safe_commitments, b_safe_commitments⟩ := D8.ex
    obtain ⟨_, _, G_best_cancellation, m_best_cancellation, k_best_cancellation, b_best_cancellation⟩ := D9.ex
    obtain ⟨_, _, G_first_shortage, m_first_shortage, k_first_shortage, b_first_shortage⟩ := D10.ex
    obtain ⟨_, _, G_summary, m_summary, k_summary, b_summary⟩ := D11.ex
    have hr_list_deliveries : Room 1 _ := hr.mono (by decide)
    have hr_list_commitments : Room 1 _ := hr.mono (by decide)
    have hr_is_covered : Room 5 _ := hr.mono (by decide)
    have hr_surplus : Room 2 _ := hr.mono (by decide)
    have hr_available : Room 4 _ := hr.mono (by decide)
    have hr_earliest_day : Room 4 _ := hr.mono (by decide)
    have hr_tolerance : Room 6 _ := hr.mono (by decide)
    have hr_safe_commitments : Room 5 _ := hr.mono (by decide)
    have hr_best_cancellation : Room 7 _ := hr.mono (by decide)
    have hr_first_shortage : Room 4 _ := hr.mono (by decide)
    have hr_summary : Room 1 _ := hr.mono (by decide)
    refine ⟨_, (pss_cons (ps_if (pt_cmpR op_eq (pv 1) (pe_cst rfl T.c_LIST_DELIVERIES) (nomark _))
    (pss_one (ps_ret (pe_call G_list_deliveries hr_list_deliveries rfl m_list_deliveries k_list_deliveries b_list_deliveries .nil pass0 (pa_cons (pv 0) pa_nil))))
    pss_nil)
  (pss_cons (ps_if (pt_cmpR op_eq (pv 1) (pe_cst rfl T.c_LIST_COMMITMENTS) (nomark _))
    (pss_one (ps_ret (pe_call G_list_commitments hr_list_commitments rfl m_list_commitments k_list_commitments b_list_commitments .nil pass0 (pa_cons (pv 0) pa_nil))))
    pss_nil)
  (pss_cons (ps_if (pt_cmpR op_eq (pv 1) (pe_cst rfl T.c_IS_COVERED) (nomark _))
    (pss_one (ps_ret (pe_call G_is_covered hr_is_covered rfl m_is_covered k_is_covered b_is_covered .nil pass0 (pa_cons (pv 0) (pa_cons (pe_ix ix_list (pv 2) pe_int (fun _ _ => rfl)) pa_nil)))))
    pss_nil)
  (pss_cons (ps_if (pt_cmpR op_eq (pv 1) (pe_cst rfl T.c_SURPLUS) (nomark _))
    (pss_one (ps_ret (pe_call G_surplus hr_surplus rfl m_surplus k_surplus b_surplus .nil pass0 (pa_cons (pv 0) (pa_cons (pe_ix ix_list (pv 2) pe_int (fun _ _ => rfl)) (pa_cons (pe_ix ix_list (pv 2) pe_int (fun _ _ => rfl)) pa_nil))))))
    pss_nil)
  (pss_cons (ps_if (pt_cmpR op_eq (pv 1) (pe_cst rfl T.c_AVAILABLE) (nomark _))
    (pss_one (ps_ret (pe_call G_available hr_available rfl m_available k_available b_available .nil pass0 (pa_cons (pv 0) (pa_cons (pe_ix ix_list (pv 2) pe_int (fun _ _ => rfl)) (pa_cons (pe_ix ix_list (pv 2) pe_int (fun _ _ => rfl)) pa_nil))))))
    pss_nil)
  (pss_cons (ps_if (pt_cmpR op_eq (pv 1) (pe_cst rfl T.c_EARLIEST_DAY) (nomark _))
    (pss_one (ps_ret (pe_call G_earliest_day hr_earliest_day rfl m_earliest_day k_earliest_day b_earliest_day .nil pass0 (pa_cons (pv 0) (pa_cons (pe_ix ix_list (pv 2) pe_int (fun _ _ => rfl)) (pa_cons (pe_ix ix_list (pv 2) pe_int (fun _ _ => rfl)) pa_nil))))))
    pss_nil)
  (pss_cons (ps_if (pt_cmpR op_eq (pv 1) (pe_cst rfl T.c_TOLERANCE) (nomark _))
    (pss_one (ps_ret (pe_call G_tolerance hr_tolerance rfl m_tolerance k_tolerance b_tolerance .nil pass0 (pa_cons (pv 0) pa_nil))))
    pss_nil)
  (pss_cons (ps_if (pt_cmpR op_eq (pv 1) (pe_cst rfl T.c_SAFE_COMMITMENTS) (nomark _))
    (pss_one (ps_ret (pe_call G_safe_commitments hr_safe_commitments rfl m_safe_commitments k_safe_commitments b_safe_commitments .nil pass0 (pa_cons (pv 0) (pa_cons (pe_ix ix_list (pv 2) pe_int (fun _ _ => rfl)) pa_nil)))))
    pss_nil)
  (pss_cons (ps_if (pt_cmpR op_eq (pv 1) (pe_cst rfl T.c_BEST_CANCELLATION) (nomark _))
    (pss_one (ps_ret (pe_call G_best_cancellation hr_best_cancellation rfl m_best_cancellation k_best_cancellation b_best_cancellation .nil pass0 (pa_cons (pv 0) (pa_cons (pe_ix ix_list (pv 2) pe_int (fun _ _ => rfl)) pa_nil)))))
    pss_nil)
  (pss_cons (ps_if (pt_cmpR op_eq (pv 1) (pe_cst rfl T.c_FIRST_SHORTAGE) (nomark _))
    (pss_one (ps_ret (pe_call G_first_shortage hr_first_shortage rfl m_first_shortage k_first_shortage b_first_shortage .nil pass0 (pa_cons (pv 0) (pa_cons (pe_ix ix_list (pv 2) pe_int (fun _ _ => rfl)) pa_nil)))))
    pss_nil)
  (pss_one (ps_ret (pe_call G_summary hr_summary rfl m_summary k_summary b_summary .nil pass0 (pa_cons (pv 0) pa_nil)))))))))))))), ?_⟩
    obtain ⟨a, ld, lc, nl, p, j, xs, c, rfl, hp, hS, hc, hj, go⟩ := h
    unfold callOf at hc
    split at hc
    · exact absurd hj (by decide)
    · exact absurd hj (by decide)
    · exact absurd hj (by decide)
    · exact absurd hj (by decide)
    · exact absurd hj (by decide)
    · exact absurd hj (by decide)
    · exact absurd hj (by decide)
    · exact absurd hj (by decide)
    · exact absurd hj (by decide)
    · cases hc
      exact ⟨_, rfl, rfl, _, rfl, ifT rfl ⟨_, rfl, a, ld, lc, p, rfl, hp, go⟩⟩
    · cases hc
      refine ⟨_, rfl, rfl, _, rfl, ifF (ni (by decide)) ?_⟩
      exact ⟨_, rfl, rfl, _, rfl, ifT rfl ⟨_, rfl, a, ld, lc, p, rfl, hp, go⟩⟩
    · cases hc
      refine ⟨_, rfl, rfl, _, rfl, ifF (ni (by decide)) ?_⟩
      refine ⟨_, rfl, rfl, _, rfl, ifF (ni (by decide)) ?_⟩
      exact ⟨_, rfl, rfl, _, rfl, ifT rfl ⟨_, rfl, _, rfl, nl, _, _, _, rfl, rfl, hS, at_of (j := 0) rfl rfl, a, ld, lc, p, _, rfl, hp, go⟩⟩
    · cases hc
      refine ⟨_, rfl, rfl, _, rfl, ifF (ni (by decide)) ?_⟩
      refine ⟨_, rfl, rfl, _, rfl, ifF (ni (by decide)) ?_⟩
      refine ⟨_, rfl, rfl, _, rfl, ifF (ni (by decide)) ?_⟩
      exact ⟨_, rfl, rfl, _, rfl, ifT rfl ⟨_, rfl, _, rfl, nl, _, _, _, rfl, rfl, hS, at_of (j := 0) rfl rfl, _, rfl, nl, _, _, _, rfl, rfl, hS, at_of (j := 1) rfl rfl, a, ld, lc, p, _, _, rfl, hp, go⟩⟩
    · cases hc
      refine ⟨_, rfl, rfl, _, rfl, ifF (ni (by decide)) ?_⟩
      refine ⟨_, rfl, rfl, _, rfl, ifF (ni (by decide)) ?_⟩
      refine ⟨_, rfl, rfl, _, rfl, ifF (ni (by decide)) ?_⟩
      refine ⟨_, rfl, rfl, _, rfl, ifF (ni (by decide)) ?_⟩
      exact ⟨_, rfl, rfl, _, rfl, ifT rfl ⟨_, rfl, _, rfl, nl, _, _, _, rfl, rfl, hS, at_of (j := 0) rfl rfl, _, rfl, nl, _, _, _, rfl, rfl, hS, at_of (j := 1) rfl rfl, a, ld, lc, p, _, _, rfl, hp, go⟩⟩
    · cases hc
      refine ⟨_, rfl, rfl, _, rfl, ifF (ni (by decide)) ?_⟩
      refine ⟨_, rfl, rfl, _, rfl, ifF (ni (by decide)) ?_⟩
      refine ⟨_, rfl, rfl, _, rfl, ifF (ni (by decide)) ?_⟩
      refine ⟨_, rfl, rfl, _, rfl, ifF (ni (by decide)) ?_⟩
      refine ⟨_, rfl, rfl, _, rfl, ifF (ni (by decide)) ?_⟩
      exact ⟨_, rfl, rfl, _, rfl, ifT rfl ⟨_, rfl, _, rfl, nl, _, _, _, rfl, rfl, hS, at_of (j := 0) rfl rfl, _, rfl, nl, _, _, _, rfl, rfl, hS, at_of (j := 1) rfl rfl, a, ld, lc, p, _, _, rfl, hp, go⟩⟩
    · cases hc
      refine ⟨_, rfl, rfl, _, rfl, ifF (ni (by decide)) ?_⟩
      refine ⟨_, rfl, rfl, _, rfl, ifF (ni (by decide)) ?_⟩
      refine ⟨_, rfl, rfl, _, rfl, ifF (ni (by decide)) ?_⟩
      refine ⟨_, rfl, rfl, _, rfl, ifF (ni (by decide)) ?_⟩
      refine ⟨_, rfl, rfl, _, rfl, ifF (ni (by decide)) ?_⟩
      refine ⟨_, rfl, rfl, _, rfl, ifF (ni (by decide)) ?_⟩
      exact ⟨_, rfl, rfl, _, rfl, ifT rfl ⟨_, rfl, a, ld, lc, p, rfl, hp, go⟩⟩
    · cases hc
      refine ⟨_, rfl, rfl, _, rfl, ifF (ni (by decide)) ?_⟩
      refine ⟨_, rfl, rfl, _, rfl, ifF (ni (by decide)) ?_⟩
      refine ⟨_, rfl, rfl, _, rfl, ifF (ni (by decide)) ?_⟩
      refine ⟨_, rfl, rfl, _, rfl, ifF (ni (by decide)) ?_⟩
      refine ⟨_, rfl, rfl, _, rfl, ifF (ni (by decide)) ?_⟩
      refine ⟨_, rfl, rfl, _, rfl, ifF (ni (by decide)) ?_⟩
      refine ⟨_, rfl, rfl, _, rfl, ifF (ni (by decide)) ?_⟩
      exact ⟨_, rfl, rfl, _, rfl, ifT rfl ⟨_, rfl, _, rfl, nl, _, _, _, rfl, rfl, hS, at_of (j := 0) rfl rfl, a, ld, lc, p, _, rfl, hp, go⟩⟩
    · exact absurd hj (by decide)
    · cases hc
      refine ⟨_, rfl, rfl, _, rfl, ifF (ni (by decide)) ?_⟩
      refine ⟨_, rfl, rfl, _, rfl, ifF (ni (by decide)) ?_⟩
      refine ⟨_, rfl, rfl, _, rfl, ifF (ni (by decide)) ?_⟩
      refine ⟨_, rfl, rfl, _, rfl, ifF (ni (by decide)) ?_⟩
      refine ⟨_, rfl, rfl, _, rfl, ifF (ni (by decide)) ?_⟩
      refine ⟨_, rfl, rfl, _, rfl, ifF (ni (by decide)) ?_⟩
      refine ⟨_, rfl, rfl, _, rfl, ifF (ni (by decide)) ?_⟩
      refine ⟨_, rfl, rfl, _, rfl, ifF (ni (by decide)) ?_⟩
      exact ⟨_, rfl, rfl, _, rfl, ifT rfl ⟨_, rfl, _, rfl, nl, _, _, _, rfl, rfl, hS, at_of (j := 0) rfl rfl, a, ld, lc, p, _, rfl, hp, go⟩⟩
    · exact absurd hj (by decide)
    · exact absurd hj (by decide)
    · exact absurd hj (by decide)
    · cases hc
      refine ⟨_, rfl, rfl, _, rfl, ifF (ni (by decide)) ?_⟩
      refine ⟨_, rfl, rfl, _, rfl, ifF (ni (by decide)) ?_⟩
      refine ⟨_, rfl, rfl, _, rfl, ifF (ni (by decide)) ?_⟩
      refine ⟨_, rfl, rfl, _, rfl, ifF (ni (by decide)) ?_⟩
      refine ⟨_, rfl, rfl, _, rfl, ifF (ni (by decide)) ?_⟩
      refine ⟨_, rfl, rfl, _, rfl, ifF (ni (by decide)) ?_⟩
      refine ⟨_, rfl, rfl, _, rfl, ifF (ni (by decide)) ?_⟩
      refine ⟨_, rfl, rfl, _, rfl, ifF (ni (by decide)) ?_⟩
      refine ⟨_, rfl, rfl, _, rfl, ifF (ni (by decide)) ?_⟩
      exact ⟨_, rfl, rfl, _, rfl, ifT rfl ⟨_, rfl, _, rfl, nl, _, _, _, rfl, rfl, hS, at_of (j := 0) rfl rfl, a, ld, lc, p, _, rfl, hp, go⟩⟩
    · cases hc
      refine ⟨_, rfl, rfl, _, rfl, ifF (ni (by decide)) ?_⟩
      refine ⟨_, rfl, rfl, _, rfl, ifF (ni (by decide)) ?_⟩
      refine ⟨_, rfl, rfl, _, rfl, ifF (ni (by decide)) ?_⟩
      refine ⟨_, rfl, rfl, _, rfl, ifF (ni (by decide)) ?_⟩
      refine ⟨_, rfl, rfl, _, rfl, ifF (ni (by decide)) ?_⟩
      refine ⟨_, rfl, rfl, _, rfl, ifF (ni (by decide)) ?_⟩
      refine ⟨_, rfl, rfl, _, rfl, ifF (ni (by decide)) ?_⟩
      refine ⟨_, rfl, rfl, _, rfl, ifF (ni (by decide)) ?_⟩
      refine ⟨_, rfl, rfl, _, rfl, ifF (ni (by decide)) ?_⟩
      refine ⟨_, rfl, rfl, _, rfl, ifF (ni (by decide)) ?_⟩
      exact ⟨_, rfl, a, ld, lc, p, rfl, hp, go⟩
    · cases hc
abbrev s_execute_supposition : Stmt := topS 93
theorem sc_execute_supposition : FnScope ["plan", "call", "numbers"] ["plan", "call", "numbers"] (defScope s_execute_supposition) := ⟨rfl, rfl, rfl, by decide +kernel, rfl, by decide +kernel, by decide +kernel⟩
theorem ok_execute_supposition {f : Addr} {fd : FuncData} (T : Txt K mg C) (F : Fun K "execute_supposition" "execute_supposition" s_execute_supposition f fd)
    (D1 : Def P w K mg base 5 "dependent_commitments" ["plan", "delivery"] (sp_dependent_commitments C))
    (D2 : Def P w K mg base 6 "is_covered_with_delivery" ["plan", "amount", "latest", "k"] (sp_is_covered_with_delivery C))
    (D3 : Def P w K mg base 7 "tolerance_with_commitment" ["plan", "amount", "due"] (sp_tolerance_with_commitment C))
    : FnOk P w K mg base CX0 8 f fd ["plan", "call", "numbers"] (sp_run K C fun j => j = 17 ∨ j = 20 ∨ j = 21) := by
  refine F.ok sc_execute_supposition (fun vs H Q E h => ?_) (fun cdv A outer s H vs Q E hr h => ?_)
  · obtain ⟨a, ld, lc, nl, p, j, xs, c, rfl, _⟩ := h
    rfl
  · obtain ⟨_, _, G_dependent_commitments, m_dependent_commitments, k_dependent_commitments, b_dependent_commitments⟩ := D1.ex
    obtain ⟨_, _, G_is_covered_with_delivery, m_is_covered_with_delivery, k_is_covered_with_delivery, b_is_covered_with_delivery⟩ := D2.ex
    obtain ⟨_, _, G_tolerance_with_commitment, m_tolerance_with_commitment, k_tolerance_with_commitment, b_tolerance_with_commitment⟩ := D3.ex
    have hr_dependent_commitments : Room 5 _ := hr.mono (by decide)
    have hr_is_covered_with_delivery : Room 6 _ := hr.mono (by decide)
    have hr_tolerance_with_commitment : Room 7 _ := hr.mono (by decide)
    refine ⟨_, (pss_cons (ps_if (pt_cmpR op_eq (pv 1) (pe_cst rfl T.c_DEPENDENT_COMMITMENTS) (nomark _))
    (pss_one (ps_ret (pe_call G_dependent_commitments hr_dependent_commitments rfl m_dependent_commitments k_dependent_commitments b_dependent_commitments .nil pass0 (pa_cons (pv 0) (pa_cons (pe_ix ix_list (pv 2) pe_int (fun _ _ => rfl)) pa_nil)))))
    pss_nil)
  (pss_cons (ps_if (pt_cmpR op_eq (pv 1) (pe_cst rfl T.c_IS_COVERED_WITH_DELIVERY) (nomark _))
    (pss_one (ps_ret (pe_call G_is_covered_with_delivery hr_is_covered_with_delivery rfl m_is_covered_with_delivery k_is_covered_with_delivery b_is_covered_with_delivery .nil pass0 (pa_cons (pv 0) (pa_cons (pe_ix ix_list (pv 2) pe_int (fun _ _ => rfl)) (pa_cons (pe_ix ix_list (pv 2) pe_int (fun _ _ => rfl)) (pa_cons (pe_ix ix_list (pv 2) pe_int (fun _ _ => rfl)) pa_nil)))))))
    pss_nil)
  (pss_one (ps_ret (pe_call G_tolerance_with_commitment hr_tolerance_with_commitment rfl m_tolerance_with_commitment k_tolerance_with_commitment b_tolerance_with_commitment .nil pass0 (pa_cons (pv 0) (pa_cons (pe_ix ix_list (pv 2) pe_int (fun _ _ => rfl)) (pa_cons (pe_ix ix_list (pv 2) pe_int (fun _ _ => rfl)) pa_nil)))))))), ?_⟩
    obtain ⟨a, ld, lc, nl, p, j, xs, c, rfl, hp, hS, hc, hj, go⟩ := h
    unfold callOf at hc
    split at hc
    · exact absurd hj (by decide)
    · exact absurd hj (by decide)
    · exact absurd hj (by decide)
    · exact absurd hj (by decide)
    · exact absurd hj (by decide)
    · exact absurd hj (by decide)
    · exact absurd hj (by decide)
    · exact absurd hj (by decide)
    · exact absurd hj (by decide)
    · exact absurd hj (by decide)
    · exact absurd hj (by decide)
    · exact absurd hj (by decide)
    · exact absurd hj (by decide)
    · exact absurd hj (by decide)
    · exact absurd hj (by decide)
    · exact absurd hj (by decide)
    · exact absurd hj (by decide)
    · cases hc
      exact ⟨_, rfl, rfl, _, rfl, ifT rfl ⟨_, rfl, _, rfl, nl, _, _, _, rfl, rfl, hS, at_of (j := 0) rfl rfl, a, ld, lc, p, _, rfl, hp, go⟩⟩
    · exact absurd hj (by decide)
    · exact absurd hj (by decide)
    · cases hc
      refine ⟨_, rfl, rfl, _, rfl, ifF (ni (by decide)) ?_⟩
      exact ⟨_, rfl, rfl, _, rfl, ifT rfl ⟨_, rfl, _, rfl, nl, _, _, _, rfl, rfl, hS, at_of (j := 0) rfl rfl, _, rfl, nl, _, _, _, rfl, rfl, hS, at_of (j := 1) rfl rfl, _, rfl, nl, _, _, _, rfl, rfl, hS, at_of (j := 2) rfl rfl, a, ld, lc, p, _, _, _, rfl, hp, go⟩⟩
    · cases hc
      refine ⟨_, rfl, rfl, _, rfl, ifF (ni (by decide)) ?_⟩
      refine ⟨_, rfl, rfl, _, rfl, ifF (ni (by decide)) ?_⟩
      exact ⟨_, rfl, _, rfl, nl, _, _, _, rfl, rfl, hS, at_of (j := 0) rfl rfl, _, rfl, nl, _, _, _, rfl, rfl, hS, at_of (j := 1) rfl rfl, a, ld, lc, p, _, _, rfl, hp, go⟩
    · exact absurd hj (by decide)
    · exact absurd hj (by decide)
    · cases hc
abbrev s_create : Stmt := topS 90
theorem sc_create : FnScope ["planner", "stock"] ["planner", "stock"] (defScope s_create) := ⟨rfl, rfl, rfl, by decide +kernel, rfl, by decide +kernel, by decide +kernel⟩
def sp_create (C : Cl) : Sp := fun vs H Q _ => ∃ (x : Addr) (own : List Addr) (s : Km549.State) (st : Nat), vs = [.ref x, .int (st : Nat)] ∧ StAt C H x own s ∧ Went C H x own s (.create st) Q
theorem StAt.obj {C : Cl} {H : Hp} {x : Addr} {own : List Addr} : ∀ {s : Km549.State}, StAt C H x own s → x ∈ own ∧ ∃ dx v, H x = some (.ins C.R dx [("plan", v)])
  | none, ⟨e, dx, h⟩ => ⟨by rw [e]; simp, dx, _, h⟩
  | some p, ⟨dx, a, ld, lc, e, h, _⟩ => ⟨by rw [e]; simp, dx, _, h⟩
theorem Went.same {C : Cl} {H H' : Hp} {x l : Addr} {own : List Addr} {s : Km549.State} {c : Km549.Call} {Q : VK} {r : Km549.Result} {xs : List V} (go : Went C H x own s c Q) (st : StAt C H x own s) (e : Km549.step s c = (s, r)) (sm : Same H H') (n : H' l = none) (ex : xs = ans r) : Q (.ref l) (upd H' l (.lst xs)) := by
  subst ex
  refine go _ l own ?_ (fun b m => .inl m) (fun b o z _ => Same.new n b o (sm b o z)) (sm.free n) (by rw [e]; exact upd_same)
  rw [e]
  exact st.same (sm.trans (Same.new n))
theorem step_create (s : Km549.State) (st : Nat) : Km549.step s (.create st) = if 999 < st then (s, Km549.error (-22)) else (some (fresh st), Km549.number 0) := rfl
theorem ok_create {f : Addr} {fd : FuncData} (T : Txt K mg C) (F : Fun K "create" "create" s_create f fd) (D1 : Mkr P w K mg base 1 C.P ["self", "stock"] (sp_Plan C)) : FnOk P w K mg base CX0 3 f fd ["planner", "stock"] (sp_create C) := by
  refine F.ok sc_create (fun vs H Q E h => ?_) (fun cdv A outer s H vs Q E hr h => ?_)
  · obtain ⟨x, own, s, st, rfl, _⟩ := h
    rfl
  · obtain ⟨_, _, M_Plan, G_Plan, b_Plan⟩ := D1.ex
    have hr_Plan := hr
    refine ⟨_, (pss_cons (ps_if (pt_cmpR op_gt (pv 1) (pe_cst rfl T.c_MOST_STOCK) (nomark _))
    (pss_one (ps_ret (pe_lst (pa_cons (pe_cst rfl T.c_OUT_OF_RANGE) pa_nil))))
    pss_nil)
  (pss_cons (ps_fld (pv 0) (pe_make M_Plan G_Plan hr_Plan rfl T.g_Plan b_Plan .nil pass0 (pa_cons (pv 1) pa_nil)) rfl)
  (pss_one (ps_ret (pe_lst (pa_cons pe_int pa_nil)))))), ?_⟩
    obtain ⟨x, own, s, st, rfl, hst, go⟩ := h
    obtain ⟨xo, dx, v, hx⟩ := hst.obj
    refine ⟨_, rfl, _, _, rfl, rfl, _, rfl, ?_⟩
    refine ifD (fun c => ⟨one_le, fun l hl => go.same hst ((step_create s st).trans (if_pos (by omega))) (Same.refl _) hl rfl⟩) fun c => ?_
    have e := (step_create s st).trans (if_neg (by omega))
    refine ⟨_, rfl, ?_⟩
    intro x2 d2 nx nd ne
    refine ⟨x2, d2, st, rfl, upd_same, fun H1 ld lc o1 n1 n2 n3 e1 e2 kp => ⟨rfl, ?_⟩⟩
    have s1 : Same H H1 := Same.made nx nd kp
    refine ⟨_, rfl, x, C.R, dx, _, rfl, s1 _ _ hx, T.clR, T.naR _ (by simp), (by show 1 < 1000; decide), one_le, fun l hl => ?_⟩
    rw [put_here] at hl ⊢
    have fr : ∀ {b : Addr}, H1 b = none → H b = none := s1.free
    have nld : H ld = none := by
      cases z : H ld with
      | none => rfl
      | some u =>
        have q := n1
        rw [upd_ne (ne_of_none z nx), upd_ne (ne_of_none z nd), z] at q
        cases q
    have nlc : H lc = none := by
      cases z : H lc with
      | none => rfl
      | some u =>
        have q := n2
        rw [upd_ne (ne_of_none z nx), upd_ne (ne_of_none z nd), z] at q
        cases q
    have nx2 : x2 ≠ x := fun q => by rw [q, hx] at nx; cases nx
    have nldx : ld ≠ x := fun q => by rw [q, hx] at nld; cases nld
    have nlcx : lc ≠ x := fun q => by rw [q, hx] at nlc; cases nlc
    have h2 : IsPlan C (upd H1 x (.ins C.R dx [("plan", .ref x2)])) x2 ld lc (fresh st) :=
      ⟨⟨d2, [], [], ⟨(upd_ne nx2).trans o1, (upd_ne nldx).trans e1, (upd_ne nlcx).trans e2, n3, fun q m => absurd m (by simp), fun q m => absurd m (by simp), rfl, rfl⟩⟩, ⟨Nat.zero_le _, Nat.zero_le _, Nat.zero_le _⟩⟩
    have s2 := Same.new (o := .lst [.int 0]) hl
    have nl : H l = none := by
      cases z : H l with
      | none => rfl
      | some u =>
        have q := hl
        by_cases lx : l = x
        · rw [lx, upd_same] at q
          cases q
        · rw [upd_ne lx, s1 _ _ z] at q
          cases q
    refine go _ l [x, x2, ld, lc] ?_ ?_ ?_ nl (by rw [e]; exact upd_same)
    · rw [e]
      exact ⟨dx, x2, ld, lc, rfl, s2 _ _ upd_same, h2.same s2⟩
    · intro b m
      simp only [List.mem_cons, List.not_mem_nil, or_false] at m
      rcases m with rfl | rfl | rfl | rfl
      · exact .inl xo
      · exact .inr nx
      · exact .inr nld
      · exact .inr nlc
    · intro b o z m
      have bx : b ≠ x := fun q => m (by rw [q]; exact xo)
      exact s2 b o ((upd_ne bx).trans (s1 b o z))
abbrev s_execute : Stmt := topS 94
theorem sc_execute : FnScope ["planner", "call", "numbers"] ["planner", "call", "numbers"] (defScope s_execute) := ⟨rfl, rfl, rfl, by decide +kernel, rfl, by decide +kernel, by decide +kernel⟩
theorem step_none {c : Km549.Call} (h : ∀ st, c ≠ .create st) : Km549.step none c = (none, Km549.error (-11)) := by
  cases c with
  | create st => exact absurd rfl (h st)
  | _ => rfl
theorem callOf_create {j : Nat} {xs : List Nat} {c : Km549.Call} (h : callOf j xs = some c) (hj : j ≠ 0) : ∀ st, c ≠ .create st := by
  intro st e
  subst e
  unfold callOf at h
  split at h
  · exact hj rfl
  all_goals cases h
theorem callOf_zero : ∀ {xs : List Nat} {c : Km549.Call}, callOf 0 xs = some c → ∃ st, xs = [st] ∧ c = .create st
  | [a], c, h => ⟨a, rfl, (Option.some.inj (show some (Km549.Call.create a) = some c from h)).symm⟩
  | [], c, h => nomatch (show (none : Option Km549.Call) = some c from h)
  | a :: b :: r, c, h => nomatch (show (none : Option Km549.Call) = some c from h)
theorem callOf_le {j : Nat} {xs : List Nat} {c : Km549.Call} (h : callOf j xs = some c) : j ≤ 23 := by
  unfold callOf at h
  split at h
  all_goals first
    | decide
    | cases h
theorem ok_execute {f : Addr} {fd : FuncData} (T : Txt K mg C) (F : Fun K "execute" "execute" s_execute f fd)
    (D1 : Def P w K mg base 3 "create" ["planner", "stock"] (sp_create C)) (D2 : Def P w K mg base 8 "execute_change" ["plan", "call", "numbers"] (sp_run K C fun j => (1 ≤ j ∧ j ≤ 8) ∨ j = 19))
    (D3 : Def P w K mg base 8 "execute_supposition" ["plan", "call", "numbers"] (sp_run K C fun j => j = 17 ∨ j = 20 ∨ j = 21)) (D4 : Def P w K mg base 8 "execute_report" ["plan", "call", "numbers"] (sp_run K C fun j => (9 ≤ j ∧ j ≤ 16) ∨ j = 18 ∨ 22 ≤ j)) :
    FnOk P w K mg base CX0 9 f fd ["planner", "call", "numbers"] (sp_execute K C) := by
  refine F.ok sc_execute (fun vs H Q E h => ?_) (fun cdv A outer s H vs Q E hr h => ?_)
  · obtain ⟨x, nl, own, s, j, xs, c, rfl, _⟩ := h
    rfl
  · obtain ⟨_, _, G_create, m_create, k_create, b_create⟩ := D1.ex
    obtain ⟨_, _, G_execute_change, m_execute_change, k_execute_change, b_execute_change⟩ := D2.ex
    obtain ⟨_, _, G_execute_supposition, m_execute_supposition, k_execute_supposition, b_execute_supposition⟩ := D3.ex
    obtain ⟨_, _, G_execute_report, m_execute_report, k_execute_report, b_execute_report⟩ := D4.ex
    have hr_create : Room 3 _ := hr.mono (by decide)
    have hr_execute_change := hr
    have hr_execute_supposition := hr
    have hr_execute_report := hr
    refine ⟨_, (pss_cons (ps_if (pt_cmpR op_eq (pv 1) (pe_cst rfl T.c_CREATE) (nomark _))
    (pss_one (ps_ret (pe_call G_create hr_create rfl m_create k_create b_create .nil pass0 (pa_cons (pv 0) (pa_cons (pe_ix ix_list (pv 2) pe_int (fun _ _ => rfl)) pa_nil)))))
    pss_nil)
  (pss_cons (ps_if (pt_cmpR op_isN (pe_fld (pv 0) rfl) pe_non (nomark _))
    (pss_one (ps_ret (pe_lst (pa_cons (pe_cst rfl T.c_NO_INSTANCE) pa_nil))))
    pss_nil)
  (pss_cons (ps_if (PW.pt (pw_or (pt_cmpR op_le (pv 1) (pe_cst rfl T.c_NEXT_DAY) (nomark _)) (pw_or1 (pt_cmpR op_eq (pv 1) (pe_cst rfl T.c_CANCEL_BEST) (nomark _)))))
    (pss_one (ps_ret (pe_call G_execute_change hr_execute_change rfl m_execute_change k_execute_change b_execute_change .nil pass0 (pa_cons (pe_fld (pv 0) rfl) (pa_cons (pv 1) (pa_cons (pv 2) pa_nil))))))
    pss_nil)
  (pss_cons (ps_if (pt_cmpR op_in_seq (pv 1) (pe_tup (pa_cons (pe_cst rfl T.c_DEPENDENT_COMMITMENTS) (pa_cons (pe_cst rfl T.c_IS_COVERED_WITH_DELIVERY) (pa_cons (pe_cst rfl T.c_TOLERANCE_WITH_COMMITMENT) pa_nil)))) (by rfl))
    (pss_one (ps_ret (pe_call G_execute_supposition hr_execute_supposition rfl m_execute_supposition k_execute_supposition b_execute_supposition .nil pass0 (pa_cons (pe_fld (pv 0) rfl) (pa_cons (pv 1) (pa_cons (pv 2) pa_nil))))))
    pss_nil)
  (pss_one (ps_ret (pe_call G_execute_report hr_execute_report rfl m_execute_report k_execute_report b_execute_report .nil pass0 (pa_cons (pe_fld (pv 0) rfl) (pa_cons (pv 1) (pa_cons (pv 2) pa_nil)))))))))), ?_⟩
    obtain ⟨x, nl, own, s, j, xs, c, rfl, hst, hS, hc, go⟩ := h
    refine ⟨_, rfl, rfl, _, rfl, ?_⟩
    refine ifD (fun c0 => ?_) fun c0 => ?_
    · have e0 : j = 0 := by have := V.int.inj c0; omega
      subst e0
      obtain ⟨st, rfl, rfl⟩ := callOf_zero hc
      exact ⟨_, rfl, _, rfl, nl, _, _, _, rfl, rfl, hS, at_of (j := 0) rfl rfl, x, own, s, st, rfl, hst, go⟩
    have j0 : j ≠ 0 := fun e => c0 (by rw [e]; rfl)
    have j23 := callOf_le hc
    cases s with
    | none =>
      obtain ⟨eo, dx, hx⟩ := id hst
      refine ⟨_, rfl, x, C.R, dx, _, _, rfl, hx, T.clR, T.naR _ (by simp), lk_here, rfl, _, rfl, ifT rfl ?_⟩
      exact ⟨one_le, fun l hl => go.same hst (step_none (callOf_create hc j0)) (Same.refl _) hl rfl⟩
    | some p =>
      obtain ⟨dx, a, ld, lc, eo, hx, hp⟩ := id hst
      subst eo
      have done := go.done hx hp
      refine ⟨_, rfl, x, C.R, dx, _, _, rfl, hx, T.clR, T.naR _ (by simp), lk_here, rfl, _, rfl, ifF (fun z => by cases z) ?_⟩
      refine ⟨_, rfl, _, _, rfl, rfl, _, rfl, ?_⟩
      refine ifD (fun c1 => iteT ?_) fun c1 => ?_
      · exact ⟨_, rfl, x, C.R, dx, _, _, rfl, hx, T.clR, T.naR _ (by simp), lk_here, _, rfl, _, rfl, a, ld, lc, nl, p, j, xs, c, rfl, hp, hS, hc, .inl (by omega), done⟩
      refine ⟨_, rfl, rfl, _, rfl, ?_⟩
      refine ifD (fun c2 => ?_) fun c2 => ?_
      · exact ⟨_, rfl, x, C.R, dx, _, _, rfl, hx, T.clR, T.naR _ (by simp), lk_here, _, rfl, _, rfl, a, ld, lc, nl, p, j, xs, c, rfl, hp, hS, hc, .inr (by have := V.int.inj c2; omega), done⟩
      have j19 : j ≠ 19 := fun e => c2 (by rw [e]; rfl)
      refine ⟨_, rfl, (by show 3 ≤ sizeLine; decide), fun t nt => ?_⟩
      have s1 := Same.new (o := .tup [.int 17, .int 20, .int 21]) nt
      refine ⟨t, _, rfl, .inr (SqT.of upd_same), rfl, rfl, _, rfl, ?_⟩
      have ein : inV (.int (j : Nat)) [V.int 17, V.int 20, V.int 21] = [17, 20, 21].contains j := in_nats j [17, 20, 21]
      show if inV (.int (j : Nat)) [V.int 17, V.int 20, V.int 21] = true then _ else _
      rw [ein]
      have hp1 := hp.same s1
      have hS1 := s1.seq hS
      have d1 := done.mono s1
      have hx1 := s1 _ _ hx
      by_cases c3 : j = 17 ∨ j = 20 ∨ j = 21
      · rw [if_pos (by rw [List.contains_iff_mem]; simp only [List.mem_cons, List.not_mem_nil, or_false]; exact c3)]
        exact ⟨_, rfl, x, C.R, dx, _, _, rfl, hx1, T.clR, T.naR _ (by simp), lk_here, _, rfl, _, rfl, a, ld, lc, nl, p, j, xs, c, rfl, hp1, hS1, hc, c3, d1⟩
      · rw [if_neg (by rw [List.contains_iff_mem]; simp only [List.mem_cons, List.not_mem_nil, or_false]; exact c3)]
        exact ⟨_, rfl, x, C.R, dx, _, _, rfl, hx1, T.clR, T.naR _ (by simp), lk_here, _, rfl, _, rfl, a, ld, lc, nl, p, j, xs, c, rfl, hp1, hS1, hc, by omega, d1⟩
end
end Cs

namespace Cs
open PySem PySem.Spec PyProof.Rows L2
/-- a class of the text behind the top -/
structure TMk (K : PySem.W.Frag) (mg : Str → Option Value) (x qual : Str) (st : Stmt) (ps fs : List Str) : Prop where
  ex : ∃ C, mg x = some (.ref C) ∧ Cls K C ∧ (∀ f ∈ fs, NoAttr K C f) ∧ ∃ f fd, Mk K C f ∧ Fun K "__init__" qual st f fd ∧ Binds K fd ps []
section
variable {K : PySem.W.Frag} {h : Heap} {mg : Str → Option Value} {x qual : Str} {st : Stmt} {ps fs : List Str} {f C : Addr} {oc kV dc pm cd ct : Value} {od an : Option Addr} {sl : Array (Option Value)}
theorem tdef_mk (X : K.In h) (G : h.Ns mainGlobals mg) (a : PySem.W.nsIn K mainGlobals x = some (some (.ref f))) (l : K.lookup f = some ⟨oc, od, .func (PySem.W.fnOf x x (defArgs st) (defBody st) (defScope st) .none kV dc pm an cd ct), sl⟩) (c : PySem.W.codeIn K cd x = true) (k : PySem.W.keepIn K (.ref f) = true)
    (b : ∀ (kV doc pm : Value) (an : Option Addr) (cdv ct : Value) (us : List Value), us.length = ps.length → bindArgs (PySem.W.fnOf x x (defArgs st) (defBody st) (defScope st) .none kV doc pm an cdv ct) ⟨us, []⟩ = pure (ps.zip us)) : TDef K mg x st ps :=
  ⟨f, _, fun_mk l c k, PySem.W.mg_of X G a, (fun_mk l c k).binds b⟩
theorem tmk_mk (X : K.In h) (G : h.Ns mainGlobals mg) (g : PySem.W.nsIn K mainGlobals x = some (some (.ref C))) (a : PySem.W.findIn K (.ref C) "__init__" = some (some (.ref f))) (i : PySem.W.isFn K (.ref f) = true) (l : K.lookup f = some ⟨oc, od, .func (PySem.W.fnOf "__init__" qual (defArgs st) (defBody st) (defScope st) .none kV dc pm an cd ct), sl⟩)
    (c : PySem.W.codeIn K cd qual = true) (k : PySem.W.keepIn K (.ref f) = true) (mk : PySem.W.makesIn K C = true) (kc : PySem.W.keepIn K (.ref C) = true) (pg : PySem.W.plainGet K C Str.empty = true) (hd : PySem.W.hasDictIn K C = true) (po : PySem.W.plainOver K C = true)
    (sa : PySem.W.findIn K (.ref C) "__setattr__" = some (some (.builtin "object.__setattr__")))
    (b : ∀ (kV doc pm : Value) (an : Option Addr) (cdv ct : Value) (us : List Value), us.length = ps.length → bindArgs (PySem.W.fnOf "__init__" qual (defArgs st) (defBody st) (defScope st) .none kV doc pm an cdv ct) ⟨us, []⟩ = pure (ps.zip us)) (na : ∀ f ∈ fs, NoAttr K C f) : TMk K mg x qual st ps fs :=
  ⟨C, PySem.W.mg_of X G g, ⟨pg, hd, po, sa⟩, na, f, _, ⟨mk, a, i, kc⟩, fun_mk l c k, (fun_mk l c k).binds b⟩
/-- the def that is asked -/
structure TRun (K : PySem.W.Frag) (mg : Str → Option Value) (x : Str) (st : Stmt) (ps : List Str) : Prop where
  ex : ∃ f fd, Fun K x x st f fd ∧ mg x = some (.ref f) ∧ ∀ (s : Shared) (us : List Value), us.length = ps.length → BindsTo s fd ⟨us, []⟩ (ps.zip us)
theorem trun_mk (X : K.In h) (G : h.Ns mainGlobals mg) (a : PySem.W.nsIn K mainGlobals x = some (some (.ref f))) (l : K.lookup f = some ⟨oc, od, .func (PySem.W.fnOf x x (defArgs st) (defBody st) (defScope st) .none kV dc pm an cd ct), sl⟩) (c : PySem.W.codeIn K cd x = true) (k : PySem.W.keepIn K (.ref f) = true)
    (b : ∀ (kV doc pm : Value) (an : Option Addr) (cdv ct : Value) (us : List Value), us.length = ps.length → bindArgs (PySem.W.fnOf x x (defArgs st) (defBody st) (defScope st) .none kV doc pm an cdv ct) ⟨us, []⟩ = pure (ps.zip us)) : TRun K mg x st ps :=
  ⟨f, _, fun_mk l c k, PySem.W.mg_of X G a, fun s us hu => .of_eq (b kV dc pm an cd ct us hu)⟩
theorem na_nil : ∀ f ∈ ([] : List Str), NoAttr K C f := fun _ m => absurd m (by simp)
theorem na_cons {g : Str} {r : List Str} (h : PySem.W.findIn K (.ref C) g = some none) (t : ∀ f ∈ r, NoAttr K C f) : ∀ f ∈ g :: r, NoAttr K C f := fun f m => by
  rcases List.mem_cons.mp m with e | m
  · rw [e]; exact h
  · exact t f m
theorem cst_mk {n : Int} {t : Tok} (X : K.In h) (G : h.Ns mainGlobals mg) (a : PySem.W.nsIn K mainGlobals x = some (some (.int n t))) : Cst mg x (.int n) := ⟨_, PySem.W.mg_of X G a, t, rfl⟩
theorem tup_mk {N : Addr} {its : Array Value} {n : Nat} {xs : List Int} (X : K.In h) (G : h.Ns mainGlobals mg) (a : PySem.W.nsIn K mainGlobals x = some (some (.ref N))) (l : K.lookup N = some ⟨.type "tuple", od, .seq its n, sl⟩) (v : Vals (xs.map V.int) its.toList) (hz : xs.length ≤ 1000 := by decide) : ∃ N, mg x = some (.ref N) ∧ ∀ H : Hp, SqT K H N (xs.map V.int) :=
  ⟨N, PySem.W.mg_of X G a, fun H => .inr ⟨_, its, n, l, rfl, rfl, by
    have e : (xs.map V.int).length = its.toList.length := v.length
    rw [List.length_map] at e
    have e2 : its.toList.length = its.size := Array.length_toList
    exact Nat.le_of_lt (small1000 (by omega)), v⟩⟩
theorem no_mk (X : K.In h) (G : h.Ns mainGlobals mg) (a : PySem.W.nsIn K mainGlobals x = some none) : mg x = none := PySem.W.mg_none_of X G a
end
end Cs

namespace Cs
open PySem PySem.Spec PyProof.Rows L2
theorem finish {P : Program} {w : World} {K : PySem.W.Frag} {h : Heap} {mg : Str → Option Value} {fa : Addr} (X : K.In h) (G : h.Ns mainGlobals mg) (hfa : mg "answers" = some (.ref fa))
  (D_certain_supply : TDef K mg "certain_supply" s_certain_supply ["plan", "k", "day"])
  (D_due_by : TDef K mg "due_by" s_due_by ["plan", "day"])
  (D_surplus_by : TDef K mg "surplus_by" s_surplus_by ["plan", "k", "day"])
  (D_first_short_day : TDef K mg "first_short_day" s_first_short_day ["plan", "k"])
  (D_covered_for : TDef K mg "covered_for" s_covered_for ["plan", "k"])
  (D_available_for : TDef K mg "available_for" s_available_for ["plan", "k", "day"])
  (D_most_failures_covered : TDef K mg "most_failures_covered" s_most_failures_covered ["plan"])
  (D_safe_numbers : TDef K mg "safe_numbers" s_safe_numbers ["plan", "k"])
  (M_Delivery : TMk K mg "Delivery" "Delivery.__init__" s_Delivery___init__ ["self", "amount", "earliest", "latest"] ["amount", "earliest", "latest"])
  (M_Commitment : TMk K mg "Commitment" "Commitment.__init__" s_Commitment___init__ ["self", "amount", "due"] ["amount", "due"])
  (M_Plan : TMk K mg "Plan" "Plan.__init__" s_Plan___init__ ["self", "stock"] ["today", "stock", "deliveries", "commitments", "arrived", "failed", "fulfilled"])
  (D_supposed_plan : TDef K mg "supposed_plan" s_supposed_plan ["plan"])
  (D_sets_of_numbers : TDef K mg "sets_of_numbers" s_sets_of_numbers ["count"])
  (D_cancel_members : TDef K mg "cancel_members" s_cancel_members ["plan", "members"])
  (D_others_covered : TDef K mg "others_covered" s_others_covered ["plan", "members", "k"])
  (D_total_amount : TDef K mg "total_amount" s_total_amount ["plan", "members"])
  (D_best_members : TDef K mg "best_members" s_best_members ["plan", "k"])
  (D_amount_in_range : TDef K mg "amount_in_range" s_amount_in_range ["amount"])
  (D_day_ahead : TDef K mg "day_ahead" s_day_ahead ["plan", "day"])
  (D_add_delivery : TDef K mg "add_delivery" s_add_delivery ["plan", "amount", "earliest", "latest"])
  (D_add_commitment : TDef K mg "add_commitment" s_add_commitment ["plan", "amount", "due"])
  (D_add_covered_commitment : TDef K mg "add_covered_commitment" s_add_covered_commitment ["plan", "k", "amount", "due"])
  (D_cancel_commitment : TDef K mg "cancel_commitment" s_cancel_commitment ["plan", "commitment"])
  (D_delivery_arrived : TDef K mg "delivery_arrived" s_delivery_arrived ["plan", "delivery"])
  (D_delivery_failed : TDef K mg "delivery_failed" s_delivery_failed ["plan", "delivery"])
  (D_fulfill_commitment : TDef K mg "fulfill_commitment" s_fulfill_commitment ["plan", "commitment"])
  (D_next_day : TDef K mg "next_day" s_next_day ["plan"])
  (D_cancel_best : TDef K mg "cancel_best" s_cancel_best ["plan", "k"])
  (D_counted : TDef K mg "counted" s_counted ["numbers"])
  (D_list_deliveries : TDef K mg "list_deliveries" s_list_deliveries ["plan"])
  (D_list_commitments : TDef K mg "list_commitments" s_list_commitments ["plan"])
  (D_is_covered : TDef K mg "is_covered" s_is_covered ["plan", "k"])
  (D_surplus : TDef K mg "surplus" s_surplus ["plan", "k", "day"])
  (D_available : TDef K mg "available" s_available ["plan", "k", "day"])
  (D_earliest_day : TDef K mg "earliest_day" s_earliest_day ["plan", "k", "amount"])
  (D_tolerance : TDef K mg "tolerance" s_tolerance ["plan"])
  (D_safe_commitments : TDef K mg "safe_commitments" s_safe_commitments ["plan", "k"])
  (D_best_cancellation : TDef K mg "best_cancellation" s_best_cancellation ["plan", "k"])
  (D_first_shortage : TDef K mg "first_shortage" s_first_shortage ["plan", "k"])
  (D_summary : TDef K mg "summary" s_summary ["plan"])
  (D_dependent_commitments : TDef K mg "dependent_commitments" s_dependent_commitments ["plan", "delivery"])
  (D_is_covered_with_delivery : TDef K mg "is_covered_with_delivery" s_is_covered_with_delivery ["plan", "amount", "latest", "k"])
  (D_tolerance_with_commitment : TDef K mg "tolerance_with_commitment" s_tolerance_with_commitment ["plan", "amount", "due"])
  (M_Planner : TMk K mg "Planner" "Planner.__init__" s_Planner___init__ ["self"] ["plan"])
  (D_create : TDef K mg "create" s_create ["planner", "stock"])
  (D_execute_change : TDef K mg "execute_change" s_execute_change ["plan", "call", "numbers"])
  (D_execute_report : TDef K mg "execute_report" s_execute_report ["plan", "call", "numbers"])
  (D_execute_supposition : TDef K mg "execute_supposition" s_execute_supposition ["plan", "call", "numbers"])
  (D_execute : TDef K mg "execute" s_execute ["planner", "call", "numbers"])
  (D_answers : TRun K mg "answers" s_answers ["calls"])
  (c_LAST_DAY : Cst mg "LAST_DAY" (.int (30)))
  (c_MOST_STOCK : Cst mg "MOST_STOCK" (.int (999)))
  (c_MOST_AMOUNT : Cst mg "MOST_AMOUNT" (.int (99)))
  (c_MOST_FAILURES : Cst mg "MOST_FAILURES" (.int (6)))
  (c_MOST_DELIVERIES : Cst mg "MOST_DELIVERIES" (.int (6)))
  (c_MOST_COMMITMENTS : Cst mg "MOST_COMMITMENTS" (.int (7)))
  (c_NO_INSTANCE : Cst mg "NO_INSTANCE" (.int (-11)))
  (c_NOT_FOUND : Cst mg "NOT_FOUND" (.int (-2)))
  (c_OUT_OF_RANGE : Cst mg "OUT_OF_RANGE" (.int (-22)))
  (c_TOO_MANY : Cst mg "TOO_MANY" (.int (-28)))
  (c_NOT_COVERED : Cst mg "NOT_COVERED" (.int (-30)))
  (c_STILL_DUE : Cst mg "STILL_DUE" (.int (-30)))
  (c_NOT_POSSIBLE : Cst mg "NOT_POSSIBLE" (.int (-33)))
  (c_STOCK_TOO_SMALL : Cst mg "STOCK_TOO_SMALL" (.int (-19)))
  (c_AT_LAST_DAY : Cst mg "AT_LAST_DAY" (.int (-75)))
  (c_CREATE : Cst mg "CREATE" (.int (0)))
  (c_ADD_DELIVERY : Cst mg "ADD_DELIVERY" (.int (1)))
  (c_ADD_COMMITMENT : Cst mg "ADD_COMMITMENT" (.int (2)))
  (c_ADD_COVERED_COMMITMENT : Cst mg "ADD_COVERED_COMMITMENT" (.int (3)))
  (c_CANCEL_COMMITMENT : Cst mg "CANCEL_COMMITMENT" (.int (4)))
  (c_DELIVERY_ARRIVED : Cst mg "DELIVERY_ARRIVED" (.int (5)))
  (c_DELIVERY_FAILED : Cst mg "DELIVERY_FAILED" (.int (6)))
  (c_FULFILL_COMMITMENT : Cst mg "FULFILL_COMMITMENT" (.int (7)))
  (c_NEXT_DAY : Cst mg "NEXT_DAY" (.int (8)))
  (c_LIST_DELIVERIES : Cst mg "LIST_DELIVERIES" (.int (9)))
  (c_LIST_COMMITMENTS : Cst mg "LIST_COMMITMENTS" (.int (10)))
  (c_IS_COVERED : Cst mg "IS_COVERED" (.int (11)))
  (c_SURPLUS : Cst mg "SURPLUS" (.int (12)))
  (c_AVAILABLE : Cst mg "AVAILABLE" (.int (13)))
  (c_EARLIEST_DAY : Cst mg "EARLIEST_DAY" (.int (14)))
  (c_TOLERANCE : Cst mg "TOLERANCE" (.int (15)))
  (c_SAFE_COMMITMENTS : Cst mg "SAFE_COMMITMENTS" (.int (16)))
  (c_DEPENDENT_COMMITMENTS : Cst mg "DEPENDENT_COMMITMENTS" (.int (17)))
  (c_BEST_CANCELLATION : Cst mg "BEST_CANCELLATION" (.int (18)))
  (c_CANCEL_BEST : Cst mg "CANCEL_BEST" (.int (19)))
  (c_IS_COVERED_WITH_DELIVERY : Cst mg "IS_COVERED_WITH_DELIVERY" (.int (20)))
  (c_TOLERANCE_WITH_COMMITMENT : Cst mg "TOLERANCE_WITH_COMMITMENT" (.int (21)))
  (c_FIRST_SHORTAGE : Cst mg "FIRST_SHORTAGE" (.int (22)))
  (t_PARAMETER_COUNTS : ∃ N, mg "PARAMETER_COUNTS" = some (.ref N) ∧ ∀ H : Hp, SqT K H N ((natI [1, 3, 2, 3, 1, 1, 1, 1, 0, 0, 0, 1, 2, 2, 2, 0, 1, 1, 1, 1, 3, 2, 1, 0]).map V.int))
  (n_abs : mg "abs" = none)
  (n_any : mg "any" = none)
  (n_len : mg "len" = none)
  (n_list : mg "list" = none)
  (n_max : mg "max" = none)
  (n_min : mg "min" = none)
  (n_range : mg "range" = none)
  (n_reversed : mg "reversed" = none)
  (n_sorted : mg "sorted" = none)
  (n_sum : mg "sum" = none) :
  ∃ fd : FuncData, (∀ (s : Shared) (us : List Value), us.length = (["calls"] : List Str).length → BindsTo s fd ⟨us, []⟩ ((["calls"] : List Str).zip us)) ∧ ∀ base : Heap, K.In base → base.Ns mainGlobals mg → FnOk P w K mg base CX0 10 fa fd ["calls"] (sp_answers K) := by
  obtain ⟨cD, gD, clD, naD, iD, idD, mkD, FD, bD⟩ := M_Delivery.ex
  obtain ⟨cC, gC, clC, naC, iC, idC, mkC, FC, bC⟩ := M_Commitment.ex
  obtain ⟨cP, gP, clP, naP, iP, idP, mkP, FP, bP⟩ := M_Plan.ex
  obtain ⟨cR, gR, clR, naR, iR, idR, mkR, FR, bR⟩ := M_Planner.ex
  obtain ⟨cN, gN, tN⟩ := t_PARAMETER_COUNTS
  have T : Txt K mg ⟨cD, cC, cP, cR, cN⟩ := {
    clD := clD
    naD := naD
    clC := clC
    naC := naC
    clP := clP
    naP := naP
    clR := clR
    naR := naR
    g_Delivery := gD
    g_Commitment := gC
    g_Plan := gP
    g_Planner := gR
    c_LAST_DAY := c_LAST_DAY
    c_MOST_STOCK := c_MOST_STOCK
    c_MOST_AMOUNT := c_MOST_AMOUNT
    c_MOST_FAILURES := c_MOST_FAILURES
    c_MOST_DELIVERIES := c_MOST_DELIVERIES
    c_MOST_COMMITMENTS := c_MOST_COMMITMENTS
    c_NO_INSTANCE := c_NO_INSTANCE
    c_NOT_FOUND := c_NOT_FOUND
    c_OUT_OF_RANGE := c_OUT_OF_RANGE
    c_TOO_MANY := c_TOO_MANY
    c_NOT_COVERED := c_NOT_COVERED
    c_STILL_DUE := c_STILL_DUE
    c_NOT_POSSIBLE := c_NOT_POSSIBLE
    c_STOCK_TOO_SMALL := c_STOCK_TOO_SMALL
    c_AT_LAST_DAY := c_AT_LAST_DAY
    c_CREATE := c_CREATE
    c_ADD_DELIVERY := c_ADD_DELIVERY
    c_ADD_COMMITMENT := c_ADD_COMMITMENT
    c_ADD_COVERED_COMMITMENT := c_ADD_COVERED_COMMITMENT
    c_CANCEL_COMMITMENT := c_CANCEL_COMMITMENT
    c_DELIVERY_ARRIVED := c_DELIVERY_ARRIVED
    c_DELIVERY_FAILED := c_DELIVERY_FAILED
    c_FULFILL_COMMITMENT := c_FULFILL_COMMITMENT
    c_NEXT_DAY := c_NEXT_DAY
    c_LIST_DELIVERIES := c_LIST_DELIVERIES
    c_LIST_COMMITMENTS := c_LIST_COMMITMENTS
    c_IS_COVERED := c_IS_COVERED
    c_SURPLUS := c_SURPLUS
    c_AVAILABLE := c_AVAILABLE
    c_EARLIEST_DAY := c_EARLIEST_DAY
    c_TOLERANCE := c_TOLERANCE
    c_SAFE_COMMITMENTS := c_SAFE_COMMITMENTS
    c_DEPENDENT_COMMITMENTS := c_DEPENDENT_COMMITMENTS
    c_BEST_CANCELLATION := c_BEST_CANCELLATION
    c_CANCEL_BEST := c_CANCEL_BEST
    c_IS_COVERED_WITH_DELIVERY := c_IS_COVERED_WITH_DELIVERY
    c_TOLERANCE_WITH_COMMITMENT := c_TOLERANCE_WITH_COMMITMENT
    c_FIRST_SHORTAGE := c_FIRST_SHORTAGE
    n_abs := n_abs
    n_any := n_any
    n_len := n_len
    n_list := n_list
    n_max := n_max
    n_min := n_min
    n_range := n_range
    n_reversed := n_reversed
    n_sorted := n_sorted
    n_sum := n_sum
    c_PARAMETER_COUNTS := ⟨_, gN, rfl⟩
    t_counts := tN }
  obtain ⟨f, fd, F, m, b⟩ := D_answers.ex
  have e := hfa.symm.trans m
  cases e
  refine ⟨fd, b, fun base _ _ => ?_⟩
  have C_Delivery : Mkr P w K mg base 1 cD ["self", "amount", "earliest", "latest"] (sp_Delivery ⟨cD, cC, cP, cR, cN⟩) := ⟨iD, idD, mkD, ok_Delivery T FD, bD⟩
  have C_Commitment : Mkr P w K mg base 1 cC ["self", "amount", "due"] (sp_Commitment ⟨cD, cC, cP, cR, cN⟩) := ⟨iC, idC, mkC, ok_Commitment T FC, bC⟩
  have C_Plan : Mkr P w K mg base 1 cP ["self", "stock"] (sp_Plan ⟨cD, cC, cP, cR, cN⟩) := ⟨iP, idP, mkP, ok_Plan T FP, bP⟩
  have C_Planner : Mkr P w K mg base 1 cR ["self"] (sp_Planner ⟨cD, cC, cP, cR, cN⟩) := ⟨iR, idR, mkR, ok_Planner T FR, bR⟩
  have d_due_by : Def P w K mg base 1 "due_by" ["plan", "day"] (sp_due_by ⟨cD, cC, cP, cR, cN⟩) := D_due_by.mk' fun f fd F => ok_due_by T F
  have d_certain_supply : Def P w K mg base 1 "certain_supply" ["plan", "k", "day"] (sp_certain_supply ⟨cD, cC, cP, cR, cN⟩) := D_certain_supply.mk' fun f fd F => ok_certain_supply T F
  have d_surplus_by : Def P w K mg base 2 "surplus_by" ["plan", "k", "day"] (sp_surplus_by ⟨cD, cC, cP, cR, cN⟩) := D_surplus_by.mk' fun f fd F => ok_surplus_by T F d_certain_supply d_due_by
  have d_first_short_day : Def P w K mg base 3 "first_short_day" ["plan", "k"] (sp_first_short_day ⟨cD, cC, cP, cR, cN⟩) := D_first_short_day.mk' fun f fd F => ok_first_short_day T F d_surplus_by
  have d_covered_for : Def P w K mg base 4 "covered_for" ["plan", "k"] (sp_covered_for ⟨cD, cC, cP, cR, cN⟩) := D_covered_for.mk' fun f fd F => ok_covered_for T F d_first_short_day
  have d_available_for : Def P w K mg base 3 "available_for" ["plan", "k", "day"] (sp_available_for ⟨cD, cC, cP, cR, cN⟩) := D_available_for.mk' fun f fd F => ok_available_for T F d_surplus_by
  have d_most_failures_covered : Def P w K mg base 5 "most_failures_covered" ["plan"] (sp_most_failures_covered ⟨cD, cC, cP, cR, cN⟩) := D_most_failures_covered.mk' fun f fd F => ok_most_failures_covered T F d_covered_for
  have d_safe_numbers : Def P w K mg base 4 "safe_numbers" ["plan", "k"] (sp_safe_numbers ⟨cD, cC, cP, cR, cN⟩) := D_safe_numbers.mk' fun f fd F => ok_safe_numbers T F d_first_short_day
  have d_supposed_plan : Def P w K mg base 3 "supposed_plan" ["plan"] (sp_supposed_plan ⟨cD, cC, cP, cR, cN⟩) := D_supposed_plan.mk' fun f fd F => ok_supposed_plan T F C_Plan
  have d_sets_of_numbers : Def P w K mg base 1 "sets_of_numbers" ["count"] (sp_sets_of_numbers ⟨cD, cC, cP, cR, cN⟩) := D_sets_of_numbers.mk' fun f fd F => ok_sets_of_numbers T F
  have d_cancel_members : Def P w K mg base 1 "cancel_members" ["plan", "members"] (sp_cancel_members ⟨cD, cC, cP, cR, cN⟩) := D_cancel_members.mk' fun f fd F => ok_cancel_members T F
  have d_others_covered : Def P w K mg base 5 "others_covered" ["plan", "members", "k"] (sp_others_covered ⟨cD, cC, cP, cR, cN⟩) := D_others_covered.mk' fun f fd F => ok_others_covered T F d_supposed_plan d_cancel_members d_covered_for
  have d_total_amount : Def P w K mg base 1 "total_amount" ["plan", "members"] (sp_total_amount ⟨cD, cC, cP, cR, cN⟩) := D_total_amount.mk' fun f fd F => ok_total_amount T F
  have d_best_members : Def P w K mg base 6 "best_members" ["plan", "k"] (sp_best_members ⟨cD, cC, cP, cR, cN⟩) := D_best_members.mk' fun f fd F => ok_best_members T F d_sets_of_numbers d_others_covered d_total_amount
  have d_amount_in_range : Def P w K mg base 1 "amount_in_range" ["amount"] sp_amount_in_range := D_amount_in_range.mk' fun f fd F => ok_amount_in_range T F
  have d_day_ahead : Def P w K mg base 1 "day_ahead" ["plan", "day"] (sp_day_ahead ⟨cD, cC, cP, cR, cN⟩) := D_day_ahead.mk' fun f fd F => ok_day_ahead T F
  have d_add_delivery : Def P w K mg base 3 "add_delivery" ["plan", "amount", "earliest", "latest"] (sp_add_delivery ⟨cD, cC, cP, cR, cN⟩) := D_add_delivery.mk' fun f fd F => ok_add_delivery T F d_amount_in_range d_day_ahead C_Delivery
  have d_add_commitment : Def P w K mg base 3 "add_commitment" ["plan", "amount", "due"] (sp_add_commitment ⟨cD, cC, cP, cR, cN⟩) := D_add_commitment.mk' fun f fd F => ok_add_commitment T F d_amount_in_range d_day_ahead C_Commitment
  have d_add_covered_commitment : Def P w K mg base 5 "add_covered_commitment" ["plan", "k", "amount", "due"] (sp_add_covered_commitment ⟨cD, cC, cP, cR, cN⟩) := D_add_covered_commitment.mk' fun f fd F => ok_add_covered_commitment T F d_supposed_plan d_add_commitment d_covered_for
  have d_cancel_commitment : Def P w K mg base 1 "cancel_commitment" ["plan", "commitment"] (sp_cancel_commitment ⟨cD, cC, cP, cR, cN⟩) := D_cancel_commitment.mk' fun f fd F => ok_cancel_commitment T F
  have d_delivery_arrived : Def P w K mg base 1 "delivery_arrived" ["plan", "delivery"] (sp_delivery_arrived ⟨cD, cC, cP, cR, cN⟩) := D_delivery_arrived.mk' fun f fd F => ok_delivery_arrived T F
  have d_delivery_failed : Def P w K mg base 1 "delivery_failed" ["plan", "delivery"] (sp_delivery_failed ⟨cD, cC, cP, cR, cN⟩) := D_delivery_failed.mk' fun f fd F => ok_delivery_failed T F
  have d_fulfill_commitment : Def P w K mg base 1 "fulfill_commitment" ["plan", "commitment"] (sp_fulfill_commitment ⟨cD, cC, cP, cR, cN⟩) := D_fulfill_commitment.mk' fun f fd F => ok_fulfill_commitment T F
  have d_next_day : Def P w K mg base 1 "next_day" ["plan"] (sp_next_day ⟨cD, cC, cP, cR, cN⟩) := D_next_day.mk' fun f fd F => ok_next_day T F
  have d_cancel_best : Def P w K mg base 7 "cancel_best" ["plan", "k"] (sp_cancel_best ⟨cD, cC, cP, cR, cN⟩) := D_cancel_best.mk' fun f fd F => ok_cancel_best T F d_best_members d_cancel_members
  have d_counted : Def P w K mg base 1 "counted" ["numbers"] (sp_counted ⟨cD, cC, cP, cR, cN⟩) := D_counted.mk' fun f fd F => ok_counted T F
  have d_list_deliveries : Def P w K mg base 1 "list_deliveries" ["plan"] (sp_list_deliveries ⟨cD, cC, cP, cR, cN⟩) := D_list_deliveries.mk' fun f fd F => ok_list_deliveries T F
  have d_list_commitments : Def P w K mg base 1 "list_commitments" ["plan"] (sp_list_commitments ⟨cD, cC, cP, cR, cN⟩) := D_list_commitments.mk' fun f fd F => ok_list_commitments T F
  have d_is_covered : Def P w K mg base 5 "is_covered" ["plan", "k"] (sp_is_covered ⟨cD, cC, cP, cR, cN⟩) := D_is_covered.mk' fun f fd F => ok_is_covered T F d_covered_for
  have d_surplus : Def P w K mg base 2 "surplus" ["plan", "k", "day"] (sp_surplus ⟨cD, cC, cP, cR, cN⟩) := D_surplus.mk' fun f fd F => ok_surplus T F d_day_ahead d_certain_supply d_due_by
  have d_available : Def P w K mg base 4 "available" ["plan", "k", "day"] (sp_available ⟨cD, cC, cP, cR, cN⟩) := D_available.mk' fun f fd F => ok_available T F d_day_ahead d_available_for
  have d_earliest_day : Def P w K mg base 4 "earliest_day" ["plan", "k", "amount"] (sp_earliest_day ⟨cD, cC, cP, cR, cN⟩) := D_earliest_day.mk' fun f fd F => ok_earliest_day T F d_available_for
  have d_tolerance : Def P w K mg base 6 "tolerance" ["plan"] (sp_tolerance ⟨cD, cC, cP, cR, cN⟩) := D_tolerance.mk' fun f fd F => ok_tolerance T F d_most_failures_covered
  have d_safe_commitments : Def P w K mg base 5 "safe_commitments" ["plan", "k"] (sp_safe_commitments ⟨cD, cC, cP, cR, cN⟩) := D_safe_commitments.mk' fun f fd F => ok_safe_commitments T F d_safe_numbers d_counted
  have d_best_cancellation : Def P w K mg base 7 "best_cancellation" ["plan", "k"] (sp_best_cancellation ⟨cD, cC, cP, cR, cN⟩) := D_best_cancellation.mk' fun f fd F => ok_best_cancellation T F d_best_members d_counted
  have d_first_shortage : Def P w K mg base 4 "first_shortage" ["plan", "k"] (sp_first_shortage ⟨cD, cC, cP, cR, cN⟩) := D_first_shortage.mk' fun f fd F => ok_first_shortage T F d_first_short_day d_surplus_by
  have d_summary : Def P w K mg base 1 "summary" ["plan"] (sp_summary ⟨cD, cC, cP, cR, cN⟩) := D_summary.mk' fun f fd F => ok_summary T F
  have d_dependent_commitments : Def P w K mg base 5 "dependent_commitments" ["plan", "delivery"] (sp_dependent_commitments ⟨cD, cC, cP, cR, cN⟩) := D_dependent_commitments.mk' fun f fd F => ok_dependent_commitments T F d_supposed_plan d_safe_numbers d_counted
  have d_is_covered_with_delivery : Def P w K mg base 6 "is_covered_with_delivery" ["plan", "amount", "latest", "k"] (sp_is_covered_with_delivery ⟨cD, cC, cP, cR, cN⟩) := D_is_covered_with_delivery.mk' fun f fd F => ok_is_covered_with_delivery T F d_supposed_plan d_add_delivery d_is_covered
  have d_tolerance_with_commitment : Def P w K mg base 7 "tolerance_with_commitment" ["plan", "amount", "due"] (sp_tolerance_with_commitment ⟨cD, cC, cP, cR, cN⟩) := D_tolerance_with_commitment.mk' fun f fd F => ok_tolerance_with_commitment T F d_supposed_plan d_add_commitment d_tolerance
  have d_create : Def P w K mg base 3 "create" ["planner", "stock"] (sp_create ⟨cD, cC, cP, cR, cN⟩) := D_create.mk' fun f fd F => ok_create T F C_Plan
  have d_execute_change : Def P w K mg base 8 "execute_change" ["plan", "call", "numbers"] (sp_run K ⟨cD, cC, cP, cR, cN⟩ fun j => (1 ≤ j ∧ j ≤ 8) ∨ j = 19) := D_execute_change.mk' fun f fd F => ok_execute_change T F d_add_delivery d_add_commitment d_add_covered_commitment d_cancel_commitment d_delivery_arrived d_delivery_failed d_fulfill_commitment d_next_day d_cancel_best
  have d_execute_report : Def P w K mg base 8 "execute_report" ["plan", "call", "numbers"] (sp_run K ⟨cD, cC, cP, cR, cN⟩ fun j => (9 ≤ j ∧ j ≤ 16) ∨ j = 18 ∨ 22 ≤ j) := D_execute_report.mk' fun f fd F => ok_execute_report T F d_list_deliveries d_list_commitments d_is_covered d_surplus d_available d_earliest_day d_tolerance d_safe_commitments d_best_cancellation d_first_shortage d_summary
  have d_execute_supposition : Def P w K mg base 8 "execute_supposition" ["plan", "call", "numbers"] (sp_run K ⟨cD, cC, cP, cR, cN⟩ fun j => j = 17 ∨ j = 20 ∨ j = 21) := D_execute_supposition.mk' fun f fd F => ok_execute_supposition T F d_dependent_commitments d_is_covered_with_delivery d_tolerance_with_commitment
  have d_execute : Def P w K mg base 9 "execute" ["planner", "call", "numbers"] (sp_execute K ⟨cD, cC, cP, cR, cN⟩) := D_execute.mk' fun f fd F => ok_execute T F d_create d_execute_change d_execute_supposition d_execute_report
  exact ok_answers T F 8 (by decide) C_Planner d_execute
end Cs

open PySem PySem.W PyProof.Rows
set_option maxRecDepth 100000 in
set_option maxHeartbeats 8000000 in
theorem PySem.Challenge.cw_coveredstock_s01_answers_holds : PySem.Challenge.rw_coveredstock_s01_answers.Holds := by
  w_on; k_headS; (case hw => exact ⟨[.list [.int 23]], by decide +kernel, by decide +kernel⟩)
  k_fillS
  refine L2.walk_specK (r := PySem.Challenge.rw_coveredstock_s01_answers) (k := 10) (CX := L2.CX0) (ps := ["calls"]) (sp := Cs.sp_answers) (by decide +kernel) rfl rfl ⟨rfl, by decide, by decide⟩ (fun w h Y => PySem.W.kIn_of Y) ?F ?S (fun _ _ _ _ z => z)
  case F =>
    intro w mg fa h Y KX G hmg
    refine' Cs.finish KX G hmg ?D_certain_supply ?D_due_by ?D_surplus_by ?D_first_short_day ?D_covered_for ?D_available_for ?D_most_failures_covered ?D_safe_numbers ?M_Delivery ?M_Commitment ?M_Plan ?D_supposed_plan ?D_sets_of_numbers ?D_cancel_members ?D_others_covered ?D_total_amount ?D_best_members ?D_amount_in_range ?D_day_ahead ?D_add_delivery ?D_add_commitment ?D_add_covered_commitment ?D_cancel_commitment ?D_delivery_arrived ?D_delivery_failed ?D_fulfill_commitment ?D_next_day ?D_cancel_best ?D_counted ?D_list_deliveries ?D_list_commitments ?D_is_covered ?D_surplus ?D_available ?D_earliest_day ?D_tolerance ?D_safe_commitments ?D_best_cancellation ?D_first_shortage ?D_summary ?D_dependent_commitments ?D_is_covered_with_delivery ?D_tolerance_with_commitment ?M_Planner ?D_create ?D_execute_change ?D_execute_report ?D_execute_supposition ?D_execute ?D_answers ?c_LAST_DAY ?c_MOST_STOCK ?c_MOST_AMOUNT ?c_MOST_FAILURES ?c_MOST_DELIVERIES ?c_MOST_COMMITMENTS ?c_NO_INSTANCE ?c_NOT_FOUND ?c_OUT_OF_RANGE ?c_TOO_MANY ?c_NOT_COVERED ?c_STILL_DUE ?c_NOT_POSSIBLE ?c_STOCK_TOO_SMALL ?c_AT_LAST_DAY ?c_CREATE ?c_ADD_DELIVERY ?c_ADD_COMMITMENT ?c_ADD_COVERED_COMMITMENT ?c_CANCEL_COMMITMENT ?c_DELIVERY_ARRIVED ?c_DELIVERY_FAILED ?c_FULFILL_COMMITMENT ?c_NEXT_DAY ?c_LIST_DELIVERIES ?c_LIST_COMMITMENTS ?c_IS_COVERED ?c_SURPLUS ?c_AVAILABLE ?c_EARLIEST_DAY ?c_TOLERANCE ?c_SAFE_COMMITMENTS ?c_DEPENDENT_COMMITMENTS ?c_BEST_CANCELLATION ?c_CANCEL_BEST ?c_IS_COVERED_WITH_DELIVERY ?c_TOLERANCE_WITH_COMMITMENT ?c_FIRST_SHORTAGE ?t_PARAMETER_COUNTS ?n_abs ?n_any ?n_len ?n_list ?n_max ?n_min ?n_range ?n_reversed ?n_sorted ?n_sum
    case D_certain_supply =>
      refine' Cs.tdef_mk KX G ?a ?l ?c ?k (fun _ _ _ _ _ _ us hl => match us, hl with | [_, _, _], _ => rfl)
      (case a => k_is); (case l => k_is); (case c => k_is); (case k => k_is)
    case D_due_by =>
      refine' Cs.tdef_mk KX G ?a ?l ?c ?k (fun _ _ _ _ _ _ us hl => match us, hl with | [_, _], _ => rfl)
      (case a => k_is); (case l => k_is); (case c => k_is); (case k => k_is)
    case D_surplus_by =>
      refine' Cs.tdef_mk KX G ?a ?l ?c ?k (fun _ _ _ _ _ _ us hl => match us, hl with | [_, _, _], _ => rfl)
      (case a => k_is); (case l => k_is); (case c => k_is); (case k => k_is)
    case D_first_short_day =>
      refine' Cs.tdef_mk KX G ?a ?l ?c ?k (fun _ _ _ _ _ _ us hl => match us, hl with | [_, _], _ => rfl)
      (case a => k_is); (case l => k_is); (case c => k_is); (case k => k_is)
    case D_covered_for =>
      refine' Cs.tdef_mk KX G ?a ?l ?c ?k (fun _ _ _ _ _ _ us hl => match us, hl with | [_, _], _ => rfl)
      (case a => k_is); (case l => k_is); (case c => k_is); (case k => k_is)
    case D_available_for =>
      refine' Cs.tdef_mk KX G ?a ?l ?c ?k (fun _ _ _ _ _ _ us hl => match us, hl with | [_, _, _], _ => rfl)
      (case a => k_is); (case l => k_is); (case c => k_is); (case k => k_is)
    case D_most_failures_covered =>
      refine' Cs.tdef_mk KX G ?a ?l ?c ?k (fun _ _ _ _ _ _ us hl => match us, hl with | [_], _ => rfl)
      (case a => k_is); (case l => k_is); (case c => k_is); (case k => k_is)
    case D_safe_numbers =>
      refine' Cs.tdef_mk KX G ?a ?l ?c ?k (fun _ _ _ _ _ _ us hl => match us, hl with | [_, _], _ => rfl)
      (case a => k_is); (case l => k_is); (case c => k_is); (case k => k_is)
    case M_Delivery =>
      refine' Cs.tmk_mk KX G ?g ?a ?i ?l ?c ?k ?mk ?kc ?pg ?hd ?po ?sa (fun _ _ _ _ _ _ us hl => match us, hl with | [_, _, _, _], _ => rfl) ?na
      (case g => k_is); (case a => k_is); (case i => k_is); (case l => k_is); (case c => k_is); (case k => k_is); (case mk => k_is); (case kc => k_is); (case pg => k_is); (case hd => k_is); (case po => k_is); (case sa => k_is)
      (case na => exact Cs.na_cons (by k_is) (Cs.na_cons (by k_is) (Cs.na_cons (by k_is) (Cs.na_nil))))
    case M_Commitment =>
      refine' Cs.tmk_mk KX G ?g ?a ?i ?l ?c ?k ?mk ?kc ?pg ?hd ?po ?sa (fun _ _ _ _ _ _ us hl => match us, hl with | [_, _, _], _ => rfl) ?na
      (case g => k_is); (case a => k_is); (case i => k_is); (case l => k_is); (case c => k_is); (case k => k_is); (case mk => k_is); (case kc => k_is); (case pg => k_is); (case hd => k_is); (case po => k_is); (case sa => k_is)
      (case na => exact Cs.na_cons (by k_is) (Cs.na_cons (by k_is) (Cs.na_nil)))
    case M_Plan =>
      refine' Cs.tmk_mk KX G ?g ?a ?i ?l ?c ?k ?mk ?kc ?pg ?hd ?po ?sa (fun _ _ _ _ _ _ us hl => match us, hl with | [_, _], _ => rfl) ?na
      (case g => k_is); (case a => k_is); (case i => k_is); (case l => k_is); (case c => k_is); (case k => k_is); (case mk => k_is); (case kc => k_is); (case pg => k_is); (case hd => k_is); (case po => k_is); (case sa => k_is)
      (case na => exact Cs.na_cons (by k_is) (Cs.na_cons (by k_is) (Cs.na_cons (by k_is) (Cs.na_cons (by k_is) (Cs.na_cons (by k_is) (Cs.na_cons (by k_is) (Cs.na_cons (by k_is) (Cs.na_nil))))))))
    case D_supposed_plan =>
      refine' Cs.tdef_mk KX G ?a ?l ?c ?k (fun _ _ _ _ _ _ us hl => match us, hl with | [_], _ => rfl)
      (case a => k_is); (case l => k_is); (case c => k_is); (case k => k_is)
    case D_sets_of_numbers =>
      refine' Cs.tdef_mk KX G ?a ?l ?c ?k (fun _ _ _ _ _ _ us hl => match us, hl with | [_], _ => rfl)
      (case a => k_is); (case l => k_is); (case c => k_is); (case k => k_is)
    case D_cancel_members =>
      refine' Cs.tdef_mk KX G ?a ?l ?c ?k (fun _ _ _ _ _ _ us hl => match us, hl with | [_, _], _ => rfl)
      (case a => k_is); (case l => k_is); (case c => k_is); (case k => k_is)
    case D_others_covered =>
      refine' Cs.tdef_mk KX G ?a ?l ?c ?k (fun _ _ _ _ _ _ us hl => match us, hl with | [_, _, _], _ => rfl)
      (case a => k_is); (case l => k_is); (case c => k_is); (case k => k_is)
    case D_total_amount =>
      refine' Cs.tdef_mk KX G ?a ?l ?c ?k (fun _ _ _ _ _ _ us hl => match us, hl with | [_, _], _ => rfl)
      (case a => k_is); (case l => k_is); (case c => k_is); (case k => k_is)
    case D_best_members =>
      refine' Cs.tdef_mk KX G ?a ?l ?c ?k (fun _ _ _ _ _ _ us hl => match us, hl with | [_, _], _ => rfl)
      (case a => k_is); (case l => k_is); (case c => k_is); (case k => k_is)
    case D_amount_in_range =>
      refine' Cs.tdef_mk KX G ?a ?l ?c ?k (fun _ _ _ _ _ _ us hl => match us, hl with | [_], _ => rfl)
      (case a => k_is); (case l => k_is); (case c => k_is); (case k => k_is)
    case D_day_ahead =>
      refine' Cs.tdef_mk KX G ?a ?l ?c ?k (fun _ _ _ _ _ _ us hl => match us, hl with | [_, _], _ => rfl)
      (case a => k_is); (case l => k_is); (case c => k_is); (case k => k_is)
    case D_add_delivery =>
      refine' Cs.tdef_mk KX G ?a ?l ?c ?k (fun _ _ _ _ _ _ us hl => match us, hl with | [_, _, _, _], _ => rfl)
      (case a => k_is); (case l => k_is); (case c => k_is); (case k => k_is)
    case D_add_commitment =>
      refine' Cs.tdef_mk KX G ?a ?l ?c ?k (fun _ _ _ _ _ _ us hl => match us, hl with | [_, _, _], _ => rfl)
      (case a => k_is); (case l => k_is); (case c => k_is); (case k => k_is)
    case D_add_covered_commitment =>
      refine' Cs.tdef_mk KX G ?a ?l ?c ?k (fun _ _ _ _ _ _ us hl => match us, hl with | [_, _, _, _], _ => rfl)
      (case a => k_is); (case l => k_is); (case c => k_is); (case k => k_is)
    case D_cancel_commitment =>
      refine' Cs.tdef_mk KX G ?a ?l ?c ?k (fun _ _ _ _ _ _ us hl => match us, hl with | [_, _], _ => rfl)
      (case a => k_is); (case l => k_is); (case c => k_is); (case k => k_is)
    case D_delivery_arrived =>
      refine' Cs.tdef_mk KX G ?a ?l ?c ?k (fun _ _ _ _ _ _ us hl => match us, hl with | [_, _], _ => rfl)
      (case a => k_is); (case l => k_is); (case c => k_is); (case k => k_is)
    case D_delivery_failed =>
      refine' Cs.tdef_mk KX G ?a ?l ?c ?k (fun _ _ _ _ _ _ us hl => match us, hl with | [_, _], _ => rfl)
      (case a => k_is); (case l => k_is); (case c => k_is); (case k => k_is)
    case D_fulfill_commitment =>
      refine' Cs.tdef_mk KX G ?a ?l ?c ?k (fun _ _ _ _ _ _ us hl => match us, hl with | [_, _], _ => rfl)
      (case a => k_is); (case l => k_is); (case c => k_is); (case k => k_is)
    case D_next_day =>
      refine' Cs.tdef_mk KX G ?a ?l ?c ?k (fun _ _ _ _ _ _ us hl => match us, hl with | [_], _ => rfl)
      (case a => k_is); (case l => k_is); (case c => k_is); (case k => k_is)
    case D_cancel_best =>
      refine' Cs.tdef_mk KX G ?a ?l ?c ?k (fun _ _ _ _ _ _ us hl => match us, hl with | [_, _], _ => rfl)
      (case a => k_is); (case l => k_is); (case c => k_is); (case k => k_is)
    case D_counted =>
      refine' Cs.tdef_mk KX G ?a ?l ?c ?k (fun _ _ _ _ _ _ us hl => match us, hl with | [_], _ => rfl)
      (case a => k_is); (case l => k_is); (case c => k_is); (case k => k_is)
    case D_list_deliveries =>
      refine' Cs.tdef_mk KX G ?a ?l ?c ?k (fun _ _ _ _ _ _ us hl => match us, hl with | [_], _ => rfl)
      (case a => k_is); (case l => k_is); (case c => k_is); (case k => k_is)
    case D_list_commitments =>
      refine' Cs.tdef_mk KX G ?a ?l ?c ?k (fun _ _ _ _ _ _ us hl => match us, hl with | [_], _ => rfl)
      (case a => k_is); (case l => k_is); (case c => k_is); (case k => k_is)
    case D_is_covered =>
      refine' Cs.tdef_mk KX G ?a ?l ?c ?k (fun _ _ _ _ _ _ us hl => match us, hl with | [_, _], _ => rfl)
      (case a => k_is); (case l => k_is); (case c => k_is); (case k => k_is)
    case D_surplus =>
      refine' Cs.tdef_mk KX G ?a ?l ?c ?k (fun _ _ _ _ _ _ us hl => match us, hl with | [_, _, _], _ => rfl)
      (case a => k_is); (case l => k_is); (case c => k_is); (case k => k_is)
    case D_available =>
      refine' Cs.tdef_mk KX G ?a ?l ?c ?k (fun _ _ _ _ _ _ us hl => match us, hl with | [_, _, _], _ => rfl)
      (case a => k_is); (case l => k_is); (case c => k_is); (case k => k_is)
    case D_earliest_day =>
      refine' Cs.tdef_mk KX G ?a ?l ?c ?k (fun _ _ _ _ _ _ us hl => match us, hl with | [_, _, _], _ => rfl)
      (case a => k_is); (case l => k_is); (case c => k_is); (case k => k_is)
    case D_tolerance =>
      refine' Cs.tdef_mk KX G ?a ?l ?c ?k (fun _ _ _ _ _ _ us hl => match us, hl with | [_], _ => rfl)
      (case a => k_is); (case l => k_is); (case c => k_is); (case k => k_is)
    case D_safe_commitments =>
      refine' Cs.tdef_mk KX G ?a ?l ?c ?k (fun _ _ _ _ _ _ us hl => match us, hl with | [_, _], _ => rfl)
      (case a => k_is); (case l => k_is); (case c => k_is); (case k => k_is)
    case D_best_cancellation =>
      refine' Cs.tdef_mk KX G ?a ?l ?c ?k (fun _ _ _ _ _ _ us hl => match us, hl with | [_, _], _ => rfl)
      (case a => k_is); (case l => k_is); (case c => k_is); (case k => k_is)
    case D_first_shortage =>
      refine' Cs.tdef_mk KX G ?a ?l ?c ?k (fun _ _ _ _ _ _ us hl => match us, hl with | [_, _], _ => rfl)
      (case a => k_is); (case l => k_is); (case c => k_is); (case k => k_is)
    case D_summary =>
      refine' Cs.tdef_mk KX G ?a ?l ?c ?k (fun _ _ _ _ _ _ us hl => match us, hl with | [_], _ => rfl)
      (case a => k_is); (case l => k_is); (case c => k_is); (case k => k_is)
    case D_dependent_commitments =>
      refine' Cs.tdef_mk KX G ?a ?l ?c ?k (fun _ _ _ _ _ _ us hl => match us, hl with | [_, _], _ => rfl)
      (case a => k_is); (case l => k_is); (case c => k_is); (case k => k_is)
    case D_is_covered_with_delivery =>
      refine' Cs.tdef_mk KX G ?a ?l ?c ?k (fun _ _ _ _ _ _ us hl => match us, hl with | [_, _, _, _], _ => rfl)
      (case a => k_is); (case l => k_is); (case c => k_is); (case k => k_is)
    case D_tolerance_with_commitment =>
      refine' Cs.tdef_mk KX G ?a ?l ?c ?k (fun _ _ _ _ _ _ us hl => match us, hl with | [_, _, _], _ => rfl)
      (case a => k_is); (case l => k_is); (case c => k_is); (case k => k_is)
    case M_Planner =>
      refine' Cs.tmk_mk KX G ?g ?a ?i ?l ?c ?k ?mk ?kc ?pg ?hd ?po ?sa (fun _ _ _ _ _ _ us hl => match us, hl with | [_], _ => rfl) ?na
      (case g => k_is); (case a => k_is); (case i => k_is); (case l => k_is); (case c => k_is); (case k => k_is); (case mk => k_is); (case kc => k_is); (case pg => k_is); (case hd => k_is); (case po => k_is); (case sa => k_is)
      (case na => exact Cs.na_cons (by k_is) (Cs.na_nil))
    case D_create =>
      refine' Cs.tdef_mk KX G ?a ?l ?c ?k (fun _ _ _ _ _ _ us hl => match us, hl with | [_, _], _ => rfl)
      (case a => k_is); (case l => k_is); (case c => k_is); (case k => k_is)
    case D_execute_change =>
      refine' Cs.tdef_mk KX G ?a ?l ?c ?k (fun _ _ _ _ _ _ us hl => match us, hl with | [_, _, _], _ => rfl)
      (case a => k_is); (case l => k_is); (case c => k_is); (case k => k_is)
    case D_execute_report =>
      refine' Cs.tdef_mk KX G ?a ?l ?c ?k (fun _ _ _ _ _ _ us hl => match us, hl with | [_, _, _], _ => rfl)
      (case a => k_is); (case l => k_is); (case c => k_is); (case k => k_is)
    case D_execute_supposition =>
      refine' Cs.tdef_mk KX G ?a ?l ?c ?k (fun _ _ _ _ _ _ us hl => match us, hl with | [_, _, _], _ => rfl)
      (case a => k_is); (case l => k_is); (case c => k_is); (case k => k_is)
    case D_execute =>
      refine' Cs.tdef_mk KX G ?a ?l ?c ?k (fun _ _ _ _ _ _ us hl => match us, hl with | [_, _, _], _ => rfl)
      (case a => k_is); (case l => k_is); (case c => k_is); (case k => k_is)
    case D_answers =>
      refine' Cs.trun_mk KX G ?a ?l ?c ?k (fun _ _ _ _ _ _ us hl => match us, hl with | [_], _ => rfl)
      (case a => k_is); (case l => k_is); (case c => k_is); (case k => k_is)
    case c_LAST_DAY =>
      refine' Cs.cst_mk KX G ?a
      (case a => k_is)
    case c_MOST_STOCK =>
      refine' Cs.cst_mk KX G ?a
      (case a => k_is)
    case c_MOST_AMOUNT =>
      refine' Cs.cst_mk KX G ?a
      (case a => k_is)
    case c_MOST_FAILURES =>
      refine' Cs.cst_mk KX G ?a
      (case a => k_is)
    case c_MOST_DELIVERIES =>
      refine' Cs.cst_mk KX G ?a
      (case a => k_is)
    case c_MOST_COMMITMENTS =>
      refine' Cs.cst_mk KX G ?a
      (case a => k_is)
    case c_NO_INSTANCE =>
      refine' Cs.cst_mk KX G ?a
      (case a => k_is)
    case c_NOT_FOUND =>
      refine' Cs.cst_mk KX G ?a
      (case a => k_is)
    case c_OUT_OF_RANGE =>
      refine' Cs.cst_mk KX G ?a
      (case a => k_is)
    case c_TOO_MANY =>
      refine' Cs.cst_mk KX G ?a
      (case a => k_is)
    case c_NOT_COVERED =>
      refine' Cs.cst_mk KX G ?a
      (case a => k_is)
    case c_STILL_DUE =>
      refine' Cs.cst_mk KX G ?a
      (case a => k_is)
    case c_NOT_POSSIBLE =>
      refine' Cs.cst_mk KX G ?a
      (case a => k_is)
    case c_STOCK_TOO_SMALL =>
      refine' Cs.cst_mk KX G ?a
      (case a => k_is)
    case c_AT_LAST_DAY =>
      refine' Cs.cst_mk KX G ?a
      (case a => k_is)
    case c_CREATE =>
      refine' Cs.cst_mk KX G ?a
      (case a => k_is)
    case c_ADD_DELIVERY =>
      refine' Cs.cst_mk KX G ?a
      (case a => k_is)
    case c_ADD_COMMITMENT =>
      refine' Cs.cst_mk KX G ?a
      (case a => k_is)
    case c_ADD_COVERED_COMMITMENT =>
      refine' Cs.cst_mk KX G ?a
      (case a => k_is)
    case c_CANCEL_COMMITMENT =>
      refine' Cs.cst_mk KX G ?a
      (case a => k_is)
    case c_DELIVERY_ARRIVED =>
      refine' Cs.cst_mk KX G ?a
      (case a => k_is)
    case c_DELIVERY_FAILED =>
      refine' Cs.cst_mk KX G ?a
      (case a => k_is)
    case c_FULFILL_COMMITMENT =>
      refine' Cs.cst_mk KX G ?a
      (case a => k_is)
    case c_NEXT_DAY =>
      refine' Cs.cst_mk KX G ?a
      (case a => k_is)
    case c_LIST_DELIVERIES =>
      refine' Cs.cst_mk KX G ?a
      (case a => k_is)
    case c_LIST_COMMITMENTS =>
      refine' Cs.cst_mk KX G ?a
      (case a => k_is)
    case c_IS_COVERED =>
      refine' Cs.cst_mk KX G ?a
      (case a => k_is)
    case c_SURPLUS =>
      refine' Cs.cst_mk KX G ?a
      (case a => k_is)
    case c_AVAILABLE =>
      refine' Cs.cst_mk KX G ?a
      (case a => k_is)
    case c_EARLIEST_DAY =>
      refine' Cs.cst_mk KX G ?a
      (case a => k_is)
    case c_TOLERANCE =>
      refine' Cs.cst_mk KX G ?a
      (case a => k_is)
    case c_SAFE_COMMITMENTS =>
      refine' Cs.cst_mk KX G ?a
      (case a => k_is)
    case c_DEPENDENT_COMMITMENTS =>
      refine' Cs.cst_mk KX G ?a
      (case a => k_is)
    case c_BEST_CANCELLATION =>
      refine' Cs.cst_mk KX G ?a
      (case a => k_is)
    case c_CANCEL_BEST =>
      refine' Cs.cst_mk KX G ?a
      (case a => k_is)
    case c_IS_COVERED_WITH_DELIVERY =>
      refine' Cs.cst_mk KX G ?a
      (case a => k_is)
    case c_TOLERANCE_WITH_COMMITMENT =>
      refine' Cs.cst_mk KX G ?a
      (case a => k_is)
    case c_FIRST_SHORTAGE =>
      refine' Cs.cst_mk KX G ?a
      (case a => k_is)
    case t_PARAMETER_COUNTS =>
      refine' Cs.tup_mk KX G ?a ?l ?v
      (case a => k_is); (case l => k_is)
      (case v => exact .cons ⟨_, rfl⟩ (.cons ⟨_, rfl⟩ (.cons ⟨_, rfl⟩ (.cons ⟨_, rfl⟩ (.cons ⟨_, rfl⟩ (.cons ⟨_, rfl⟩ (.cons ⟨_, rfl⟩ (.cons ⟨_, rfl⟩ (.cons ⟨_, rfl⟩ (.cons ⟨_, rfl⟩ (.cons ⟨_, rfl⟩ (.cons ⟨_, rfl⟩ (.cons ⟨_, rfl⟩ (.cons ⟨_, rfl⟩ (.cons ⟨_, rfl⟩ (.cons ⟨_, rfl⟩ (.cons ⟨_, rfl⟩ (.cons ⟨_, rfl⟩ (.cons ⟨_, rfl⟩ (.cons ⟨_, rfl⟩ (.cons ⟨_, rfl⟩ (.cons ⟨_, rfl⟩ (.cons ⟨_, rfl⟩ (.cons ⟨_, rfl⟩ (.nil)))))))))))))))))))))))))
    case n_abs =>
      refine' Cs.no_mk KX G ?a
      (case a => k_is)
    case n_any =>
      refine' Cs.no_mk KX G ?a
      (case a => k_is)
    case n_len =>
      refine' Cs.no_mk KX G ?a
      (case a => k_is)
    case n_list =>
      refine' Cs.no_mk KX G ?a
      (case a => k_is)
    case n_max =>
      refine' Cs.no_mk KX G ?a
      (case a => k_is)
    case n_min =>
      refine' Cs.no_mk KX G ?a
      (case a => k_is)
    case n_range =>
      refine' Cs.no_mk KX G ?a
      (case a => k_is)
    case n_reversed =>
      refine' Cs.no_mk KX G ?a
      (case a => k_is)
    case n_sorted =>
      refine' Cs.no_mk KX G ?a
      (case a => k_is)
    case n_sum =>
      refine' Cs.no_mk KX G ?a
      (case a => k_is)
  case S =>
    intro K H xs a hO hwi hask hx
    cases hx with
    | cons h1 h2 =>
      cases h2
      cases h1 with
      | lst hs ha =>
        have e := L2.ints_dw a.1 _ ha
        subst e
        exact ⟨_, a.1, rfl, hs, hask, fun H' p hp => .lst (L2.SqL.of hp) (L2.dw_ints _)⟩

