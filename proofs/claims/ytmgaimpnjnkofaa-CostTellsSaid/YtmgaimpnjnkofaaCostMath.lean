/- Costs as plain numbers: together, the sum, the least, and so many times, each up to 2^64 - 1. Nothing of the program. -/
import Derived.WalkKit
namespace Go.Proofs.Ytmgaimpnjnkofaa
namespace Cost

def cap (n : Int) : Int := if 18446744073709551615 < n then 18446744073709551615 else n
def add (a b : Int) : Int := cap (a + b)
def lo (x y : Int) : Int := if y < x then y else x
def tot : List Int → Int
  | [] => 0
  | x :: l => x + tot l
def sum (l : List Int) : Int := cap (tot l)
def least : List Int → Int
  | [] => 18446744073709551615
  | x :: l => lo x (least l)
def times (c n : Int) : Int := cap (c * (n.toNat : Int))
def Costs (l : List Int) : Prop := ∀ x ∈ l, 0 ≤ x ∧ x ≤ 18446744073709551615

theorem tot_append (a b : List Int) : tot (a ++ b) = tot a + tot b := by
  induction a with
  | nil => simp [tot]
  | cons x l ih => simp [tot, ih]; omega
theorem tot_nonneg {l : List Int} (h : Costs l) : 0 ≤ tot l := by
  induction l with
  | nil => simp [tot]
  | cons x l ih =>
    have h1 := (h x (by simp)).1
    have h2 := ih (fun y hy => h y (by simp [hy]))
    simp only [tot]; omega
theorem least_append {a b : List Int} (hb : Costs b) : least (a ++ b) = lo (least a) (least b) := by
  induction a with
  | nil =>
    have : least b ≤ 18446744073709551615 := by
      cases b with
      | nil => simp [least]
      | cons x l => have := (hb x (by simp)).2; simp only [least, lo]; split <;> omega
    simp only [List.nil_append, least, lo]; omega
  | cons x l ih =>
    simp only [List.cons_append, least, ih, lo]
    repeat' split
    all_goals omega
theorem least_range {l : List Int} (h : Costs l) : 0 ≤ least l ∧ least l ≤ 18446744073709551615 := by
  induction l with
  | nil => simp [least]
  | cons x l ih =>
    have h1 := h x (by simp)
    have h2 := ih (fun y hy => h y (by simp [hy]))
    simp only [least, lo]; split <;> omega
theorem least_le {l : List Int} : ∀ x ∈ l, least l ≤ x := by
  induction l with
  | nil => simp
  | cons y l ih =>
    intro x hx
    simp only [least, lo]
    rcases List.mem_cons.1 hx with rfl | hx
    · split <;> omega
    · have := ih x hx; split <;> omega
theorem least_mem {l : List Int} (h : Costs l) (hn : l ≠ []) : least l ∈ l := by
  induction l with
  | nil => exact absurd rfl hn
  | cons y l ih =>
    simp only [least, lo]
    split
    · rename_i hlt
      by_cases hl : l = []
      · subst hl; have := (h y (by simp)).2; simp [least] at hlt; omega
      · exact List.mem_cons_of_mem _ (ih (fun z hz => h z (by simp [hz])) hl)
    · simp
theorem cap_range {n : Int} (h : 0 ≤ n) : 0 ≤ cap n ∧ cap n ≤ 18446744073709551615 := by unfold cap; split <;> omega
theorem add_range {a b : Int} (ha : 0 ≤ a) (hb : 0 ≤ b) : 0 ≤ add a b ∧ add a b ≤ 18446744073709551615 := cap_range (by omega)
theorem sum_range {l : List Int} (h : Costs l) : 0 ≤ sum l ∧ sum l ≤ 18446744073709551615 := cap_range (tot_nonneg h)
theorem take_snoc (zs : List Int) (j : Nat) (h : j < zs.length) : zs.take (j + 1) = zs.take j ++ [zs.getD j 0] := by
  rw [List.take_succ_eq_append_getElem h]; simp [h]
theorem Costs.take {l : List Int} (h : Costs l) (j : Nat) : Costs (l.take j) := fun x hx => h x (List.mem_of_mem_take hx)
theorem Costs.drop {l : List Int} (h : Costs l) (j : Nat) : Costs (l.drop j) := fun x hx => h x (List.mem_of_mem_drop hx)
theorem Costs.at {l : List Int} (h : Costs l) (j : Nat) : 0 ≤ l.getD j 0 ∧ l.getD j 0 ≤ 18446744073709551615 := by
  rcases Nat.lt_or_ge j l.length with hj | hj
  · have := h (l.getD j 0) (by simp [hj]); exact this
  · simp [hj]
theorem Costs.snoc {l : List Int} (h : Costs l) {x : Int} (h0 : 0 ≤ x) (h1 : x ≤ 18446744073709551615) : Costs (l ++ [x]) := by
  intro y hy
  rcases List.mem_append.1 hy with hy | hy
  · exact h y hy
  · simp at hy; subst hy; exact ⟨h0, h1⟩
theorem sum_snoc {l : List Int} (h : Costs l) {x : Int} (hx : 0 ≤ x) : sum (l ++ [x]) = add (sum l) x := by
  have := tot_nonneg h
  unfold sum add
  rw [tot_append]
  simp only [tot]
  unfold cap
  repeat' split
  all_goals omega
theorem least_snoc {l : List Int} {x : Int} (h0 : 0 ≤ x) (h1 : x ≤ 18446744073709551615) : least (l ++ [x]) = lo (least l) x := by
  rw [least_append (fun y hy => by simp at hy; subst hy; exact ⟨h0, h1⟩)]
  congr 1
  simp only [least, lo]; omega
/-- once the sum of what stands ahead is Inf it stays so -/
theorem sum_stop {l : List Int} (h : Costs l) (j : Nat) (hs : sum (l.take j) = 18446744073709551615) : sum l = 18446744073709551615 := by
  have h1 := tot_nonneg (h.drop j)
  have h2 : tot l = tot (l.take j) + tot (l.drop j) := by rw [← tot_append, List.take_append_drop]
  unfold sum cap at *
  rw [h2]
  split at hs
  · rw [if_pos (by omega)]
  · split <;> omega
theorem least_stop {l : List Int} (h : Costs l) (j : Nat) (hs : least (l.take j) = 0) : least l = 0 := by
  have h1 := least_range (h.drop j)
  have h2 : least l = lo (least (l.take j)) (least (l.drop j)) := by rw [← least_append (h.drop j), List.take_append_drop]
  rw [h2, hs]; unfold lo; split <;> omega

theorem times_zero (c : Int) {n : Int} (h : n < 1) : times c n = 0 := by
  unfold times; rw [Int.toNat_of_nonpos (by omega)]; simp [cap]
theorem times_in {c n : Int} (hn : 1 ≤ n) (h : c ≤ 18446744073709551615 / n) : times c n = c * n ∧ c * n ≤ 18446744073709551615 := by
  have h1 : c * n ≤ 18446744073709551615 := (Int.le_ediv_iff_mul_le (by omega)).1 h
  refine ⟨?_, h1⟩
  unfold times cap
  rw [Int.toNat_of_nonneg (by omega)]
  split <;> omega
theorem times_out {c n : Int} (hn : 1 ≤ n) (h : ¬ c ≤ 18446744073709551615 / n) : times c n = 18446744073709551615 := by
  have h1 : ¬ c * n ≤ 18446744073709551615 := fun h2 => h ((Int.le_ediv_iff_mul_le (by omega)).2 h2)
  unfold times cap
  rw [Int.toNat_of_nonneg (by omega)]
  split <;> omega
theorem times_range {c : Int} (n : Int) (hc : 0 ≤ c) : 0 ≤ times c n ∧ times c n ≤ 18446744073709551615 := cap_range (Int.mul_nonneg hc (by omega))
/-- by halves -/
theorem times_half {c n : Int} (hc : 0 ≤ c) (hn : 1 ≤ n) : times c n = (if n % 2 = 1 then add (add (times c (n / 2)) (times c (n / 2))) c else add (times c (n / 2)) (times c (n / 2))) := by
  unfold times add
  rw [Int.toNat_of_nonneg (by omega), Int.toNat_of_nonneg (by omega)]
  have h0 : 0 ≤ c * (n / 2) := Int.mul_nonneg hc (by omega)
  have h1 : c * n = 2 * (c * (n / 2)) + c * (n % 2) := by
    have := Int.mul_ediv_add_emod n 2
    calc c * n = c * (2 * (n / 2) + n % 2) := by rw [this]
      _ = 2 * (c * (n / 2)) + c * (n % 2) := by rw [Int.mul_add]; congr 1; exact Int.mul_left_comm c 2 (n / 2)
  rw [h1]
  generalize c * (n / 2) = p at *
  split
  · rename_i h2; rw [h2]; unfold cap; repeat' split
    all_goals omega
  · have h2 : n % 2 = 0 := by omega
    rw [h2]; unfold cap; repeat' split
    all_goals omega
theorem times_more (c m n : Int) (hc : 0 ≤ c) (hm : 0 ≤ m) (hn : 0 ≤ n) : times c (m + n) = add (times c m) (times c n) := by
  unfold times add
  rw [Int.toNat_of_nonneg (by omega), Int.toNat_of_nonneg hm, Int.toNat_of_nonneg hn, Int.mul_add]
  have h1 := Int.mul_nonneg hc hm
  have h2 := Int.mul_nonneg hc hn
  unfold cap; repeat' split
  all_goals omega
theorem times_both (a b n : Int) (ha : 0 ≤ a) (hb : 0 ≤ b) (hn : 0 ≤ n) : times (add a b) n = add (times a n) (times b n) := by
  unfold times add
  rw [Int.toNat_of_nonneg hn]
  have h1 := Int.mul_nonneg ha hn
  have h2 := Int.mul_nonneg hb hn
  have h3 : (a + b) * n = a * n + b * n := Int.add_mul a b n
  by_cases h0 : n = 0
  · subst h0; simp [cap]
  · by_cases hs : 18446744073709551615 < a + b
    · have h4 : a + b ≤ (a + b) * n := by
        have := Int.mul_le_mul_of_nonneg_left (show (1 : Int) ≤ n by omega) (show (0 : Int) ≤ a + b by omega)
        omega
      have h5 : cap (a + b) = 18446744073709551615 := by unfold cap; rw [if_pos hs]
      rw [h5]
      unfold cap; repeat' split
      all_goals omega
    · have h5 : cap (a + b) = a + b := by unfold cap; rw [if_neg hs]
      rw [h5, h3]
      unfold cap; repeat' split
      all_goals omega
theorem times_one {c : Int} (h : c ≤ 18446744073709551615) : times c 1 = c := by unfold times cap; simp; omega
theorem times_of_zero (n : Int) : times 0 n = 0 := by unfold times cap; simp
theorem add_comm (a b : Int) : add a b = add b a := by unfold add; rw [Int.add_comm]
/-- with one more each, the least is the least with it -/
theorem least_spread (c : Int) {l : List Int} (h : Costs l) (h0 : 0 ≤ c) (h1 : c ≤ 18446744073709551615) : least (l.map (add c)) = add c (least l) := by
  induction l with
  | nil => simp only [List.map_nil, least, add, cap]; omega
  | cons x l ih =>
    have hx := h x (by simp)
    have hl := least_range (l := l) (fun y hy => h y (by simp [hy]))
    simp only [List.map_cons, least, ih (fun y hy => h y (by simp [hy]))]
    generalize least l = m at *
    unfold lo add cap
    repeat' split
    all_goals omega
theorem Costs.append {a b : List Int} (ha : Costs a) (hb : Costs b) : Costs (a ++ b) := fun x hx => (List.mem_append.1 hx).elim (ha x) (hb x)
theorem sum_append {a b : List Int} (ha : Costs a) (hb : Costs b) : sum (a ++ b) = add (sum a) (sum b) := by
  have h1 := tot_nonneg ha
  have h2 := tot_nonneg hb
  unfold sum add
  rw [tot_append]
  unfold cap; repeat' split
  all_goals omega
theorem mem_le_tot {l : List Int} (h : Costs l) : ∀ x ∈ l, x ≤ tot l := by
  induction l with
  | nil => simp
  | cons y l ih =>
    intro x hx
    have h1 := (h y (by simp)).1
    have h2 : Costs l := fun z hz => h z (by simp [hz])
    have h3 := tot_nonneg h2
    simp only [tot]
    rcases List.mem_cons.1 hx with rfl | hx
    · omega
    · have := ih h2 x hx; omega
theorem mem_le_sum {l : List Int} (h : Costs l) (x : Int) (hx : x ∈ l) : x ≤ sum l := by
  have h1 := mem_le_tot h x hx
  have h2 := (h x hx).2
  unfold sum cap; split <;> omega
end Cost
end Go.Proofs.Ytmgaimpnjnkofaa
