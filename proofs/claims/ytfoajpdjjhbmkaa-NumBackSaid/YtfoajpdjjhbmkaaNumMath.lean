/- Digits of costs, in plain numbers and lists. No program. -/
import Derived.WalkKit
namespace Go.Proofs.Ytfoajpdjjhbmkaa
namespace Num

/-- the digits, the highest first -/
def dig (c : Nat) : List Int := if c < 10 then [48 + (c : Int)] else dig (c / 10) ++ [48 + ((c % 10 : Nat) : Int)]
termination_by c
decreasing_by omega
theorem dig_small {c : Nat} (h : c < 10) : dig c = [48 + (c : Int)] := by rw [dig, if_pos h]
theorem dig_big {c : Nat} (h : 10 ≤ c) : dig c = dig (c / 10) ++ [48 + ((c % 10 : Nat) : Int)] := by rw [dig, if_neg (by omega)]
theorem dig_snoc {c d : Nat} (h : c ≠ 0) (hd : d < 10) : dig (10 * c + d) = dig c ++ [48 + (d : Int)] := by
  rw [dig_big (by omega), show (10 * c + d) / 10 = c from by omega, show (10 * c + d) % 10 = d from by omega]

/-- induction over the digits -/
theorem dig_rec {P : Nat → Prop} (h0 : ∀ c, c < 10 → P c) (h1 : ∀ c, 10 ≤ c → P (c / 10) → P c) (c : Nat) : P c := by
  induction c using Nat.strongRecOn with
  | ind c ih =>
    rcases Nat.lt_or_ge c 10 with h | h
    · exact h0 c h
    · exact h1 c h (ih _ (by omega))

def val (l : List Int) : Nat := l.foldl (fun a d => a * 10 + (d - 48).toNat) 0
theorem val_snoc (l : List Int) (d : Int) : val (l ++ [d]) = val l * 10 + (d - 48).toNat := by simp [val, List.foldl_append]
theorem val_one (d : Int) : val [d] = (d - 48).toNat := by simp [val]
theorem val_dig (c : Nat) : val (dig c) = c := by
  induction c using dig_rec with
  | h0 c h => rw [dig_small h, val_one]; omega
  | h1 c h ih => rw [dig_big h, val_snoc, ih]; omega
theorem dig_inj {a b : Nat} (h : dig a = dig b) : a = b := by rw [← val_dig a, h, val_dig]

theorem dig_digits (c : Nat) : ∀ d ∈ dig c, 48 ≤ d ∧ d ≤ 57 := by
  induction c using dig_rec with
  | h0 c h => intro d hd; rw [dig_small h, List.mem_singleton] at hd; omega
  | h1 c h ih =>
    intro d hd
    rw [dig_big h] at hd
    rcases List.mem_append.1 hd with hd | hd
    · exact ih d hd
    · rw [List.mem_singleton] at hd; omega
theorem dig_ne (c : Nat) : dig c ≠ [] := by
  rcases Nat.lt_or_ge c 10 with h | h
  · rw [dig_small h]; simp
  · rw [dig_big h]; simp
theorem dig_pos (c : Nat) : 0 < (dig c).length := List.length_pos_iff.2 (dig_ne c)
theorem dig_wf (c : Nat) : ∀ d ∈ dig c, (Lit.int .u8 d).wf = true := by
  intro d hd
  have := dig_digits c d hd
  exact WalkArith.wf_u8 ⟨by omega, by omega⟩
theorem head_snoc {l : List Int} (h : l ≠ []) (d : Int) : (l ++ [d]).getD 0 0 = l.getD 0 0 := by
  cases l with
  | nil => exact absurd rfl h
  | cons a l => rfl
theorem dig_head {c : Nat} (h : c ≠ 0) : (dig c).getD 0 0 ≠ 48 := by
  induction c using dig_rec with
  | h0 c h' => rw [dig_small h']; simp; omega
  | h1 c h' ih => rw [dig_big h', head_snoc (dig_ne _)]; exact ih (by omega)
theorem dig_long {c : Nat} : 1 < (dig c).length ↔ 10 ≤ c := by
  rcases Nat.lt_or_ge c 10 with h | h
  · rw [dig_small h]; simp; omega
  · rw [dig_big h, List.length_append]; have := dig_pos (c / 10); simp; omega

/-- bytes that are digits, without a 0 ahead, are those of what they say -/
theorem dig_val : ∀ (n : Nat) (b : List Int), b.length = n → b ≠ [] → (∀ d ∈ b, 48 ≤ d ∧ d ≤ 57) → (b.length = 1 ∨ b.getD 0 0 ≠ 48) → dig (val b) = b
  | 0, b, hn, h0, _, _ => absurd (List.eq_nil_of_length_eq_zero hn) h0
  | n + 1, b, hn, h0, hd, hh => by
    have hb : b = b.dropLast ++ [b.getLast h0] := (List.dropLast_concat_getLast h0).symm
    obtain ⟨a, ha⟩ : ∃ a, a = b.dropLast := ⟨_, rfl⟩
    obtain ⟨d, hdd⟩ : ∃ d, d = b.getLast h0 := ⟨_, rfl⟩
    rw [← ha, ← hdd] at hb
    have hdr := hd d (by rw [hb]; simp)
    by_cases hae : a = []
    · rw [hb, hae, List.nil_append, val_one, dig_small (by omega)]
      congr 1; omega
    · have hal : a.length = n := by have := congrArg List.length hb; simp at this; omega
      have hh2 : a.getD 0 0 ≠ 48 := by
        rcases hh with h | h
        · have := List.length_pos_iff.2 hae; omega
        · rw [hb, head_snoc hae] at h; exact h
      have ih := dig_val n a hal hae (fun e he => hd e (by rw [hb]; simp [he])) (.inr hh2)
      have hv : val a ≠ 0 := by
        intro h
        rw [h, dig_small (by omega)] at ih
        apply hh2
        rw [← ih]; rfl
      rw [hb, val_snoc, show val a * 10 + (d - 48).toNat = 10 * val a + (d - 48).toNat from by omega, dig_snoc hv (by omega), ih]
      congr 2; omega

/-- what bytes say: the cost below Inf whose digits they are -/
def read (b : List Int) : Option Nat := if dig (val b) = b ∧ val b < 18446744073709551615 then some (val b) else none
theorem read_dig {c : Nat} (h : c < 18446744073709551615) : read (dig c) = some c := by
  unfold read; rw [val_dig, if_pos ⟨rfl, h⟩]
theorem read_inf {c : Nat} (h : 18446744073709551615 ≤ c) : read (dig c) = none := by
  unfold read; rw [val_dig, if_neg (by omega)]
theorem read_some {b : List Int} {c : Nat} (h : read b = some c) : dig c = b ∧ c < 18446744073709551615 := by
  unfold read at h
  split at h
  · rename_i h'
    cases h
    exact h'
  · cases h
theorem read_shape {b : List Int} {c : Nat} (h : read b = some c) : b ≠ [] ∧ (∀ d ∈ b, 48 ≤ d ∧ d ≤ 57) ∧ (b.length = 1 ∨ b.getD 0 0 ≠ 48) := by
  obtain ⟨h1, h2⟩ := read_some h
  rw [← h1]
  refine ⟨dig_ne c, dig_digits c, ?_⟩
  by_cases h0 : c = 0
  · left; rw [h0, dig_small (by omega)]; rfl
  · exact .inr (dig_head h0)
theorem read_of {b : List Int} (h0 : b ≠ []) (h1 : ∀ d ∈ b, 48 ≤ d ∧ d ≤ 57) (h2 : b.length = 1 ∨ b.getD 0 0 ≠ 48) (h3 : val b < 18446744073709551615) : read b = some (val b) := by
  unfold read; rw [if_pos ⟨dig_val _ b rfl h0 h1 h2, h3⟩]
theorem read_none_nil : read [] = none := by
  cases h : read [] with
  | none => rfl
  | some c => exact absurd rfl (read_shape h).1
theorem read_none_digit {b : List Int} {d : Int} (hd : d ∈ b) (h : ¬ (48 ≤ d ∧ d ≤ 57)) : read b = none := by
  cases hr : read b with
  | none => rfl
  | some c => exact absurd ((read_shape hr).2.1 d hd) h
theorem read_none_zero {b : List Int} (h1 : 1 < b.length) (h2 : b.getD 0 0 = 48) : read b = none := by
  cases hr : read b with
  | none => rfl
  | some c => rcases (read_shape hr).2.2 with h | h <;> omega
theorem read_none_big {b : List Int} (h : 18446744073709551615 ≤ val b) : read b = none := by
  unfold read; rw [if_neg (by omega)]

/-! ### how long -/
theorem len_le : ∀ (k c : Nat), c < 10 ^ (k + 1) → (dig c).length ≤ k + 1
  | 0, c, h => by rw [dig_small (by simpa using h)]; exact Nat.le_refl _
  | k + 1, c, h => by
    rcases Nat.lt_or_ge c 10 with h' | h'
    · rw [dig_small h']; simp
    · rw [dig_big h', List.length_append]
      have := len_le k (c / 10) (by rw [Nat.div_lt_iff_lt_mul (by omega), ← Nat.pow_succ]; exact h)
      simp; omega
theorem len_ge : ∀ (k c : Nat), 10 ^ k ≤ c → k + 1 ≤ (dig c).length
  | 0, c, _ => dig_pos c
  | k + 1, c, h => by
    have h10 : 10 ≤ c := by
      have : 10 ^ 1 ≤ 10 ^ (k + 1) := Nat.pow_le_pow_right (by omega) (by omega)
      omega
    rw [dig_big h10, List.length_append]
    have := len_ge k (c / 10) (by rw [Nat.le_div_iff_mul_le (by omega), ← Nat.pow_succ]; exact h)
    simp; omega
theorem len_20 {c : Nat} (h : c < 18446744073709551616) : (dig c).length ≤ 20 := len_le 19 c (by omega)
theorem len_mono {a b : Nat} (h : a ≤ b) : (dig a).length ≤ (dig b).length := by
  obtain ⟨k, hk⟩ : ∃ k, (dig b).length = k + 1 := ⟨(dig b).length - 1, by have := dig_pos b; omega⟩
  rw [hk]
  refine len_le k a (Nat.lt_of_le_of_lt h ?_)
  rcases Nat.lt_or_ge b (10 ^ (k + 1)) with h' | h'
  · exact h'
  · have := len_ge (k + 1) b h'; omega

/-! ### which stands ahead -/
def lessL : List Int → List Int → Bool
  | _, [] => false
  | [], _ :: _ => true
  | a :: x, b :: y => decide (a < b) || (a == b && lessL x y)
theorem lessL_bytes : ∀ (xs ys : List Int), (∀ z ∈ xs, 0 ≤ z ∧ z ≤ 255) → (∀ z ∈ ys, 0 ≤ z ∧ z ≤ 255) →
    Op.bytesLess (xs.map fun n => UInt8.ofNat n.toNat) (ys.map fun n => UInt8.ofNat n.toNat) = lessL xs ys
  | xs, [], _, _ => by cases xs <;> rfl
  | [], _ :: _, _, _ => rfl
  | a :: x, b :: y, hx, hy => by
    have ha := hx a (by simp)
    have hb := hy b (by simp)
    have ih := lessL_bytes x y (fun z hz => hx z (by simp [hz])) (fun z hz => hy z (by simp [hz]))
    have e1 : decide (UInt8.ofNat a.toNat < UInt8.ofNat b.toNat) = decide (a < b) := by
      rw [decide_eq_decide, UInt8.lt_iff_toNat_lt]; simp; omega
    have e2 : (UInt8.ofNat a.toNat == UInt8.ofNat b.toNat) = (a == b) := by
      rw [Bool.eq_iff_iff, beq_iff_eq, beq_iff_eq]
      constructor
      · intro h
        have := congrArg UInt8.toNat h
        simp at this; omega
      · intro h; rw [h]
    show (decide (UInt8.ofNat a.toNat < UInt8.ofNat b.toNat) || (UInt8.ofNat a.toNat == UInt8.ofNat b.toNat && Op.bytesLess (x.map fun n => UInt8.ofNat n.toNat) (y.map fun n => UInt8.ofNat n.toNat))) = _
    rw [e1, e2, ih]
    rfl
theorem lessL_snoc : ∀ (x y : List Int) (c d : Int), x.length = y.length → lessL (x ++ [c]) (y ++ [d]) = (lessL x y || (decide (x = y) && decide (c < d)))
  | [], [], c, d, _ => by simp [lessL]
  | [], _ :: _, _, _, h => by simp at h
  | _ :: _, [], _, _, h => by simp at h
  | a :: x, b :: y, c, d, h => by
    have ih := lessL_snoc x y c d (by simpa using h)
    simp only [List.cons_append, lessL, ih, List.cons.injEq]
    by_cases e : a = b
    · subst e; simp
    · have e2 : (a == b) = false := by simpa using e
      simp [e, e2]
theorem dig_less : ∀ (a b : Nat), (dig a).length = (dig b).length → lessL (dig a) (dig b) = decide (a < b) := by
  intro a
  induction a using dig_rec with
  | h0 a h =>
    intro b hl
    have hb : b < 10 := by
      rcases Nat.lt_or_ge b 10 with h' | h'
      · exact h'
      · have := dig_long.2 h'; rw [dig_small h] at hl; simp at hl; omega
    rw [dig_small h, dig_small hb]
    simp [lessL]
  | h1 a h ih =>
    intro b hl
    have hb : 10 ≤ b := by
      rcases Nat.lt_or_ge b 10 with h' | h'
      · have := dig_long.2 h; rw [dig_small h'] at hl; simp at hl; omega
      · exact h'
    rw [dig_big h, dig_big hb, List.length_append, List.length_append] at hl
    have ih2 := ih (b / 10) (by simpa using hl)
    rw [dig_big h, dig_big hb, lessL_snoc _ _ _ _ (by simpa using hl), ih2]
    by_cases e : a / 10 = b / 10
    · rw [e]
      simp
      omega
    · have e2 : ¬ dig (a / 10) = dig (b / 10) := fun h => e (dig_inj h)
      simp [e2]
      omega
/-- of two costs the less one has fewer digits, or as many that stand ahead -/
theorem dig_order (a b : Nat) : (decide ((dig a).length < (dig b).length) || (decide ((dig a).length = (dig b).length) && lessL (dig a) (dig b))) = decide (a < b) := by
  by_cases h : (dig a).length = (dig b).length
  · rw [dig_less a b h]; simp [h]
  · by_cases h2 : (dig a).length < (dig b).length
    · have : a < b := by
        rcases Nat.lt_or_ge a b with h3 | h3
        · exact h3
        · have := len_mono h3; omega
      simp [h2, this]
    · have : ¬ a < b := by
        intro h3
        have := len_mono (Nat.le_of_lt h3); omega
      simp [h, h2, this]

/-! ### the first digits -/
theorem dig_cut : ∀ (j c : Nat), j < (dig c).length → dig (c / 10 ^ j) = (dig c).take ((dig c).length - j)
  | 0, c, _ => by simp
  | j + 1, c, h => by
    have h10 : 10 ≤ c := dig_long.1 (by omega)
    have hl : (dig c).length = (dig (c / 10)).length + 1 := by rw [dig_big h10]; simp
    have ih := dig_cut j (c / 10) (by omega)
    rw [show c / 10 ^ (j + 1) = c / 10 / 10 ^ j from by rw [Nat.div_div_eq_div_mul, Nat.pow_succ, Nat.mul_comm], ih, dig_big h10, List.take_append_of_le_length (by simp)]
    congr 1
    simp

end Num
end Go.Proofs.Ytfoajpdjjhbmkaa
