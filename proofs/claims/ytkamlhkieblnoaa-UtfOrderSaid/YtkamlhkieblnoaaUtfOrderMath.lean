/- Lists stand as their bytes do, in plain numbers and lists. -/
import Derived.Test.YtkamlhkieblnoaaUtfMath
import Derived.Laws.BytesArg
import Derived.Lib.Strings
namespace Go.Proofs.Ytkamlhkieblnoaa.Utf

def lessL : List Int → List Int → Bool
  | _, [] => false
  | [], _ :: _ => true
  | a :: x, b :: y => decide (a < b) || (a == b && lessL x y)

theorem lessL_nil (x : List Int) : lessL x [] = false := by cases x <;> rfl
theorem lessL_same (x r s : List Int) : lessL (x ++ r) (x ++ s) = lessL r s := by
  induction x with
  | nil => rfl
  | cons a x ih => simp [lessL, ih]
theorem lessL_bytes : ∀ (xs ys : List Int), (∀ z ∈ xs, 0 ≤ z ∧ z ≤ 255) → (∀ z ∈ ys, 0 ≤ z ∧ z ≤ 255) →
    Op.bytesLess (xs.map fun n => UInt8.ofNat n.toNat) (ys.map fun n => UInt8.ofNat n.toNat) = lessL xs ys
  | xs, [], _, _ => by cases xs <;> rfl
  | [], _ :: _, _, _ => rfl
  | a :: x, b :: y, hx, hy => by
    have ha := hx a (by simp)
    have hb := hy b (by simp)
    have ih := lessL_bytes x y (fun z hz => hx z (by simp [hz])) (fun z hz => hy z (by simp [hz]))
    have e1 : decide (UInt8.ofNat a.toNat < UInt8.ofNat b.toNat) = decide (a < b) := by
      rw [decide_eq_decide, UInt8.lt_iff_toNat_lt]; simp; omega
    have e2 : (UInt8.ofNat a.toNat == UInt8.ofNat b.toNat) = (a == b) := by
      rw [Bool.eq_iff_iff, beq_iff_eq, beq_iff_eq]
      constructor
      · intro h
        have := congrArg UInt8.toNat h
        simp at this; omega
      · intro h; rw [h]
    show (decide (UInt8.ofNat a.toNat < UInt8.ofNat b.toNat) || (UInt8.ofNat a.toNat == UInt8.ofNat b.toNat && Op.bytesLess (x.map fun n => UInt8.ofNat n.toNat) (y.map fun n => UInt8.ofNat n.toNat))) = _
    rw [e1, e2, ih]
    rfl
theorem lessL_enc (m n : Int) (r s : List Int) (hm : good m = true) (hn : good n = true) (h : m ≠ n) : lessL (enc m ++ r) (enc n ++ s) = decide (m < n) := by
  rw [good_iff] at hm hn
  rw [Bool.eq_iff_iff]
  cases hP : lessL r s
  all_goals (
    unfold enc
    split
    · split
      · (simp [lessL, hP]; try omega)
      · split
        · simp [lessL]; omega
        · split
          · simp [lessL]; omega
          · simp [lessL]; omega
    · split
      · split
        · simp [lessL]; omega
        · split
          · (simp [lessL, hP]; try omega)
          · split
            · simp [lessL]; omega
            · simp [lessL]; omega
      · split
        · split
          · simp [lessL]; omega
          · split
            · simp [lessL]; omega
            · split
              · (simp [lessL, hP]; try omega)
              · simp [lessL]; omega
        · split
          · simp [lessL]; omega
          · split
            · simp [lessL]; omega
            · split
              · simp [lessL]; omega
              · (simp [lessL, hP]; try omega))
theorem lessL_put : ∀ (a b : List Int), allGood a = true → allGood b = true → lessL (put a) (put b) = lessL a b
  | a, [], _, _ => by rw [put_nil, lessL_nil, lessL_nil]
  | [], n :: b, _, _ => by
    rw [put_nil]
    cases h : put (n :: b) with
    | nil => exact absurd h (put_ne n b)
    | cons x y => rfl
  | m :: a, n :: b, ha, hb => by
    rw [allGood_cons, Bool.and_eq_true] at ha hb
    rw [put_cons, put_cons]
    by_cases h : m = n
    · subst h
      rw [lessL_same, lessL_put a b ha.2 hb.2]
      simp [lessL]
    · rw [lessL_enc m n _ _ ha.1 hb.1 h]
      simp [lessL, h]
/-- the first place where they part tells -/
theorem lessL_at : ∀ (a b : List Int) (i : Nat), i ≤ a.length → i ≤ b.length → a.take i = b.take i → (i = a.length ∨ i = b.length ∨ a.getD i 0 ≠ b.getD i 0) →
    lessL a b = (decide (i < b.length) && (decide (i = a.length) || decide (a.getD i 0 < b.getD i 0)))
  | a, [], i, _, hb, _, _ => by simp at hb; subst hb; simp [lessL_nil]
  | [], n :: b, i, ha, _, _, _ => by simp at ha; subst ha; simp [lessL]
  | m :: a, n :: b, 0, _, _, _, h => by
    simp at h
    simp [lessL, h]
  | m :: a, n :: b, i + 1, ha, hb, ht, h => by
    simp at ha hb ht
    obtain ⟨rfl, ht⟩ := ht
    have ih := lessL_at a b i ha hb ht (by simpa using h)
    simp only [List.length_cons, List.getD_cons_succ, Nat.add_lt_add_iff_right, Nat.add_right_cancel_iff]
    rw [← ih]
    simp [lessL]
theorem less_strings (a b : List Int) (ha : allGood a = true) (hb : allGood b = true) : Op.bytesLess (strOfNums (put a)).toList (strOfNums (put b)).toList = lessL a b := by
  have h := lessL_bytes (put a) (put b) (put_bytes a ha) (put_bytes b hb)
  rw [lessL_put a b ha hb] at h
  rw [← h, Lib.toList_data, Lib.toList_data]
  rfl

end Go.Proofs.Ytkamlhkieblnoaa.Utf
