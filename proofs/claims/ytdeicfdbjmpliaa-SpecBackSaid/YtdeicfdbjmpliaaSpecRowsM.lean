/- Rows of signs, parted by the sign 124, and what they tell: nothing of the program. -/
import Derived.Test.YtdeicfdbjmpliaaPackA
namespace Go.Proofs.Ytdeicfdbjmpliaa
namespace Spec

/-- the parts of signs between those that end rows; cur: the row so far -/
def rowsA : List Int → List Int → List (List Int)
  | cur, [] => [cur]
  | cur, x :: l => if x = 124 then cur :: rowsA [] l else rowsA (cur ++ [x]) l
def rowG (c : Int) : List Int → List Rul
  | x :: y :: l => (if x = y then [] else both x y c) ++ rowG c (y :: l)
  | _ => []
/-- a row, or a class, may be -/
def rowOk (l : List Int) : Bool := decide (l.length ≤ 12) && !(l.any fun y => decide (95 = y))
/-- the side whose field has these signs -/
def fside (l : List Int) : List Int := if l = [95] then [] else l

set_option maxRecDepth 100000 in
theorem rowsA_at {b : List Int} {f i : Nat} (hf : f ≤ i) (hi : i < b.length) :
    rowsA ((b.take i).drop f) (b.drop i) = if b.getD i 0 = 124 then ((b.take i).drop f) :: rowsA ((b.take (i + 1)).drop (i + 1)) (b.drop (i + 1)) else rowsA ((b.take (i + 1)).drop f) (b.drop (i + 1)) := by
  have e1 : b.drop i = b.getD i 0 :: b.drop (i + 1) := by
    rw [List.drop_eq_getElem_cons hi]; simp [hi]
  have e2 : (b.take (i + 1)).drop f = (b.take i).drop f ++ [b.getD i 0] := by
    rw [List.take_succ_eq_append_getElem hi, List.drop_append_of_le_length (by simp; omega)]
    simp [hi]
  have e3 : (b.take (i + 1)).drop (i + 1) = [] := by
    rw [List.drop_eq_nil_of_le]; simp; omega
  rw [e1, e2, e3]
  conv => lhs; unfold rowsA
set_option maxRecDepth 100000 in
theorem rowsA_end {b : List Int} {f : Nat} : rowsA ((b.take b.length).drop f) (b.drop b.length) = [b.drop f] := by
  rw [List.take_length, List.drop_length]; rfl

set_option maxRecDepth 100000 in
theorem rowG_snoc (c : Int) : ∀ (l : List Int) (p x : Int), rowG c (l ++ [p] ++ [x]) = rowG c (l ++ [p]) ++ if p = x then [] else both p x c
  | [], p, x => by simp [rowG]
  | [a], p, x => by simp [rowG]
  | a :: b :: l, p, x => by
    have ih := rowG_snoc c (b :: l) p x
    simp only [List.cons_append] at ih ⊢
    conv => lhs; unfold rowG
    conv => rhs; unfold rowG
    rw [ih, List.append_assoc]
set_option maxRecDepth 100000 in
theorem rows_keys (c : Int) : ∀ (l cur : List Int) (p : Int), (∀ d q, cur = d ++ [q] → p = q) → (rowsA cur l).flatMap (rowG c) = rowG c cur ++ keysG c cur.length p l
  | [], cur, p, _ => by simp [rowsA, keysG]
  | x :: l, cur, p, hp => by
    unfold rowsA keysG
    by_cases hx : x = 124
    · rw [if_pos hx, if_pos hx, List.flatMap_cons, rows_keys c l [] x (by intro d q h; simp at h)]
      simp [rowG]
    · rw [if_neg hx, if_neg hx, rows_keys c l (cur ++ [x]) x (by
        intro d q h
        have := List.append_inj_right' h rfl
        simpa using this), ← List.append_assoc]
      congr 1
      · rcases List.eq_nil_or_concat cur with rfl | ⟨d, q, rfl⟩
        · simp [rowG]
        · rw [List.concat_eq_append] at hp ⊢
          obtain rfl := hp d q rfl
          rw [rowG_snoc]
          congr 1
          by_cases h : p = x
          · rw [if_pos h, if_neg (by intro hh; exact hh.2 h.symm)]
          · rw [if_neg h, if_pos ⟨by simp, fun e => h e.symm⟩]
      · simp
set_option maxRecDepth 100000 in
theorem rowOk_snoc {cur : List Int} {x : Int} (h : rowOk (cur ++ [x]) = true) : rowOk cur = true := by
  unfold rowOk at *
  simp only [Bool.and_eq_true, decide_eq_true_eq, Bool.not_eq_true', List.any_eq_false, List.length_append] at h ⊢
  exact ⟨by have := h.1; simp at this; omega, fun y hy => h.2 y (List.mem_append_left _ hy)⟩
set_option maxRecDepth 100000 in
theorem rows_bad : ∀ (l cur : List Int), rowOk cur = false → (rowsA cur l).all rowOk = false
  | [], cur, h => by simp [rowsA, h]
  | x :: l, cur, h => by
    unfold rowsA
    by_cases hx : x = 124
    · rw [if_pos hx]; simp [h]
    · rw [if_neg hx]
      refine rows_bad l (cur ++ [x]) ?_
      cases hh : rowOk (cur ++ [x]) with
      | false => rfl
      | true => rw [rowOk_snoc hh] at h; cases h
set_option maxRecDepth 100000 in
theorem rows_ok : ∀ (l cur : List Int), rowOk cur = true → (rowsA cur l).all rowOk = keysOk cur.length l
  | [], cur, h => by simp [rowsA, keysOk, h]
  | x :: l, cur, h => by
    unfold rowsA keysOk
    by_cases hx : x = 124
    · rw [if_pos hx, if_pos hx, List.all_cons, h, rows_ok l [] (by decide)]; rfl
    · rw [if_neg hx, if_neg hx]
      have e : rowOk (cur ++ [x]) = (decide (cur.length + 1 ≤ 12) && decide (x ≠ 95)) := by
        have h2 := h
        unfold rowOk at h2 ⊢
        rw [Bool.and_eq_true] at h2
        rw [List.length_append, List.any_append, Bool.not_or, h2.2]
        by_cases h9 : x = 95
        · simp [h9]
        · have h9' : ¬ 95 = x := fun e => h9 e.symm
          simp [h9, h9']
      cases hb : rowOk (cur ++ [x]) with
      | false =>
        rw [rows_bad l _ hb, ← e, hb]; rfl
      | true =>
        rw [rows_ok l _ hb, ← e, hb, List.length_append]; rfl
set_option maxRecDepth 100000 in
theorem rows_all (l : List Int) : (rowsA [] l).all rowOk = keysOk 0 l := rows_ok l [] (by decide)
set_option maxRecDepth 100000 in
theorem rows_flat (c : Int) (l : List Int) : (rowsA [] l).flatMap (rowG c) = keysG c 0 0 l := by
  have := rows_keys c l [] 0 (by intro d q h; simp at h)
  simpa [rowG] using this
set_option maxRecDepth 100000 in
theorem rowsA_len : ∀ (l cur : List Int), (rowsA cur l).length ≤ l.length + 1
  | [], cur => by simp [rowsA]
  | x :: l, cur => by
    unfold rowsA
    split
    · have := rowsA_len l []; simp; omega
    · have := rowsA_len l (cur ++ [x]); simp; omega
set_option maxRecDepth 100000 in
theorem rowG_len (c : Int) : ∀ l : List Int, (rowG c l).length ≤ 2 * l.length
  | [] => by simp [rowG]
  | [x] => by simp [rowG]
  | x :: y :: l => by
    have := rowG_len c (y :: l)
    unfold rowG
    split <;> simp [both] at * <;> omega
set_option maxRecDepth 100000 in
/-- MAP's rules may be -/
theorem maps_row (l : List Int) : mapsOk l = rowOk l := by
  unfold mapsOk rowOk
  congr 1
  induction l with
  | nil => rfl
  | cons x l ih =>
    rw [List.all_cons, List.any_cons, Bool.not_or, ih]
    congr 1
    by_cases h : x = 95
    · simp [h]
    · have h' : ¬ 95 = x := fun e => h e.symm
      simp [h, h']

end Spec
end Go.Proofs.Ytdeicfdbjmpliaa
