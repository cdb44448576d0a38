/- Lines and fields of bytes, as lists of numbers. Plain lists; nothing of the program. -/
import Derived.WalkKit
namespace Go.Proofs.Ytflikfnehpaohaa
namespace Line

/-- the lines of what is left, the line begun being cur -/
def splitA (cur : List Int) : List Int → List (List Int)
  | [] => if cur = [] then [] else [cur]
  | c :: cs => if c = 10 then cur :: splitA [] cs else splitA (cur ++ [c]) cs
def split (b : List Int) : List (List Int) := splitA [] b

def isBlank (c : Int) : Bool := c == 32 || c == 9
def fieldsA (cur : List Int) : List Int → List (List Int)
  | [] => if cur = [] then [] else [cur]
  | c :: cs => if isBlank c then (if cur = [] then fieldsA [] cs else cur :: fieldsA [] cs) else fieldsA (cur ++ [c]) cs
def fields (b : List Int) : List (List Int) := fieldsA [] b
def bare (b : List Int) : Bool := match fields b with
  | [] => true
  | f :: _ => f.getD 0 0 == 35

set_option maxRecDepth 100000 in
theorem splitA_plain : ∀ (x cur rest : List Int), (∀ c ∈ x, c ≠ 10) → splitA cur (x ++ rest) = splitA (cur ++ x) rest
  | [], cur, rest, _ => by simp
  | c :: cs, cur, rest, h => by
    have h1 : c ≠ 10 := h c (by simp)
    have ih := splitA_plain cs (cur ++ [c]) rest (fun d hd => h d (by simp [hd]))
    rw [List.cons_append, splitA, if_neg h1, ih, List.append_assoc]
    rfl

set_option maxRecDepth 100000 in
/-- lines, each with its end behind, are these lines -/
theorem split_back : ∀ (l : List (List Int)), (∀ x ∈ l, ∀ c ∈ x, c ≠ 10) → split (l.flatMap fun x => x ++ [10]) = l
  | [], _ => rfl
  | x :: xs, h => by
    have ih := split_back xs (fun y hy => h y (by simp [hy]))
    unfold split at ih ⊢
    rw [List.flatMap_cons, List.append_assoc, splitA_plain x [] _ (h x (by simp))]
    simp only [List.nil_append, List.singleton_append, splitA, if_true, ih]

set_option maxRecDepth 100000 in
theorem splitA_no : ∀ (b cur : List Int), (∀ c ∈ cur, c ≠ 10) → ∀ x ∈ splitA cur b, ∀ c ∈ x, c ≠ 10
  | [], cur, h, x, hx => by
    unfold splitA at hx
    split at hx
    · simp at hx
    · simp only [List.mem_singleton] at hx; subst hx; exact h
  | c :: cs, cur, h, x, hx => by
    unfold splitA at hx
    split at hx
    · rcases List.mem_cons.1 hx with rfl | hx
      · exact h
      · exact splitA_no cs [] (by simp) x hx
    · rename_i hc
      refine splitA_no cs (cur ++ [c]) (fun d hd => ?_) x hx
      rcases List.mem_append.1 hd with hd | hd
      · exact h d hd
      · simp only [List.mem_singleton] at hd; subst hd; exact hc
set_option maxRecDepth 100000 in
theorem split_no (b : List Int) : ∀ x ∈ split b, ∀ c ∈ x, c ≠ 10 := splitA_no b [] (by simp)

/-- how long the lines are together, each with its end -/
def total (l : List (List Int)) : Nat := (l.map fun x => x.length + 1).sum
set_option maxRecDepth 100000 in
theorem splitA_total : ∀ (b cur : List Int), total (splitA cur b) = cur.length + b.length ∨ total (splitA cur b) = cur.length + b.length + 1
  | [], cur => by
    unfold splitA
    split
    · rename_i h; subst h; exact .inl rfl
    · exact .inr (by simp [total])
  | c :: cs, cur => by
    unfold splitA
    split
    · have := splitA_total cs []
      simp only [total, List.map_cons, List.sum_cons, List.length_cons, List.length_nil] at *
      omega
    · have := splitA_total cs (cur ++ [c])
      simp only [List.length_append, List.length_cons, List.length_nil] at *
      omega
set_option maxRecDepth 100000 in
theorem split_total (b : List Int) : total (split b) = b.length ∨ total (split b) = b.length + 1 := by
  have := splitA_total b []
  simpa [split] using this

set_option maxRecDepth 100000 in
theorem splitA_end : ∀ (a cur b : List Int), splitA cur (a ++ 10 :: b) = splitA cur (a ++ [10]) ++ split b
  | [], cur, b => by simp [splitA, split]
  | c :: cs, cur, b => by
    have ih1 := splitA_end cs [] b
    have ih2 := splitA_end cs (cur ++ [c]) b
    simp only [List.cons_append, splitA]
    split
    · rw [ih1, List.cons_append]
    · exact ih2
set_option maxRecDepth 100000 in
theorem split_join (a b : List Int) : split (a ++ [10] ++ b) = split (a ++ [10]) ++ split b := by
  have := splitA_end a [] b
  simpa [split] using this
set_option maxRecDepth 100000 in
theorem splitA_some : ∀ (a cur : List Int), 1 ≤ (splitA cur (a ++ [10])).length
  | [], cur => by simp [splitA]
  | c :: cs, cur => by
    have := splitA_some cs (cur ++ [c])
    simp only [List.cons_append, splitA]
    split
    · simp
    · exact this
set_option maxRecDepth 100000 in
theorem split_some (a : List Int) : 1 ≤ (split (a ++ [10])).length := splitA_some a []

/-! ### fields -/
set_option maxRecDepth 100000 in
theorem fieldsA_plain : ∀ (x cur rest : List Int), (∀ c ∈ x, isBlank c = false) → fieldsA cur (x ++ rest) = fieldsA (cur ++ x) rest
  | [], cur, rest, _ => by simp
  | c :: cs, cur, rest, h => by
    have h1 : isBlank c = false := h c (by simp)
    have ih := fieldsA_plain cs (cur ++ [c]) rest (fun d hd => h d (by simp [hd]))
    rw [List.cons_append, fieldsA, h1, ih, List.append_assoc]
    rfl
set_option maxRecDepth 100000 in
theorem fields_blank (c : Int) (h : isBlank c = true) (rest : List Int) : fields (c :: rest) = fields rest := by
  simp [fields, fieldsA, h]
set_option maxRecDepth 100000 in
theorem fields_blanks : ∀ (z rest : List Int), (∀ c ∈ z, isBlank c = true) → fields (z ++ rest) = fields rest
  | [], rest, _ => rfl
  | c :: cs, rest, h => by
    rw [List.cons_append, fields_blank c (h c (by simp)), fields_blanks cs rest (fun d hd => h d (by simp [hd]))]
set_option maxRecDepth 100000 in
theorem fields_one (z x rest : List Int) (hz : ∀ c ∈ z, isBlank c = true) (hx : ∀ c ∈ x, isBlank c = false) (hn : x ≠ []) (d : Int) (hd : isBlank d = true) :
    fields (z ++ x ++ d :: rest) = x :: fields rest := by
  rw [List.append_assoc, fields_blanks z _ hz]
  unfold fields
  rw [fieldsA_plain x [] _ hx]
  simp [fieldsA, hd, hn]

set_option maxRecDepth 100000 in
theorem fieldsA_no : ∀ (b cur : List Int), (∀ c ∈ cur, isBlank c = false) → ∀ x ∈ fieldsA cur b, x ≠ [] ∧ ∀ c ∈ x, isBlank c = false
  | [], cur, h, x, hx => by
    unfold fieldsA at hx
    split at hx
    · simp at hx
    · rename_i hne; simp only [List.mem_singleton] at hx; subst hx; exact ⟨hne, h⟩
  | c :: cs, cur, h, x, hx => by
    unfold fieldsA at hx
    split at hx
    · split at hx
      · exact fieldsA_no cs [] (by simp) x hx
      · rename_i hne
        rcases List.mem_cons.1 hx with rfl | hx
        · exact ⟨hne, h⟩
        · exact fieldsA_no cs [] (by simp) x hx
    · rename_i hc
      refine fieldsA_no cs (cur ++ [c]) (fun d hd => ?_) x hx
      rcases List.mem_append.1 hd with hd | hd
      · exact h d hd
      · simp only [List.mem_singleton] at hd; subst hd; simpa using hc
set_option maxRecDepth 100000 in
theorem fields_no (b : List Int) : ∀ x ∈ fields b, x ≠ [] ∧ ∀ c ∈ x, isBlank c = false := fieldsA_no b [] (by simp)

/-- the other blank -/
def turn (c : Int) : Int := if c == 9 || c == 32 then 41 - c else c
set_option maxRecDepth 100000 in
theorem turn_blank (c : Int) : isBlank (turn c) = isBlank c := by
  unfold turn isBlank
  by_cases h1 : c = 9
  · subst h1; rfl
  · by_cases h2 : c = 32
    · subst h2; rfl
    · simp [h1, h2]
set_option maxRecDepth 100000 in
theorem turn_plain {c : Int} (h : isBlank c = false) : turn c = c := by
  unfold isBlank at h
  unfold turn
  simp only [Bool.or_eq_false_iff] at h
  simp [h.1, h.2]
set_option maxRecDepth 100000 in
theorem fieldsA_turn : ∀ (b cur : List Int), fieldsA cur (b.map turn) = fieldsA cur b
  | [], cur => rfl
  | c :: cs, cur => by
    have ih1 := fieldsA_turn cs []
    have ih2 := fieldsA_turn cs (cur ++ [c])
    rw [List.map_cons, fieldsA, fieldsA, turn_blank, ih1]
    cases h : isBlank c
    · simp [turn_plain h, ih2]
    · simp
set_option maxRecDepth 100000 in
theorem fields_turn (b : List Int) : fields (b.map turn) = fields b := fieldsA_turn b []

set_option maxRecDepth 100000 in
/-- what a loop over the places keeps: the piece begun is what stands from 'from' on -/
theorem splitA_at {b : List Int} {f i : Nat} (hf : f ≤ i) (hi : i < b.length) : splitA ((b.take i).drop f) (b.drop i) =
    if b.getD i 0 = 10 then (b.take i).drop f :: splitA ((b.take (i + 1)).drop (i + 1)) (b.drop (i + 1)) else splitA ((b.take (i + 1)).drop f) (b.drop (i + 1)) := by
  rw [List.drop_eq_getElem_cons hi, splitA]
  have e : b.getD i 0 = b[i] := by simp [hi]
  rw [e]
  by_cases h : b[i] = 10
  · rw [if_pos h, if_pos h, show (b.take (i + 1)).drop (i + 1) = [] from List.drop_eq_nil_of_le (by simp; omega)]
  · rw [if_neg h, if_neg h, List.take_succ_eq_append_getElem hi, List.drop_append_of_le_length (by simp; omega)]
set_option maxRecDepth 100000 in
theorem fieldsA_at {b : List Int} {f i : Nat} (hf : f ≤ i) (hi : i < b.length) : fieldsA ((b.take i).drop f) (b.drop i) =
    if isBlank (b.getD i 0) then (if f < i then (b.take i).drop f :: fieldsA ((b.take (i + 1)).drop (i + 1)) (b.drop (i + 1)) else fieldsA ((b.take (i + 1)).drop (i + 1)) (b.drop (i + 1)))
      else fieldsA ((b.take (i + 1)).drop f) (b.drop (i + 1)) := by
  rw [List.drop_eq_getElem_cons hi, fieldsA]
  have e : b.getD i 0 = b[i] := by simp [hi]
  rw [e]
  have e0 : (b.take (i + 1)).drop (i + 1) = [] := List.drop_eq_nil_of_le (by simp; omega)
  have e1 : (b.take i).drop f = [] ↔ ¬ f < i := by
    rw [List.drop_eq_nil_iff]; simp; omega
  by_cases h : isBlank b[i] = true
  · rw [if_pos h, if_pos h, e0]
    by_cases hfi : f < i
    · rw [if_pos hfi, if_neg (fun h' => (e1.1 h') hfi)]
    · rw [if_neg hfi, if_pos (e1.2 hfi)]
  · rw [if_neg h, if_neg h, List.take_succ_eq_append_getElem hi, List.drop_append_of_le_length (by simp; omega)]

end Line
end Go.Proofs.Ytflikfnehpaohaa
