/- The parts between some bytes, and what lines and fields are of them. -/
import Derived.Test.YtflikfnehpaohaaLineIterA
namespace Go.Proofs.Ytflikfnehpaohaa

set_option maxRecDepth 100000 in
theorem fieldsA_parts : ∀ (b cur : List Int), Line.fieldsA cur b = (partsA Line.isBlank cur b).filter (fun z => z ≠ [])
  | [], cur => by
    unfold Line.fieldsA partsA
    by_cases h : cur = [] <;> simp [h]
  | c :: cs, cur => by
    have ih1 := fieldsA_parts cs []
    have ih2 := fieldsA_parts cs (cur ++ [c])
    unfold Line.fieldsA partsA
    cases Line.isBlank c
    · simpa using ih2
    · by_cases h : cur = [] <;> simp [h, ih1]
set_option maxRecDepth 100000 in
theorem fields_parts (b : List Int) : (partsA Line.isBlank [] b).filter (fun z => z ≠ []) = Line.fields b := (fieldsA_parts b []).symm

/-- the last part only, if it is not empty -/
def trim (l : List (List Int)) : List (List Int) := if l.getLast? = some [] then l.dropLast else l
set_option maxRecDepth 100000 in
theorem partsA_ne (p : Int → Bool) : ∀ (b cur : List Int), partsA p cur b ≠ []
  | [], cur => by simp [partsA]
  | c :: cs, cur => by
    unfold partsA
    split
    · simp
    · exact partsA_ne p cs _
set_option maxRecDepth 100000 in
theorem trim_cons (x : List Int) {l : List (List Int)} (h : l ≠ []) : trim (x :: l) = x :: trim l := by
  cases l with
  | nil => exact absurd rfl h
  | cons y ys =>
    unfold trim
    rw [List.getLast?_cons_cons]
    split <;> simp
set_option maxRecDepth 100000 in
theorem splitA_parts : ∀ (b cur : List Int), Line.splitA cur b = trim (partsA (fun c => c == 10) cur b)
  | [], cur => by
    unfold Line.splitA partsA trim
    by_cases h : cur = [] <;> simp [h]
  | c :: cs, cur => by
    have ih1 := splitA_parts cs []
    have ih2 := splitA_parts cs (cur ++ [c])
    unfold Line.splitA partsA
    by_cases h : c = 10
    · simp only [h, if_true, beq_self_eq_true]
      rw [trim_cons _ (partsA_ne _ _ _), ih1]
    · have hb : (c == 10) = false := by simpa using h
      simp only [h, if_false, hb, Bool.false_eq_true]
      exact ih2
set_option maxRecDepth 100000 in
theorem split_parts (b : List Int) : trim (partsA (fun c => c == 10) [] b) = Line.split b := (splitA_parts b []).symm

end Go.Proofs.Ytflikfnehpaohaa
