/- Word lists, in plain lists and numbers: nothing of the program. -/
import Derived.Test.YtflikfnehpaohaaUtfMath
import Derived.Test.YtflikfnehpaohaaLineMath
import Derived.Test.YtflikfnehpaohaaOrderMath
namespace Go.Proofs.Ytflikfnehpaohaa
namespace Wl

/-- a number that may stand in a word -/
def may (x : Int) : Bool := Utf.good x && !decide (x = 9) && !decide (x = 10) && !decide (x = 32)
def fit (w : List Int) : Bool := decide (1 ≤ w.length) && decide (w.length ≤ 20) && w.all may && !decide (w.getD 0 0 = 35)

open Classical in
/-- the signs that bytes are -/
noncomputable def signs (zs : List Int) : Option (List Int) := if h : ∃ l, Utf.IsRead zs (some l) then some h.choose else none
set_option maxRecDepth 100000 in
theorem signs_is (zs : List Int) : Utf.IsRead zs (signs zs) := by
  unfold signs
  split
  · rename_i h; exact h.choose_spec
  · rename_i h
    intro l hg hp
    exact h ⟨l, hg, hp⟩
set_option maxRecDepth 100000 in
theorem signs_of {zs : List Int} {x : Option (List Int)} (h : Utf.IsRead zs x) : signs zs = x := (signs_is zs).one h
set_option maxRecDepth 100000 in
theorem signs_put {l : List Int} (h : Utf.allGood l = true) : signs (Utf.put l) = some l := signs_of (x := some l) ⟨h, rfl⟩
set_option maxRecDepth 100000 in
theorem signs_some {zs l : List Int} (h : signs zs = some l) : Utf.allGood l = true ∧ Utf.put l = zs := by
  have := signs_is zs; rw [h] at this; exact this

/-- what a field says: its word, or why it says none -/
noncomputable def ofField (f : List Int) : List Int × Int := match signs f with
  | none => ([], 10)
  | some w => if w.length ≤ 20 then (w, 0) else ([], 90)
/-- what a line says that is not bare -/
noncomputable def word (l : List Int) : List Int × Int :=
  if (Line.fields l).length = 1 then ofField ((Line.fields l).getD 0 []) else ([], 71)

set_option maxRecDepth 100000 in
theorem ofField_some {f w : List Int} (h : signs f = some w) (hl : w.length ≤ 20) : ofField f = (w, 0) := by
  unfold ofField; rw [h]; simp [hl]
set_option maxRecDepth 100000 in
theorem ofField_long {f w : List Int} (h : signs f = some w) (hl : ¬ w.length ≤ 20) : ofField f = ([], 90) := by
  unfold ofField; rw [h]; simp [hl]
set_option maxRecDepth 100000 in
theorem ofField_none {f : List Int} (h : signs f = none) : ofField f = ([], 10) := by
  unfold ofField; rw [h]
set_option maxRecDepth 100000 in
theorem ofField_ok {f : List Int} (h : (ofField f).2 = 0) : signs f = some (ofField f).1 ∧ (ofField f).1.length ≤ 20 := by
  unfold ofField at h ⊢
  cases hs : signs f with
  | none => rw [hs] at h; simp at h
  | some w =>
    rw [hs] at h
    simp only at h ⊢
    by_cases hl : w.length ≤ 20
    · simp [hl]
    · rw [if_neg hl] at h; simp at h
set_option maxRecDepth 100000 in
theorem ofField_err (f : List Int) : (ofField f).2 = 0 ∨ ((ofField f).1 = [] ∧ ((ofField f).2 = 10 ∨ (ofField f).2 = 90)) := by
  unfold ofField
  cases signs f with
  | none => simp
  | some w => by_cases hl : w.length ≤ 20 <;> simp [hl]
set_option maxRecDepth 100000 in
theorem word_err (l : List Int) : (word l).2 = 0 ∨ ((word l).1 = [] ∧ ((word l).2 = 10 ∨ (word l).2 = 90 ∨ (word l).2 = 71)) := by
  unfold word
  split
  · rcases ofField_err ((Line.fields l).getD 0 []) with h | ⟨h, h' | h'⟩
    · exact .inl h
    · exact .inr ⟨h, .inl h'⟩
    · exact .inr ⟨h, .inr (.inl h')⟩
  · simp

/-- what a list says: its words, the line that is wrong, the error -/
structure Got where
  ws : List (List Int)
  at_ : Int
  e : Int

noncomputable def readA (i : Nat) (o : List (List Int)) : List (List Int) → Got
  | [] => ⟨o, -1, 0⟩
  | l :: ls =>
    if Line.bare l = true then readA (i + 1) o ls
    else if (word l).2 ≠ 0 then ⟨[], (i : Int), (word l).2⟩
    else if 300 < (ins o (word l).1).length then ⟨[], (i : Int), 81⟩
    else readA (i + 1) (ins o (word l).1) ls
noncomputable def read (b : List Int) : Got := readA 0 [] (Line.split b)
set_option maxRecDepth 100000 in
theorem readA_cons (i : Nat) (o : List (List Int)) (l : List Int) (ls : List (List Int)) : readA i o (l :: ls) =
    if Line.bare l = true then readA (i + 1) o ls
    else if (word l).2 ≠ 0 then ⟨[], (i : Int), (word l).2⟩
    else if 300 < (ins o (word l).1).length then ⟨[], (i : Int), 81⟩
    else readA (i + 1) (ins o (word l).1) ls := rfl

/-- the words of lines -/
noncomputable def said (ls : List (List Int)) : List (List Int) := (ls.filter fun l => !Line.bare l).map fun l => (word l).1
set_option maxRecDepth 100000 in
theorem said_app (a b : List (List Int)) : said (a ++ b) = said a ++ said b := by simp [said]
set_option maxRecDepth 100000 in
theorem said_bare {l : List Int} {ls : List (List Int)} (h : Line.bare l = true) : said (l :: ls) = said ls := by simp [said, h]
set_option maxRecDepth 100000 in
theorem said_not {l : List Int} {ls : List (List Int)} (h : Line.bare l = false) : said (l :: ls) = (word l).1 :: said ls := by simp [said, h]
/-- each says a word -/
def Ok (ls : List (List Int)) : Prop := ∀ l ∈ ls, Line.bare l = false → (word l).2 = 0

set_option maxRecDepth 100000 in
theorem readA_app : ∀ (xs ys : List (List Int)) (i : Nat) (o : List (List Int)), readA i o (xs ++ ys) =
    if (readA i o xs).e = 0 then readA (i + xs.length) (readA i o xs).ws ys else readA i o xs
  | [], ys, i, o => by simp [readA]
  | x :: xs, ys, i, o => by
    rw [List.cons_append, readA_cons, readA_cons]
    by_cases h1 : Line.bare x = true
    · rw [if_pos h1, if_pos h1, readA_app xs ys, List.length_cons, show i + 1 + xs.length = i + (xs.length + 1) by omega]
    · rw [if_neg h1, if_neg h1]
      by_cases h2 : (word x).2 ≠ 0
      · rw [if_pos h2, if_pos h2, if_neg h2]
      · rw [if_neg h2, if_neg h2]
        by_cases h3 : 300 < (ins o (word x).1).length
        · rw [if_pos h3, if_pos h3, if_neg (by simp)]
        · rw [if_neg h3, if_neg h3, readA_app xs ys, List.length_cons, show i + 1 + xs.length = i + (xs.length + 1) by omega]

set_option maxRecDepth 100000 in
theorem readA_at : ∀ (ls : List (List Int)) (i : Nat) (o : List (List Int)), ((readA i o ls).e = 0 ∧ (readA i o ls).at_ = -1) ∨
    ((readA i o ls).e ≠ 0 ∧ (readA i o ls).ws = [] ∧ ∃ k, k < ls.length ∧ (readA i o ls).at_ = ((i + k : Nat) : Int) ∧ Line.bare (ls.getD k []) = false)
  | [], i, o => by simp [readA]
  | l :: ls, i, o => by
    have ih1 := readA_at ls (i + 1) o
    have ih2 := readA_at ls (i + 1) (ins o (word l).1)
    unfold readA
    by_cases h1 : Line.bare l = true
    · rw [if_pos h1]
      rcases ih1 with h | ⟨h, h', k, hk, ha, hb⟩
      · exact .inl h
      · exact .inr ⟨h, h', k + 1, by simp; omega, by rw [ha]; congr 1; omega, by simpa using hb⟩
    · rw [if_neg h1]
      by_cases h2 : (word l).2 ≠ 0
      · rw [if_pos h2]
        exact .inr ⟨h2, rfl, 0, by simp, by simp, by simpa using h1⟩
      · rw [if_neg h2]
        by_cases h3 : 300 < (ins o (word l).1).length
        · rw [if_pos h3]
          exact .inr ⟨by simp, rfl, 0, by simp, by simp, by simpa using h1⟩
        · rw [if_neg h3]
          rcases ih2 with h | ⟨h, h', k, hk, ha, hb⟩
          · exact .inl h
          · exact .inr ⟨h, h', k + 1, by simp; omega, by rw [ha]; congr 1; omega, by simpa using hb⟩

set_option maxRecDepth 100000 in
theorem readA_ok : ∀ (ls : List (List Int)) (i : Nat) (o : List (List Int)), Rise o → o.length ≤ 300 → (readA i o ls).e = 0 →
    Ok ls ∧ (readA i o ls).ws = (said ls).foldl ins o ∧ Rise (readA i o ls).ws ∧ (readA i o ls).ws.length ≤ 300
  | [], i, o, hr, hl, _ => ⟨by simp [Ok], by simp [readA, said], hr, hl⟩
  | l :: ls, i, o, hr, hl, h => by
    unfold readA at h ⊢
    by_cases h1 : Line.bare l = true
    · rw [if_pos h1] at h ⊢
      obtain ⟨g1, g2, g3⟩ := readA_ok ls (i + 1) o hr hl h
      refine ⟨fun x hx hb => ?_, by rw [g2, said_bare h1], g3⟩
      rcases List.mem_cons.1 hx with rfl | hx
      · rw [h1] at hb; cases hb
      · exact g1 x hx hb
    · rw [if_neg h1] at h ⊢
      by_cases h2 : (word l).2 ≠ 0
      · rw [if_pos h2] at h; exact absurd h h2
      · rw [if_neg h2] at h ⊢
        by_cases h3 : 300 < (ins o (word l).1).length
        · rw [if_pos h3] at h; simp at h
        · rw [if_neg h3] at h ⊢
          obtain ⟨g1, g2, g3⟩ := readA_ok ls (i + 1) _ (rise_ins hr) (by omega) h
          refine ⟨fun x hx hb => ?_, by rw [g2, said_not (by simpa using h1)]; rfl, g3⟩
          rcases List.mem_cons.1 hx with rfl | hx
          · simpa using h2
          · exact g1 x hx hb

set_option maxRecDepth 100000 in
theorem ins_more (o : List (List Int)) (w : List Int) : o.length ≤ (ins o w).length := by
  unfold ins
  split
  · exact Nat.le_refl _
  · have := cnt_le o w
    simp; omega
set_option maxRecDepth 100000 in
theorem foldl_more : ∀ (l o : List (List Int)), o.length ≤ (l.foldl ins o).length
  | [], o => Nat.le_refl _
  | w :: l, o => Nat.le_trans (ins_more o w) (foldl_more l (ins o w))

set_option maxRecDepth 100000 in
/-- each line says a word: then these are read, or are too many -/
theorem readA_all : ∀ (ls : List (List Int)) (i : Nat) (o : List (List Int)), Ok ls →
    (((said ls).foldl ins o).length ≤ 300 ∧ readA i o ls = ⟨(said ls).foldl ins o, -1, 0⟩) ∨ (300 < ((said ls).foldl ins o).length ∧ (o.length ≤ 300 → (readA i o ls).e = 81))
  | [], i, o, _ => by
    rcases Nat.lt_or_ge 300 o.length with h | h
    · exact .inr ⟨by simpa [said] using h, fun h' => by omega⟩
    · exact .inl ⟨by simpa [said] using h, by simp [readA, said]⟩
  | l :: ls, i, o, hok => by
    have hok' : Ok ls := fun x hx => hok x (by simp [hx])
    unfold readA
    by_cases h1 : Line.bare l = true
    · rw [if_pos h1, said_bare h1]; exact readA_all ls (i + 1) o hok'
    · have h2 := hok l (by simp) (by simpa using h1)
      rw [if_neg h1, if_neg (by simp [h2]), said_not (by simpa using h1), List.foldl_cons]
      by_cases h3 : 300 < (ins o (word l).1).length
      · rw [if_pos h3]
        exact .inr ⟨Nat.lt_of_lt_of_le h3 (foldl_more _ _), fun _ => rfl⟩
      · rw [if_neg h3]
        rcases readA_all ls (i + 1) (ins o (word l).1) hok' with h | h
        · exact .inl h
        · exact .inr ⟨h.1, fun _ => h.2 (by omega)⟩

/-! ### fields, and words that fit -/
set_option maxRecDepth 100000 in
theorem enc_plain {n : Int} (hg : Utf.good n = true) {d : Int} (hd : d < 128) (h : n ≠ d) : ∀ b ∈ Utf.enc n, b ≠ d := by
  intro b hb
  rw [Utf.good_iff] at hg
  unfold Utf.enc at hb
  split at hb
  · simp at hb; omega
  · split at hb
    · simp at hb; omega
    · split at hb <;> (simp at hb; omega)
set_option maxRecDepth 100000 in
theorem enc_low {n : Int} (hn : n < 128) : Utf.enc n = [n] := by unfold Utf.enc; rw [if_pos hn]
set_option maxRecDepth 100000 in
/-- a sign below 128 stands in a word just if it stands in its bytes -/
theorem put_has {w : List Int} (hg : Utf.allGood w = true) {d : Int} (hd : d < 128) : d ∈ Utf.put w ↔ d ∈ w := by
  unfold Utf.put
  rw [List.mem_flatMap]
  constructor
  · rintro ⟨n, hn, hb⟩
    rcases Classical.em (n = d) with e | e
    · rw [← e]; exact hn
    · exact absurd rfl (enc_plain (List.all_eq_true.1 hg n hn) hd e d hb)
  · intro h
    exact ⟨d, h, by rw [enc_low hd]; simp⟩
set_option maxRecDepth 100000 in
theorem put_head {n : Int} {l : List Int} (hg : Utf.good n = true) : ((Utf.put (n :: l)).getD 0 0 = 35) ↔ n = 35 := by
  rw [Utf.put_cons]
  rcases Classical.em (n = 35) with e | e
  · subst e; simp [enc_low (show (35 : Int) < 128 by decide)]
  · have h := enc_plain hg (show (35 : Int) < 128 by decide) e
    have hne := Utf.enc_ne n
    cases he : Utf.enc n with
    | nil => exact absurd he hne
    | cons b bs =>
      rw [he] at h
      have := h b (by simp)
      simp [e, this]

set_option maxRecDepth 100000 in
theorem fit_parts {w : List Int} (h : fit w = true) : w ≠ [] ∧ w.length ≤ 20 ∧ Utf.allGood w = true ∧ (∀ x ∈ w, x ≠ 9 ∧ x ≠ 10 ∧ x ≠ 32) ∧ w.getD 0 0 ≠ 35 := by
  unfold fit at h
  simp only [Bool.and_eq_true, decide_eq_true_eq, Bool.not_eq_true', decide_eq_false_iff_not] at h
  obtain ⟨⟨⟨h1, h2⟩, h3⟩, h4⟩ := h
  have h5 : ∀ x ∈ w, Utf.good x = true ∧ x ≠ 9 ∧ x ≠ 10 ∧ x ≠ 32 := fun x hx => by
    have := List.all_eq_true.1 h3 x hx
    unfold may at this
    simp only [Bool.and_eq_true, Bool.not_eq_true', decide_eq_false_iff_not] at this
    exact ⟨this.1.1.1, this.1.1.2, this.1.2, this.2⟩
  refine ⟨by rintro rfl; simp at h1, h2, ?_, fun x hx => (h5 x hx).2, h4⟩
  unfold Utf.allGood
  exact List.all_eq_true.2 fun x hx => (h5 x hx).1
set_option maxRecDepth 100000 in
theorem fit_of {w : List Int} (h1 : w ≠ []) (h2 : w.length ≤ 20) (h3 : Utf.allGood w = true) (h4 : ∀ x ∈ w, x ≠ 9 ∧ x ≠ 10 ∧ x ≠ 32) (h5 : w.getD 0 0 ≠ 35) : fit w = true := by
  unfold fit
  simp only [Bool.and_eq_true, decide_eq_true_eq, Bool.not_eq_true', decide_eq_false_iff_not]
  refine ⟨⟨⟨by have := List.length_pos_iff.2 h1; omega, h2⟩, ?_⟩, h5⟩
  refine List.all_eq_true.2 fun x hx => ?_
  have hg := List.all_eq_true.1 h3 x hx
  obtain ⟨a, b, c⟩ := h4 x hx
  unfold may
  simp [hg, a, b, c]

set_option maxRecDepth 100000 in
theorem fields_self {x : List Int} (hx : ∀ c ∈ x, Line.isBlank c = false) (hn : x ≠ []) : Line.fields x = [x] := by
  have := Line.fieldsA_plain x [] [] hx
  unfold Line.fields
  rw [List.append_nil] at this
  rw [this]
  simp [Line.fieldsA, hn]

set_option maxRecDepth 100000 in
theorem put_line {w : List Int} (h : fit w = true) : Line.fields (Utf.put w) = [Utf.put w] ∧ Line.bare (Utf.put w) = false ∧ word (Utf.put w) = (w, 0) ∧ ∀ c ∈ Utf.put w, c ≠ 10 := by
  obtain ⟨h1, h2, h3, h4, h5⟩ := fit_parts h
  have hno : ∀ d : Int, d < 128 → d ∉ w → ∀ c ∈ Utf.put w, c ≠ d := fun d hd hw c hc e => hw ((put_has h3 hd).1 (e ▸ hc))
  have h9 := hno 9 (by decide) (fun hx => (h4 _ hx).1 rfl)
  have h10 := hno 10 (by decide) (fun hx => (h4 _ hx).2.1 rfl)
  have h32 := hno 32 (by decide) (fun hx => (h4 _ hx).2.2 rfl)
  have hne : Utf.put w ≠ [] := by
    cases w with
    | nil => exact absurd rfl h1
    | cons n l => exact Utf.put_ne n l
  have hf := fields_self (x := Utf.put w) (fun c hc => by unfold Line.isBlank; simp [h9 c hc, h32 c hc]) hne
  refine ⟨hf, ?_, ?_, h10⟩
  · unfold Line.bare
    rw [hf]
    cases w with
    | nil => exact absurd rfl h1
    | cons n l =>
      rw [Utf.allGood_cons, Bool.and_eq_true] at h3
      simp only [List.getD_cons_zero] at h5
      show ((Utf.put (n :: l)).getD 0 0 == 35) = false
      rw [beq_eq_false_iff_ne]
      exact fun e => h5 ((put_head h3.1).1 e)
  · unfold word
    rw [hf, if_pos (by rfl)]
    exact ofField_some (signs_put h3) h2

set_option maxRecDepth 100000 in
theorem fieldsA_sub : ∀ (b cur : List Int), ∀ x ∈ Line.fieldsA cur b, ∀ c ∈ x, c ∈ cur ∨ c ∈ b
  | [], cur, x, hx, c, hc => by
    unfold Line.fieldsA at hx
    split at hx
    · simp at hx
    · simp only [List.mem_singleton] at hx; subst hx; exact .inl hc
  | d :: ds, cur, x, hx, c, hc => by
    unfold Line.fieldsA at hx
    have step : c ∈ ([] : List Int) ∨ c ∈ ds → c ∈ cur ∨ c ∈ d :: ds := by
      rintro (h | h)
      · simp at h
      · exact .inr (by simp [h])
    split at hx
    · split at hx
      · exact step (fieldsA_sub ds [] x hx c hc)
      · rcases List.mem_cons.1 hx with rfl | hx
        · exact .inl hc
        · exact step (fieldsA_sub ds [] x hx c hc)
    · rcases fieldsA_sub ds (cur ++ [d]) x hx c hc with h | h
      · rcases List.mem_append.1 h with h | h
        · exact .inl h
        · simp only [List.mem_singleton] at h; exact .inr (by simp [h])
      · exact .inr (by simp [h])
set_option maxRecDepth 100000 in
theorem fields_sub (b : List Int) : ∀ x ∈ Line.fields b, ∀ c ∈ x, c ∈ b := fun x hx c hc => by
  rcases fieldsA_sub b [] x hx c hc with h | h
  · simp at h
  · exact h

set_option maxRecDepth 100000 in
theorem fieldsA_le : ∀ (b cur : List Int), ∀ x ∈ Line.fieldsA cur b, x.length ≤ cur.length + b.length
  | [], cur, x, hx => by
    unfold Line.fieldsA at hx
    split at hx
    · simp at hx
    · simp only [List.mem_singleton] at hx; subst hx; simp
  | d :: ds, cur, x, hx => by
    unfold Line.fieldsA at hx
    split at hx
    · split at hx
      · have := fieldsA_le ds [] x hx; simp at this ⊢; omega
      · rcases List.mem_cons.1 hx with rfl | hx
        · simp
        · have := fieldsA_le ds [] x hx; simp at this ⊢; omega
    · have := fieldsA_le ds (cur ++ [d]) x hx; simp at this ⊢; omega
set_option maxRecDepth 100000 in
theorem fields_le (b : List Int) : ∀ x ∈ Line.fields b, x.length ≤ b.length := fun x hx => by
  have := fieldsA_le b [] x hx; simpa using this

set_option maxRecDepth 100000 in
/-- a word that a line says fits -/
theorem word_fit {l : List Int} (hb : Line.bare l = false) (he : (word l).2 = 0) (h10 : ∀ c ∈ l, c ≠ 10) : fit (word l).1 = true ∧ (Line.fields l).length = 1 ∧ signs ((Line.fields l).getD 0 []) = some (word l).1 := by
  unfold word at he ⊢
  by_cases h1 : (Line.fields l).length = 1
  · rw [if_pos h1] at he ⊢
    obtain ⟨hs, hl⟩ := ofField_ok he
    obtain ⟨f, hf⟩ : ∃ f, Line.fields l = [f] := List.length_eq_one_iff.1 h1
    have hno := Line.fields_no l f (by rw [hf]; simp)
    unfold Line.bare at hb
    rw [hf] at hb hs hl ⊢
    simp only [List.getD_cons_zero, beq_eq_false_iff_ne, ne_eq] at hb hs hl ⊢
    refine ⟨?_, rfl, hs⟩
    obtain ⟨w, hw⟩ : ∃ w, w = (ofField f).1 := ⟨_, rfl⟩
    rw [← hw] at hs hl ⊢
    obtain ⟨hg, hp⟩ := signs_some hs
    have hsub : ∀ c ∈ f, c ∈ l := fun c hc => fields_sub l f (by rw [hf]; simp) c hc
    refine fit_of ?_ hl hg (fun x hx => ?_) ?_
    · rintro rfl; rw [Utf.put_nil] at hp; exact hno.1 hp.symm
    · have low : ∀ d : Int, d < 128 → x = d → d ∈ f := fun d hd e => by rw [← hp]; exact (put_has hg hd).2 (e ▸ hx)
      refine ⟨fun e => ?_, fun e => ?_, fun e => ?_⟩
      · have := hno.2 9 (low 9 (by decide) e); simp [Line.isBlank] at this
      · exact h10 10 (hsub 10 (low 10 (by decide) e)) rfl
      · have := hno.2 32 (low 32 (by decide) e); simp [Line.isBlank] at this
    · cases w with
      | nil => simp
      | cons n r =>
        rw [Utf.allGood_cons, Bool.and_eq_true] at hg
        intro e
        rw [← hp] at hb
        exact hb ((put_head hg.1).2 e)
  · rw [if_neg h1] at he; simp at he
/-! ### lists as they are written -/
def rises : List (List Int) → Bool
  | x :: y :: l => lessL x y && rises (y :: l)
  | _ => true
set_option maxRecDepth 100000 in
theorem rises_iff : ∀ {l : List (List Int)}, rises l = true ↔ Rise l
  | [] => by simp [rises, Rise]
  | [x] => by simp [rises, Rise]
  | x :: y :: l => by
    have ih := rises_iff (l := y :: l)
    unfold rises
    rw [Bool.and_eq_true, ih]
    constructor
    · rintro ⟨h1, h2⟩
      refine List.pairwise_cons.2 ⟨fun z hz => ?_, h2⟩
      rcases List.mem_cons.1 hz with rfl | hz
      · exact h1
      · exact less_trans h1 ((List.pairwise_cons.1 h2).1 z hz)
    · intro h
      exact ⟨(List.pairwise_cons.1 h).1 y (by simp), (List.pairwise_cons.1 h).2⟩
def write (l : List (List Int)) : List Int × Int :=
  if 300 < l.length then ([], 81) else if l.all fit = true ∧ rises l = true then (l.flatMap fun w => Utf.put w ++ [10], 0) else ([], 90)

set_option maxRecDepth 100000 in
theorem said_put : ∀ {l : List (List Int)}, (∀ w ∈ l, fit w = true) → said (l.map Utf.put) = l ∧ Ok (l.map Utf.put)
  | [], _ => ⟨rfl, by simp [Ok]⟩
  | w :: l, h => by
    obtain ⟨i1, i2⟩ := said_put (l := l) fun x hx => h x (by simp [hx])
    obtain ⟨-, hb, hw, -⟩ := put_line (h w (by simp))
    rw [List.map_cons, said_not hb, hw, i1]
    refine ⟨rfl, fun x hx hbx => ?_⟩
    rcases List.mem_cons.1 hx with rfl | hx
    · rw [hw]
    · exact i2 x hx hbx
set_option maxRecDepth 100000 in
theorem split_write {l : List (List Int)} (h : ∀ w ∈ l, fit w = true) : Line.split (l.flatMap fun w => Utf.put w ++ [10]) = l.map Utf.put := by
  have := Line.split_back (l.map Utf.put) (fun x hx c hc => by
    obtain ⟨w, hw, rfl⟩ := List.mem_map.1 hx
    exact (put_line (h w hw)).2.2.2 c hc)
  rw [List.flatMap_map] at this
  exact this
set_option maxRecDepth 100000 in
theorem write_err (l : List (List Int)) : ((write l).2 = 0 ∧ l.length ≤ 300 ∧ (∀ w ∈ l, fit w = true) ∧ Rise l ∧ (write l).1 = l.flatMap fun w => Utf.put w ++ [10]) ∨ ((write l).2 ≠ 0 ∧ (write l).1 = []) := by
  unfold write
  by_cases h1 : 300 < l.length
  · rw [if_pos h1]; exact .inr ⟨by decide, rfl⟩
  · rw [if_neg h1]
    by_cases h2 : l.all fit = true ∧ rises l = true
    · rw [if_pos h2]; exact .inl ⟨rfl, by omega, List.all_eq_true.1 h2.1, rises_iff.1 h2.2, rfl⟩
    · rw [if_neg h2]; exact .inr ⟨by decide, rfl⟩
set_option maxRecDepth 100000 in
/-- words are read as they were written -/
theorem read_write {l : List (List Int)} (h : (write l).2 = 0) : read (write l).1 = ⟨l, -1, 0⟩ := by
  rcases write_err l with ⟨-, h1, h2, h3, h4⟩ | ⟨h', -⟩
  · rw [h4]
    unfold read
    rw [split_write h2]
    obtain ⟨hs, hok⟩ := said_put h2
    have hsl : (said (l.map Utf.put)).foldl ins [] = l := by rw [hs]; exact srt_rise h3
    rcases readA_all (l.map Utf.put) 0 [] hok with ⟨-, hr⟩ | ⟨hr, -⟩
    · rw [hr, hsl]
    · rw [hsl] at hr; omega
  · exact absurd h h'
set_option maxRecDepth 100000 in
/-- what is read fits, and rises -/
theorem read_ok {b : List Int} (h : (read b).e = 0) : Ok (Line.split b) ∧ (read b).ws = srt (said (Line.split b)) ∧ Rise (read b).ws ∧ (read b).ws.length ≤ 300 ∧ (read b).at_ = -1 ∧ ∀ w ∈ (read b).ws, fit w = true := by
  have hr := readA_ok (Line.split b) 0 [] List.Pairwise.nil (by simp) h
  obtain ⟨h1, h2, h3, h4⟩ := hr
  refine ⟨h1, h2, h3, h4, ?_, fun w hw => ?_⟩
  · rcases readA_at (Line.split b) 0 [] with h' | h'
    · exact h'.2
    · exact absurd h h'.1
  · have hw' : w ∈ srt (said (Line.split b)) := by
      have e : (read b).ws = srt (said (Line.split b)) := h2
      rw [e] at hw; exact hw
    rw [mem_srt] at hw'
    unfold said at hw'
    obtain ⟨l, hl, rfl⟩ := List.mem_map.1 hw'
    obtain ⟨hl, hb⟩ := List.mem_filter.1 hl
    have hb' : Line.bare l = false := by simpa using hb
    exact (word_fit hb' (h1 l hl hb') (Line.split_no b l hl)).1
set_option maxRecDepth 100000 in
theorem write_read {b : List Int} (h : (read b).e = 0) : (write (read b).ws).2 = 0 := by
  obtain ⟨-, -, h3, h4, -, h6⟩ := read_ok h
  unfold write
  rw [if_neg (by omega), if_pos ⟨List.all_eq_true.2 h6, rises_iff.2 h3⟩]
set_option maxRecDepth 100000 in
theorem read_bad {b : List Int} (h : (read b).e ≠ 0) : (read b).ws = [] ∧ ∃ k, k < (Line.split b).length ∧ (read b).at_ = (k : Int) ∧ Line.bare ((Line.split b).getD k []) = false := by
  rcases readA_at (Line.split b) 0 [] with h' | ⟨-, h1, k, hk, ha, hb⟩
  · exact absurd h'.1 h
  · exact ⟨h1, k, hk, by rw [show (read b).at_ = _ from ha]; simp, hb⟩

end Wl
end Go.Proofs.Ytflikfnehpaohaa
