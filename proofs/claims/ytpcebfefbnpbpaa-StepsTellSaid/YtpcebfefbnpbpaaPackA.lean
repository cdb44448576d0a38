import Derived.Below
import Derived.WalkKit
set_option linter.all false
set_option maxRecDepth 100000
set_option maxHeartbeats 12800000
namespace Go.Proofs.Ytpcebfefbnpbpaa
namespace Utf

/-- a number that is a sign -/
def good (n : Int) : Bool := decide (0 ≤ n) && decide (n ≤ 1114111) && (decide (n < 55296) || decide (57343 < n))
/-- how many bytes a sign has -/
def size (n : Int) : Nat := if n < 128 then 1 else if n < 2048 then 2 else if n < 65536 then 3 else 4
/-- a sign's bytes -/
def enc (n : Int) : List Int :=
  if n < 128 then [n] else if n < 2048 then [192 + n / 64, 128 + n % 64]
  else if n < 65536 then [224 + n / 4096, 128 + n / 64 % 64, 128 + n % 64]
  else [240 + n / 262144, 128 + n / 4096 % 64, 128 + n / 64 % 64, 128 + n % 64]
/-- the bytes of signs -/
def put (l : List Int) : List Int := l.flatMap enc
/-- what the first byte of so many has more than its sign's own bits -/
def mark (k : Int) : Int := if k = 1 then 0 else if k = 2 then 192 else if k = 3 then 224 else 240
/-- how many bytes a sign has that begins with this one; 0: none does -/
def byHead (c : Int) : Nat := if c < 128 then 1 else if c < 192 then 0 else if c < 224 then 2 else if c < 240 then 3 else if c < 248 then 4 else 0
def allGood (l : List Int) : Bool := l.all good

theorem good_iff (n : Int) : good n = true ↔ 0 ≤ n ∧ n ≤ 1114111 ∧ (n < 55296 ∨ 57343 < n) := by
  simp [good, and_assoc]
theorem good_false (n : Int) : good n = false ↔ n < 0 ∨ 1114111 < n ∨ (55296 ≤ n ∧ n ≤ 57343) := by
  rw [Bool.eq_false_iff]; simp only [ne_eq, good_iff]; omega
theorem enc_length (n : Int) : (enc n).length = size n := by
  unfold enc size; split <;> (try split) <;> (try split) <;> rfl
theorem size_pos (n : Int) : 1 ≤ size n := by unfold size; split <;> (try split) <;> (try split) <;> omega
theorem size_le (n : Int) : size n ≤ 4 := by unfold size; split <;> (try split) <;> (try split) <;> omega
theorem enc_ne (n : Int) : enc n ≠ [] := by
  intro h; have := enc_length n; rw [h] at this; have := size_pos n; simp at *; omega
theorem enc_bytes (n : Int) (h : good n = true) : ∀ b ∈ enc n, 0 ≤ b ∧ b ≤ 255 := by
  rw [good_iff] at h
  unfold enc; split
  · intro b hb; simp at hb; omega
  · split
    · intro b hb; simp at hb; omega
    · split
      · intro b hb; simp at hb; omega
      · intro b hb; simp at hb; omega

/-- no sign's bytes are a beginning of another's, and each sign has bytes of its own -/
theorem enc_cancel (m n : Int) (r s : List Int) (hm : good m = true) (hn : good n = true) (h : enc m ++ r = enc n ++ s) : m = n ∧ r = s := by
  rw [good_iff] at hm hn
  unfold enc at h
  split at h
  · split at h
    · simp at h; exact ⟨by omega, h.2⟩
    · split at h
      · simp at h; omega
      · split at h
        · simp at h; omega
        · simp at h; omega
  · split at h
    · split at h
      · simp at h; omega
      · split at h
        · simp at h; exact ⟨by omega, h.2.2⟩
        · split at h
          · simp at h; omega
          · simp at h; omega
    · split at h
      · split at h
        · simp at h; omega
        · split at h
          · simp at h; omega
          · split at h
            · simp at h; exact ⟨by omega, h.2.2.2⟩
            · simp at h; omega
      · split at h
        · simp at h; omega
        · split at h
          · simp at h; omega
          · split at h
            · simp at h; omega
            · simp at h; exact ⟨by omega, h.2.2.2.2⟩

theorem put_nil : put [] = [] := rfl
theorem put_cons (n : Int) (l : List Int) : put (n :: l) = enc n ++ put l := rfl
theorem put_append (a b : List Int) : put (a ++ b) = put a ++ put b := by simp [put]
theorem put_snoc (a : List Int) (n : Int) : put (a ++ [n]) = put a ++ enc n := by simp [put]
theorem allGood_cons (n : Int) (l : List Int) : allGood (n :: l) = (good n && allGood l) := rfl
theorem allGood_append (a b : List Int) : allGood (a ++ b) = (allGood a && allGood b) := by simp [allGood]
theorem put_ne (n : Int) (l : List Int) : put (n :: l) ≠ [] := by
  rw [put_cons]; intro h; exact enc_ne n (List.append_eq_nil_iff.1 h).1
theorem put_length_le (l : List Int) : (put l).length ≤ 4 * l.length := by
  induction l with
  | nil => simp [put]
  | cons n l ih => rw [put_cons, List.length_append, enc_length, List.length_cons]; have := size_le n; omega
theorem put_length_ge (l : List Int) : l.length ≤ (put l).length := by
  induction l with
  | nil => simp
  | cons n l ih => rw [put_cons, List.length_append, enc_length, List.length_cons]; have := size_pos n; omega
theorem put_bytes (l : List Int) (h : allGood l = true) : ∀ b ∈ put l, 0 ≤ b ∧ b ≤ 255 := by
  intro b hb
  obtain ⟨n, hn, hbn⟩ := List.mem_flatMap.1 hb
  exact enc_bytes n (by simpa using (List.all_eq_true.1 h) n hn) b hbn

/-- signs are told by their bytes -/
theorem put_cancel : ∀ (d l : List Int) (rs : List Int), allGood d = true → allGood l = true → put l = put d ++ rs → ∃ l', l = d ++ l' ∧ put l' = rs
  | [], l, rs, _, _, h => ⟨l, rfl, by simpa [put] using h⟩
  | n :: d, [], rs, _, _, h => by
    rw [put_cons] at h
    simp only [put_nil, List.append_assoc] at h
    exact absurd (List.append_eq_nil_iff.1 h.symm).1 (enc_ne n)
  | n :: d, m :: l, rs, hd, hl, h => by
    rw [allGood_cons, Bool.and_eq_true] at hd hl
    rw [put_cons, put_cons, List.append_assoc] at h
    obtain ⟨rfl, h'⟩ := enc_cancel m n _ _ hl.1 hd.1 h
    obtain ⟨l', rfl, h''⟩ := put_cancel d l rs hd.2 hl.2 h'
    exact ⟨l', rfl, h''⟩
theorem put_inj (l d : List Int) (hl : allGood l = true) (hd : allGood d = true) (h : put l = put d) : l = d := by
  obtain ⟨l', rfl, h'⟩ := put_cancel d l [] hd hl (by simpa using h)
  cases l' with
  | nil => simp
  | cons n l' => exact absurd h' (put_ne n l')

/-- what Take tells: a sign whose bytes these begin with, and how many they are; or that there is none -/
def IsTake (zs : List Int) : Option (Int × Nat) → Prop
  | some (n, k) => good n = true ∧ k = size n ∧ ∃ r, zs = enc n ++ r
  | none => ∀ n r, good n = true → zs ≠ enc n ++ r
theorem IsTake.one {zs : List Int} {x y : Option (Int × Nat)} (hx : IsTake zs x) (hy : IsTake zs y) : x = y := by
  cases x with
  | none => cases y with
    | none => rfl
    | some p => obtain ⟨n, k⟩ := p; obtain ⟨g, _, r, e⟩ := hy; exact absurd e (hx n r g)
  | some p => cases y with
    | none => obtain ⟨n, k⟩ := p; obtain ⟨g, _, r, e⟩ := hx; exact absurd e (hy n r g)
    | some q =>
      obtain ⟨n, k⟩ := p; obtain ⟨m, j⟩ := q
      obtain ⟨g, rfl, r, e⟩ := hx; obtain ⟨g', rfl, r', e'⟩ := hy
      obtain ⟨rfl, _⟩ := enc_cancel n m r r' g g' (e.symm.trans e')
      rfl

/-- what Read tells -/
def IsRead (zs : List Int) : Option (List Int) → Prop
  | some l => allGood l = true ∧ put l = zs
  | none => ∀ l, allGood l = true → put l ≠ zs
theorem IsRead.one {zs : List Int} {x y : Option (List Int)} (hx : IsRead zs x) (hy : IsRead zs y) : x = y := by
  cases x with
  | none => cases y with
    | none => rfl
    | some l => exact absurd hy.2 (hx l hy.1)
  | some d => cases y with
    | none => exact absurd hx.2 (hy d hx.1)
    | some l => rw [put_inj d l hx.1 hy.1 (hx.2.trans hy.2.symm)]

/-- one step of reading: what has been read, and the rest -/
theorem read_step {zs d rs : List Int} {n : Int} {k : Nat} (hd : allGood d = true) (hz : zs = put d ++ rs) (ht : IsTake rs (some (n, k))) :
    allGood (d ++ [n]) = true ∧ zs = put (d ++ [n]) ++ rs.drop k := by
  obtain ⟨g, rfl, r, rfl⟩ := ht
  refine ⟨by rw [allGood_append, hd]; simp [allGood, g], ?_⟩
  rw [put_snoc, hz, List.append_assoc, ← enc_length, List.drop_left]
theorem read_stop {zs d rs : List Int} (hd : allGood d = true) (hz : zs = put d ++ rs) (hne : rs ≠ []) (ht : IsTake rs none) : IsRead zs none := by
  intro l hl e
  obtain ⟨l', rfl, h⟩ := put_cancel d l rs hd hl (e.trans hz)
  cases l' with
  | nil => exact hne h.symm
  | cons n l' =>
    rw [allGood_append, Bool.and_eq_true, allGood_cons, Bool.and_eq_true] at hl
    exact ht n (put l') hl.2.1 h.symm
theorem read_end {zs d : List Int} (hd : allGood d = true) (hz : zs = put d ++ []) : IsRead zs (some d) := ⟨hd, by simpa using hz.symm⟩

theorem enc_first (s : Int) (k : Nat) (hk : k = size s) (h0 : 0 ≤ s) (h1 : s ≤ 1114111) :
    (enc s).take 1 = [(mark k + s / 2 ^ (6 * (k - 1)) % 256) % 256] := by
  subst hk
  unfold enc size
  split
  · simp [mark]; omega
  · split
    · simp [mark]; omega
    · split
      · simp [mark]; omega
      · simp [mark]; omega
theorem enc_next (s : Int) (j : Nat) (hj : j + 1 < size s) :
    (enc s).take (size s - j) = (enc s).take (size s - (j + 1)) ++ [128 + s / 2 ^ (6 * j) % 64] := by
  unfold size at hj
  unfold enc size
  split at hj
  · omega
  · rename_i a
    rw [if_neg a, if_neg a]
    split at hj
    · rename_i b
      rw [if_pos b, if_pos b]
      obtain rfl : j = 0 := by omega
      simp
    · rename_i b
      rw [if_neg b, if_neg b]
      split at hj
      · rename_i c
        rw [if_pos c, if_pos c]
        obtain rfl | rfl : j = 0 ∨ j = 1 := by omega
        · simp
        · simp
      · rename_i c
        rw [if_neg c, if_neg c]
        obtain rfl | rfl | rfl : j = 0 ∨ j = 1 ∨ j = 2 := by omega
        · simp
        · simp
        · simp

theorem enc_all (s : Int) : (enc s).take (size s) = enc s := List.take_of_length_le (by rw [enc_length]; exact Nat.le_refl _)

end Utf
section
namespace Line

/-- the lines of what is left, the line begun being cur -/
def splitA (cur : List Int) : List Int → List (List Int)
  | [] => if cur = [] then [] else [cur]
  | c :: cs => if c = 10 then cur :: splitA [] cs else splitA (cur ++ [c]) cs
def split (b : List Int) : List (List Int) := splitA [] b

def isBlank (c : Int) : Bool := c == 32 || c == 9
def fieldsA (cur : List Int) : List Int → List (List Int)
  | [] => if cur = [] then [] else [cur]
  | c :: cs => if isBlank c then (if cur = [] then fieldsA [] cs else cur :: fieldsA [] cs) else fieldsA (cur ++ [c]) cs
def fields (b : List Int) : List (List Int) := fieldsA [] b
def bare (b : List Int) : Bool := match fields b with
  | [] => true
  | f :: _ => f.getD 0 0 == 35

theorem splitA_plain : ∀ (x cur rest : List Int), (∀ c ∈ x, c ≠ 10) → splitA cur (x ++ rest) = splitA (cur ++ x) rest
  | [], cur, rest, _ => by simp
  | c :: cs, cur, rest, h => by
    have h1 : c ≠ 10 := h c (by simp)
    have ih := splitA_plain cs (cur ++ [c]) rest (fun d hd => h d (by simp [hd]))
    rw [List.cons_append, splitA, if_neg h1, ih, List.append_assoc]
    rfl

/-- lines, each with its end behind, are these lines -/
theorem split_back : ∀ (l : List (List Int)), (∀ x ∈ l, ∀ c ∈ x, c ≠ 10) → split (l.flatMap fun x => x ++ [10]) = l
  | [], _ => rfl
  | x :: xs, h => by
    have ih := split_back xs (fun y hy => h y (by simp [hy]))
    unfold split at ih ⊢
    rw [List.flatMap_cons, List.append_assoc, splitA_plain x [] _ (h x (by simp))]
    simp only [List.nil_append, List.singleton_append, splitA, if_true, ih]

theorem splitA_no : ∀ (b cur : List Int), (∀ c ∈ cur, c ≠ 10) → ∀ x ∈ splitA cur b, ∀ c ∈ x, c ≠ 10
  | [], cur, h, x, hx => by
    unfold splitA at hx
    split at hx
    · simp at hx
    · simp only [List.mem_singleton] at hx; subst hx; exact h
  | c :: cs, cur, h, x, hx => by
    unfold splitA at hx
    split at hx
    · rcases List.mem_cons.1 hx with rfl | hx
      · exact h
      · exact splitA_no cs [] (by simp) x hx
    · rename_i hc
      refine splitA_no cs (cur ++ [c]) (fun d hd => ?_) x hx
      rcases List.mem_append.1 hd with hd | hd
      · exact h d hd
      · simp only [List.mem_singleton] at hd; subst hd; exact hc
theorem split_no (b : List Int) : ∀ x ∈ split b, ∀ c ∈ x, c ≠ 10 := splitA_no b [] (by simp)

/-- how long the lines are together, each with its end -/
def total (l : List (List Int)) : Nat := (l.map fun x => x.length + 1).sum
theorem splitA_total : ∀ (b cur : List Int), total (splitA cur b) = cur.length + b.length ∨ total (splitA cur b) = cur.length + b.length + 1
  | [], cur => by
    unfold splitA
    split
    · rename_i h; subst h; exact .inl rfl
    · exact .inr (by simp [total])
  | c :: cs, cur => by
    unfold splitA
    split
    · have := splitA_total cs []
      simp only [total, List.map_cons, List.sum_cons, List.length_cons, List.length_nil] at *
      omega
    · have := splitA_total cs (cur ++ [c])
      simp only [List.length_append, List.length_cons, List.length_nil] at *
      omega
theorem split_total (b : List Int) : total (split b) = b.length ∨ total (split b) = b.length + 1 := by
  have := splitA_total b []
  simpa [split] using this

theorem splitA_end : ∀ (a cur b : List Int), splitA cur (a ++ 10 :: b) = splitA cur (a ++ [10]) ++ split b
  | [], cur, b => by simp [splitA, split]
  | c :: cs, cur, b => by
    have ih1 := splitA_end cs [] b
    have ih2 := splitA_end cs (cur ++ [c]) b
    simp only [List.cons_append, splitA]
    split
    · rw [ih1, List.cons_append]
    · exact ih2
theorem split_join (a b : List Int) : split (a ++ [10] ++ b) = split (a ++ [10]) ++ split b := by
  have := splitA_end a [] b
  simpa [split] using this
theorem splitA_some : ∀ (a cur : List Int), 1 ≤ (splitA cur (a ++ [10])).length
  | [], cur => by simp [splitA]
  | c :: cs, cur => by
    have := splitA_some cs (cur ++ [c])
    simp only [List.cons_append, splitA]
    split
    · simp
    · exact this
theorem split_some (a : List Int) : 1 ≤ (split (a ++ [10])).length := splitA_some a []

theorem fieldsA_plain : ∀ (x cur rest : List Int), (∀ c ∈ x, isBlank c = false) → fieldsA cur (x ++ rest) = fieldsA (cur ++ x) rest
  | [], cur, rest, _ => by simp
  | c :: cs, cur, rest, h => by
    have h1 : isBlank c = false := h c (by simp)
    have ih := fieldsA_plain cs (cur ++ [c]) rest (fun d hd => h d (by simp [hd]))
    rw [List.cons_append, fieldsA, h1, ih, List.append_assoc]
    rfl
theorem fields_blank (c : Int) (h : isBlank c = true) (rest : List Int) : fields (c :: rest) = fields rest := by
  simp [fields, fieldsA, h]
theorem fields_blanks : ∀ (z rest : List Int), (∀ c ∈ z, isBlank c = true) → fields (z ++ rest) = fields rest
  | [], rest, _ => rfl
  | c :: cs, rest, h => by
    rw [List.cons_append, fields_blank c (h c (by simp)), fields_blanks cs rest (fun d hd => h d (by simp [hd]))]
theorem fields_one (z x rest : List Int) (hz : ∀ c ∈ z, isBlank c = true) (hx : ∀ c ∈ x, isBlank c = false) (hn : x ≠ []) (d : Int) (hd : isBlank d = true) :
    fields (z ++ x ++ d :: rest) = x :: fields rest := by
  rw [List.append_assoc, fields_blanks z _ hz]
  unfold fields
  rw [fieldsA_plain x [] _ hx]
  simp [fieldsA, hd, hn]

theorem fieldsA_no : ∀ (b cur : List Int), (∀ c ∈ cur, isBlank c = false) → ∀ x ∈ fieldsA cur b, x ≠ [] ∧ ∀ c ∈ x, isBlank c = false
  | [], cur, h, x, hx => by
    unfold fieldsA at hx
    split at hx
    · simp at hx
    · rename_i hne; simp only [List.mem_singleton] at hx; subst hx; exact ⟨hne, h⟩
  | c :: cs, cur, h, x, hx => by
    unfold fieldsA at hx
    split at hx
    · split at hx
      · exact fieldsA_no cs [] (by simp) x hx
      · rename_i hne
        rcases List.mem_cons.1 hx with rfl | hx
        · exact ⟨hne, h⟩
        · exact fieldsA_no cs [] (by simp) x hx
    · rename_i hc
      refine fieldsA_no cs (cur ++ [c]) (fun d hd => ?_) x hx
      rcases List.mem_append.1 hd with hd | hd
      · exact h d hd
      · simp only [List.mem_singleton] at hd; subst hd; simpa using hc
theorem fields_no (b : List Int) : ∀ x ∈ fields b, x ≠ [] ∧ ∀ c ∈ x, isBlank c = false := fieldsA_no b [] (by simp)

/-- the other blank -/
def turn (c : Int) : Int := if c == 9 || c == 32 then 41 - c else c
theorem turn_blank (c : Int) : isBlank (turn c) = isBlank c := by
  unfold turn isBlank
  by_cases h1 : c = 9
  · subst h1; rfl
  · by_cases h2 : c = 32
    · subst h2; rfl
    · simp [h1, h2]
theorem turn_plain {c : Int} (h : isBlank c = false) : turn c = c := by
  unfold isBlank at h
  unfold turn
  simp only [Bool.or_eq_false_iff] at h
  simp [h.1, h.2]
theorem fieldsA_turn : ∀ (b cur : List Int), fieldsA cur (b.map turn) = fieldsA cur b
  | [], cur => rfl
  | c :: cs, cur => by
    have ih1 := fieldsA_turn cs []
    have ih2 := fieldsA_turn cs (cur ++ [c])
    rw [List.map_cons, fieldsA, fieldsA, turn_blank, ih1]
    cases h : isBlank c
    · simp [turn_plain h, ih2]
    · simp
theorem fields_turn (b : List Int) : fields (b.map turn) = fields b := fieldsA_turn b []

/-- what a loop over the places keeps: the piece begun is what stands from 'from' on -/
theorem splitA_at {b : List Int} {f i : Nat} (hf : f ≤ i) (hi : i < b.length) : splitA ((b.take i).drop f) (b.drop i) =
    if b.getD i 0 = 10 then (b.take i).drop f :: splitA ((b.take (i + 1)).drop (i + 1)) (b.drop (i + 1)) else splitA ((b.take (i + 1)).drop f) (b.drop (i + 1)) := by
  rw [List.drop_eq_getElem_cons hi, splitA]
  have e : b.getD i 0 = b[i] := by simp [hi]
  rw [e]
  by_cases h : b[i] = 10
  · rw [if_pos h, if_pos h, show (b.take (i + 1)).drop (i + 1) = [] from List.drop_eq_nil_of_le (by simp; omega)]
  · rw [if_neg h, if_neg h, List.take_succ_eq_append_getElem hi, List.drop_append_of_le_length (by simp; omega)]
theorem fieldsA_at {b : List Int} {f i : Nat} (hf : f ≤ i) (hi : i < b.length) : fieldsA ((b.take i).drop f) (b.drop i) =
    if isBlank (b.getD i 0) then (if f < i then (b.take i).drop f :: fieldsA ((b.take (i + 1)).drop (i + 1)) (b.drop (i + 1)) else fieldsA ((b.take (i + 1)).drop (i + 1)) (b.drop (i + 1)))
      else fieldsA ((b.take (i + 1)).drop f) (b.drop (i + 1)) := by
  rw [List.drop_eq_getElem_cons hi, fieldsA]
  have e : b.getD i 0 = b[i] := by simp [hi]
  rw [e]
  have e0 : (b.take (i + 1)).drop (i + 1) = [] := List.drop_eq_nil_of_le (by simp; omega)
  have e1 : (b.take i).drop f = [] ↔ ¬ f < i := by
    rw [List.drop_eq_nil_iff]; simp; omega
  by_cases h : isBlank b[i] = true
  · rw [if_pos h, if_pos h, e0]
    by_cases hfi : f < i
    · rw [if_pos hfi, if_neg (fun h' => (e1.1 h') hfi)]
    · rw [if_neg hfi, if_pos (e1.2 hfi)]
  · rw [if_neg h, if_neg h, List.take_succ_eq_append_getElem hi, List.drop_append_of_le_length (by simp; omega)]

end Line
end
section
namespace Num

/-- the digits, the highest first -/
def dig (c : Nat) : List Int := if c < 10 then [48 + (c : Int)] else dig (c / 10) ++ [48 + ((c % 10 : Nat) : Int)]
termination_by c
decreasing_by omega
theorem dig_small {c : Nat} (h : c < 10) : dig c = [48 + (c : Int)] := by rw [dig, if_pos h]
theorem dig_big {c : Nat} (h : 10 ≤ c) : dig c = dig (c / 10) ++ [48 + ((c % 10 : Nat) : Int)] := by rw [dig, if_neg (by omega)]
theorem dig_snoc {c d : Nat} (h : c ≠ 0) (hd : d < 10) : dig (10 * c + d) = dig c ++ [48 + (d : Int)] := by
  rw [dig_big (by omega), show (10 * c + d) / 10 = c from by omega, show (10 * c + d) % 10 = d from by omega]

/-- induction over the digits -/
theorem dig_rec {P : Nat → Prop} (h0 : ∀ c, c < 10 → P c) (h1 : ∀ c, 10 ≤ c → P (c / 10) → P c) (c : Nat) : P c := by
  induction c using Nat.strongRecOn with
  | ind c ih =>
    rcases Nat.lt_or_ge c 10 with h | h
    · exact h0 c h
    · exact h1 c h (ih _ (by omega))

def val (l : List Int) : Nat := l.foldl (fun a d => a * 10 + (d - 48).toNat) 0
theorem val_snoc (l : List Int) (d : Int) : val (l ++ [d]) = val l * 10 + (d - 48).toNat := by simp [val, List.foldl_append]
theorem val_one (d : Int) : val [d] = (d - 48).toNat := by simp [val]
theorem val_dig (c : Nat) : val (dig c) = c := by
  induction c using dig_rec with
  | h0 c h => rw [dig_small h, val_one]; omega
  | h1 c h ih => rw [dig_big h, val_snoc, ih]; omega
theorem dig_inj {a b : Nat} (h : dig a = dig b) : a = b := by rw [← val_dig a, h, val_dig]

theorem dig_digits (c : Nat) : ∀ d ∈ dig c, 48 ≤ d ∧ d ≤ 57 := by
  induction c using dig_rec with
  | h0 c h => intro d hd; rw [dig_small h, List.mem_singleton] at hd; omega
  | h1 c h ih =>
    intro d hd
    rw [dig_big h] at hd
    rcases List.mem_append.1 hd with hd | hd
    · exact ih d hd
    · rw [List.mem_singleton] at hd; omega
theorem dig_ne (c : Nat) : dig c ≠ [] := by
  rcases Nat.lt_or_ge c 10 with h | h
  · rw [dig_small h]; simp
  · rw [dig_big h]; simp
theorem dig_pos (c : Nat) : 0 < (dig c).length := List.length_pos_iff.2 (dig_ne c)
theorem dig_wf (c : Nat) : ∀ d ∈ dig c, (Lit.int .u8 d).wf = true := by
  intro d hd
  have := dig_digits c d hd
  exact WalkArith.wf_u8 ⟨by omega, by omega⟩
theorem head_snoc {l : List Int} (h : l ≠ []) (d : Int) : (l ++ [d]).getD 0 0 = l.getD 0 0 := by
  cases l with
  | nil => exact absurd rfl h
  | cons a l => rfl
theorem dig_head {c : Nat} (h : c ≠ 0) : (dig c).getD 0 0 ≠ 48 := by
  induction c using dig_rec with
  | h0 c h' => rw [dig_small h']; simp; omega
  | h1 c h' ih => rw [dig_big h', head_snoc (dig_ne _)]; exact ih (by omega)
theorem dig_long {c : Nat} : 1 < (dig c).length ↔ 10 ≤ c := by
  rcases Nat.lt_or_ge c 10 with h | h
  · rw [dig_small h]; simp; omega
  · rw [dig_big h, List.length_append]; have := dig_pos (c / 10); simp; omega

/-- bytes that are digits, without a 0 ahead, are those of what they say -/
theorem dig_val : ∀ (n : Nat) (b : List Int), b.length = n → b ≠ [] → (∀ d ∈ b, 48 ≤ d ∧ d ≤ 57) → (b.length = 1 ∨ b.getD 0 0 ≠ 48) → dig (val b) = b
  | 0, b, hn, h0, _, _ => absurd (List.eq_nil_of_length_eq_zero hn) h0
  | n + 1, b, hn, h0, hd, hh => by
    have hb : b = b.dropLast ++ [b.getLast h0] := (List.dropLast_concat_getLast h0).symm
    obtain ⟨a, ha⟩ : ∃ a, a = b.dropLast := ⟨_, rfl⟩
    obtain ⟨d, hdd⟩ : ∃ d, d = b.getLast h0 := ⟨_, rfl⟩
    rw [← ha, ← hdd] at hb
    have hdr := hd d (by rw [hb]; simp)
    by_cases hae : a = []
    · rw [hb, hae, List.nil_append, val_one, dig_small (by omega)]
      congr 1; omega
    · have hal : a.length = n := by have := congrArg List.length hb; simp at this; omega
      have hh2 : a.getD 0 0 ≠ 48 := by
        rcases hh with h | h
        · have := List.length_pos_iff.2 hae; omega
        · rw [hb, head_snoc hae] at h; exact h
      have ih := dig_val n a hal hae (fun e he => hd e (by rw [hb]; simp [he])) (.inr hh2)
      have hv : val a ≠ 0 := by
        intro h
        rw [h, dig_small (by omega)] at ih
        apply hh2
        rw [← ih]; rfl
      rw [hb, val_snoc, show val a * 10 + (d - 48).toNat = 10 * val a + (d - 48).toNat from by omega, dig_snoc hv (by omega), ih]
      congr 2; omega

/-- what bytes say: the cost below Inf whose digits they are -/
def read (b : List Int) : Option Nat := if dig (val b) = b ∧ val b < 18446744073709551615 then some (val b) else none
theorem read_dig {c : Nat} (h : c < 18446744073709551615) : read (dig c) = some c := by
  unfold read; rw [val_dig, if_pos ⟨rfl, h⟩]
theorem read_inf {c : Nat} (h : 18446744073709551615 ≤ c) : read (dig c) = none := by
  unfold read; rw [val_dig, if_neg (by omega)]
theorem read_some {b : List Int} {c : Nat} (h : read b = some c) : dig c = b ∧ c < 18446744073709551615 := by
  unfold read at h
  split at h
  · rename_i h'
    cases h
    exact h'
  · cases h
theorem read_shape {b : List Int} {c : Nat} (h : read b = some c) : b ≠ [] ∧ (∀ d ∈ b, 48 ≤ d ∧ d ≤ 57) ∧ (b.length = 1 ∨ b.getD 0 0 ≠ 48) := by
  obtain ⟨h1, h2⟩ := read_some h
  rw [← h1]
  refine ⟨dig_ne c, dig_digits c, ?_⟩
  by_cases h0 : c = 0
  · left; rw [h0, dig_small (by omega)]; rfl
  · exact .inr (dig_head h0)
theorem read_of {b : List Int} (h0 : b ≠ []) (h1 : ∀ d ∈ b, 48 ≤ d ∧ d ≤ 57) (h2 : b.length = 1 ∨ b.getD 0 0 ≠ 48) (h3 : val b < 18446744073709551615) : read b = some (val b) := by
  unfold read; rw [if_pos ⟨dig_val _ b rfl h0 h1 h2, h3⟩]
theorem read_none_nil : read [] = none := by
  cases h : read [] with
  | none => rfl
  | some c => exact absurd rfl (read_shape h).1
theorem read_none_digit {b : List Int} {d : Int} (hd : d ∈ b) (h : ¬ (48 ≤ d ∧ d ≤ 57)) : read b = none := by
  cases hr : read b with
  | none => rfl
  | some c => exact absurd ((read_shape hr).2.1 d hd) h
theorem read_none_zero {b : List Int} (h1 : 1 < b.length) (h2 : b.getD 0 0 = 48) : read b = none := by
  cases hr : read b with
  | none => rfl
  | some c => rcases (read_shape hr).2.2 with h | h <;> omega
theorem read_none_big {b : List Int} (h : 18446744073709551615 ≤ val b) : read b = none := by
  unfold read; rw [if_neg (by omega)]

theorem len_le : ∀ (k c : Nat), c < 10 ^ (k + 1) → (dig c).length ≤ k + 1
  | 0, c, h => by rw [dig_small (by simpa using h)]; exact Nat.le_refl _
  | k + 1, c, h => by
    rcases Nat.lt_or_ge c 10 with h' | h'
    · rw [dig_small h']; simp
    · rw [dig_big h', List.length_append]
      have := len_le k (c / 10) (by rw [Nat.div_lt_iff_lt_mul (by omega), ← Nat.pow_succ]; exact h)
      simp; omega
theorem len_ge : ∀ (k c : Nat), 10 ^ k ≤ c → k + 1 ≤ (dig c).length
  | 0, c, _ => dig_pos c
  | k + 1, c, h => by
    have h10 : 10 ≤ c := by
      have : 10 ^ 1 ≤ 10 ^ (k + 1) := Nat.pow_le_pow_right (by omega) (by omega)
      omega
    rw [dig_big h10, List.length_append]
    have := len_ge k (c / 10) (by rw [Nat.le_div_iff_mul_le (by omega), ← Nat.pow_succ]; exact h)
    simp; omega
theorem len_20 {c : Nat} (h : c < 18446744073709551616) : (dig c).length ≤ 20 := len_le 19 c (by omega)
theorem len_mono {a b : Nat} (h : a ≤ b) : (dig a).length ≤ (dig b).length := by
  obtain ⟨k, hk⟩ : ∃ k, (dig b).length = k + 1 := ⟨(dig b).length - 1, by have := dig_pos b; omega⟩
  rw [hk]
  refine len_le k a (Nat.lt_of_le_of_lt h ?_)
  rcases Nat.lt_or_ge b (10 ^ (k + 1)) with h' | h'
  · exact h'
  · have := len_ge (k + 1) b h'; omega

def lessL : List Int → List Int → Bool
  | _, [] => false
  | [], _ :: _ => true
  | a :: x, b :: y => decide (a < b) || (a == b && lessL x y)
theorem lessL_bytes : ∀ (xs ys : List Int), (∀ z ∈ xs, 0 ≤ z ∧ z ≤ 255) → (∀ z ∈ ys, 0 ≤ z ∧ z ≤ 255) →
    Op.bytesLess (xs.map fun n => UInt8.ofNat n.toNat) (ys.map fun n => UInt8.ofNat n.toNat) = lessL xs ys
  | xs, [], _, _ => by cases xs <;> rfl
  | [], _ :: _, _, _ => rfl
  | a :: x, b :: y, hx, hy => by
    have ha := hx a (by simp)
    have hb := hy b (by simp)
    have ih := lessL_bytes x y (fun z hz => hx z (by simp [hz])) (fun z hz => hy z (by simp [hz]))
    have e1 : decide (UInt8.ofNat a.toNat < UInt8.ofNat b.toNat) = decide (a < b) := by
      rw [decide_eq_decide, UInt8.lt_iff_toNat_lt]; simp; omega
    have e2 : (UInt8.ofNat a.toNat == UInt8.ofNat b.toNat) = (a == b) := by
      rw [Bool.eq_iff_iff, beq_iff_eq, beq_iff_eq]
      constructor
      · intro h
        have := congrArg UInt8.toNat h
        simp at this; omega
      · intro h; rw [h]
    show (decide (UInt8.ofNat a.toNat < UInt8.ofNat b.toNat) || (UInt8.ofNat a.toNat == UInt8.ofNat b.toNat && Op.bytesLess (x.map fun n => UInt8.ofNat n.toNat) (y.map fun n => UInt8.ofNat n.toNat))) = _
    rw [e1, e2, ih]
    rfl
theorem lessL_snoc : ∀ (x y : List Int) (c d : Int), x.length = y.length → lessL (x ++ [c]) (y ++ [d]) = (lessL x y || (decide (x = y) && decide (c < d)))
  | [], [], c, d, _ => by simp [lessL]
  | [], _ :: _, _, _, h => by simp at h
  | _ :: _, [], _, _, h => by simp at h
  | a :: x, b :: y, c, d, h => by
    have ih := lessL_snoc x y c d (by simpa using h)
    simp only [List.cons_append, lessL, ih, List.cons.injEq]
    by_cases e : a = b
    · subst e; simp
    · have e2 : (a == b) = false := by simpa using e
      simp [e, e2]
theorem dig_less : ∀ (a b : Nat), (dig a).length = (dig b).length → lessL (dig a) (dig b) = decide (a < b) := by
  intro a
  induction a using dig_rec with
  | h0 a h =>
    intro b hl
    have hb : b < 10 := by
      rcases Nat.lt_or_ge b 10 with h' | h'
      · exact h'
      · have := dig_long.2 h'; rw [dig_small h] at hl; simp at hl; omega
    rw [dig_small h, dig_small hb]
    simp [lessL]
  | h1 a h ih =>
    intro b hl
    have hb : 10 ≤ b := by
      rcases Nat.lt_or_ge b 10 with h' | h'
      · have := dig_long.2 h; rw [dig_small h'] at hl; simp at hl; omega
      · exact h'
    rw [dig_big h, dig_big hb, List.length_append, List.length_append] at hl
    have ih2 := ih (b / 10) (by simpa using hl)
    rw [dig_big h, dig_big hb, lessL_snoc _ _ _ _ (by simpa using hl), ih2]
    by_cases e : a / 10 = b / 10
    · rw [e]
      simp
      omega
    · have e2 : ¬ dig (a / 10) = dig (b / 10) := fun h => e (dig_inj h)
      simp [e2]
      omega
/-- of two costs the less one has fewer digits, or as many that stand ahead -/
theorem dig_order (a b : Nat) : (decide ((dig a).length < (dig b).length) || (decide ((dig a).length = (dig b).length) && lessL (dig a) (dig b))) = decide (a < b) := by
  by_cases h : (dig a).length = (dig b).length
  · rw [dig_less a b h]; simp [h]
  · by_cases h2 : (dig a).length < (dig b).length
    · have : a < b := by
        rcases Nat.lt_or_ge a b with h3 | h3
        · exact h3
        · have := len_mono h3; omega
      simp [h2, this]
    · have : ¬ a < b := by
        intro h3
        have := len_mono (Nat.le_of_lt h3); omega
      simp [h, h2, this]

theorem dig_cut : ∀ (j c : Nat), j < (dig c).length → dig (c / 10 ^ j) = (dig c).take ((dig c).length - j)
  | 0, c, _ => by simp
  | j + 1, c, h => by
    have h10 : 10 ≤ c := dig_long.1 (by omega)
    have hl : (dig c).length = (dig (c / 10)).length + 1 := by rw [dig_big h10]; simp
    have ih := dig_cut j (c / 10) (by omega)
    rw [show c / 10 ^ (j + 1) = c / 10 / 10 ^ j from by rw [Nat.div_div_eq_div_mul, Nat.pow_succ, Nat.mul_comm], ih, dig_big h10, List.take_append_of_le_length (by simp)]
    congr 1
    simp

end Num
end
section

def common : List Int → List Int → Nat
  | x :: xs, y :: ys => if x = y then common xs ys + 1 else 0
  | _, _ => 0

def lessL : List Int → List Int → Bool
  | [], [] => false
  | [], _ :: _ => true
  | _ :: _, [] => false
  | x :: xs, y :: ys => if x = y then lessL xs ys else decide (x < y)

theorem common_nil_l (b : List Int) : common [] b = 0 := by cases b <;> rfl
theorem common_nil_r (a : List Int) : common a [] = 0 := by cases a <;> rfl

theorem common_le : ∀ a b : List Int, common a b ≤ a.length ∧ common a b ≤ b.length
  | [], b => by simp [common_nil_l]
  | x :: xs, [] => by simp [common_nil_r]
  | x :: xs, y :: ys => by
    have := common_le xs ys
    unfold common
    split <;> simp <;> omega

theorem common_comm : ∀ a b : List Int, common a b = common b a
  | [], b => by simp [common_nil_l, common_nil_r]
  | x :: xs, [] => by simp [common_nil_l, common_nil_r]
  | x :: xs, y :: ys => by
    have := common_comm xs ys
    unfold common
    by_cases h : x = y
    · subst h; simp [this]
    · have h' : ¬ y = x := fun e => h e.symm
      simp [h, h']

theorem common_self : ∀ a : List Int, common a a = a.length
  | [] => rfl
  | x :: xs => by simp [common, common_self xs]

/-- what the loops keep, at their ends -/
theorem common_at : ∀ {i : Nat} {a b : List Int}, a.take i = b.take i → i ≤ a.length → i ≤ b.length → (i = a.length ∨ i = b.length ∨ a.getD i 0 ≠ b.getD i 0) → common a b = i
  | 0, a, b, _, _, _, h => by
    cases a with
    | nil => simp [common_nil_l]
    | cons x xs => cases b with
      | nil => simp [common_nil_r]
      | cons y ys =>
        simp at h
        simp [common, h]
  | i + 1, a, b, ht, ha, hb, h => by
    cases a with
    | nil => simp at ha
    | cons x xs => cases b with
      | nil => simp at hb
      | cons y ys =>
        simp only [List.take_succ_cons, List.cons.injEq] at ht
        obtain ⟨rfl, ht⟩ := ht
        simp only [List.length_cons, Nat.add_le_add_iff_right] at ha hb
        simp only [List.length_cons, Nat.add_right_cancel_iff, List.getD_cons_succ] at h
        simp [common, common_at ht ha hb h]

theorem common_take : ∀ a b : List Int, a.take (common a b) = b.take (common a b)
  | [], b => by simp [common_nil_l]
  | x :: xs, [] => by simp [common_nil_r]
  | x :: xs, y :: ys => by
    unfold common
    split
    · rename_i h; subst h; simp [common_take xs ys]
    · rfl

theorem common_app (u a b : List Int) : common (u ++ a) (u ++ b) = u.length + common a b := by
  induction u with
  | nil => simp
  | cons x xs ih => simp [common, ih]; omega

theorem less_app (u a b : List Int) : lessL (u ++ a) (u ++ b) = lessL a b := by
  induction u with
  | nil => simp
  | cons x xs ih => simp [lessL, ih]

theorem common_three : ∀ a b c : List Int, min (common a b) (common b c) ≤ common a c
  | [], b, c => by simp [common_nil_l]
  | x :: xs, [], c => by simp [common_nil_r]
  | x :: xs, y :: ys, [] => by simp [common_nil_r]
  | x :: xs, y :: ys, z :: zs => by
    have := common_three xs ys zs
    unfold common
    by_cases h1 : x = y
    · by_cases h2 : y = z
      · subst h1; subst h2; simp; omega
      · simp [h2]
    · simp [h1]

theorem common_whole {a b : List Int} (ha : common a b = a.length) (hb : common a b = b.length) : a = b := by
  have := common_take a b
  rwa [ha, List.take_length, ← ha, hb, List.take_length] at this

theorem less_common : ∀ a b : List Int, lessL a b = if common a b < a.length ∧ common a b < b.length then decide (a.getD (common a b) 0 < b.getD (common a b) 0) else decide (a.length < b.length)
  | [], [] => by simp [common_nil_l, lessL]
  | [], y :: ys => by simp [common_nil_l, lessL]
  | x :: xs, [] => by simp [common_nil_r, lessL]
  | x :: xs, y :: ys => by
    have ih := less_common xs ys
    by_cases h : x = y
    · subst h; simp [common, lessL, ih]
    · simp [common, lessL, h]

theorem less_irrefl : ∀ a : List Int, lessL a a = false
  | [] => rfl
  | x :: xs => by simp [lessL, less_irrefl xs]

theorem less_trans : ∀ {a b c : List Int}, lessL a b = true → lessL b c = true → lessL a c = true
  | [], [], c, h, _ => by simp [lessL] at h
  | [], _ :: _, [], _, h => by simp [lessL] at h
  | [], _ :: _, _ :: _, _, _ => rfl
  | _ :: _, [], _, h, _ => by simp [lessL] at h
  | _ :: _, _ :: _, [], _, h => by simp [lessL] at h
  | x :: xs, y :: ys, z :: zs, h1, h2 => by
    have ih := @less_trans xs ys zs
    simp only [lessL] at h1 h2 ⊢
    by_cases e1 : x = y
    · subst e1
      by_cases e2 : x = z
      · subst e2; simp at h1 h2 ⊢; exact ih h1 h2
      · simp [e2] at h2 ⊢; exact h2
    · simp [e1] at h1
      by_cases e2 : y = z
      · subst e2; simp [e1]; exact h1
      · simp [e2] at h2
        have e3 : ¬ x = z := by omega
        simp [e3]; omega

theorem less_asymm {a b : List Int} (h : lessL a b = true) : lessL b a = false := by
  cases h' : lessL b a with
  | false => rfl
  | true => have := less_trans h h'; rw [less_irrefl] at this; cases this

theorem less_total : ∀ {a b : List Int}, lessL a b = false → lessL b a = false → a = b
  | [], [], _, _ => rfl
  | [], _ :: _, h, _ => by simp [lessL] at h
  | _ :: _, [], _, h => by simp [lessL] at h
  | x :: xs, y :: ys, h1, h2 => by
    simp only [lessL] at h1 h2
    by_cases e : x = y
    · subst e; simp at h1 h2; rw [less_total h1 h2]
    · have e' : ¬ y = x := fun h => e h.symm
      simp [e] at h1; simp [e'] at h2
      omega

theorem less_ntrans {a b c : List Int} (h1 : lessL a b = false) (h2 : lessL b c = false) : lessL a c = false := by
  cases h : lessL a c with
  | false => rfl
  | true =>
    cases h3 : lessL c b with
    | true => rw [less_trans h h3] at h1; cases h1
    | false => have := less_total h2 h3; subst this; rw [h] at h1; exact h1

theorem less_more (a : List Int) (x : Int) : lessL a (a ++ [x]) = true := by
  have := less_app a [] [x]
  simpa [lessL] using this

theorem less_one (a b : List Int) : (lessL a b != lessL b a) = !decide (a = b) := by
  cases h1 : lessL a b <;> cases h2 : lessL b a
  · simp [less_total h1 h2]
  · have : a ≠ b := by rintro rfl; rw [less_irrefl] at h2; cases h2
    simp [this]
  · have : a ≠ b := by rintro rfl; rw [less_irrefl] at h1; cases h1
    simp [this]
  · rw [less_asymm h1] at h2; cases h2

def cmpI (x y : Int) : Int := if x < y then -1 else if y < x then 1 else 0
def cmpL (a b : List Int) : Int := if lessL a b then -1 else if lessL b a then 1 else 0

theorem cmp_less (a b : List Int) : decide (cmpL a b < 0) = lessL a b := by
  unfold cmpL
  cases lessL a b <;> cases lessL b a <;> simp
theorem cmp_same (a b : List Int) : decide (cmpL a b = 0) = decide (a = b) := by
  unfold cmpL
  cases h1 : lessL a b <;> cases h2 : lessL b a
  · simp [less_total h1 h2]
  · have : a ≠ b := by rintro rfl; rw [less_irrefl] at h2; cases h2
    simp [this]
  · have : a ≠ b := by rintro rfl; rw [less_irrefl] at h1; cases h1
    simp [this]
  · rw [less_asymm h1] at h2; cases h2

theorem cmp_common (a b : List Int) : cmpL a b = if common a b < a.length ∧ common a b < b.length then cmpI (a.getD (common a b) 0) (b.getD (common a b) 0) else cmpI a.length b.length := by
  unfold cmpL cmpI
  rw [less_common a b, less_common b a, common_comm b a]
  by_cases h : common a b < a.length ∧ common a b < b.length
  · have h' : common a b < b.length ∧ common a b < a.length := ⟨h.2, h.1⟩
    rw [if_pos h, if_pos h', if_pos h]
    simp only [decide_eq_true_eq]
  · have h' : ¬ (common a b < b.length ∧ common a b < a.length) := fun x => h ⟨x.2, x.1⟩
    rw [if_neg h, if_neg h', if_neg h]
    simp only [decide_eq_true_eq]
    split <;> split <;> (try split) <;> (try split) <;> first | rfl | omega

def Rise (l : List (List Int)) : Prop := l.Pairwise fun a b => lessL a b = true
def cnt (l : List (List Int)) (w : List Int) : Nat := l.countP fun x => lessL x w
def ins (l : List (List Int)) (w : List Int) : List (List Int) := if w ∈ l then l else l.take (cnt l w) ++ w :: l.drop (cnt l w)
def srt (l : List (List Int)) : List (List Int) := l.foldl ins []

theorem cnt_le (l : List (List Int)) (w : List Int) : cnt l w ≤ l.length := List.countP_le_length

theorem Rise.parts : ∀ {l : List (List Int)} (w : List Int), Rise l → (∀ x ∈ l.take (cnt l w), lessL x w = true) ∧ (∀ x ∈ l.drop (cnt l w), lessL x w = false)
  | [], w, _ => by simp
  | y :: ys, w, h => by
    have h' := List.pairwise_cons.1 h
    have ih := Rise.parts (l := ys) w h'.2
    cases hy : lessL y w with
    | true =>
      have e : cnt (y :: ys) w = cnt ys w + 1 := by simp [cnt, hy]
      rw [e]
      simp only [List.take_succ_cons, List.drop_succ_cons, List.mem_cons, forall_eq_or_imp]
      exact ⟨⟨hy, ih.1⟩, ih.2⟩
    | false =>
      have all : ∀ x ∈ ys, lessL x w = false := fun x hx => by
        cases hx' : lessL x w with
        | false => rfl
        | true => rw [less_trans (h'.1 x hx) hx'] at hy; exact hy
      have e : cnt (y :: ys) w = 0 := by
        unfold cnt
        rw [List.countP_eq_zero]
        intro x hx
        rcases List.mem_cons.1 hx with rfl | hx
        · simp [hy]
        · simp [all x hx]
      rw [e]
      refine ⟨by simp, ?_⟩
      intro x hx
      simp only [List.drop_zero] at hx
      rcases List.mem_cons.1 hx with rfl | hx
      · exact hy
      · exact all x hx

theorem rise_ins {l : List (List Int)} {w : List Int} (h : Rise l) : Rise (ins l w) := by
  unfold ins
  split
  · exact h
  · rename_i hw
    obtain ⟨h1, h2⟩ := h.parts w
    have hsplit : Rise (l.take (cnt l w) ++ l.drop (cnt l w)) := by rw [List.take_append_drop]; exact h
    obtain ⟨ha, hb, hc⟩ := List.pairwise_append.1 hsplit
    refine List.pairwise_append.2 ⟨ha, List.pairwise_cons.2 ⟨fun x hx => ?_, hb⟩, fun x hx y hy => ?_⟩
    · cases hwx : lessL w x with
      | true => rfl
      | false =>
        have := less_total hwx (h2 x hx)
        subst this
        exact absurd (List.mem_of_mem_drop hx) hw
    · rcases List.mem_cons.1 hy with rfl | hy
      · exact h1 x hx
      · exact hc x hx y hy

theorem mem_ins {l : List (List Int)} {w x : List Int} : x ∈ ins l w ↔ x ∈ l ∨ x = w := by
  unfold ins
  split
  · rename_i hw
    constructor
    · exact .inl
    · rintro (h | rfl)
      · exact h
      · exact hw
  · have e : x ∈ l ↔ x ∈ l.take (cnt l w) ∨ x ∈ l.drop (cnt l w) := by
      rw [← List.mem_append, List.take_append_drop]
    rw [e]
    simp only [List.mem_append, List.mem_cons]
    constructor
    · rintro (h | h | h)
      · exact .inl (.inl h)
      · exact .inr h
      · exact .inl (.inr h)
    · rintro ((h | h) | h)
      · exact .inl h
      · exact .inr (.inr h)
      · exact .inr (.inl h)

theorem ins_length (l : List (List Int)) (w : List Int) : (ins l w).length ≤ l.length + 1 := by
  unfold ins
  split
  · omega
  · have := cnt_le l w
    simp; omega

theorem rise_unique : ∀ {l l' : List (List Int)}, Rise l → Rise l' → (∀ x, x ∈ l ↔ x ∈ l') → l = l'
  | [], [], _, _, _ => rfl
  | [], y :: ys, _, _, h => by have := (h y).2 (by simp); simp at this
  | x :: xs, [], _, _, h => by have := (h x).1 (by simp); simp at this
  | x :: xs, y :: ys, h1, h2, h => by
    have a1 := List.pairwise_cons.1 h1
    have a2 := List.pairwise_cons.1 h2
    have e : x = y := by
      rcases List.mem_cons.1 ((h x).1 (by simp)) with e | hx
      · exact e
      · rcases List.mem_cons.1 ((h y).2 (by simp)) with e | hy
        · exact e.symm
        · have := less_asymm (a1.1 y hy)
          rw [a2.1 x hx] at this; cases this
    subst e
    have : xs = ys := rise_unique a1.2 a2.2 fun z => by
      constructor
      · intro hz
        rcases List.mem_cons.1 ((h z).1 (by simp [hz])) with e | h'
        · subst e; have := a1.1 z hz; rw [less_irrefl] at this; cases this
        · exact h'
      · intro hz
        rcases List.mem_cons.1 ((h z).2 (by simp [hz])) with e | h'
        · subst e; have := a2.1 z hz; rw [less_irrefl] at this; cases this
        · exact h'
    rw [this]

theorem foldl_ins : ∀ (l o : List (List Int)), Rise o → Rise (l.foldl ins o) ∧ (∀ x, x ∈ l.foldl ins o ↔ x ∈ o ∨ x ∈ l) ∧ (l.foldl ins o).length ≤ o.length + l.length
  | [], o, h => by simp [h]
  | y :: ys, o, h => by
    have ih := foldl_ins ys (ins o y) (rise_ins h)
    have := ins_length o y
    refine ⟨ih.1, fun x => ?_, ?_⟩
    · rw [List.foldl_cons, ih.2.1 x, mem_ins, List.mem_cons]
      constructor
      · rintro ((h | h) | h)
        · exact .inl h
        · exact .inr (.inl h)
        · exact .inr (.inr h)
      · rintro (h | h | h)
        · exact .inl (.inl h)
        · exact .inl (.inr h)
        · exact .inr h
    · have := ih.2.2
      simp only [List.foldl_cons, List.length_cons]
      omega

theorem rise_srt (l : List (List Int)) : Rise (srt l) := (foldl_ins l [] List.Pairwise.nil).1
theorem mem_srt {l : List (List Int)} {x : List Int} : x ∈ srt l ↔ x ∈ l := by
  have := (foldl_ins l [] List.Pairwise.nil).2.1 x
  simpa [srt] using this
theorem srt_length (l : List (List Int)) : (srt l).length ≤ l.length := by
  have := (foldl_ins l [] List.Pairwise.nil).2.2
  simpa [srt] using this
theorem srt_snoc (l : List (List Int)) (w : List Int) : srt (l ++ [w]) = ins (srt l) w := by simp [srt]
theorem srt_congr {l l' : List (List Int)} (h : ∀ x, x ∈ l ↔ x ∈ l') : srt l = srt l' :=
  rise_unique (rise_srt l) (rise_srt l') fun x => by rw [mem_srt, mem_srt, h]
theorem srt_rise {l : List (List Int)} (h : Rise l) : srt l = l := rise_unique (rise_srt l) h fun _ => mem_srt
theorem srt_srt (l : List (List Int)) : srt (srt l) = srt l := srt_rise (rise_srt l)

theorem Rise.at {l : List (List Int)} (h : Rise l) {i j : Nat} (hij : i < j) (hj : j < l.length) : lessL (l.getD i []) (l.getD j []) = true := by
  have := List.pairwise_iff_getElem.1 h i j (by omega) hj hij
  simpa [List.getD_eq_getElem?_getD, List.getElem?_eq_getElem hj, List.getElem?_eq_getElem (show i < l.length by omega)] using this

theorem Rise.mono {l : List (List Int)} (h : Rise l) (w : List Int) {a b : Nat} (hab : a ≤ b) (hb : b < l.length) (ha : lessL (l.getD a []) w = false) : lessL (l.getD b []) w = false := by
  rcases Nat.lt_or_ge a b with hlt | hge
  · cases hx : lessL (l.getD b []) w with
    | false => rfl
    | true => rw [less_trans (h.at hlt hb) hx] at ha; exact ha
  · obtain rfl : a = b := by omega
    exact ha

theorem Rise.found {l : List (List Int)} (h : Rise l) (w : List Int) : (decide (cnt l w < l.length) && decide (l.getD (cnt l w) [] = w)) = decide (w ∈ l) := by
  obtain ⟨h1, h2⟩ := h.parts w
  by_cases hm : w ∈ l
  · have hd : w ∈ l.drop (cnt l w) := by
      have : w ∈ l.take (cnt l w) ++ l.drop (cnt l w) := by rw [List.take_append_drop]; exact hm
      rcases List.mem_append.1 this with h' | h'
      · have := h1 w h'; rw [less_irrefl] at this; cases this
      · exact h'
    have hlt : cnt l w < l.length := by
      rcases Nat.lt_or_ge (cnt l w) l.length with h' | h'
      · exact h'
      · rw [List.drop_eq_nil_of_le h'] at hd; simp at hd
    have e : l.getD (cnt l w) [] = w := by
      rw [List.drop_eq_getElem_cons hlt] at hd
      have hr : Rise (l.drop (cnt l w)) := List.Pairwise.sublist (List.drop_sublist _ _) h
      rw [List.drop_eq_getElem_cons hlt] at hr
      rw [List.getD_eq_getElem?_getD, List.getElem?_eq_getElem hlt, Option.getD_some]
      rcases List.mem_cons.1 hd with e | h'
      · exact e.symm
      · have a := (List.pairwise_cons.1 hr).1 w h'
        have b := h2 (l[cnt l w]) (by rw [List.drop_eq_getElem_cons hlt]; exact List.mem_cons_self)
        rw [a] at b; cases b
    rw [decide_eq_true hlt, decide_eq_true e, decide_eq_true hm]
    rfl
  · have : ¬ (cnt l w < l.length ∧ l.getD (cnt l w) [] = w) := by
      rintro ⟨hlt, e⟩
      apply hm
      rw [List.getD_eq_getElem?_getD, List.getElem?_eq_getElem hlt, Option.getD_some] at e
      rw [← e]; exact List.getElem_mem hlt
    simp only [hm, decide_false]
    rw [← Bool.decide_and, decide_eq_false_iff_not]
    exact this

theorem Rise.own {l : List (List Int)} (h : Rise l) {i : Nat} (hi : i < l.length) : cnt l (l.getD i []) = i := by
  have e : l = l.take i ++ l.drop i := (List.take_append_drop i l).symm
  have h1 : (l.take i).countP (fun x => lessL x (l.getD i [])) = (l.take i).length := by
    rw [List.countP_eq_length]
    intro x hx
    obtain ⟨j, hj, rfl⟩ := List.mem_iff_getElem.1 hx
    have hj' : j < i := by simp at hj; omega
    have := h.at hj' hi
    rw [List.getElem_take]
    simpa [List.getD_eq_getElem?_getD, List.getElem?_eq_getElem (show j < l.length by omega)] using this
  have h2 : (l.drop i).countP (fun x => lessL x (l.getD i [])) = 0 := by
    rw [List.countP_eq_zero]
    intro x hx
    obtain ⟨j, hj, rfl⟩ := List.mem_iff_getElem.1 hx
    have hj' : i + j < l.length := by simp at hj; omega
    rw [List.getElem_drop]
    rcases Nat.eq_zero_or_pos j with rfl | hp
    · have e2 : l.getD i [] = l[i] := by simp [List.getD_eq_getElem?_getD, hi]
      simp [hi, less_irrefl]
    · have := less_asymm (h.at (i := i) (j := i + j) (by omega) hj')
      simpa [List.getD_eq_getElem?_getD, List.getElem?_eq_getElem hj', hi] using this
  unfold cnt
  rw [e, List.countP_append, ← e, h1, h2, List.length_take]
  omega

/-- one word more behind those that stand sorted, if the last one stands ahead of it -/
def dd (o : List (List Int)) (w : List Int) : List (List Int) := if o.length = 0 ∨ lessL (o.getD (o.length - 1) []) w = true then o ++ [w] else o

theorem dd_ins {o : List (List Int)} {w : List Int} (h : Rise o) (hw : ∀ x ∈ o, lessL w x = false) : dd o w = ins o w := by
  unfold dd
  rcases Nat.eq_zero_or_pos o.length with h0 | hp
  · have : o = [] := List.eq_nil_of_length_eq_zero h0
    subst this
    simp [ins]
  · have hlast : o.length - 1 < o.length := by omega
    have hm : o.getD (o.length - 1) [] ∈ o := by
      rw [List.getD_eq_getElem?_getD, List.getElem?_eq_getElem hlast, Option.getD_some]
      exact List.getElem_mem hlast
    cases hl : lessL (o.getD (o.length - 1) []) w with
    | true =>
      have all : ∀ x ∈ o, lessL x w = true := fun x hx => by
        obtain ⟨j, hj, rfl⟩ := List.mem_iff_getElem.1 hx
        rcases Nat.lt_or_ge j (o.length - 1) with hlt | hge
        · have := h.at hlt hlast
          have := less_trans this hl
          simpa [List.getD_eq_getElem?_getD, hj] using this
        · have : j = o.length - 1 := by omega
          subst this
          simpa [List.getD_eq_getElem?_getD, hj] using hl
      have hnm : w ∉ o := fun hx => by have := all w hx; rw [less_irrefl] at this; cases this
      have hc : cnt o w = o.length := by
        unfold cnt; rw [List.countP_eq_length]; exact all
      simp [ins, hnm, hc]
    | false =>
      have e := less_total hl (hw _ hm)
      have hmem : w ∈ o := by rw [← e]; exact hm
      have : ¬ (o.length = 0) := by omega
      simp [ins, hmem, this]

theorem dd_foldl : ∀ (d o : List (List Int)), Rise o → (∀ x ∈ o, ∀ y ∈ d, lessL y x = false) → d.Pairwise (fun a b => lessL b a = false) → d.foldl dd o = d.foldl ins o
  | [], _, _, _, _ => rfl
  | y :: ys, o, h, hxy, hd => by
    have hd' := List.pairwise_cons.1 hd
    rw [List.foldl_cons, List.foldl_cons, dd_ins h (fun x hx => hxy x hx y (by simp))]
    refine dd_foldl ys (ins o y) (rise_ins h) (fun x hx z hz => ?_) hd'.2
    rcases mem_ins.1 hx with hx | rfl
    · exact hxy x hx z (by simp [hz])
    · exact hd'.1 z hz

/-- what the program's loop makes of the sorted words -/
theorem dd_srt {d l : List (List Int)} (hd : d.Pairwise (fun a b => lessL b a = false)) (hp : d.Perm l) : d.foldl dd [] = srt l := by
  rw [dd_foldl d [] List.Pairwise.nil (by simp) hd]
  exact srt_congr (l := d) (l' := l) fun x => hp.mem_iff

end
section

/-- a rule: its two sides, and its cost -/
structure Rul where
  L : List Int
  R : List Int
  C : Int
theorem Rul.ext' {a b : Rul} (h1 : a.L = b.L) (h2 : a.R = b.R) (h3 : a.C = b.C) : a = b := by cases a; cases b; simp_all
instance : DecidableEq Rul := fun a b => decidable_of_iff (a.L = b.L ∧ a.R = b.R ∧ a.C = b.C) ⟨fun h => Rul.ext' h.1 h.2.1 h.2.2, fun h => h ▸ ⟨rfl, rfl, rfl⟩⟩
def Rul.no : Rul := ⟨[], [], 0⟩
/-- the same sides -/
def Rul.like (a b : Rul) : Prop := a.L = b.L ∧ a.R = b.R
theorem Rul.like.symm {a b : Rul} (h : a.like b) : b.like a := ⟨h.1.symm, h.2.symm⟩
theorem Rul.like.trans {a b c : Rul} (h : a.like b) (h' : b.like c) : a.like c := ⟨h.1.trans h'.1, h.2.trans h'.2⟩
instance (a b : Rul) : Decidable (a.like b) := inferInstanceAs (Decidable (_ ∧ _))

def goodL (l : List Int) : Bool := l.all Utf.good && decide (l.length ≤ 8)
def chk (r : Rul) : Bool := goodL r.L && goodL r.R && decide (r.C < 18446744073709551615) && !decide (r.L = r.R)

/-- ahead by the sides -/
def lessS (a b : Rul) : Bool := if a.L = b.L then lessL a.R b.R else lessL a.L b.L
/-- ahead -/
def lessR (a b : Rul) : Bool := if a.L = b.L then (if a.R = b.R then decide (a.C < b.C) else lessL a.R b.R) else lessL a.L b.L

theorem lessR_sides (a b : Rul) : lessR ⟨a.L, a.R, 0⟩ ⟨b.L, b.R, 0⟩ = lessS a b := by
  unfold lessR lessS
  by_cases h1 : a.L = b.L
  · by_cases h2 : a.R = b.R
    · simp [h1, h2, less_irrefl]
    · simp [h1, h2]
  · simp [h1]
theorem lessS_irrefl (a : Rul) : lessS a a = false := by simp [lessS, less_irrefl]
theorem lessS_like {a b : Rul} (h : a.like b) : lessS a b = false := by simp [lessS, h.1, h.2, less_irrefl]
theorem lessS_congr {a a' b b' : Rul} (h : a.like a') (h' : b.like b') : lessS a b = lessS a' b' := by simp [lessS, h.1, h.2, h'.1, h'.2]
theorem lessS_trans {a b c : Rul} (h1 : lessS a b = true) (h2 : lessS b c = true) : lessS a c = true := by
  unfold lessS at *
  by_cases e1 : a.L = b.L
  · by_cases e2 : b.L = c.L
    · rw [if_pos e1] at h1; rw [if_pos e2] at h2; rw [if_pos (e1.trans e2)]; exact less_trans h1 h2
    · rw [if_neg e2] at h2; rw [if_neg (by rw [e1]; exact e2), e1]; exact h2
  · by_cases e2 : b.L = c.L
    · rw [if_neg e1] at h1; rw [if_neg (by rw [← e2]; exact e1), ← e2]; exact h1
    · rw [if_neg e1] at h1; rw [if_neg e2] at h2
      have h3 := less_trans h1 h2
      rw [if_neg (by intro e; rw [e, less_irrefl] at h3; cases h3)]; exact h3
theorem lessS_asymm {a b : Rul} (h : lessS a b = true) : lessS b a = false := by
  cases h' : lessS b a with
  | false => rfl
  | true => have := lessS_trans h h'; rw [lessS_irrefl] at this; cases this
theorem lessS_total {a b : Rul} (h1 : lessS a b = false) (h2 : lessS b a = false) : a.like b := by
  unfold lessS at *
  by_cases e : a.L = b.L
  · rw [if_pos e] at h1; rw [if_pos e.symm] at h2; exact ⟨e, less_total h1 h2⟩
  · rw [if_neg e] at h1; rw [if_neg (fun h => e h.symm)] at h2; exact absurd (less_total h1 h2) e
theorem lessS_ntrans {a b c : Rul} (h1 : lessS a b = false) (h2 : lessS b c = false) : lessS a c = false := by
  cases h : lessS a c with
  | false => rfl
  | true =>
    cases h3 : lessS c b with
    | true => rw [lessS_trans h h3] at h1; cases h1
    | false =>
      have := lessS_total h2 h3
      rw [lessS_congr (a := a) ⟨rfl, rfl⟩ this, h] at h1; exact h1
theorem lessR_def (a b : Rul) : lessR a b = (lessS a b || (decide (a.like b) && decide (a.C < b.C))) := by
  unfold lessR lessS Rul.like
  by_cases e1 : a.L = b.L
  · by_cases e2 : a.R = b.R
    · simp [e1, e2, less_irrefl]
    · simp [e1, e2]
  · simp [e1]
theorem lessR_irrefl (a : Rul) : lessR a a = false := by simp [lessR]
theorem lessR_trans {a b c : Rul} (h1 : lessR a b = true) (h2 : lessR b c = true) : lessR a c = true := by
  rw [lessR_def] at *
  simp only [Bool.or_eq_true, Bool.and_eq_true, decide_eq_true_eq] at *
  rcases h1 with h1 | ⟨h1, h1'⟩
  · rcases h2 with h2 | ⟨h2, h2'⟩
    · exact .inl (lessS_trans h1 h2)
    · left; rw [← lessS_congr (a := a) ⟨rfl, rfl⟩ h2]; exact h1
  · rcases h2 with h2 | ⟨h2, h2'⟩
    · left; rw [lessS_congr h1 (b' := c) ⟨rfl, rfl⟩]; exact h2
    · right; exact ⟨h1.trans h2, by omega⟩
theorem lessR_asymm {a b : Rul} (h : lessR a b = true) : lessR b a = false := by
  cases h' : lessR b a with
  | false => rfl
  | true => have := lessR_trans h h'; rw [lessR_irrefl] at this; cases this
theorem lessR_total {a b : Rul} (h1 : lessR a b = false) (h2 : lessR b a = false) : a = b := by
  rw [lessR_def] at *
  simp only [Bool.or_eq_false_iff, Bool.and_eq_false_iff, decide_eq_false_iff_not] at *
  have hl := lessS_total h1.1 h2.1
  refine Rul.ext' hl.1 hl.2 ?_
  rcases h1.2 with h | h
  · exact absurd hl h
  · rcases h2.2 with h' | h'
    · exact absurd hl.symm h'
    · omega
/-- of two unlike rules just one stands ahead -/
theorem lessR_one (a b : Rul) : (lessR a b != lessR b a) = !decide (a = b) := by
  cases h1 : lessR a b <;> cases h2 : lessR b a
  · simp [lessR_total h1 h2]
  · have : a ≠ b := by rintro rfl; rw [lessR_irrefl] at h2; cases h2
    simp [this]
  · have : a ≠ b := by rintro rfl; rw [lessR_irrefl] at h1; cases h1
    simp [this]
  · rw [lessR_asymm h1] at h2; cases h2

def RiseR (n : List Rul) : Prop := n.Pairwise fun a b => lessS a b = true
/-- n is l in order -/
def IsNorm (l n : List Rul) : Prop :=
  RiseR n ∧ (∀ r ∈ n, r ∈ l ∧ chk r = true) ∧ ∀ r ∈ l, chk r = true → ∃ s ∈ n, s.like r ∧ s.C ≤ r.C

theorem RiseR.one {n : List Rul} (h : RiseR n) {a b : Rul} (ha : a ∈ n) (hb : b ∈ n) (hab : a.like b) : a = b := by
  obtain ⟨i, hi, rfl⟩ := List.mem_iff_getElem.1 ha
  obtain ⟨j, hj, rfl⟩ := List.mem_iff_getElem.1 hb
  rcases Nat.lt_trichotomy i j with h1 | h1 | h1
  · have := List.pairwise_iff_getElem.1 h i j hi hj h1
    rw [lessS_like hab] at this; cases this
  · subst h1; rfl
  · have := List.pairwise_iff_getElem.1 h j i hj hi h1
    rw [lessS_like hab.symm] at this; cases this
theorem riseR_unique : ∀ {l l' : List Rul}, RiseR l → RiseR l' → (∀ x, x ∈ l ↔ x ∈ l') → l = l'
  | [], [], _, _, _ => rfl
  | [], y :: ys, _, _, h => by have := (h y).2 (by simp); simp at this
  | x :: xs, [], _, _, h => by have := (h x).1 (by simp); simp at this
  | x :: xs, y :: ys, h1, h2, h => by
    have a1 := List.pairwise_cons.1 h1
    have a2 := List.pairwise_cons.1 h2
    have e : x = y := by
      rcases List.mem_cons.1 ((h x).1 (by simp)) with e | hx
      · exact e
      · rcases List.mem_cons.1 ((h y).2 (by simp)) with e | hy
        · exact e.symm
        · have := lessS_asymm (a1.1 y hy)
          rw [a2.1 x hx] at this; cases this
    subst e
    have : xs = ys := riseR_unique a1.2 a2.2 fun z => by
      constructor
      · intro hz
        rcases List.mem_cons.1 ((h z).1 (by simp [hz])) with e | h'
        · subst e; have := a1.1 z hz; rw [lessS_irrefl] at this; cases this
        · exact h'
      · intro hz
        rcases List.mem_cons.1 ((h z).2 (by simp [hz])) with e | h'
        · subst e; have := a2.1 z hz; rw [lessS_irrefl] at this; cases this
        · exact h'
    rw [this]
theorem IsNorm.sub {l l' n n' : List Rul} (h : IsNorm l n) (h' : IsNorm l' n') (hl : ∀ r ∈ l, chk r = true → ∃ s ∈ l', chk s = true ∧ s.like r ∧ s.C ≤ r.C) (hl' : ∀ r ∈ l', chk r = true → ∃ s ∈ l, chk s = true ∧ s.like r ∧ s.C ≤ r.C) : ∀ r ∈ n, r ∈ n' := by
  intro r hr
  obtain ⟨hrl, hrc⟩ := h.2.1 r hr
  obtain ⟨s, hs, hsc, hsr, hsC⟩ := hl r hrl hrc
  obtain ⟨t, ht, hts, htC⟩ := h'.2.2 s hs hsc
  obtain ⟨htl, htc⟩ := h'.2.1 t ht
  obtain ⟨u, hu, huc, hut, huC⟩ := hl' t htl htc
  obtain ⟨v, hv, hvu, hvC⟩ := h.2.2 u hu huc
  have e := h.1.one hv hr (((hvu.trans hut).trans hts).trans hsr)
  subst e
  have : t = v := Rul.ext' (hts.trans hsr).1 (hts.trans hsr).2 (by omega)
  rw [← this]; exact ht
/-- rules in order are told by the cheapest ones of each two sides -/
theorem IsNorm.same {l l' n n' : List Rul} (h : IsNorm l n) (h' : IsNorm l' n') (hl : ∀ r ∈ l, chk r = true → ∃ s ∈ l', chk s = true ∧ s.like r ∧ s.C ≤ r.C) (hl' : ∀ r ∈ l', chk r = true → ∃ s ∈ l, chk s = true ∧ s.like r ∧ s.C ≤ r.C) : n = n' :=
  riseR_unique h.1 h'.1 fun r => ⟨h.sub h' hl hl' r, h'.sub h hl' hl r⟩
theorem IsNorm.uniq {l l' n n' : List Rul} (h : IsNorm l n) (h' : IsNorm l' n') (hl : ∀ r, r ∈ l ↔ r ∈ l') : n = n' :=
  h.same h' (fun r hr hc => ⟨r, (hl r).1 hr, hc, ⟨rfl, rfl⟩, Int.le_refl _⟩) (fun r hr hc => ⟨r, (hl r).2 hr, hc, ⟨rfl, rfl⟩, Int.le_refl _⟩)

/-- one rule more, put where it stands -/
def insR : List Rul → Rul → List Rul
  | [], r => [r]
  | s :: n, r => if lessS s r = true then s :: insR n r else if s.like r then ⟨s.L, s.R, min s.C r.C⟩ :: n else r :: s :: n
def stepR (o : List Rul) (r : Rul) : List Rul := if chk r = true then insR o r else o
def nrm (l : List Rul) : List Rul := l.foldl stepR []

theorem mem_insR {r x : Rul} : ∀ {n : List Rul}, x ∈ insR n r → x = r ∨ x ∈ n
  | [], h => by simp [insR] at h; exact .inl h
  | s :: n, h => by
    unfold insR at h
    split at h
    · rcases List.mem_cons.1 h with e | h
      · right; simp [e]
      · rcases mem_insR h with e | h
        · exact .inl e
        · right; simp [h]
    · split at h
      · rename_i hl
        rcases List.mem_cons.1 h with e | h
        · by_cases hc : s.C ≤ r.C
          · right; rw [e, Int.min_eq_left hc]; simp
          · left; rw [e, Int.min_eq_right (by omega)]; exact Rul.ext' hl.1 hl.2 rfl
        · right; simp [h]
      · rcases List.mem_cons.1 h with e | h
        · exact .inl e
        · right; exact h
theorem insR_has {r : Rul} : ∀ (n : List Rul), (∃ s ∈ insR n r, s.like r ∧ s.C ≤ r.C) ∧ ∀ x ∈ n, ∃ s ∈ insR n r, s.like x ∧ s.C ≤ x.C
  | [] => ⟨⟨r, by simp [insR], ⟨rfl, rfl⟩, Int.le_refl _⟩, by simp⟩
  | s :: n => by
    have ih := insR_has (r := r) n
    unfold insR
    split
    · refine ⟨?_, fun x hx => ?_⟩
      · obtain ⟨t, ht, h⟩ := ih.1
        exact ⟨t, by simp [ht], h⟩
      · rcases List.mem_cons.1 hx with e | hx
        · exact ⟨s, by simp, by rw [e]; exact ⟨rfl, rfl⟩, by rw [e]; exact Int.le_refl _⟩
        · obtain ⟨t, ht, h⟩ := ih.2 x hx
          exact ⟨t, by simp [ht], h⟩
    · split
      · rename_i hl
        refine ⟨⟨⟨s.L, s.R, min s.C r.C⟩, by simp, hl, Int.min_le_right _ _⟩, fun x hx => ?_⟩
        rcases List.mem_cons.1 hx with e | hx
        · exact ⟨⟨s.L, s.R, min s.C r.C⟩, by simp, by rw [e]; exact ⟨rfl, rfl⟩, by rw [e]; exact Int.min_le_left _ _⟩
        · exact ⟨x, by simp [hx], ⟨rfl, rfl⟩, Int.le_refl _⟩
      · refine ⟨⟨r, by simp, ⟨rfl, rfl⟩, Int.le_refl _⟩, fun x hx => ⟨x, by simp at hx ⊢; exact .inr hx, ⟨rfl, rfl⟩, Int.le_refl _⟩⟩
theorem rise_insR {r : Rul} : ∀ {n : List Rul}, RiseR n → RiseR (insR n r)
  | [], _ => by simp [insR, RiseR]
  | s :: n, h => by
    have h' := List.pairwise_cons.1 h
    unfold insR
    split
    · rename_i hs
      refine List.pairwise_cons.2 ⟨fun x hx => ?_, rise_insR h'.2⟩
      rcases mem_insR hx with e | hx
      · rw [e]; exact hs
      · exact h'.1 x hx
    · rename_i hs
      split
      · exact List.pairwise_cons.2 ⟨fun x hx => h'.1 x hx, h'.2⟩
      · rename_i hl
        have hrs : lessS r s = true := by
          cases hq : lessS r s with
          | true => rfl
          | false => exact absurd (lessS_total (by simpa using hs) hq) hl
        refine List.pairwise_cons.2 ⟨fun x hx => ?_, h⟩
        rcases List.mem_cons.1 hx with e | hx
        · rw [e]; exact hrs
        · exact lessS_trans hrs (h'.1 x hx)
theorem insR_length (n : List Rul) (r : Rul) : (insR n r).length ≤ n.length + 1 := by
  induction n with
  | nil => simp [insR]
  | cons s n ih =>
    unfold insR
    split
    · simp; exact ih
    · split <;> simp
theorem isNorm_step {l n : List Rul} (h : IsNorm l n) (r : Rul) : IsNorm (l ++ [r]) (stepR n r) := by
  unfold stepR
  by_cases hc : chk r = true
  · rw [if_pos hc]
    refine ⟨rise_insR h.1, fun x hx => ?_, fun x hx hxc => ?_⟩
    · rcases mem_insR hx with e | hx
      · rw [e]; exact ⟨by simp, hc⟩
      · have := h.2.1 x hx; exact ⟨by simp [this.1], this.2⟩
    · rcases List.mem_append.1 hx with hx | hx
      · obtain ⟨s, hs, hsx, hsC⟩ := h.2.2 x hx hxc
        obtain ⟨t, ht, hts, htC⟩ := (insR_has (r := r) n).2 s hs
        exact ⟨t, ht, hts.trans hsx, by omega⟩
      · rw [List.mem_singleton.1 hx]; exact (insR_has n).1
  · rw [if_neg hc]
    refine ⟨h.1, fun x hx => ?_, fun x hx hxc => ?_⟩
    · have := h.2.1 x hx; exact ⟨by simp [this.1], this.2⟩
    · rcases List.mem_append.1 hx with hx | hx
      · exact h.2.2 x hx hxc
      · rw [List.mem_singleton.1 hx] at hxc; exact absurd hxc hc
theorem isNorm_foldl : ∀ (d l n : List Rul), IsNorm l n → IsNorm (l ++ d) (d.foldl stepR n)
  | [], l, n, h => by simpa using h
  | r :: d, l, n, h => by
    have := isNorm_foldl d (l ++ [r]) (stepR n r) (isNorm_step h r)
    simpa using this
theorem isNorm_nrm (l : List Rul) : IsNorm l (nrm l) := by
  have := isNorm_foldl l [] [] ⟨List.Pairwise.nil, by simp, by simp⟩
  simpa [nrm] using this
theorem IsNorm.eq {l n : List Rul} (h : IsNorm l n) : n = nrm l := h.uniq (isNorm_nrm l) fun _ => Iff.rfl
theorem nrm_snoc (l : List Rul) (r : Rul) : nrm (l ++ [r]) = stepR (nrm l) r := by simp [nrm]
theorem nrm_length (l : List Rul) : (nrm l).length ≤ l.length := by
  have : ∀ (d n : List Rul), (d.foldl stepR n).length ≤ n.length + d.length := by
    intro d
    induction d with
    | nil => intro n; simp
    | cons r d ih =>
      intro n
      have h1 := ih (stepR n r)
      have h2 : (stepR n r).length ≤ n.length + 1 := by
        unfold stepR; split
        · exact insR_length n r
        · omega
      simp only [List.foldl_cons, List.length_cons]; omega
  have := this l []
  simpa [nrm] using this
theorem nrm_congr {l l' : List Rul} (h : ∀ r, r ∈ l ↔ r ∈ l') : nrm l = nrm l' := (isNorm_nrm l).uniq (isNorm_nrm l') h
/-- what is in order is in order -/
theorem nrm_nrm (l : List Rul) : nrm (nrm l) = nrm l := by
  refine (isNorm_nrm (nrm l)).same (isNorm_nrm l) (fun r hr hc => ?_) (fun r hr hc => ?_)
  · exact ⟨r, ((isNorm_nrm l).2.1 r hr).1, hc, ⟨rfl, rfl⟩, Int.le_refl _⟩
  · obtain ⟨s, hs, h⟩ := (isNorm_nrm l).2.2 r hr hc
    exact ⟨s, hs, ((isNorm_nrm l).2.1 s hs).2, h⟩
theorem nrm_parts (a b : List Rul) : nrm (nrm a ++ nrm b) = nrm (a ++ b) := by
  refine (isNorm_nrm _).same (isNorm_nrm _) (fun r hr hc => ?_) (fun r hr hc => ?_)
  · rcases List.mem_append.1 hr with hr | hr
    · exact ⟨r, List.mem_append.2 (.inl ((isNorm_nrm a).2.1 r hr).1), hc, ⟨rfl, rfl⟩, Int.le_refl _⟩
    · exact ⟨r, List.mem_append.2 (.inr ((isNorm_nrm b).2.1 r hr).1), hc, ⟨rfl, rfl⟩, Int.le_refl _⟩
  · rcases List.mem_append.1 hr with hr | hr
    · obtain ⟨s, hs, h⟩ := (isNorm_nrm a).2.2 r hr hc
      exact ⟨s, List.mem_append.2 (.inl hs), ((isNorm_nrm a).2.1 s hs).2, h⟩
    · obtain ⟨s, hs, h⟩ := (isNorm_nrm b).2.2 r hr hc
      exact ⟨s, List.mem_append.2 (.inr hs), ((isNorm_nrm b).2.1 s hs).2, h⟩
theorem nrm_turned (a b : List Rul) : nrm (b ++ a) = nrm (a ++ b) := nrm_congr fun r => by simp [or_comm]

def Rul.turn (r : Rul) : Rul := ⟨r.R, r.L, r.C⟩
theorem Rul.turn_turn (r : Rul) : r.turn.turn = r := rfl
theorem chk_turn (r : Rul) : chk r.turn = chk r := by
  have h : decide (r.R = r.L) = decide (r.L = r.R) := by rw [decide_eq_decide]; exact ⟨Eq.symm, Eq.symm⟩
  show (goodL r.R && goodL r.L && decide (r.C < 18446744073709551615) && !decide (r.R = r.L)) = (goodL r.L && goodL r.R && decide (r.C < 18446744073709551615) && !decide (r.L = r.R))
  rw [h, Bool.and_comm (goodL r.R)]
theorem nrm_turns (l : List Rul) : nrm ((nrm (l.map Rul.turn)).map Rul.turn) = nrm l := by
  have hn := isNorm_nrm (l.map Rul.turn)
  refine (isNorm_nrm _).same (isNorm_nrm l) (fun r hr hc => ?_) (fun r hr hc => ?_)
  · obtain ⟨s, hs, rfl⟩ := List.mem_map.1 hr
    obtain ⟨u, hu, hus⟩ := List.mem_map.1 (hn.2.1 s hs).1
    exact ⟨s.turn, by rw [← hus]; exact hu, hc, ⟨rfl, rfl⟩, Int.le_refl _⟩
  · obtain ⟨s, hs, hsr, hsC⟩ := hn.2.2 r.turn (List.mem_map.2 ⟨r, hr, rfl⟩) (by rw [chk_turn]; exact hc)
    exact ⟨s.turn, List.mem_map.2 ⟨s, hs, rfl⟩, by rw [chk_turn]; exact (hn.2.1 s hs).2, ⟨hsr.2, hsr.1⟩, hsC⟩

theorem insR_at {r : Rul} : ∀ (n : List Rul) (k : Nat), k ≤ n.length → (∀ x ∈ n.take k, lessS x r = true) → (k < n.length → lessS (n.getD k Rul.no) r = false) →
    insR n r = if k < n.length ∧ (n.getD k Rul.no).like r then n.set k ⟨(n.getD k Rul.no).L, (n.getD k Rul.no).R, min (n.getD k Rul.no).C r.C⟩ else n.take k ++ r :: n.drop k
  | [], k, hk, _, _ => by
    obtain rfl : k = 0 := by simpa using hk
    simp [insR]
  | s :: n, 0, _, _, h => by
    have h0 : lessS s r = false := h (by simp)
    unfold insR
    simp only [h0, Bool.false_eq_true, if_false, List.length_cons, List.getD_cons_zero, List.set_cons_zero, List.take_zero, List.drop_zero, List.nil_append]
    by_cases hl : s.like r
    · rw [if_pos hl, if_pos ⟨by omega, hl⟩]
    · rw [if_neg hl, if_neg (fun h => hl h.2)]
  | s :: n, k + 1, hk, ha, h => by
    have hs : lessS s r = true := ha s (by simp)
    have ih := insR_at n k (by simpa using hk) (fun x hx => ha x (by simp [hx])) (fun hk' => by have := h (by simpa using hk'); simpa using this)
    unfold insR
    rw [if_pos hs, ih]
    simp only [List.length_cons, List.getD_cons_succ, List.set_cons_succ, List.take_succ_cons, List.drop_succ_cons, List.cons_append, Nat.add_lt_add_iff_right]
    split <;> rfl

end
section
namespace Spec

/-- no blank, no end of a line, and not the one sign 95 -/
def plain (l : List Int) : Bool := l.all (fun c => decide (c ≠ 9) && decide (c ≠ 10) && decide (c ≠ 32)) && !decide (l = [95])
def fit (r : Rul) : Bool := chk r && plain r.L && plain r.R
def field (l : List Int) : List Int := if l = [] then [95] else Utf.put l
def write (r : Rul) : List Int := [82, 69, 80, 32] ++ field r.L ++ [32] ++ field r.R ++ [32] ++ Num.dig r.C.toNat

open Classical in
/-- the signs that bytes are -/
noncomputable def signs (zs : List Int) : Option (List Int) := if h : ∃ l, Utf.IsRead zs (some l) then some h.choose else none
theorem signs_is (zs : List Int) : Utf.IsRead zs (signs zs) := by
  unfold signs
  split
  · rename_i h; exact h.choose_spec
  · rename_i h
    intro l hg hp
    exact h ⟨l, hg, hp⟩
theorem signs_of {zs : List Int} {x : Option (List Int)} (h : Utf.IsRead zs x) : signs zs = x := (signs_is zs).one h
theorem signs_put {l : List Int} (h : Utf.allGood l = true) : signs (Utf.put l) = some l := signs_of (x := some l) ⟨h, rfl⟩
theorem signs_some {zs l : List Int} (h : signs zs = some l) : Utf.allGood l = true ∧ Utf.put l = zs := by
  have := signs_is zs; rw [h] at this; exact this
/-- .. of a side's field -/
noncomputable def side (f : List Int) : Option (List Int) := if f = [95] then some [] else signs f

/-- both ways between two signs -/
def both (a b c : Int) : List Rul := [⟨[a], [b], c⟩, ⟨[b], [a], c⟩]
/-- KEY: row: how many signs the row has so far; p: its last one -/
def keysG (c : Int) : Nat → Int → List Int → List Rul
  | _, _, [] => []
  | row, p, x :: l => if x = 124 then keysG c 0 x l else (if 1 ≤ row ∧ x ≠ p then both p x c else []) ++ keysG c (row + 1) x l
def keysOk : Nat → List Int → Bool
  | _, [] => true
  | row, x :: l => if x = 124 then keysOk 0 l else decide (row + 1 ≤ 12) && decide (x ≠ 95) && keysOk (row + 1) l
/-- MAP -/
def mapsA (c a : Int) (l : List Int) : List Rul := l.flatMap fun b => if a ≠ b then [⟨[a], [b], c⟩] else []
def mapsG (c : Int) (l : List Int) : List Rul := l.flatMap fun a => mapsA c a l
def mapsOk (l : List Int) : Bool := decide (l.length ≤ 12) && l.all fun x => decide (x ≠ 95)

/-- what a line tells: its error, costs, rules -/
structure Sp where
  e : Int
  base : List Int
  rules : List Rul
def Sp.no (e : Int) : Sp := ⟨e, [], []⟩

/-- BASE -/
def costs : List (List Int) → Option (List Int)
  | [] => some []
  | f :: fs => match Num.read f with
    | none => none
    | some c => match costs fs with
      | none => none
      | some l => some ((c : Int) :: l)
def told (ok : Bool) (rs : List Rul) : Sp := if ok = true ∧ rs.all fit = true then ⟨0, [], rs⟩ else Sp.no 60
/-- behind the signs: the cost, and the rules -/
def last (f : List Int) (k : Int → Sp) : Sp := match Num.read f with
  | none => Sp.no 50
  | some c => k c
noncomputable def rep (f : List (List Int)) : Sp := match side (f.getD 1 []), side (f.getD 2 []) with
  | some a, some b => last (f.getD 3 []) fun c => told true [⟨a, b, c⟩]
  | _, _ => Sp.no 10
noncomputable def key (f : List (List Int)) : Sp := match signs (f.getD 1 []) with
  | some a => last (f.getD 2 []) fun c => told (keysOk 0 a) (keysG c 0 0 a)
  | none => Sp.no 10
noncomputable def map (f : List (List Int)) : Sp := match signs (f.getD 1 []) with
  | some a => last (f.getD 2 []) fun c => told (mapsOk a) (mapsG c a)
  | none => Sp.no 10
def base (f : List (List Int)) : Sp := match costs (f.drop 1) with
  | some l => ⟨0, l, []⟩
  | none => Sp.no 50
def wBASE : List Int := [66, 65, 83, 69]
def wREP : List Int := [82, 69, 80]
def wKEY : List Int := [75, 69, 89]
def wMAP : List Int := [77, 65, 80]
noncomputable def byWord (f : List (List Int)) : Sp :=
  if f.getD 0 [] = wBASE then (if f.length = 5 then base f else Sp.no 71)
  else if f.getD 0 [] = wREP then (if f.length = 4 then rep f else Sp.no 71)
  else if f.getD 0 [] = wKEY then (if f.length = 3 then key f else Sp.no 71)
  else if f.getD 0 [] = wMAP then (if f.length = 3 then map f else Sp.no 71)
  else Sp.no 70
noncomputable def read (l : List Int) : Sp := if Line.bare l = true then Sp.no 0 else byWord (Line.fields l)

theorem told_fit {ok : Bool} {rs : List Rul} : ∀ r ∈ (told ok rs).rules, fit r = true := by
  unfold told
  split
  · rename_i h; exact fun r hr => List.all_eq_true.1 h.2 r hr
  · simp [Sp.no]
theorem told_base (ok : Bool) (rs : List Rul) : (told ok rs).base = [] := by unfold told; split <;> rfl
theorem last_rules {f : List Int} {k : Int → Sp} {P : Sp → Prop} (h1 : P (Sp.no 50)) (h2 : ∀ c : Nat, c < 18446744073709551615 → P (k c)) : P (last f k) := by
  unfold last
  split
  · exact h1
  · rename_i c hc; exact h2 c (Num.read_some hc).2
def Fine (s : Sp) : Prop := (∀ r ∈ s.rules, fit r = true) ∧ (s.e ≠ 0 → s.base = [] ∧ s.rules = []) ∧ (s.base = [] ∨ s.base.length = 4 ∧ s.rules = [])
theorem fine_no (e : Int) : Fine (Sp.no e) := ⟨by simp [Sp.no], fun _ => ⟨rfl, rfl⟩, .inl rfl⟩
theorem fine_told (ok : Bool) (rs : List Rul) : Fine (told ok rs) := ⟨told_fit, by unfold told; split <;> simp [Sp.no], .inl (told_base ok rs)⟩
theorem costs_length : ∀ {f : List (List Int)} {l : List Int}, costs f = some l → l.length = f.length
  | [], l, h => by simp [costs] at h; rw [h]; rfl
  | f :: fs, l, h => by
    unfold costs at h
    cases hr : Num.read f with
    | none => rw [hr] at h; cases h
    | some c =>
      cases hc : costs fs with
      | none => rw [hr, hc] at h; cases h
      | some l' =>
        rw [hr, hc] at h
        simp only [Option.some.injEq] at h
        rw [← h, List.length_cons, List.length_cons, costs_length hc]
theorem fine_read (l : List Int) : Fine (read l) := by
  unfold read
  split
  · exact fine_no 0
  unfold byWord
  split
  · split
    · unfold base
      split
      · rename_i hl _ c hc
        refine ⟨by simp, fun h => absurd rfl h, .inr ⟨?_, rfl⟩⟩
        rw [costs_length hc, List.length_drop, hl]
      · exact fine_no 50
    · exact fine_no 71
  split
  · split
    · unfold rep
      split
      · exact last_rules (fine_no 50) fun c _ => fine_told _ _
      · exact fine_no 10
    · exact fine_no 71
  split
  · split
    · unfold key
      split
      · exact last_rules (fine_no 50) fun c _ => fine_told _ _
      · exact fine_no 10
    · exact fine_no 71
  split
  · split
    · unfold map
      split
      · exact last_rules (fine_no 50) fun c _ => fine_told _ _
      · exact fine_no 10
    · exact fine_no 71
  · exact fine_no 70

theorem enc_plain {n : Int} (hg : Utf.good n = true) (h9 : n ≠ 9) (h32 : n ≠ 32) : ∀ b ∈ Utf.enc n, Line.isBlank b = false := by
  have h := (Utf.good_iff n).1 hg
  intro b hb
  have hb2 : b ≠ 32 ∧ b ≠ 9 := by
    unfold Utf.enc at hb
    split at hb
    · simp only [List.mem_singleton] at hb; omega
    · split at hb
      · simp only [List.mem_cons, List.not_mem_nil, or_false] at hb; omega
      · split at hb
        · simp only [List.mem_cons, List.not_mem_nil, or_false] at hb; omega
        · simp only [List.mem_cons, List.not_mem_nil, or_false] at hb; omega
  simp [Line.isBlank, hb2.1, hb2.2]
theorem put_plain {l : List Int} (hg : Utf.allGood l = true) (hp : plain l = true) : ∀ b ∈ Utf.put l, Line.isBlank b = false := by
  intro b hb
  obtain ⟨n, hn, hb⟩ := List.mem_flatMap.1 hb
  have h1 := List.all_eq_true.1 hg n hn
  unfold plain at hp
  rw [Bool.and_eq_true] at hp
  have h2 := List.all_eq_true.1 hp.1 n hn
  simp only [Bool.and_eq_true, decide_eq_true_eq] at h2
  exact enc_plain h1 h2.1.1 h2.2 b hb
theorem field_plain {l : List Int} (hg : Utf.allGood l = true) (hp : plain l = true) : (∀ b ∈ field l, Line.isBlank b = false) ∧ field l ≠ [] := by
  unfold field
  split
  · exact ⟨by intro b hb; simp at hb; subst hb; rfl, by simp⟩
  · rename_i h
    refine ⟨put_plain hg hp, ?_⟩
    cases l with
    | nil => exact absurd rfl h
    | cons n l => exact Utf.put_ne n l
theorem put_one {l : List Int} (hg : Utf.allGood l = true) (h : Utf.put l = [95]) : l = [95] :=
  Utf.put_inj l [95] hg (by decide) (by rw [h]; decide)
theorem side_field {l : List Int} (hg : Utf.allGood l = true) (hp : plain l = true) : side (field l) = some l := by
  unfold field side
  by_cases h : l = []
  · rw [if_pos h, if_pos rfl, h]
  · rw [if_neg h, if_neg ?_, signs_put hg]
    intro e
    have := put_one hg e
    subst this
    exact absurd hp (by decide)
theorem dig_plain (c : Nat) : (∀ b ∈ Num.dig c, Line.isBlank b = false) ∧ Num.dig c ≠ [] := by
  refine ⟨fun b hb => ?_, Num.dig_ne c⟩
  have := Num.dig_digits c b hb
  have h1 : b ≠ 32 := by omega
  have h2 : b ≠ 9 := by omega
  simp [Line.isBlank, h1, h2]
theorem fields_end (x : List Int) (hx : ∀ c ∈ x, Line.isBlank c = false) (hn : x ≠ []) : Line.fields x = [x] := by
  have h := Line.fieldsA_plain x [] [] hx
  rw [List.append_nil, List.nil_append] at h
  show Line.fieldsA [] x = [x]
  rw [h]
  unfold Line.fieldsA
  rw [if_neg hn]
theorem fields_next (x rest : List Int) (hx : ∀ c ∈ x, Line.isBlank c = false) (hn : x ≠ []) : Line.fields (x ++ [32] ++ rest) = x :: Line.fields rest := by
  have h := Line.fieldsA_plain x [] ([32] ++ rest) hx
  rw [List.nil_append] at h
  show Line.fieldsA [] (x ++ [32] ++ rest) = _
  rw [List.append_assoc, h]
  show Line.fieldsA x (32 :: rest) = _
  unfold Line.fieldsA
  rw [if_pos (by rfl), if_neg hn]; rfl
theorem fit_parts {r : Rul} (h : fit r = true) : chk r = true ∧ plain r.L = true ∧ plain r.R = true := by
  unfold fit at h
  simp only [Bool.and_eq_true] at h
  exact ⟨h.1.1, h.1.2, h.2⟩
theorem chk_sides {r : Rul} (h : chk r = true) : Utf.allGood r.L = true ∧ Utf.allGood r.R = true ∧ r.C < 18446744073709551615 := by
  unfold chk goodL at h
  simp only [Bool.and_eq_true, decide_eq_true_eq] at h
  exact ⟨h.1.1.1.1, h.1.1.2.1, h.1.2⟩
theorem write_fields {r : Rul} (h : fit r = true) : Line.fields (write r) = [wREP, field r.L, field r.R, Num.dig r.C.toNat] := by
  obtain ⟨hc, hl, hr⟩ := fit_parts h
  obtain ⟨gl, gr, _⟩ := chk_sides hc
  have hL := field_plain gl hl
  have hR := field_plain gr hr
  have hD := dig_plain r.C.toNat
  have e : write r = wREP ++ [32] ++ (field r.L ++ [32] ++ (field r.R ++ [32] ++ Num.dig r.C.toNat)) := by
    unfold write wREP; simp
  rw [e, fields_next wREP _ (by decide) (by decide), fields_next _ _ hL.1 hL.2, fields_next _ _ hR.1 hR.2, fields_end _ hD.1 hD.2]
theorem read_write {r : Rul} (h : fit r = true) (h0 : 0 ≤ r.C) : read (write r) = ⟨0, [], [r]⟩ := by
  obtain ⟨hc, hl, hr⟩ := fit_parts h
  obtain ⟨gl, gr, hC⟩ := chk_sides hc
  have hf := write_fields h
  have hb : Line.bare (write r) = false := by
    unfold Line.bare; rw [hf]; rfl
  unfold read
  rw [if_neg (by rw [hb]; decide), hf]
  have e1 : ([wREP, field r.L, field r.R, Num.dig r.C.toNat] : List (List Int)).getD 0 [] = wREP := rfl
  unfold byWord
  rw [e1, if_neg (by decide), if_pos rfl, if_pos (show List.length _ = 4 from rfl)]
  unfold rep
  have e2 : ([wREP, field r.L, field r.R, Num.dig r.C.toNat] : List (List Int)).getD 1 [] = field r.L := rfl
  have e3 : ([wREP, field r.L, field r.R, Num.dig r.C.toNat] : List (List Int)).getD 2 [] = field r.R := rfl
  have e4 : ([wREP, field r.L, field r.R, Num.dig r.C.toNat] : List (List Int)).getD 3 [] = Num.dig r.C.toNat := rfl
  rw [e2, e3, e4, side_field gl hl, side_field gr hr]
  show last (Num.dig r.C.toNat) _ = _
  unfold last
  rw [Num.read_dig (by omega)]
  have e5 : (⟨r.L, r.R, ((r.C.toNat : Nat) : Int)⟩ : Rul) = r := Rul.ext' rfl rfl (by show ((r.C.toNat : Nat) : Int) = r.C; omega)
  show told true [⟨r.L, r.R, ((r.C.toNat : Nat) : Int)⟩] = _
  rw [e5]
  unfold told
  rw [if_pos ⟨rfl, by simp [h]⟩]

end Spec
end
section
namespace File

/-- costs: the four base steps, and rules -/
structure Cst where
  base : List Int
  rules : List Rul
def Cst.zero : Cst := ⟨[0, 0, 0, 0], []⟩
/-- what a file tells: its costs, the line that is wrong, the error -/
structure Got where
  c : Cst
  at_ : Int
  e : Int

noncomputable def readA (i : Nat) (had : Bool) (base : List Int) (rs : List Rul) : List (List Int) → Got
  | [] => ⟨⟨base, rs⟩, -1, 0⟩
  | l :: ls =>
    if (Spec.read l).e ≠ 0 then ⟨Cst.zero, (i : Int), (Spec.read l).e⟩
    else if (Spec.read l).base ≠ [] ∧ had = true then ⟨Cst.zero, (i : Int), 80⟩
    else if 200 < (nrm (rs ++ (Spec.read l).rules)).length then ⟨Cst.zero, (i : Int), 81⟩
    else readA (i + 1) (had || !decide ((Spec.read l).base = [])) (if (Spec.read l).base = [] then base else (Spec.read l).base) (nrm (rs ++ (Spec.read l).rules)) ls
noncomputable def read (b : List Int) : Got := readA 0 false [1, 1, 1, 1] [] (Line.split b)

/-- all rules that lines tell, and all their bases -/
noncomputable def flat (ls : List (List Int)) : List Rul := ls.flatMap fun l => (Spec.read l).rules
noncomputable def bs (ls : List (List Int)) : List (List Int) := ls.flatMap fun l => if (Spec.read l).base = [] then [] else [(Spec.read l).base]
theorem flat_app (a b : List (List Int)) : flat (a ++ b) = flat a ++ flat b := by simp [flat]
theorem bs_app (a b : List (List Int)) : bs (a ++ b) = bs a ++ bs b := by simp [bs]
theorem flat_cons (a : List Int) (b : List (List Int)) : flat (a :: b) = (Spec.read a).rules ++ flat b := by simp [flat]
theorem bs_cons (a : List Int) (b : List (List Int)) : bs (a :: b) = (if (Spec.read a).base = [] then [] else [(Spec.read a).base]) ++ bs b := by simp [bs]

theorem insR_more (n : List Rul) (r : Rul) : n.length ≤ (insR n r).length := by
  induction n with
  | nil => simp
  | cons s n ih =>
    unfold insR
    split
    · simp; exact ih
    · split <;> simp
theorem nrm_more (a b : List Rul) : (nrm a).length ≤ (nrm (a ++ b)).length := by
  unfold nrm
  rw [List.foldl_append]
  generalize List.foldl stepR [] a = n
  induction b generalizing n with
  | nil => simp
  | cons r b ih =>
    rw [List.foldl_cons]
    refine Nat.le_trans ?_ (ih (stepR n r))
    unfold stepR
    split
    · exact insR_more n r
    · exact Nat.le_refl _
theorem nrm_left (a b : List Rul) : nrm (nrm a ++ b) = nrm (a ++ b) := by
  rw [← nrm_parts (nrm a) b, nrm_nrm, nrm_parts]

/-- lines that are read -/
def Ok (had : Bool) (rs : List Rul) (ls : List (List Int)) : Prop :=
  (∀ l ∈ ls, (Spec.read l).e = 0) ∧ (if had = true then 1 else 0) + (bs ls).length ≤ 1 ∧ (nrm (rs ++ flat ls)).length ≤ 200

theorem readA_all : ∀ (ls : List (List Int)) (i : Nat) (had : Bool) (base : List Int) (rs : List Rul), nrm rs = rs → Ok had rs ls →
    readA i had base rs ls = ⟨⟨(bs ls).headD base, nrm (rs ++ flat ls)⟩, -1, 0⟩
  | [], i, had, base, rs, hn, _ => by
    simp [readA, bs, flat, hn]
  | l :: ls, i, had, base, rs, hn, ⟨h1, h2, h3⟩ => by
    have hl := h1 l (by simp)
    rw [flat_cons] at h3
    have h4 : (nrm (rs ++ (Spec.read l).rules)).length ≤ 200 := by
      refine Nat.le_trans (nrm_more _ (flat ls)) ?_
      rw [List.append_assoc]; exact h3
    rw [bs_cons] at h2
    unfold readA
    rw [if_neg (by simp [hl])]
    by_cases hb : (Spec.read l).base = []
    · rw [if_pos hb] at h2
      rw [if_neg (by simp [hb]), if_neg (by omega), readA_all ls (i + 1) _ _ _ (nrm_nrm _) ⟨fun x hx => h1 x (by simp [hx]), by simpa [hb] using h2, by rw [nrm_left, List.append_assoc]; exact h3⟩]
      rw [if_pos hb, nrm_left, List.append_assoc, ← flat_cons, bs_cons, if_pos hb, List.nil_append]
    · rw [if_neg hb] at h2
      have hh : had = false := by
        cases had with
        | false => rfl
        | true => simp at h2; omega
      subst hh
      have h5 : bs ls = [] := by
        have : (bs ls).length = 0 := by simp at h2; simp [h2]
        exact List.length_eq_zero_iff.1 this
      rw [if_neg (by simp), if_neg (by omega), readA_all ls (i + 1) _ _ _ (nrm_nrm _) ⟨fun x hx => h1 x (by simp [hx]), by simp [hb, h5], by rw [nrm_left, List.append_assoc]; exact h3⟩]
      rw [if_neg hb, nrm_left, List.append_assoc, ← flat_cons, bs_cons, if_neg hb, h5]
      rfl

theorem readA_ok : ∀ (ls : List (List Int)) (i : Nat) (had : Bool) (base : List Int) (rs : List Rul), nrm rs = rs → rs.length ≤ 200 → (readA i had base rs ls).e = 0 → Ok had rs ls
  | [], i, had, base, rs, hn, hl, _ => ⟨by simp, by cases had <;> simp [bs], by simp [flat, hn, hl]⟩
  | l :: ls, i, had, base, rs, hn, hl, he => by
    unfold readA at he
    by_cases h0 : (Spec.read l).e = 0
    · rw [if_neg (by simp [h0])] at he
      by_cases h1 : (Spec.read l).base ≠ [] ∧ had = true
      · rw [if_pos h1] at he; simp at he
      · rw [if_neg h1] at he
        by_cases h2 : 200 < (nrm (rs ++ (Spec.read l).rules)).length
        · rw [if_pos h2] at he; simp at he
        · rw [if_neg h2] at he
          obtain ⟨g1, g2, g3⟩ := readA_ok ls _ _ _ _ (nrm_nrm _) (by omega) he
          refine ⟨fun x hx => ?_, ?_, ?_⟩
          · rcases List.mem_cons.1 hx with rfl | hx
            · exact h0
            · exact g1 x hx
          · rw [bs_cons]
            by_cases hb : (Spec.read l).base = []
            · rw [if_pos hb]
              simpa [hb] using g2
            · rw [if_neg hb]
              have hh : had = false := by
                cases had with
                | false => rfl
                | true => exact absurd ⟨hb, rfl⟩ h1
              subst hh
              have h5 : (bs ls).length = 0 := by
                rw [if_pos (by simp [hb])] at g2; omega
              simp [h5]
          · rw [flat_cons, ← List.append_assoc, ← nrm_left]; exact g3
    · rw [if_pos (by simpa using h0)] at he
      exact absurd he h0

theorem read_ok {b : List Int} (h : (read b).e = 0) : Ok false [] (Line.split b) := readA_ok _ _ _ _ _ rfl (by simp) h
theorem read_all {b : List Int} (h : Ok false [] (Line.split b)) : read b = ⟨⟨(bs (Line.split b)).headD [1, 1, 1, 1], nrm (flat (Line.split b))⟩, -1, 0⟩ := readA_all _ _ _ _ _ rfl h

/-- a line that is wrong -/
theorem readA_bad : ∀ (ls : List (List Int)) (i : Nat) (had : Bool) (base : List Int) (rs : List Rul) (g : Got), nrm rs = rs → rs.length ≤ 200 → readA i had base rs ls = g → g.e ≠ 0 →
    ∃ k, k < ls.length ∧ g.at_ = ((i + k : Nat) : Int) ∧ g.c = Cst.zero ∧ Ok had rs (ls.take k) ∧
      ((Spec.read (ls.getD k [])).e = g.e ∨ (Spec.read (ls.getD k [])).e = 0 ∧ (g.e = 80 ∧ (Spec.read (ls.getD k [])).base ≠ [] ∧ (had = true ∨ bs (ls.take k) ≠ []) ∨ g.e = 81 ∧ 200 < (nrm (rs ++ flat (ls.take (k + 1)))).length))
  | [], i, had, base, rs, g, hn, hl, hg, he => by
    subst hg; simp [readA] at he
  | l :: ls, i, had, base, rs, g, hn, hl, hg, he => by
    unfold readA at hg
    by_cases h0 : (Spec.read l).e = 0
    · rw [if_neg (by simp [h0])] at hg
      by_cases h1 : (Spec.read l).base ≠ [] ∧ had = true
      · rw [if_pos h1] at hg; subst hg
        exact ⟨0, by simp, by simp, rfl, ⟨by simp, by cases had <;> simp [bs], by simp [flat, hn, hl]⟩, .inr ⟨h0, .inl ⟨rfl, h1.1, .inl h1.2⟩⟩⟩
      · rw [if_neg h1] at hg
        by_cases h2 : 200 < (nrm (rs ++ (Spec.read l).rules)).length
        · rw [if_pos h2] at hg; subst hg
          exact ⟨0, by simp, by simp, rfl, ⟨by simp, by cases had <;> simp [bs], by simp [flat, hn, hl]⟩, .inr ⟨h0, .inr ⟨rfl, by simpa [flat] using h2⟩⟩⟩
        · rw [if_neg h2] at hg
          obtain ⟨k, hk, ha, hc, ⟨g1, g2, g3⟩, hor⟩ := readA_bad ls _ _ _ _ g (nrm_nrm _) (by omega) hg he
          refine ⟨k + 1, by simp; omega, by rw [ha]; congr 1; omega, hc, ⟨?_, ?_, ?_⟩, ?_⟩
          · intro x hx
            rw [List.take_succ_cons] at hx
            rcases List.mem_cons.1 hx with rfl | hx
            · exact h0
            · exact g1 x hx
          · rw [List.take_succ_cons, bs_cons]
            by_cases hb : (Spec.read l).base = []
            · rw [if_pos hb]
              simpa [hb] using g2
            · rw [if_neg hb]
              have hh : had = false := by
                cases had with
                | false => rfl
                | true => exact absurd ⟨hb, rfl⟩ h1
              subst hh
              have h5 : (bs (ls.take k)).length = 0 := by
                rw [if_pos (by simp [hb])] at g2; omega
              simp [h5]
          · rw [List.take_succ_cons, flat_cons, ← List.append_assoc, ← nrm_left]; exact g3
          · rw [List.getD_cons_succ]
            rcases hor with h | ⟨h, ⟨h5, h6, h7⟩ | ⟨h5, h6⟩⟩
            · exact .inl h
            · refine .inr ⟨h, .inl ⟨h5, h6, ?_⟩⟩
              by_cases hb : (Spec.read l).base = []
              · rcases h7 with h7 | h7
                · left; simpa [hb] using h7
                · right; rw [List.take_succ_cons, bs_cons, if_pos hb]; exact h7
              · right; rw [List.take_succ_cons, bs_cons, if_neg hb]; simp
            · refine .inr ⟨h, .inr ⟨h5, ?_⟩⟩
              rw [List.take_succ_cons, flat_cons, ← List.append_assoc, ← nrm_left]; exact h6
    · rw [if_pos (by simpa using h0)] at hg; subst hg
      exact ⟨0, by simp, by simp, rfl, ⟨by simp, by cases had <;> simp [bs], by simp [flat, hn, hl]⟩, .inl rfl⟩

theorem read_bad {b : List Int} {g : Got} (h : read b = g) (he : g.e ≠ 0) :
    ∃ k, k < (Line.split b).length ∧ g.at_ = (k : Int) ∧ g.c = Cst.zero ∧ Ok false [] ((Line.split b).take k) ∧
      ((Spec.read ((Line.split b).getD k [])).e = g.e ∨ (Spec.read ((Line.split b).getD k [])).e = 0 ∧ (g.e = 80 ∧ (Spec.read ((Line.split b).getD k [])).base ≠ [] ∧ bs ((Line.split b).take k) ≠ [] ∨ g.e = 81 ∧ 200 < (nrm (flat ((Line.split b).take (k + 1)))).length)) := by
  obtain ⟨k, h1, h2, h3, h4, h5⟩ := readA_bad _ _ _ _ _ g rfl (by simp) h he
  refine ⟨k, h1, by simpa using h2, h3, h4, ?_⟩
  rcases h5 with h5 | ⟨h6, ⟨h7, h8, h9 | h9⟩ | h7⟩
  · exact .inl h5
  · cases h9
  · exact .inr ⟨h6, .inl ⟨h7, h8, h9⟩⟩
  · exact .inr ⟨h6, .inr h7⟩

def check (c : Cst) : Bool := c.base.all (fun x => decide (x < 18446744073709551615)) && decide (c.rules.length ≤ 200) && c.rules.all Spec.fit && decide (nrm c.rules = c.rules)
def baseLine (b : List Int) : List Int := Spec.wBASE ++ b.flatMap fun x => 32 :: Num.dig x.toNat
def lines (c : Cst) : List (List Int) := baseLine c.base :: c.rules.map Spec.write
def write (c : Cst) : List Int := (lines c).flatMap fun l => l ++ [10]

theorem dig_no (c : Nat) : ∀ d ∈ Num.dig c, d ≠ 10 := fun d hd => by have := Num.dig_digits c d hd; omega
theorem enc_no {n : Int} (hg : Utf.good n = true) (h : n ≠ 10) : ∀ b ∈ Utf.enc n, b ≠ 10 := by
  intro b hb
  unfold Utf.good at hg
  unfold Utf.enc at hb
  simp at hg
  split at hb
  · simp at hb; omega
  · split at hb
    · simp at hb; omega
    · split at hb <;> (simp at hb; omega)
theorem field_no {l : List Int} (hg : Utf.allGood l = true) (hp : Spec.plain l = true) : ∀ d ∈ Spec.field l, d ≠ 10 := by
  unfold Spec.field
  split
  · simp
  · intro d hd
    unfold Utf.put at hd
    obtain ⟨n, hn, hd⟩ := List.mem_flatMap.1 hd
    have h1 : n ≠ 10 := by
      unfold Spec.plain at hp
      rw [Bool.and_eq_true] at hp
      have := List.all_eq_true.1 hp.1 n hn
      simp at this; exact this.1.2
    have hgn : Utf.good n = true := List.all_eq_true.1 hg n hn
    exact enc_no hgn h1 d hd
theorem write_no {r : Rul} (h : Spec.fit r = true) : ∀ d ∈ Spec.write r, d ≠ 10 := by
  obtain ⟨hc, hl, hr⟩ := Spec.fit_parts h
  obtain ⟨gl, gr, _⟩ := Spec.chk_sides hc
  unfold Spec.write
  intro d hd
  simp only [List.mem_append] at hd
  rcases hd with ((((hd | hd) | hd) | hd) | hd) | hd
  · simp at hd; omega
  · exact field_no gl hl d hd
  · simp at hd; omega
  · exact field_no gr hr d hd
  · simp at hd; omega
  · exact dig_no _ d hd
theorem base_no (b : List Int) : ∀ d ∈ baseLine b, d ≠ 10 := by
  unfold baseLine Spec.wBASE
  intro d hd
  rcases List.mem_append.1 hd with hd | hd
  · simp at hd; omega
  · obtain ⟨x, _, hd⟩ := List.mem_flatMap.1 hd
    rcases List.mem_cons.1 hd with rfl | hd
    · decide
    · exact dig_no _ d hd

theorem fields_digs : ∀ (b : List Int), Line.fields (b.flatMap fun x => 32 :: Num.dig x.toNat) = b.map fun x => Num.dig x.toNat
  | [] => by simp [Line.fields, Line.fieldsA]
  | x :: b => by
    rw [List.flatMap_cons, List.cons_append, Line.fields_blank 32 (by decide)]
    have hd := Spec.dig_plain x.toNat
    cases b with
    | nil => rw [List.flatMap_nil, List.append_nil, Spec.fields_end _ hd.1 hd.2]; rfl
    | cons y b =>
      have ih := fields_digs (y :: b)
      rw [List.flatMap_cons, List.cons_append, Line.fields_blank 32 (by decide)] at ih
      rw [List.flatMap_cons, show Num.dig x.toNat ++ (32 :: Num.dig y.toNat ++ b.flatMap fun x => 32 :: Num.dig x.toNat) = Num.dig x.toNat ++ [32] ++ (Num.dig y.toNat ++ b.flatMap fun x => 32 :: Num.dig x.toNat) by simp, Spec.fields_next _ _ hd.1 hd.2, ih]
      rfl
theorem fields_base (b : List Int) (hb : b ≠ []) : Line.fields (baseLine b) = Spec.wBASE :: b.map fun x => Num.dig x.toNat := by
  unfold baseLine
  cases b with
  | nil => exact absurd rfl hb
  | cons x b =>
    rw [List.flatMap_cons, show Spec.wBASE ++ (32 :: Num.dig x.toNat ++ b.flatMap fun x => 32 :: Num.dig x.toNat) = Spec.wBASE ++ [32] ++ (Num.dig x.toNat ++ b.flatMap fun x => 32 :: Num.dig x.toNat) by simp, Spec.fields_next _ _ (by decide) (by decide)]
    have := fields_digs (x :: b)
    rw [List.flatMap_cons, List.cons_append, Line.fields_blank 32 (by decide)] at this
    rw [this]
theorem costs_digs : ∀ (b : List Int), (∀ x ∈ b, 0 ≤ x ∧ x < 18446744073709551615) → Spec.costs (b.map fun x => Num.dig x.toNat) = some b
  | [], _ => rfl
  | x :: b, h => by
    have hx := h x (by simp)
    rw [List.map_cons]
    unfold Spec.costs
    rw [Num.read_dig (by omega), costs_digs b fun y hy => h y (by simp [hy])]
    show some ((x.toNat : Int) :: b) = _
    rw [show ((x.toNat : Nat) : Int) = x by omega]
theorem read_base (b : List Int) (h4 : b.length = 4) (h : ∀ x ∈ b, 0 ≤ x ∧ x < 18446744073709551615) : Spec.read (baseLine b) = ⟨0, b, []⟩ := by
  have hb : b ≠ [] := by intro e; rw [e] at h4; simp at h4
  have hf := fields_base b hb
  unfold Spec.read
  rw [if_neg (by unfold Line.bare; rw [hf]; show ¬ ((Spec.wBASE.getD 0 0 == 35) = true); decide), hf]
  unfold Spec.byWord
  rw [List.getD_cons_zero, if_pos rfl, if_pos (by simp [h4])]
  unfold Spec.base
  rw [List.drop_succ_cons, List.drop_zero, costs_digs b h]

theorem split_write {c : Cst} (h : c.rules.all Spec.fit = true) : Line.split (write c) = lines c := by
  unfold write
  refine Line.split_back _ fun x hx => ?_
  unfold lines at hx
  rcases List.mem_cons.1 hx with rfl | hx
  · exact base_no _
  · obtain ⟨r, hr, rfl⟩ := List.mem_map.1 hx
    exact write_no (List.all_eq_true.1 h r hr)
theorem check_parts {c : Cst} (h : check c = true) : (∀ x ∈ c.base, x < 18446744073709551615) ∧ c.rules.length ≤ 200 ∧ (∀ r ∈ c.rules, Spec.fit r = true) ∧ nrm c.rules = c.rules := by
  unfold check at h
  simp only [Bool.and_eq_true, decide_eq_true_eq, List.all_eq_true] at h
  exact ⟨h.1.1.1, h.1.1.2, h.1.2, h.2⟩
theorem check_of {c : Cst} (h1 : ∀ x ∈ c.base, x < 18446744073709551615) (h2 : c.rules.length ≤ 200) (h3 : ∀ r ∈ c.rules, Spec.fit r = true) (h4 : nrm c.rules = c.rules) : check c = true := by
  unfold check
  simp only [Bool.and_eq_true, decide_eq_true_eq, List.all_eq_true]
  exact ⟨⟨⟨h1, h2⟩, h3⟩, h4⟩
/-- costs are read as they were written -/
theorem read_write {c : Cst} (h : check c = true) (h4 : c.base.length = 4) (h0 : ∀ x ∈ c.base, 0 ≤ x) (hr : ∀ r ∈ c.rules, 0 ≤ r.C) : read (write c) = ⟨c, -1, 0⟩ := by
  obtain ⟨h1, h2, h3, h5⟩ := check_parts h
  have hb := read_base c.base h4 fun x hx => ⟨h0 x hx, h1 x hx⟩
  have hsp : Line.split (write c) = lines c := split_write (List.all_eq_true.2 h3)
  have hw : ∀ rs : List Rul, (∀ r ∈ rs, Spec.fit r = true ∧ 0 ≤ r.C) → flat (rs.map Spec.write) = rs ∧ bs (rs.map Spec.write) = [] := by
    intro rs
    induction rs with
    | nil => intro _; exact ⟨rfl, rfl⟩
    | cons r rs ih =>
      intro hh
      obtain ⟨i1, i2⟩ := ih fun x hx => hh x (by simp [hx])
      have := Spec.read_write (hh r (by simp)).1 (hh r (by simp)).2
      rw [List.map_cons, flat_cons, bs_cons, this, i1, i2]
      exact ⟨rfl, rfl⟩
  obtain ⟨w1, w2⟩ := hw c.rules fun r hr' => ⟨h3 r hr', hr r hr'⟩
  have f1 : flat (lines c) = c.rules := by unfold lines; rw [flat_cons, hb, w1]; rfl
  have f2 : bs (lines c) = [c.base] := by
    unfold lines; rw [bs_cons, hb, w2, if_neg (by intro e; have e' : c.base = [] := e; rw [e'] at h4; simp at h4)]; rfl
  have hok : Ok false [] (Line.split (write c)) := by
    rw [hsp]
    refine ⟨fun l hl => ?_, by rw [f2]; simp, by rw [f1, List.nil_append, h5]; exact h2⟩
    unfold lines at hl
    rcases List.mem_cons.1 hl with rfl | hl
    · rw [hb]
    · obtain ⟨r, hr', rfl⟩ := List.mem_map.1 hl
      rw [Spec.read_write (h3 r hr') (hr r hr')]
  rw [read_all hok, hsp, f1, f2, h5]
  rfl

theorem costs_lt : ∀ {f : List (List Int)} {l : List Int}, Spec.costs f = some l → ∀ x ∈ l, 0 ≤ x ∧ x < 18446744073709551615
  | [], l, h => by cases h; simp
  | a :: f, l, h => by
    unfold Spec.costs at h
    cases hr : Num.read a with
    | none => rw [hr] at h; cases h
    | some c =>
      rw [hr] at h
      cases hc : Spec.costs f with
      | none => rw [hc] at h; cases h
      | some m =>
        rw [hc] at h
        cases h
        intro x hx
        rcases List.mem_cons.1 hx with rfl | hx
        · have := (Num.read_some hr).2; omega
        · exact costs_lt hc x hx
theorem base_lt (l : List Int) : ∀ x ∈ (Spec.read l).base, 0 ≤ x ∧ x < 18446744073709551615 := by
  unfold Spec.read
  split
  · simp [Spec.Sp.no]
  · unfold Spec.byWord
    split
    · split
      · unfold Spec.base
        split
        · rename_i h; exact costs_lt h
        · simp [Spec.Sp.no]
      · simp [Spec.Sp.no]
    · have hf := Spec.fine_read l
      split
      · split
        · unfold Spec.rep
          split
          · refine Spec.last_rules (P := fun s => ∀ x ∈ s.base, 0 ≤ x ∧ x < 18446744073709551615) (by simp [Spec.Sp.no]) fun c _ => ?_
            rw [Spec.told_base]; simp
          · simp [Spec.Sp.no]
        · simp [Spec.Sp.no]
      · split
        · split
          · unfold Spec.key
            split
            · refine Spec.last_rules (P := fun s => ∀ x ∈ s.base, 0 ≤ x ∧ x < 18446744073709551615) (by simp [Spec.Sp.no]) fun c _ => ?_
              rw [Spec.told_base]; simp
            · simp [Spec.Sp.no]
          · simp [Spec.Sp.no]
        · split
          · split
            · unfold Spec.map
              split
              · refine Spec.last_rules (P := fun s => ∀ x ∈ s.base, 0 ≤ x ∧ x < 18446744073709551615) (by simp [Spec.Sp.no]) fun c _ => ?_
                rw [Spec.told_base]; simp
              · simp [Spec.Sp.no]
            · simp [Spec.Sp.no]
          · simp [Spec.Sp.no]
theorem base_four (l : List Int) : (Spec.read l).base = [] ∨ (Spec.read l).base.length = 4 := by
  rcases (Spec.fine_read l).2.2 with h | h
  · exact .inl h
  · exact .inr h.1
theorem bs_fine (ls : List (List Int)) : ∀ b ∈ bs ls, b.length = 4 ∧ ∀ x ∈ b, 0 ≤ x ∧ x < 18446744073709551615 := by
  intro b hb
  unfold bs at hb
  obtain ⟨l, _, hb⟩ := List.mem_flatMap.1 hb
  split at hb
  · simp at hb
  · rename_i h
    rw [List.mem_singleton] at hb
    subst hb
    exact ⟨(base_four l).resolve_left h, base_lt l⟩
theorem head_fine {ls : List (List Int)} {d : List Int} (hd : d.length = 4 ∧ ∀ x ∈ d, 0 ≤ x ∧ x < 18446744073709551615) : ((bs ls).headD d).length = 4 ∧ ∀ x ∈ (bs ls).headD d, 0 ≤ x ∧ x < 18446744073709551615 := by
  have h := bs_fine ls
  cases hb : bs ls with
  | nil => exact hd
  | cons b t => rw [hb] at h; exact h b (by simp)
theorem flat_fit (ls : List (List Int)) : ∀ r ∈ flat ls, Spec.fit r = true := by
  intro r hr
  unfold flat at hr
  obtain ⟨l, _, hr⟩ := List.mem_flatMap.1 hr
  exact (Spec.fine_read l).1 r hr
theorem ones : ([1, 1, 1, 1] : List Int).length = 4 ∧ ∀ x ∈ ([1, 1, 1, 1] : List Int), 0 ≤ x ∧ x < 18446744073709551615 := ⟨rfl, by simp⟩
theorem read_may {b : List Int} {g : Got} (h : read b = g) (he : g.e = 0) : check g.c = true ∧ g.c.base.length = 4 ∧ (∀ x ∈ g.c.base, 0 ≤ x) ∧ g.at_ = -1 := by
  have hok := read_ok (by rw [h]; exact he)
  have ha := read_all hok
  rw [h] at ha
  subst ha
  have hh := head_fine (ls := Line.split b) ones
  refine ⟨check_of (fun x hx => (hh.2 x hx).2) hok.2.2 (fun r hr => flat_fit _ r ((isNorm_nrm _).2.1 r hr).1) (nrm_nrm _), hh.1, fun x hx => (hh.2 x hx).1, rfl⟩

def held (n : List Rul) (r : Rul) : Bool := n.any fun s => decide (s.like r) && decide (s.C ≤ r.C)
theorem nrm_news {n : List Rul} (hn : nrm n = n) (o : List Rul) : nrm (n ++ o.filter fun r => !held n r) = nrm (n ++ o) := by
  refine (isNorm_nrm _).same (isNorm_nrm _) (fun r hr hc => ?_) (fun r hr hc => ?_)
  · refine ⟨r, ?_, hc, ⟨rfl, rfl⟩, Int.le_refl _⟩
    rcases List.mem_append.1 hr with h | h
    · exact List.mem_append.2 (.inl h)
    · exact List.mem_append.2 (.inr (List.mem_filter.1 h).1)
  · rcases List.mem_append.1 hr with h | h
    · exact ⟨r, List.mem_append.2 (.inl h), hc, ⟨rfl, rfl⟩, Int.le_refl _⟩
    · cases hh : held n r with
      | false => exact ⟨r, List.mem_append.2 (.inr (List.mem_filter.2 ⟨h, by simp [hh]⟩)), hc, ⟨rfl, rfl⟩, Int.le_refl _⟩
      | true =>
        unfold held at hh
        obtain ⟨s, hs, h2⟩ := List.any_eq_true.1 hh
        simp only [Bool.and_eq_true, decide_eq_true_eq] at h2
        have hs' := hs
        rw [← hn] at hs'
        exact ⟨s, List.mem_append.2 (.inl hs), ((isNorm_nrm n).2.1 s hs').2, h2.1, h2.2⟩
/-- where one is looked for -/
theorem held_at {n : List Rul} (hn : nrm n = n) (r : Rul) (h0 : ∀ s ∈ n, 0 ≤ s.C) (k : Nat) (hk : k ≤ n.length)
    (h1 : ∀ i, i < k → lessR (n.getD i Rul.no) ⟨r.L, r.R, 0⟩ = true) (h2 : k < n.length → lessR (n.getD k Rul.no) ⟨r.L, r.R, 0⟩ = false) :
    held n r = (decide (k < n.length) && (decide ((n.getD k Rul.no).like r) && decide ((n.getD k Rul.no).C ≤ r.C))) := by
  have hris : RiseR n := by rw [← hn]; exact (isNorm_nrm n).1
  have hmem : ∀ i, i < n.length → n.getD i Rul.no ∈ n := fun i hi => by
    rw [List.getD_eq_getElem?_getD, List.getElem?_eq_getElem hi, Option.getD_some]; exact List.getElem_mem hi
  have hnot : ∀ i, i < k → ¬ (n.getD i Rul.no).like r := by
    intro i hi hl
    have := h1 i hi
    rw [lessR_def] at this
    have e1 : lessS (n.getD i Rul.no) ⟨r.L, r.R, 0⟩ = false := lessS_like ⟨hl.1, hl.2⟩
    have e2 := h0 _ (hmem i (by omega))
    rw [e1, Bool.false_or, Bool.and_eq_true, decide_eq_true_eq, decide_eq_true_eq] at this
    have h3 : (n.getD i Rul.no).C < 0 := this.2
    omega
  by_cases hkn : k < n.length
  · have hlow : lessS (n.getD k Rul.no) ⟨r.L, r.R, 0⟩ = false := by
      have := h2 hkn
      rw [lessR_def] at this
      simp only [Bool.or_eq_false_iff] at this
      exact this.1
    have hbeyond : ∀ i, k < i → i < n.length → ¬ (n.getD i Rul.no).like r := by
      intro i hi hin hl
      have h3 : lessS (n.getD k Rul.no) (n.getD i Rul.no) = true := by
        have := List.pairwise_iff_getElem.1 hris k i hkn hin hi
        rw [List.getD_eq_getElem?_getD, List.getD_eq_getElem?_getD, List.getElem?_eq_getElem hkn, List.getElem?_eq_getElem hin]
        exact this
      rw [lessS_congr (a' := n.getD k Rul.no) (b' := ⟨r.L, r.R, 0⟩) ⟨rfl, rfl⟩ ⟨hl.1, hl.2⟩] at h3
      rw [hlow] at h3; cases h3
    have hone : ∀ s ∈ n, s.like r → s = n.getD k Rul.no := by
      intro s hs hl
      obtain ⟨i, hi, rfl⟩ := List.mem_iff_getElem.1 hs
      have e : n[i] = n.getD i Rul.no := by rw [List.getD_eq_getElem?_getD, List.getElem?_eq_getElem hi]; rfl
      rw [e] at hl ⊢
      rcases Nat.lt_trichotomy i k with h | h | h
      · exact absurd hl (hnot i h)
      · rw [h]
      · exact absurd hl (hbeyond i h hi)
    rw [show decide (k < n.length) = true by simp [hkn], Bool.true_and]
    unfold held
    cases hx : (decide ((n.getD k Rul.no).like r) && decide ((n.getD k Rul.no).C ≤ r.C)) with
    | true => exact List.any_eq_true.2 ⟨_, hmem k hkn, hx⟩
    | false =>
      refine List.any_eq_false.2 fun s hs h => ?_
      have h' := h
      simp only [Bool.and_eq_true, decide_eq_true_eq] at h'
      rw [hone s hs h'.1] at h
      rw [hx] at h; cases h
  · have hke : k = n.length := by omega
    rw [show decide (k < n.length) = false by simp [hkn], Bool.false_and]
    unfold held
    refine List.any_eq_false.2 fun s hs h => ?_
    simp only [Bool.and_eq_true, decide_eq_true_eq] at h
    obtain ⟨i, hi, rfl⟩ := List.mem_iff_getElem.1 hs
    have e : n[i] = n.getD i Rul.no := by rw [List.getD_eq_getElem?_getD, List.getElem?_eq_getElem hi]; rfl
    rw [e] at h
    exact hnot i (by omega) h.1
end File
end
section
namespace Stp

/-- a step: what it takes, what it puts, or any one sign, and what it costs -/
structure St where
  e : Int
  p : List Int
  any : Bool
  c : Int
deriving DecidableEq
def St.no : St := ⟨0, [], false, 0⟩
def more (c : File.Cst) : Int := c.base.getD 0 0
def less (c : File.Cst) : Int := c.base.getD 1 0
def other (c : File.Cst) : Int := c.base.getD 2 0
def turned (c : File.Cst) : Int := c.base.getD 3 0
/-- with what stands from the place on: the steps that are there always -/
def one (c : File.Cst) : List Int → List St
  | [] => []
  | a :: _ => [⟨1, [a], false, 0⟩, ⟨1, [], true, other c⟩, ⟨1, [], false, less c⟩]
def two (c : File.Cst) : List Int → List St
  | a :: b :: _ => if a = b then [] else [⟨2, [b, a], false, turned c⟩]
  | _ => []
/-- does a rule's first side stand there -/
def stands (rest : List Int) (r : Rul) : Bool := decide (rest.take r.L.length = r.L)
def step (r : Rul) : St := ⟨r.L.length, r.R, false, r.C⟩
def ruled (rest : List Int) (rs : List Rul) : List St := (rs.filter (stands rest)).map step
def here (c : File.Cst) (rest : List Int) : List St := one c rest ++ two c rest ++ [⟨0, [], true, more c⟩] ++ ruled rest c.rules
def ok (c : File.Cst) (q : List Int) : Bool := File.check c && decide (q.length ≤ 20)
/-- P17.1 -/
def at' (c : File.Cst) (q : List Int) (i : Int) : List St := if ok c q = true ∧ 0 ≤ i ∧ i ≤ q.length then here c (q.drop i.toNat) else []
/-- P17.2 -/
def all (c : File.Cst) (q : List Int) : List (List St) := if ok c q = true then (List.range (q.length + 1)).map fun i => here c (q.drop i) else []

theorem ruled_nil (rest : List Int) : ruled rest [] = [] := rfl
theorem ruled_snoc (rest : List Int) (rs : List Rul) (r : Rul) : ruled rest (rs ++ [r]) = ruled rest rs ++ (if stands rest r = true then [step r] else []) := by
  unfold ruled
  rw [List.filter_append, List.map_append]
  by_cases h : stands rest r = true
  · rw [if_pos h]; simp [h]
  · rw [if_neg h]; simp [h]
theorem ruled_len (rest : List Int) (rs : List Rul) : (ruled rest rs).length ≤ rs.length := by
  unfold ruled
  rw [List.length_map]
  exact List.length_filter_le _ _
theorem one_len (c : File.Cst) (rest : List Int) : (one c rest).length = if rest.length = 0 then 0 else 3 := by
  cases rest with
  | nil => rfl
  | cons a l => simp [one]
theorem two_len (c : File.Cst) (rest : List Int) : (two c rest).length ≤ 1 := by
  match rest with
  | [] => simp [two]
  | [_] => simp [two]
  | a :: b :: _ => simp only [two]; split <;> simp
theorem here_len (c : File.Cst) (rest : List Int) : 1 ≤ (here c rest).length ∧ (here c rest).length ≤ 5 + c.rules.length := by
  have h1 := one_len c rest
  have h2 := two_len c rest
  have h3 := ruled_len rest c.rules
  have h4 : (one c rest).length ≤ 3 := by rw [h1]; split <;> omega
  unfold here
  simp only [List.length_append, List.length_cons, List.length_nil]
  omega
theorem stands_len {rest : List Int} {r : Rul} (h : stands rest r = true) : r.L.length ≤ rest.length := by
  unfold stands at h
  have h := of_decide_eq_true h
  have h2 := congrArg List.length h
  rw [List.length_take] at h2
  omega
/-- a step of those that there are, of costs that may be -/
theorem here_step {c : File.Cst} (hc : File.check c = true) (h4 : c.base.length = 4) (h0 : ∀ z ∈ c.base, 0 ≤ z) (hr : ∀ r ∈ c.rules, 0 ≤ r.C) {rest : List Int} {s : St} (hs : s ∈ here c rest) :
    0 ≤ s.e ∧ s.e ≤ rest.length ∧ (s.e = 0 → s.p ≠ [] ∨ s.any = true) ∧ (s.any = true → s.p = []) ∧ 0 ≤ s.c ∧ s.c < 18446744073709551615 := by
  obtain ⟨b1, -, b3, -⟩ := File.check_parts hc
  have hb : ∀ k, k < 4 → 0 ≤ c.base.getD k 0 ∧ c.base.getD k 0 < 18446744073709551615 := fun k hk => by
    have hm : c.base.getD k 0 ∈ c.base := by
      rw [List.getD_eq_getElem?_getD, List.getElem?_eq_getElem (by omega), Option.getD_some]
      exact List.getElem_mem _
    exact ⟨h0 _ hm, b1 _ hm⟩
  unfold here at hs
  simp only [List.mem_append, List.mem_cons, List.not_mem_nil, or_false] at hs
  rcases hs with ((hs | hs) | rfl) | hs
  · cases rest with
    | nil => simp [one] at hs
    | cons a l =>
      simp only [one, List.mem_cons, List.not_mem_nil, or_false] at hs
      rcases hs with rfl | rfl | rfl
      · exact ⟨(by show (0 : Int) ≤ 1; omega), (by simp only [List.length_cons]; omega), (fun h => absurd h (show ¬ (1 : Int) = 0 by omega)), (fun h => by cases h), (by show (0 : Int) ≤ 0; omega), (by show (0 : Int) < 18446744073709551615; omega)⟩
      · exact ⟨(by show (0 : Int) ≤ 1; omega), (by simp only [List.length_cons]; omega), (fun h => absurd h (show ¬ (1 : Int) = 0 by omega)), (fun _ => rfl), (hb 2 (by omega)).1, (hb 2 (by omega)).2⟩
      · exact ⟨(by show (0 : Int) ≤ 1; omega), (by simp only [List.length_cons]; omega), (fun h => absurd h (show ¬ (1 : Int) = 0 by omega)), (fun _ => rfl), (hb 1 (by omega)).1, (hb 1 (by omega)).2⟩
  · match rest, hs with
    | [], hs => simp [two] at hs
    | [_], hs => simp [two] at hs
    | a :: b :: l, hs =>
      simp only [two] at hs
      split at hs
      · simp at hs
      · simp only [List.mem_cons, List.not_mem_nil, or_false] at hs
        subst hs
        exact ⟨(by show (0 : Int) ≤ 2; omega), (by simp only [List.length_cons]; omega), (fun h => absurd h (show ¬ (2 : Int) = 0 by omega)), (fun h => by cases h), (hb 3 (by omega)).1, (hb 3 (by omega)).2⟩
  · exact ⟨(by show (0 : Int) ≤ 0; omega), (by show (0 : Int) ≤ _; omega), (fun _ => .inr rfl), (fun _ => rfl), (hb 0 (by omega)).1, (hb 0 (by omega)).2⟩
  · unfold ruled at hs
    obtain ⟨r, hr1, rfl⟩ := List.mem_map.1 hs
    obtain ⟨hr2, hr3⟩ := List.mem_filter.1 hr1
    have hch := (Spec.fit_parts (b3 r hr2)).1
    have hlt := (Spec.chk_sides hch).2.2
    have hne : r.L ≠ r.R := by
      unfold chk at hch
      simp only [Bool.and_eq_true, Bool.not_eq_true', decide_eq_false_iff_not] at hch
      exact hch.2
    refine ⟨(by show (0 : Int) ≤ (r.L.length : Int); omega), (by have := stands_len hr3; simp only [step]; omega), (fun h => .inl fun h2 => ?_), (fun h => by cases h), hr r hr2, hlt⟩
    have h3 : r.L = [] := by
      have : (r.L.length : Int) = 0 := h
      exact List.eq_nil_of_length_eq_zero (by omega)
    have h4 : r.R = [] := h2
    exact hne (by rw [h3, h4])
/-- with the first ones of the rules -/
theorem ruled_first (rest : List Int) (rs : List Rul) (k : Nat) : ∃ l, ruled rest rs = ruled rest (rs.take k) ++ l ∧ l.length ≤ rs.length - k := by
  refine ⟨ruled rest (rs.drop k), ?_, ?_⟩
  · unfold ruled
    rw [← List.map_append, ← List.filter_append, List.take_append_drop]
  · have := ruled_len rest (rs.drop k)
    rw [List.length_drop] at this
    exact this
theorem here_first (c : File.Cst) (rest : List Int) (k : Nat) : ∃ l, here c rest = here ⟨c.base, c.rules.take k⟩ rest ++ l ∧ l.length ≤ c.rules.length - k := by
  obtain ⟨l, h1, h2⟩ := ruled_first rest c.rules k
  refine ⟨l, ?_, h2⟩
  have e1 : one ⟨c.base, c.rules.take k⟩ rest = one c rest := by cases rest <;> rfl
  have e2 : two ⟨c.base, c.rules.take k⟩ rest = two c rest := by
    match rest with
    | [] => rfl
    | [_] => rfl
    | _ :: _ :: _ => rfl
  unfold here
  rw [e1, e2, h1]
  show _ = (one c rest ++ two c rest ++ [⟨0, [], true, more c⟩] ++ ruled rest (c.rules.take k)) ++ l
  simp only [List.append_assoc]
end Stp
end
section
namespace Stp

theorem stands_no {rest : List Int} {r : Rul} (h : rest.length < r.L.length) : stands rest r = false := by
  cases hs : stands rest r with
  | false => rfl
  | true => have := stands_len hs; omega
theorem ruled_take {rest : List Int} {rs : List Rul} {k : Nat} (hk : k < rs.length) :
    ruled rest (rs.take (k + 1)) = ruled rest (rs.take k) ++ (if stands rest (rs.getD k Rul.no) = true then [step (rs.getD k Rul.no)] else []) := by
  rw [List.take_succ_eq_append_getElem hk, ruled_snoc]
  have e : rs.getD k Rul.no = rs[k] := by rw [List.getD_eq_getElem?_getD, List.getElem?_eq_getElem hk, Option.getD_some]
  rw [e]
theorem ruled_all (rest : List Int) (rs : List Rul) : ruled rest (rs.take rs.length) = ruled rest rs := by rw [List.take_length]
/-- two unlike signs ahead -/
def unlike (rest : List Int) : Bool := decide (1 < rest.length) && !decide (rest.getD 0 0 = rest.getD 1 0)
theorem two_is (c : File.Cst) (rest : List Int) : two c rest = if unlike rest = true then [⟨2, [rest.getD 1 0, rest.getD 0 0], false, turned c⟩] else [] := by
  match rest with
  | [] => rfl
  | [_] => rfl
  | a :: b :: l =>
    show (if a = b then [] else _) = _
    by_cases h : a = b
    · rw [if_pos h, if_neg (by simp [unlike, h])]
    · rw [if_neg h, if_pos (by simp [unlike, h])]; rfl
theorem one_is (c : File.Cst) {rest : List Int} (h : 0 < rest.length) : one c rest = [⟨1, [rest.getD 0 0], false, 0⟩, ⟨1, [], true, other c⟩, ⟨1, [], false, less c⟩] := by
  cases rest with
  | nil => simp at h
  | cons a l => rfl
theorem one_no (c : File.Cst) {rest : List Int} (h : rest.length = 0) : one c rest = [] := by
  cases rest with
  | nil => rfl
  | cons a l => simp at h
theorem here_count (c : File.Cst) (rest : List Int) : (here c rest).length = 1 + (if 0 < rest.length then 3 else 0) + (if unlike rest = true then 1 else 0) + (ruled rest c.rules).length := by
  have h1 : (one c rest).length = if 0 < rest.length then 3 else 0 := by
    by_cases h : 0 < rest.length
    · rw [one_is c h, if_pos h]; rfl
    · rw [one_no c (by omega), if_neg h]; rfl
  have h2 : (two c rest).length = if unlike rest = true then 1 else 0 := by
    rw [two_is]; split <;> rfl
  unfold here
  simp only [List.length_append, List.length_cons, List.length_nil]
  omega
theorem at_in {c : File.Cst} {q : List Int} {i : Nat} (h : ok c q = true) (hi : i ≤ q.length) : at' c q i = here c (q.drop i) := by
  unfold at'
  rw [if_pos ⟨h, by omega, by omega⟩, Int.toNat_natCast]
theorem at_out {c : File.Cst} {q : List Int} {i : Int} (h : ok c q = false ∨ i < 0 ∨ (q.length : Int) < i) : at' c q i = [] := by
  unfold at'
  rw [if_neg]
  rintro ⟨h1, h2, h3⟩
  rcases h with h | h | h
  · rw [h1] at h; cases h
  · omega
  · omega
/-- the steps at a place hang on what stands there, and behind, alone -/
theorem at_behind {c : File.Cst} {a q : List Int} (h : a.length ≤ 10) (h2 : q.length ≤ 10) : at' c (a ++ q) (a.length : Int) = at' c q 0 := by
  have e : at' c q 0 = at' c q ((0 : Nat) : Int) := rfl
  rw [e]
  cases hc : File.check c with
  | false => rw [at_out (.inl (by simp [ok, hc])), at_out (.inl (by simp [ok, hc]))]
  | true =>
    rw [at_in (by simp [ok, hc]; omega) (by simp), at_in (by simp [ok, hc]; omega) (Nat.zero_le _)]
    simp
theorem all_len {c : File.Cst} {q : List Int} : (all c q).length = if ok c q = true then q.length + 1 else 0 := by
  unfold all
  split
  · simp
  · rfl
theorem all_at {c : File.Cst} {q : List Int} {i : Nat} (h : ok c q = true) (hi : i ≤ q.length) : (all c q).getD i [] = here c (q.drop i) := by
  unfold all
  rw [if_pos h, List.getD_eq_getElem?_getD, List.getElem?_map, List.getElem?_range (by omega)]
  rfl
theorem all_take {c : File.Cst} {q : List Int} {i : Nat} (h : ok c q = true) (hi : i ≤ q.length) : (all c q).take (i + 1) = (all c q).take i ++ [here c (q.drop i)] := by
  have hl : i < (all c q).length := by rw [all_len, if_pos h]; omega
  rw [List.take_succ_eq_append_getElem hl]
  have e := all_at h hi
  rw [List.getD_eq_getElem?_getD, List.getElem?_eq_getElem hl, Option.getD_some] at e
  rw [e]
/-- rules in order, the first ones of them -/
theorem nrm_first {l : List Rul} (h : nrm l = l) (k : Nat) : nrm (l.take k) = l.take k := by
  obtain ⟨h1, h2, h3⟩ := isNorm_nrm l
  rw [h] at h1 h2 h3
  have hn : IsNorm (l.take k) (l.take k) := ⟨h1.sublist (List.take_sublist k l), fun r hr => ⟨hr, (h2 r (List.mem_of_mem_take hr)).2⟩, fun r hr hc => ⟨r, hr, ⟨rfl, rfl⟩, Int.le_refl _⟩⟩
  exact hn.eq.symm
theorem check_first {c : File.Cst} (h : File.check c = true) (k : Nat) : File.check ⟨c.base, c.rules.take k⟩ = true := by
  obtain ⟨h1, h2, h3, h4⟩ := File.check_parts h
  exact File.check_of h1 (by show (c.rules.take k).length ≤ 200; rw [List.length_take]; omega) (fun r hr => h3 r (List.mem_of_mem_take hr)) (nrm_first h4 k)
/-- with the first ones of the rules, that may be, too -/
theorem at_first {c : File.Cst} (q : List Int) (i : Int) (k : Nat) (hc : File.check c = true) (hd : File.check ⟨c.base, c.rules.take k⟩ = true) :
    ∃ l, at' c q i = at' ⟨c.base, c.rules.take k⟩ q i ++ l ∧ l.length ≤ c.rules.length - k := by
  by_cases h : q.length ≤ 20 ∧ 0 ≤ i ∧ i ≤ q.length
  · obtain ⟨n, rfl⟩ : ∃ n : Nat, i = n := ⟨i.toNat, by omega⟩
    rw [at_in (by simp [ok, hc]; omega) (by omega), at_in (by simp [ok, hd]; omega) (by omega)]
    exact here_first c _ k
  · have hn : ∀ c', at' c' q i = [] := fun c' => by
      refine at_out ?_
      by_cases h1 : q.length ≤ 20
      · exact .inr (by omega)
      · exact .inl (by simp [ok]; intro _; omega)
    exact ⟨[], by rw [hn, hn]; rfl, Nat.zero_le _⟩
end Stp
end
section
namespace Spec

/-- the parts of signs between those that end rows; cur: the row so far -/
def rowsA : List Int → List Int → List (List Int)
  | cur, [] => [cur]
  | cur, x :: l => if x = 124 then cur :: rowsA [] l else rowsA (cur ++ [x]) l
def rowG (c : Int) : List Int → List Rul
  | x :: y :: l => (if x = y then [] else both x y c) ++ rowG c (y :: l)
  | _ => []
/-- a row, or a class, may be -/
def rowOk (l : List Int) : Bool := decide (l.length ≤ 12) && !(l.any fun y => decide (95 = y))
/-- the side whose field has these signs -/
def fside (l : List Int) : List Int := if l = [95] then [] else l

theorem rowsA_at {b : List Int} {f i : Nat} (hf : f ≤ i) (hi : i < b.length) :
    rowsA ((b.take i).drop f) (b.drop i) = if b.getD i 0 = 124 then ((b.take i).drop f) :: rowsA ((b.take (i + 1)).drop (i + 1)) (b.drop (i + 1)) else rowsA ((b.take (i + 1)).drop f) (b.drop (i + 1)) := by
  have e1 : b.drop i = b.getD i 0 :: b.drop (i + 1) := by
    rw [List.drop_eq_getElem_cons hi]; simp [hi]
  have e2 : (b.take (i + 1)).drop f = (b.take i).drop f ++ [b.getD i 0] := by
    rw [List.take_succ_eq_append_getElem hi, List.drop_append_of_le_length (by simp; omega)]
    simp [hi]
  have e3 : (b.take (i + 1)).drop (i + 1) = [] := by
    rw [List.drop_eq_nil_of_le]; simp; omega
  rw [e1, e2, e3]
  conv => lhs; unfold rowsA
theorem rowsA_end {b : List Int} {f : Nat} : rowsA ((b.take b.length).drop f) (b.drop b.length) = [b.drop f] := by
  rw [List.take_length, List.drop_length]; rfl

theorem rowG_snoc (c : Int) : ∀ (l : List Int) (p x : Int), rowG c (l ++ [p] ++ [x]) = rowG c (l ++ [p]) ++ if p = x then [] else both p x c
  | [], p, x => by simp [rowG]
  | [a], p, x => by simp [rowG]
  | a :: b :: l, p, x => by
    have ih := rowG_snoc c (b :: l) p x
    simp only [List.cons_append] at ih ⊢
    conv => lhs; unfold rowG
    conv => rhs; unfold rowG
    rw [ih, List.append_assoc]
theorem rows_keys (c : Int) : ∀ (l cur : List Int) (p : Int), (∀ d q, cur = d ++ [q] → p = q) → (rowsA cur l).flatMap (rowG c) = rowG c cur ++ keysG c cur.length p l
  | [], cur, p, _ => by simp [rowsA, keysG]
  | x :: l, cur, p, hp => by
    unfold rowsA keysG
    by_cases hx : x = 124
    · rw [if_pos hx, if_pos hx, List.flatMap_cons, rows_keys c l [] x (by intro d q h; simp at h)]
      simp [rowG]
    · rw [if_neg hx, if_neg hx, rows_keys c l (cur ++ [x]) x (by
        intro d q h
        have := List.append_inj_right' h rfl
        simpa using this), ← List.append_assoc]
      congr 1
      · rcases List.eq_nil_or_concat cur with rfl | ⟨d, q, rfl⟩
        · simp [rowG]
        · rw [List.concat_eq_append] at hp ⊢
          obtain rfl := hp d q rfl
          rw [rowG_snoc]
          congr 1
          by_cases h : p = x
          · rw [if_pos h, if_neg (by intro hh; exact hh.2 h.symm)]
          · rw [if_neg h, if_pos ⟨by simp, fun e => h e.symm⟩]
      · simp
theorem rowOk_snoc {cur : List Int} {x : Int} (h : rowOk (cur ++ [x]) = true) : rowOk cur = true := by
  unfold rowOk at *
  simp only [Bool.and_eq_true, decide_eq_true_eq, Bool.not_eq_true', List.any_eq_false, List.length_append] at h ⊢
  exact ⟨by have := h.1; simp at this; omega, fun y hy => h.2 y (List.mem_append_left _ hy)⟩
theorem rows_bad : ∀ (l cur : List Int), rowOk cur = false → (rowsA cur l).all rowOk = false
  | [], cur, h => by simp [rowsA, h]
  | x :: l, cur, h => by
    unfold rowsA
    by_cases hx : x = 124
    · rw [if_pos hx]; simp [h]
    · rw [if_neg hx]
      refine rows_bad l (cur ++ [x]) ?_
      cases hh : rowOk (cur ++ [x]) with
      | false => rfl
      | true => rw [rowOk_snoc hh] at h; cases h
theorem rows_ok : ∀ (l cur : List Int), rowOk cur = true → (rowsA cur l).all rowOk = keysOk cur.length l
  | [], cur, h => by simp [rowsA, keysOk, h]
  | x :: l, cur, h => by
    unfold rowsA keysOk
    by_cases hx : x = 124
    · rw [if_pos hx, if_pos hx, List.all_cons, h, rows_ok l [] (by decide)]; rfl
    · rw [if_neg hx, if_neg hx]
      have e : rowOk (cur ++ [x]) = (decide (cur.length + 1 ≤ 12) && decide (x ≠ 95)) := by
        have h2 := h
        unfold rowOk at h2 ⊢
        rw [Bool.and_eq_true] at h2
        rw [List.length_append, List.any_append, Bool.not_or, h2.2]
        by_cases h9 : x = 95
        · simp [h9]
        · have h9' : ¬ 95 = x := fun e => h9 e.symm
          simp [h9, h9']
      cases hb : rowOk (cur ++ [x]) with
      | false =>
        rw [rows_bad l _ hb, ← e, hb]; rfl
      | true =>
        rw [rows_ok l _ hb, ← e, hb, List.length_append]; rfl
theorem rows_all (l : List Int) : (rowsA [] l).all rowOk = keysOk 0 l := rows_ok l [] (by decide)
theorem rows_flat (c : Int) (l : List Int) : (rowsA [] l).flatMap (rowG c) = keysG c 0 0 l := by
  have := rows_keys c l [] 0 (by intro d q h; simp at h)
  simpa [rowG] using this
theorem rowsA_len : ∀ (l cur : List Int), (rowsA cur l).length ≤ l.length + 1
  | [], cur => by simp [rowsA]
  | x :: l, cur => by
    unfold rowsA
    split
    · have := rowsA_len l []; simp; omega
    · have := rowsA_len l (cur ++ [x]); simp; omega
theorem rowG_len (c : Int) : ∀ l : List Int, (rowG c l).length ≤ 2 * l.length
  | [] => by simp [rowG]
  | [x] => by simp [rowG]
  | x :: y :: l => by
    have := rowG_len c (y :: l)
    unfold rowG
    split <;> simp [both] at * <;> omega
/-- MAP's rules may be -/
theorem maps_row (l : List Int) : mapsOk l = rowOk l := by
  unfold mapsOk rowOk
  congr 1
  induction l with
  | nil => rfl
  | cons x l ih =>
    rw [List.all_cons, List.any_cons, Bool.not_or, ih]
    congr 1
    by_cases h : x = 95
    · simp [h]
    · have h' : ¬ 95 = x := fun e => h e.symm
      simp [h, h']

end Spec
end
namespace Utf

def tail (c : Int) : Bool := decide (128 ≤ c) && decide (c < 192)
theorem tail_iff (c : Int) : tail c = true ↔ 128 ≤ c ∧ c < 192 := by simp [tail]
/-- the number that a first byte and those behind it hold -/
def acc (c : Int) (k : Nat) (l : List Int) : Int := l.foldl (fun s d => s * 64 + d % 64) (c - mark k)
def takeL (zs : List Int) : Option (Int × Nat) :=
  match zs with
  | [] => none
  | c :: rest =>
    if byHead c = 0 ∨ zs.length < byHead c then none
    else if (rest.take (byHead c - 1)).all tail = false then none
    else if good (acc c (byHead c) (rest.take (byHead c - 1))) = true ∧ size (acc c (byHead c) (rest.take (byHead c - 1))) = byHead c then
      some (acc c (byHead c) (rest.take (byHead c - 1)), byHead c)
    else none

theorem byHead_le (c : Int) : byHead c ≤ 4 := by
  unfold byHead; split <;> (try split) <;> (try split) <;> (try split) <;> (try split) <;> omega
theorem byHead_cases (c : Int) : (byHead c = 0) ∨ (c < 128 ∧ byHead c = 1) ∨ (192 ≤ c ∧ c < 224 ∧ byHead c = 2) ∨ (224 ≤ c ∧ c < 240 ∧ byHead c = 3) ∨ (240 ≤ c ∧ c < 248 ∧ byHead c = 4) := by
  unfold byHead; split
  · omega
  · split
    · omega
    · split
      · omega
      · split
        · omega
        · split <;> omega

theorem acc_snoc (c : Int) (k : Nat) (l : List Int) (d : Int) : acc c k (l ++ [d]) = acc c k l * 64 + d % 64 := by simp [acc]
/-- what is held stays small -/
theorem acc_bound (c : Int) (k : Nat) (l : List Int) (hc : 0 ≤ c) (hk : k = byHead c) (h0 : k ≠ 0) (hl : l.length + 1 ≤ k) :
    0 ≤ acc c k l ∧ acc c k l < 2097152 ∧ (l.length + 1 < k → acc c k l < 32768) := by
  rcases byHead_cases c with h | h | h | h | h
  · omega
  · have : k = 1 := by omega
    subst this
    match l, hl with
    | [], _ => simp [acc, mark]; omega
  · have : k = 2 := by omega
    subst this
    match l, hl with
    | [], _ => simp [acc, mark]; omega
    | [a], _ => simp [acc, mark]; omega
  · have : k = 3 := by omega
    subst this
    match l, hl with
    | [], _ => simp [acc, mark]; omega
    | [a], _ => simp [acc, mark]; omega
    | [a, b], _ => simp [acc, mark]; omega
  · have : k = 4 := by omega
    subst this
    match l, hl with
    | [], _ => simp [acc, mark]; omega
    | [a], _ => simp [acc, mark]; omega
    | [a, b], _ => simp [acc, mark]; omega
    | [a, b, d], _ => simp [acc, mark]; omega

theorem byHead_1 (c : Int) (h : c < 128) : byHead c = 1 := by unfold byHead; rw [if_pos h]
theorem byHead_2 (c : Int) (h : 192 ≤ c) (h' : c < 224) : byHead c = 2 := by unfold byHead; rw [if_neg (by omega), if_neg (by omega), if_pos h']
theorem byHead_3 (c : Int) (h : 224 ≤ c) (h' : c < 240) : byHead c = 3 := by unfold byHead; rw [if_neg (by omega), if_neg (by omega), if_neg (by omega), if_pos h']
theorem byHead_4 (c : Int) (h : 240 ≤ c) (h' : c < 248) : byHead c = 4 := by unfold byHead; rw [if_neg (by omega), if_neg (by omega), if_neg (by omega), if_neg (by omega), if_pos h']

theorem takeL_enc (n : Int) (r : List Int) (h : good n = true) : takeL (enc n ++ r) = some (n, size n) := by
  have hg := (good_iff n).1 h
  by_cases a : n < 128
  · have e : enc n = [n] := by unfold enc; rw [if_pos a]
    have es : size n = 1 := by unfold size; rw [if_pos a]
    have eh : byHead n = 1 := byHead_1 n a
    have ea : acc n 1 [] = n := by simp [acc, mark]
    rw [e, es]
    simp [takeL, eh, ea, h, es]
  · by_cases b : n < 2048
    · have e : enc n = [192 + n / 64, 128 + n % 64] := by unfold enc; rw [if_neg a, if_pos b]
      have es : size n = 2 := by unfold size; rw [if_neg a, if_pos b]
      have eh : byHead (192 + n / 64) = 2 := byHead_2 _ (by omega) (by omega)
      have ea : acc (192 + n / 64) 2 [128 + n % 64] = n := by simp [acc, mark]; omega
      have t1 : tail (128 + n % 64) = true := by rw [tail_iff]; omega
      rw [e, es]
      simp [takeL, eh, ea, h, es, t1]
    · by_cases c : n < 65536
      · have e : enc n = [224 + n / 4096, 128 + n / 64 % 64, 128 + n % 64] := by unfold enc; rw [if_neg a, if_neg b, if_pos c]
        have es : size n = 3 := by unfold size; rw [if_neg a, if_neg b, if_pos c]
        have eh : byHead (224 + n / 4096) = 3 := byHead_3 _ (by omega) (by omega)
        have ea : acc (224 + n / 4096) 3 [128 + n / 64 % 64, 128 + n % 64] = n := by simp [acc, mark]; omega
        have t1 : tail (128 + n % 64) = true := by rw [tail_iff]; omega
        have t2 : tail (128 + n / 64 % 64) = true := by rw [tail_iff]; omega
        rw [e, es]
        simp [takeL, eh, ea, h, es, t1, t2]
      · have e : enc n = [240 + n / 262144, 128 + n / 4096 % 64, 128 + n / 64 % 64, 128 + n % 64] := by unfold enc; rw [if_neg a, if_neg b, if_neg c]
        have es : size n = 4 := by unfold size; rw [if_neg a, if_neg b, if_neg c]
        have eh : byHead (240 + n / 262144) = 4 := byHead_4 _ (by omega) (by omega)
        have ea : acc (240 + n / 262144) 4 [128 + n / 4096 % 64, 128 + n / 64 % 64, 128 + n % 64] = n := by simp [acc, mark]; omega
        have t1 : tail (128 + n % 64) = true := by rw [tail_iff]; omega
        have t2 : tail (128 + n / 64 % 64) = true := by rw [tail_iff]; omega
        have t3 : tail (128 + n / 4096 % 64) = true := by rw [tail_iff]; omega
        rw [e, es]
        simp [takeL, eh, ea, h, es, t1, t2, t3]

/-- a first byte and right ones behind it are the bytes of what they hold, if that needs so many -/
theorem enc_acc (c : Int) (l : List Int) (_hc : 0 ≤ c) (_h0 : byHead c ≠ 0) (hl : l.length + 1 = byHead c) (ht : l.all tail = true) (hs : size (acc c (byHead c) l) = byHead c) :
    enc (acc c (byHead c) l) = c :: l := by
  rcases byHead_cases c with h | ⟨h1, h2⟩ | ⟨h1, h3, h2⟩ | ⟨h1, h3, h2⟩ | ⟨h1, h3, h2⟩
  · omega
  · rw [h2] at hl hs ⊢
    match l, hl with
    | [], _ =>
      have e : acc c 1 [] = c := by simp [acc, mark]
      rw [e]; unfold enc; rw [if_pos h1]
  · rw [h2] at hl hs ⊢
    match l, hl with
    | [a], _ =>
      have ta := (tail_iff a).1 (by simpa using ht)
      have e : acc c 2 [a] = (c - 192) * 64 + a % 64 := by simp [acc, mark]
      rw [e] at hs ⊢
      unfold size at hs
      split at hs
      · omega
      · rename_i n1
        split at hs
        · rename_i n2
          unfold enc
          rw [if_neg n1, if_pos n2]
          simp; omega
        · split at hs <;> omega
  · rw [h2] at hl hs ⊢
    match l, hl with
    | [a, b], _ =>
      simp only [List.all_cons, List.all_nil, Bool.and_true, Bool.and_eq_true, tail_iff] at ht
      have e : acc c 3 [a, b] = ((c - 224) * 64 + a % 64) * 64 + b % 64 := by simp [acc, mark]
      rw [e] at hs ⊢
      unfold size at hs
      split at hs
      · omega
      · rename_i n1
        split at hs
        · omega
        · rename_i n2
          split at hs
          · rename_i n3
            unfold enc
            rw [if_neg n1, if_neg n2, if_pos n3]
            simp; omega
          · omega
  · rw [h2] at hl hs ⊢
    match l, hl with
    | [a, b, d], _ =>
      simp only [List.all_cons, List.all_nil, Bool.and_true, Bool.and_eq_true, tail_iff] at ht
      have e : acc c 4 [a, b, d] = (((c - 240) * 64 + a % 64) * 64 + b % 64) * 64 + d % 64 := by simp [acc, mark]
      rw [e] at hs ⊢
      unfold size at hs
      split at hs
      · omega
      · rename_i n1
        split at hs
        · omega
        · rename_i n2
          split at hs
          · omega
          · rename_i n3
            unfold enc
            rw [if_neg n1, if_neg n2, if_neg n3]
            simp; omega

theorem takeL_is (zs : List Int) (hz : ∀ b ∈ zs, 0 ≤ b) : IsTake zs (takeL zs) := by
  cases h : takeL zs with
  | none =>
    intro n r hg e
    rw [e, takeL_enc n r hg] at h
    cases h
  | some p =>
    obtain ⟨n, k⟩ := p
    cases zs with
    | nil => cases h
    | cons c rest =>
      unfold takeL at h
      simp only at h
      split at h
      · cases h
      · rename_i h1
        split at h
        · cases h
        · rename_i h2
          split at h
          · rename_i h3
            simp only [Option.some.injEq, Prod.mk.injEq] at h
            obtain ⟨rfl, rfl⟩ := h
            have hlen : (rest.take (byHead c - 1)).length + 1 = byHead c := by
              simp only [List.length_cons, not_or, Nat.not_lt] at h1
              simp; omega
            refine ⟨h3.1, h3.2.symm, rest.drop (byHead c - 1), ?_⟩
            rw [enc_acc c _ (hz c (by simp)) (by omega) hlen (by simpa using h2) h3.2, List.cons_append, List.take_append_drop]
          · cases h
theorem takeL_of {zs : List Int} (hz : ∀ b ∈ zs, 0 ≤ b) {r : Option (Int × Nat)} (h : IsTake zs r) : takeL zs = r := (takeL_is zs hz).one h

def base (c : Int) (k : Nat) : Int := if k = 2 then c % 32 else if k = 3 then c % 16 else if k = 4 then c % 8 else c
def num (c : Int) (k : Nat) (l : List Int) : Int := l.foldl (fun s d => s * 64 + d % 64) (base c k)
theorem num_snoc (c : Int) (k : Nat) (l : List Int) (d : Int) : num c k (l ++ [d]) = num c k l * 64 + d % 64 := by simp [num]
theorem num_bound (c : Int) (k : Nat) (l : List Int) (hc : 0 ≤ c) (hc' : c ≤ 255) (hl : l.length ≤ 3) : 0 ≤ num c k l ∧ num c k l < 67108864 := by
  have hb : 0 ≤ base c k ∧ base c k ≤ 255 := by unfold base; split <;> (try split) <;> (try split) <;> omega
  match l, hl with
  | [], _ => simp [num]; omega
  | [a], _ => simp [num]; omega
  | [a, b], _ => simp [num]; omega
  | [a, b, d], _ => simp [num]; omega
/-- a sign's bytes hold it -/
theorem num_enc (n : Int) (c : Int) (l : List Int) (h : good n = true) (he : enc n = c :: l) : num c (size n) l = n := by
  have hg := (good_iff n).1 h
  unfold enc at he
  unfold size
  split at he
  · rename_i a
    rw [if_pos a]
    obtain ⟨rfl, rfl⟩ := List.cons.inj he
    rfl
  · rename_i a
    rw [if_neg a]
    split at he
    · rename_i b
      rw [if_pos b]
      obtain ⟨rfl, rfl⟩ := List.cons.inj he
      simp [num, base]; omega
    · rename_i b
      rw [if_neg b]
      split at he
      · rename_i d
        rw [if_pos d]
        obtain ⟨rfl, rfl⟩ := List.cons.inj he
        simp [num, base]; omega
      · rename_i d
        rw [if_neg d]
        obtain ⟨rfl, rfl⟩ := List.cons.inj he
        simp [num, base]; omega
/-- trying so many bytes -/
def fits (c : Int) (rest : List Int) (k : Nat) : Prop := good (num c k (rest.take (k - 1))) = true ∧ enc (num c k (rest.take (k - 1))) = c :: rest.take (k - 1)
theorem fits_take (c : Int) (rest : List Int) (hz : ∀ b ∈ c :: rest, 0 ≤ b) (k : Nat) (hk : 1 ≤ k) (hl : k ≤ (c :: rest).length) (h : fits c rest k) :
    takeL (c :: rest) = some (num c k (rest.take (k - 1)), k) := by
  refine takeL_of hz ⟨h.1, ?_, rest.drop (k - 1), ?_⟩
  · have := congrArg List.length h.2
    rw [enc_length] at this
    rw [this]
    simp at hl ⊢; omega
  · rw [h.2, List.cons_append, List.take_append_drop]
theorem fits_none (c : Int) (rest : List Int) (hz : ∀ b ∈ c :: rest, 0 ≤ b) (h : ∀ k, 1 ≤ k → k ≤ 4 → k ≤ (c :: rest).length → ¬ fits c rest k) : takeL (c :: rest) = none := by
  refine takeL_of hz ?_
  intro n r hg e
  have hp := size_pos n
  have h4 := size_le n
  have hl : (enc n).length = size n := enc_length n
  have hlen : size n ≤ (c :: rest).length := by rw [e, List.length_append, hl]; omega
  have htk : (c :: rest).take (size n) = enc n := by rw [e, ← hl, List.take_left]
  have hcons : enc n = c :: rest.take (size n - 1) := by
    rw [← htk]
    obtain ⟨m, hm⟩ : ∃ m, size n = m + 1 := ⟨size n - 1, by omega⟩
    rw [hm]; rfl
  have hn := num_enc n c _ hg hcons
  exact h (size n) hp h4 hlen ⟨by rw [hn]; exact hg, by rw [hn]; exact hcons⟩

theorem takeL_short (c : Int) (rest : List Int) (h : byHead c = 0 ∨ (c :: rest).length < byHead c) : takeL (c :: rest) = none := by
  unfold takeL; simp only; rw [if_pos h]
theorem takeL_tail (c : Int) (rest : List Int) (j : Nat) (hj : j < byHead c - 1) (hl : j < rest.length) (h : tail (rest.getD j 0) = false) : takeL (c :: rest) = none := by
  unfold takeL; simp only
  split
  · rfl
  · rw [if_pos]
    rw [Bool.eq_false_iff]
    intro ha
    have := List.all_eq_true.1 ha (rest[j]) (by rw [List.mem_take_iff_getElem]; exact ⟨j, by omega, rfl⟩)
    simp [hl] at h
    rw [h] at this
    cases this
theorem takeL_bad (c : Int) (rest : List Int) (h : ¬ (good (acc c (byHead c) (rest.take (byHead c - 1))) = true ∧ size (acc c (byHead c) (rest.take (byHead c - 1))) = byHead c)) : takeL (c :: rest) = none := by
  unfold takeL; simp only
  split
  · rfl
  · split
    · rfl
    · rfl
theorem takeL_good (c : Int) (rest : List Int) (h0 : ¬ (byHead c = 0 ∨ (c :: rest).length < byHead c)) (ht : (rest.take (byHead c - 1)).all tail = true)
    (h : good (acc c (byHead c) (rest.take (byHead c - 1))) = true ∧ size (acc c (byHead c) (rest.take (byHead c - 1))) = byHead c) : takeL (c :: rest) = some (acc c (byHead c) (rest.take (byHead c - 1)), byHead c) := by
  unfold takeL; simp only
  rw [if_neg h0, if_neg (by rw [ht]; decide), if_pos h]

end Utf
end Go.Proofs.Ytpcebfefbnpbpaa
