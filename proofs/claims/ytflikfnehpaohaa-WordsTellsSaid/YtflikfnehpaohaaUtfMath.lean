/- Signs as bytes, in plain numbers and lists: nothing of the program. -/
import Derived.Below
namespace Go.Proofs.Ytflikfnehpaohaa.Utf

/-- a number that is a sign -/
def good (n : Int) : Bool := decide (0 ≤ n) && decide (n ≤ 1114111) && (decide (n < 55296) || decide (57343 < n))
/-- how many bytes a sign has -/
def size (n : Int) : Nat := if n < 128 then 1 else if n < 2048 then 2 else if n < 65536 then 3 else 4
/-- a sign's bytes -/
def enc (n : Int) : List Int :=
  if n < 128 then [n] else if n < 2048 then [192 + n / 64, 128 + n % 64]
  else if n < 65536 then [224 + n / 4096, 128 + n / 64 % 64, 128 + n % 64]
  else [240 + n / 262144, 128 + n / 4096 % 64, 128 + n / 64 % 64, 128 + n % 64]
/-- the bytes of signs -/
def put (l : List Int) : List Int := l.flatMap enc
/-- what the first byte of so many has more than its sign's own bits -/
def mark (k : Int) : Int := if k = 1 then 0 else if k = 2 then 192 else if k = 3 then 224 else 240
/-- how many bytes a sign has that begins with this one; 0: none does -/
def byHead (c : Int) : Nat := if c < 128 then 1 else if c < 192 then 0 else if c < 224 then 2 else if c < 240 then 3 else if c < 248 then 4 else 0
def allGood (l : List Int) : Bool := l.all good

set_option maxRecDepth 100000 in
theorem good_iff (n : Int) : good n = true ↔ 0 ≤ n ∧ n ≤ 1114111 ∧ (n < 55296 ∨ 57343 < n) := by
  simp [good, and_assoc]
set_option maxRecDepth 100000 in
theorem good_false (n : Int) : good n = false ↔ n < 0 ∨ 1114111 < n ∨ (55296 ≤ n ∧ n ≤ 57343) := by
  rw [Bool.eq_false_iff]; simp only [ne_eq, good_iff]; omega
set_option maxRecDepth 100000 in
theorem enc_length (n : Int) : (enc n).length = size n := by
  unfold enc size; split <;> (try split) <;> (try split) <;> rfl
set_option maxRecDepth 100000 in
theorem size_pos (n : Int) : 1 ≤ size n := by unfold size; split <;> (try split) <;> (try split) <;> omega
set_option maxRecDepth 100000 in
theorem size_le (n : Int) : size n ≤ 4 := by unfold size; split <;> (try split) <;> (try split) <;> omega
set_option maxRecDepth 100000 in
theorem enc_ne (n : Int) : enc n ≠ [] := by
  intro h; have := enc_length n; rw [h] at this; have := size_pos n; simp at *; omega
set_option maxRecDepth 100000 in
theorem enc_bytes (n : Int) (h : good n = true) : ∀ b ∈ enc n, 0 ≤ b ∧ b ≤ 255 := by
  rw [good_iff] at h
  unfold enc; split
  · intro b hb; simp at hb; omega
  · split
    · intro b hb; simp at hb; omega
    · split
      · intro b hb; simp at hb; omega
      · intro b hb; simp at hb; omega

set_option maxRecDepth 100000 in
/-- no sign's bytes are a beginning of another's, and each sign has bytes of its own -/
theorem enc_cancel (m n : Int) (r s : List Int) (hm : good m = true) (hn : good n = true) (h : enc m ++ r = enc n ++ s) : m = n ∧ r = s := by
  rw [good_iff] at hm hn
  unfold enc at h
  split at h
  · split at h
    · simp at h; exact ⟨by omega, h.2⟩
    · split at h
      · simp at h; omega
      · split at h
        · simp at h; omega
        · simp at h; omega
  · split at h
    · split at h
      · simp at h; omega
      · split at h
        · simp at h; exact ⟨by omega, h.2.2⟩
        · split at h
          · simp at h; omega
          · simp at h; omega
    · split at h
      · split at h
        · simp at h; omega
        · split at h
          · simp at h; omega
          · split at h
            · simp at h; exact ⟨by omega, h.2.2.2⟩
            · simp at h; omega
      · split at h
        · simp at h; omega
        · split at h
          · simp at h; omega
          · split at h
            · simp at h; omega
            · simp at h; exact ⟨by omega, h.2.2.2.2⟩

set_option maxRecDepth 100000 in
theorem put_nil : put [] = [] := rfl
set_option maxRecDepth 100000 in
theorem put_cons (n : Int) (l : List Int) : put (n :: l) = enc n ++ put l := rfl
set_option maxRecDepth 100000 in
theorem put_append (a b : List Int) : put (a ++ b) = put a ++ put b := by simp [put]
set_option maxRecDepth 100000 in
theorem put_snoc (a : List Int) (n : Int) : put (a ++ [n]) = put a ++ enc n := by simp [put]
set_option maxRecDepth 100000 in
theorem allGood_cons (n : Int) (l : List Int) : allGood (n :: l) = (good n && allGood l) := rfl
set_option maxRecDepth 100000 in
theorem allGood_append (a b : List Int) : allGood (a ++ b) = (allGood a && allGood b) := by simp [allGood]
set_option maxRecDepth 100000 in
theorem put_ne (n : Int) (l : List Int) : put (n :: l) ≠ [] := by
  rw [put_cons]; intro h; exact enc_ne n (List.append_eq_nil_iff.1 h).1
set_option maxRecDepth 100000 in
theorem put_length_le (l : List Int) : (put l).length ≤ 4 * l.length := by
  induction l with
  | nil => simp [put]
  | cons n l ih => rw [put_cons, List.length_append, enc_length, List.length_cons]; have := size_le n; omega
set_option maxRecDepth 100000 in
theorem put_length_ge (l : List Int) : l.length ≤ (put l).length := by
  induction l with
  | nil => simp
  | cons n l ih => rw [put_cons, List.length_append, enc_length, List.length_cons]; have := size_pos n; omega
set_option maxRecDepth 100000 in
theorem put_bytes (l : List Int) (h : allGood l = true) : ∀ b ∈ put l, 0 ≤ b ∧ b ≤ 255 := by
  intro b hb
  obtain ⟨n, hn, hbn⟩ := List.mem_flatMap.1 hb
  exact enc_bytes n (by simpa using (List.all_eq_true.1 h) n hn) b hbn

set_option maxRecDepth 100000 in
/-- signs are told by their bytes -/
theorem put_cancel : ∀ (d l : List Int) (rs : List Int), allGood d = true → allGood l = true → put l = put d ++ rs → ∃ l', l = d ++ l' ∧ put l' = rs
  | [], l, rs, _, _, h => ⟨l, rfl, by simpa [put] using h⟩
  | n :: d, [], rs, _, _, h => by
    rw [put_cons] at h
    simp only [put_nil, List.append_assoc] at h
    exact absurd (List.append_eq_nil_iff.1 h.symm).1 (enc_ne n)
  | n :: d, m :: l, rs, hd, hl, h => by
    rw [allGood_cons, Bool.and_eq_true] at hd hl
    rw [put_cons, put_cons, List.append_assoc] at h
    obtain ⟨rfl, h'⟩ := enc_cancel m n _ _ hl.1 hd.1 h
    obtain ⟨l', rfl, h''⟩ := put_cancel d l rs hd.2 hl.2 h'
    exact ⟨l', rfl, h''⟩
set_option maxRecDepth 100000 in
theorem put_inj (l d : List Int) (hl : allGood l = true) (hd : allGood d = true) (h : put l = put d) : l = d := by
  obtain ⟨l', rfl, h'⟩ := put_cancel d l [] hd hl (by simpa using h)
  cases l' with
  | nil => simp
  | cons n l' => exact absurd h' (put_ne n l')

/-- what Take tells: a sign whose bytes these begin with, and how many they are; or that there is none -/
def IsTake (zs : List Int) : Option (Int × Nat) → Prop
  | some (n, k) => good n = true ∧ k = size n ∧ ∃ r, zs = enc n ++ r
  | none => ∀ n r, good n = true → zs ≠ enc n ++ r
set_option maxRecDepth 100000 in
theorem IsTake.one {zs : List Int} {x y : Option (Int × Nat)} (hx : IsTake zs x) (hy : IsTake zs y) : x = y := by
  cases x with
  | none => cases y with
    | none => rfl
    | some p => obtain ⟨n, k⟩ := p; obtain ⟨g, _, r, e⟩ := hy; exact absurd e (hx n r g)
  | some p => cases y with
    | none => obtain ⟨n, k⟩ := p; obtain ⟨g, _, r, e⟩ := hx; exact absurd e (hy n r g)
    | some q =>
      obtain ⟨n, k⟩ := p; obtain ⟨m, j⟩ := q
      obtain ⟨g, rfl, r, e⟩ := hx; obtain ⟨g', rfl, r', e'⟩ := hy
      obtain ⟨rfl, _⟩ := enc_cancel n m r r' g g' (e.symm.trans e')
      rfl

/-- what Read tells -/
def IsRead (zs : List Int) : Option (List Int) → Prop
  | some l => allGood l = true ∧ put l = zs
  | none => ∀ l, allGood l = true → put l ≠ zs
set_option maxRecDepth 100000 in
theorem IsRead.one {zs : List Int} {x y : Option (List Int)} (hx : IsRead zs x) (hy : IsRead zs y) : x = y := by
  cases x with
  | none => cases y with
    | none => rfl
    | some l => exact absurd hy.2 (hx l hy.1)
  | some d => cases y with
    | none => exact absurd hx.2 (hy d hx.1)
    | some l => rw [put_inj d l hx.1 hy.1 (hx.2.trans hy.2.symm)]

set_option maxRecDepth 100000 in
/-- one step of reading: what has been read, and the rest -/
theorem read_step {zs d rs : List Int} {n : Int} {k : Nat} (hd : allGood d = true) (hz : zs = put d ++ rs) (ht : IsTake rs (some (n, k))) :
    allGood (d ++ [n]) = true ∧ zs = put (d ++ [n]) ++ rs.drop k := by
  obtain ⟨g, rfl, r, rfl⟩ := ht
  refine ⟨by rw [allGood_append, hd]; simp [allGood, g], ?_⟩
  rw [put_snoc, hz, List.append_assoc, ← enc_length, List.drop_left]
set_option maxRecDepth 100000 in
theorem read_stop {zs d rs : List Int} (hd : allGood d = true) (hz : zs = put d ++ rs) (hne : rs ≠ []) (ht : IsTake rs none) : IsRead zs none := by
  intro l hl e
  obtain ⟨l', rfl, h⟩ := put_cancel d l rs hd hl (e.trans hz)
  cases l' with
  | nil => exact hne h.symm
  | cons n l' =>
    rw [allGood_append, Bool.and_eq_true, allGood_cons, Bool.and_eq_true] at hl
    exact ht n (put l') hl.2.1 h.symm
set_option maxRecDepth 100000 in
theorem read_end {zs d : List Int} (hd : allGood d = true) (hz : zs = put d ++ []) : IsRead zs (some d) := ⟨hd, by simpa using hz.symm⟩

/-! ### a sign's bytes, one by one -/
set_option maxRecDepth 100000 in
theorem enc_first (s : Int) (k : Nat) (hk : k = size s) (h0 : 0 ≤ s) (h1 : s ≤ 1114111) :
    (enc s).take 1 = [(mark k + s / 2 ^ (6 * (k - 1)) % 256) % 256] := by
  subst hk
  unfold enc size
  split
  · simp [mark]; omega
  · split
    · simp [mark]; omega
    · split
      · simp [mark]; omega
      · simp [mark]; omega
set_option maxRecDepth 100000 in
theorem enc_next (s : Int) (j : Nat) (hj : j + 1 < size s) :
    (enc s).take (size s - j) = (enc s).take (size s - (j + 1)) ++ [128 + s / 2 ^ (6 * j) % 64] := by
  unfold size at hj
  unfold enc size
  split at hj
  · omega
  · rename_i a
    rw [if_neg a, if_neg a]
    split at hj
    · rename_i b
      rw [if_pos b, if_pos b]
      obtain rfl : j = 0 := by omega
      simp
    · rename_i b
      rw [if_neg b, if_neg b]
      split at hj
      · rename_i c
        rw [if_pos c, if_pos c]
        obtain rfl | rfl : j = 0 ∨ j = 1 := by omega
        · simp
        · simp
      · rename_i c
        rw [if_neg c, if_neg c]
        obtain rfl | rfl | rfl : j = 0 ∨ j = 1 ∨ j = 2 := by omega
        · simp
        · simp
        · simp

set_option maxRecDepth 100000 in
theorem enc_all (s : Int) : (enc s).take (size s) = enc s := List.take_of_length_le (by rw [enc_length]; exact Nat.le_refl _)

end Go.Proofs.Ytflikfnehpaohaa.Utf
