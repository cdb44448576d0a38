/- The sign that bytes begin with, in plain numbers and lists: nothing of the program. -/
import Derived.Test.YtflikfnehpaohaaUtfMath
namespace Go.Proofs.Ytflikfnehpaohaa.Utf

def tail (c : Int) : Bool := decide (128 ≤ c) && decide (c < 192)
set_option maxRecDepth 100000 in
theorem tail_iff (c : Int) : tail c = true ↔ 128 ≤ c ∧ c < 192 := by simp [tail]
/-- the number that a first byte and those behind it hold -/
def acc (c : Int) (k : Nat) (l : List Int) : Int := l.foldl (fun s d => s * 64 + d % 64) (c - mark k)
def takeL (zs : List Int) : Option (Int × Nat) :=
  match zs with
  | [] => none
  | c :: rest =>
    if byHead c = 0 ∨ zs.length < byHead c then none
    else if (rest.take (byHead c - 1)).all tail = false then none
    else if good (acc c (byHead c) (rest.take (byHead c - 1))) = true ∧ size (acc c (byHead c) (rest.take (byHead c - 1))) = byHead c then
      some (acc c (byHead c) (rest.take (byHead c - 1)), byHead c)
    else none

set_option maxRecDepth 100000 in
theorem byHead_le (c : Int) : byHead c ≤ 4 := by
  unfold byHead; split <;> (try split) <;> (try split) <;> (try split) <;> (try split) <;> omega
set_option maxRecDepth 100000 in
theorem byHead_cases (c : Int) : (byHead c = 0) ∨ (c < 128 ∧ byHead c = 1) ∨ (192 ≤ c ∧ c < 224 ∧ byHead c = 2) ∨ (224 ≤ c ∧ c < 240 ∧ byHead c = 3) ∨ (240 ≤ c ∧ c < 248 ∧ byHead c = 4) := by
  unfold byHead; split
  · omega
  · split
    · omega
    · split
      · omega
      · split
        · omega
        · split <;> omega

set_option maxRecDepth 100000 in
theorem acc_snoc (c : Int) (k : Nat) (l : List Int) (d : Int) : acc c k (l ++ [d]) = acc c k l * 64 + d % 64 := by simp [acc]
set_option maxRecDepth 100000 in
/-- what is held stays small -/
theorem acc_bound (c : Int) (k : Nat) (l : List Int) (hc : 0 ≤ c) (hk : k = byHead c) (h0 : k ≠ 0) (hl : l.length + 1 ≤ k) :
    0 ≤ acc c k l ∧ acc c k l < 2097152 ∧ (l.length + 1 < k → acc c k l < 32768) := by
  rcases byHead_cases c with h | h | h | h | h
  · omega
  · have : k = 1 := by omega
    subst this
    match l, hl with
    | [], _ => simp [acc, mark]; omega
  · have : k = 2 := by omega
    subst this
    match l, hl with
    | [], _ => simp [acc, mark]; omega
    | [a], _ => simp [acc, mark]; omega
  · have : k = 3 := by omega
    subst this
    match l, hl with
    | [], _ => simp [acc, mark]; omega
    | [a], _ => simp [acc, mark]; omega
    | [a, b], _ => simp [acc, mark]; omega
  · have : k = 4 := by omega
    subst this
    match l, hl with
    | [], _ => simp [acc, mark]; omega
    | [a], _ => simp [acc, mark]; omega
    | [a, b], _ => simp [acc, mark]; omega
    | [a, b, d], _ => simp [acc, mark]; omega

set_option maxRecDepth 100000 in
theorem byHead_1 (c : Int) (h : c < 128) : byHead c = 1 := by unfold byHead; rw [if_pos h]
set_option maxRecDepth 100000 in
theorem byHead_2 (c : Int) (h : 192 ≤ c) (h' : c < 224) : byHead c = 2 := by unfold byHead; rw [if_neg (by omega), if_neg (by omega), if_pos h']
set_option maxRecDepth 100000 in
theorem byHead_3 (c : Int) (h : 224 ≤ c) (h' : c < 240) : byHead c = 3 := by unfold byHead; rw [if_neg (by omega), if_neg (by omega), if_neg (by omega), if_pos h']
set_option maxRecDepth 100000 in
theorem byHead_4 (c : Int) (h : 240 ≤ c) (h' : c < 248) : byHead c = 4 := by unfold byHead; rw [if_neg (by omega), if_neg (by omega), if_neg (by omega), if_neg (by omega), if_pos h']

set_option maxRecDepth 100000 in
theorem takeL_enc (n : Int) (r : List Int) (h : good n = true) : takeL (enc n ++ r) = some (n, size n) := by
  have hg := (good_iff n).1 h
  by_cases a : n < 128
  · have e : enc n = [n] := by unfold enc; rw [if_pos a]
    have es : size n = 1 := by unfold size; rw [if_pos a]
    have eh : byHead n = 1 := byHead_1 n a
    have ea : acc n 1 [] = n := by simp [acc, mark]
    rw [e, es]
    simp [takeL, eh, ea, h, es]
  · by_cases b : n < 2048
    · have e : enc n = [192 + n / 64, 128 + n % 64] := by unfold enc; rw [if_neg a, if_pos b]
      have es : size n = 2 := by unfold size; rw [if_neg a, if_pos b]
      have eh : byHead (192 + n / 64) = 2 := byHead_2 _ (by omega) (by omega)
      have ea : acc (192 + n / 64) 2 [128 + n % 64] = n := by simp [acc, mark]; omega
      have t1 : tail (128 + n % 64) = true := by rw [tail_iff]; omega
      rw [e, es]
      simp [takeL, eh, ea, h, es, t1]
    · by_cases c : n < 65536
      · have e : enc n = [224 + n / 4096, 128 + n / 64 % 64, 128 + n % 64] := by unfold enc; rw [if_neg a, if_neg b, if_pos c]
        have es : size n = 3 := by unfold size; rw [if_neg a, if_neg b, if_pos c]
        have eh : byHead (224 + n / 4096) = 3 := byHead_3 _ (by omega) (by omega)
        have ea : acc (224 + n / 4096) 3 [128 + n / 64 % 64, 128 + n % 64] = n := by simp [acc, mark]; omega
        have t1 : tail (128 + n % 64) = true := by rw [tail_iff]; omega
        have t2 : tail (128 + n / 64 % 64) = true := by rw [tail_iff]; omega
        rw [e, es]
        simp [takeL, eh, ea, h, es, t1, t2]
      · have e : enc n = [240 + n / 262144, 128 + n / 4096 % 64, 128 + n / 64 % 64, 128 + n % 64] := by unfold enc; rw [if_neg a, if_neg b, if_neg c]
        have es : size n = 4 := by unfold size; rw [if_neg a, if_neg b, if_neg c]
        have eh : byHead (240 + n / 262144) = 4 := byHead_4 _ (by omega) (by omega)
        have ea : acc (240 + n / 262144) 4 [128 + n / 4096 % 64, 128 + n / 64 % 64, 128 + n % 64] = n := by simp [acc, mark]; omega
        have t1 : tail (128 + n % 64) = true := by rw [tail_iff]; omega
        have t2 : tail (128 + n / 64 % 64) = true := by rw [tail_iff]; omega
        have t3 : tail (128 + n / 4096 % 64) = true := by rw [tail_iff]; omega
        rw [e, es]
        simp [takeL, eh, ea, h, es, t1, t2, t3]

set_option maxRecDepth 100000 in
/-- a first byte and right ones behind it are the bytes of what they hold, if that needs so many -/
theorem enc_acc (c : Int) (l : List Int) (_hc : 0 ≤ c) (_h0 : byHead c ≠ 0) (hl : l.length + 1 = byHead c) (ht : l.all tail = true) (hs : size (acc c (byHead c) l) = byHead c) :
    enc (acc c (byHead c) l) = c :: l := by
  rcases byHead_cases c with h | ⟨h1, h2⟩ | ⟨h1, h3, h2⟩ | ⟨h1, h3, h2⟩ | ⟨h1, h3, h2⟩
  · omega
  · rw [h2] at hl hs ⊢
    match l, hl with
    | [], _ =>
      have e : acc c 1 [] = c := by simp [acc, mark]
      rw [e]; unfold enc; rw [if_pos h1]
  · rw [h2] at hl hs ⊢
    match l, hl with
    | [a], _ =>
      have ta := (tail_iff a).1 (by simpa using ht)
      have e : acc c 2 [a] = (c - 192) * 64 + a % 64 := by simp [acc, mark]
      rw [e] at hs ⊢
      unfold size at hs
      split at hs
      · omega
      · rename_i n1
        split at hs
        · rename_i n2
          unfold enc
          rw [if_neg n1, if_pos n2]
          simp; omega
        · split at hs <;> omega
  · rw [h2] at hl hs ⊢
    match l, hl with
    | [a, b], _ =>
      simp only [List.all_cons, List.all_nil, Bool.and_true, Bool.and_eq_true, tail_iff] at ht
      have e : acc c 3 [a, b] = ((c - 224) * 64 + a % 64) * 64 + b % 64 := by simp [acc, mark]
      rw [e] at hs ⊢
      unfold size at hs
      split at hs
      · omega
      · rename_i n1
        split at hs
        · omega
        · rename_i n2
          split at hs
          · rename_i n3
            unfold enc
            rw [if_neg n1, if_neg n2, if_pos n3]
            simp; omega
          · omega
  · rw [h2] at hl hs ⊢
    match l, hl with
    | [a, b, d], _ =>
      simp only [List.all_cons, List.all_nil, Bool.and_true, Bool.and_eq_true, tail_iff] at ht
      have e : acc c 4 [a, b, d] = (((c - 240) * 64 + a % 64) * 64 + b % 64) * 64 + d % 64 := by simp [acc, mark]
      rw [e] at hs ⊢
      unfold size at hs
      split at hs
      · omega
      · rename_i n1
        split at hs
        · omega
        · rename_i n2
          split at hs
          · omega
          · rename_i n3
            unfold enc
            rw [if_neg n1, if_neg n2, if_neg n3]
            simp; omega

set_option maxRecDepth 100000 in
theorem takeL_is (zs : List Int) (hz : ∀ b ∈ zs, 0 ≤ b) : IsTake zs (takeL zs) := by
  cases h : takeL zs with
  | none =>
    intro n r hg e
    rw [e, takeL_enc n r hg] at h
    cases h
  | some p =>
    obtain ⟨n, k⟩ := p
    cases zs with
    | nil => cases h
    | cons c rest =>
      unfold takeL at h
      simp only at h
      split at h
      · cases h
      · rename_i h1
        split at h
        · cases h
        · rename_i h2
          split at h
          · rename_i h3
            simp only [Option.some.injEq, Prod.mk.injEq] at h
            obtain ⟨rfl, rfl⟩ := h
            have hlen : (rest.take (byHead c - 1)).length + 1 = byHead c := by
              simp only [List.length_cons, not_or, Nat.not_lt] at h1
              simp; omega
            refine ⟨h3.1, h3.2.symm, rest.drop (byHead c - 1), ?_⟩
            rw [enc_acc c _ (hz c (by simp)) (by omega) hlen (by simpa using h2) h3.2, List.cons_append, List.take_append_drop]
          · cases h
set_option maxRecDepth 100000 in
theorem takeL_of {zs : List Int} (hz : ∀ b ∈ zs, 0 ≤ b) {r : Option (Int × Nat)} (h : IsTake zs r) : takeL zs = r := (takeL_is zs hz).one h

/-! ### the document's own way: one to four bytes are tried -/
def base (c : Int) (k : Nat) : Int := if k = 2 then c % 32 else if k = 3 then c % 16 else if k = 4 then c % 8 else c
def num (c : Int) (k : Nat) (l : List Int) : Int := l.foldl (fun s d => s * 64 + d % 64) (base c k)
set_option maxRecDepth 100000 in
theorem num_snoc (c : Int) (k : Nat) (l : List Int) (d : Int) : num c k (l ++ [d]) = num c k l * 64 + d % 64 := by simp [num]
set_option maxRecDepth 100000 in
theorem num_bound (c : Int) (k : Nat) (l : List Int) (hc : 0 ≤ c) (hc' : c ≤ 255) (hl : l.length ≤ 3) : 0 ≤ num c k l ∧ num c k l < 67108864 := by
  have hb : 0 ≤ base c k ∧ base c k ≤ 255 := by unfold base; split <;> (try split) <;> (try split) <;> omega
  match l, hl with
  | [], _ => simp [num]; omega
  | [a], _ => simp [num]; omega
  | [a, b], _ => simp [num]; omega
  | [a, b, d], _ => simp [num]; omega
set_option maxRecDepth 100000 in
/-- a sign's bytes hold it -/
theorem num_enc (n : Int) (c : Int) (l : List Int) (h : good n = true) (he : enc n = c :: l) : num c (size n) l = n := by
  have hg := (good_iff n).1 h
  unfold enc at he
  unfold size
  split at he
  · rename_i a
    rw [if_pos a]
    obtain ⟨rfl, rfl⟩ := List.cons.inj he
    rfl
  · rename_i a
    rw [if_neg a]
    split at he
    · rename_i b
      rw [if_pos b]
      obtain ⟨rfl, rfl⟩ := List.cons.inj he
      simp [num, base]; omega
    · rename_i b
      rw [if_neg b]
      split at he
      · rename_i d
        rw [if_pos d]
        obtain ⟨rfl, rfl⟩ := List.cons.inj he
        simp [num, base]; omega
      · rename_i d
        rw [if_neg d]
        obtain ⟨rfl, rfl⟩ := List.cons.inj he
        simp [num, base]; omega
/-- trying so many bytes -/
def fits (c : Int) (rest : List Int) (k : Nat) : Prop := good (num c k (rest.take (k - 1))) = true ∧ enc (num c k (rest.take (k - 1))) = c :: rest.take (k - 1)
set_option maxRecDepth 100000 in
theorem fits_take (c : Int) (rest : List Int) (hz : ∀ b ∈ c :: rest, 0 ≤ b) (k : Nat) (hk : 1 ≤ k) (hl : k ≤ (c :: rest).length) (h : fits c rest k) :
    takeL (c :: rest) = some (num c k (rest.take (k - 1)), k) := by
  refine takeL_of hz ⟨h.1, ?_, rest.drop (k - 1), ?_⟩
  · have := congrArg List.length h.2
    rw [enc_length] at this
    rw [this]
    simp at hl ⊢; omega
  · rw [h.2, List.cons_append, List.take_append_drop]
set_option maxRecDepth 100000 in
theorem fits_none (c : Int) (rest : List Int) (hz : ∀ b ∈ c :: rest, 0 ≤ b) (h : ∀ k, 1 ≤ k → k ≤ 4 → k ≤ (c :: rest).length → ¬ fits c rest k) : takeL (c :: rest) = none := by
  refine takeL_of hz ?_
  intro n r hg e
  have hp := size_pos n
  have h4 := size_le n
  have hl : (enc n).length = size n := enc_length n
  have hlen : size n ≤ (c :: rest).length := by rw [e, List.length_append, hl]; omega
  have htk : (c :: rest).take (size n) = enc n := by rw [e, ← hl, List.take_left]
  have hcons : enc n = c :: rest.take (size n - 1) := by
    rw [← htk]
    obtain ⟨m, hm⟩ : ∃ m, size n = m + 1 := ⟨size n - 1, by omega⟩
    rw [hm]; rfl
  have hn := num_enc n c _ hg hcons
  exact h (size n) hp h4 hlen ⟨by rw [hn]; exact hg, by rw [hn]; exact hcons⟩

set_option maxRecDepth 100000 in
theorem takeL_short (c : Int) (rest : List Int) (h : byHead c = 0 ∨ (c :: rest).length < byHead c) : takeL (c :: rest) = none := by
  unfold takeL; simp only; rw [if_pos h]
set_option maxRecDepth 100000 in
theorem takeL_tail (c : Int) (rest : List Int) (j : Nat) (hj : j < byHead c - 1) (hl : j < rest.length) (h : tail (rest.getD j 0) = false) : takeL (c :: rest) = none := by
  unfold takeL; simp only
  split
  · rfl
  · rw [if_pos]
    rw [Bool.eq_false_iff]
    intro ha
    have := List.all_eq_true.1 ha (rest[j]) (by rw [List.mem_take_iff_getElem]; exact ⟨j, by omega, rfl⟩)
    simp [hl] at h
    rw [h] at this
    cases this
set_option maxRecDepth 100000 in
theorem takeL_bad (c : Int) (rest : List Int) (h : ¬ (good (acc c (byHead c) (rest.take (byHead c - 1))) = true ∧ size (acc c (byHead c) (rest.take (byHead c - 1))) = byHead c)) : takeL (c :: rest) = none := by
  unfold takeL; simp only
  split
  · rfl
  · split
    · rfl
    · rfl
set_option maxRecDepth 100000 in
theorem takeL_good (c : Int) (rest : List Int) (h0 : ¬ (byHead c = 0 ∨ (c :: rest).length < byHead c)) (ht : (rest.take (byHead c - 1)).all tail = true)
    (h : good (acc c (byHead c) (rest.take (byHead c - 1))) = true ∧ size (acc c (byHead c) (rest.take (byHead c - 1))) = byHead c) : takeL (c :: rest) = some (acc c (byHead c) (rest.take (byHead c - 1)), byHead c) := by
  unfold takeL; simp only
  rw [if_neg h0, if_neg (by rw [ht]; decide), if_pos h]

end Go.Proofs.Ytflikfnehpaohaa.Utf
