/- Numbers of seven bits a byte, in plain numbers and lists. No program. -/
import Derived.WalkKit
namespace Go.Proofs.Ytlpgnolibpfhpaa
namespace Var

/-- a number's bytes, the lowest first -/
def enc (n : Nat) : List Int := if n < 128 then [(n : Int)] else (128 + ((n % 128 : Nat) : Int)) :: enc (n / 128)
termination_by n
decreasing_by omega
set_option maxRecDepth 100000 in
theorem enc_small {n : Nat} (h : n < 128) : enc n = [(n : Int)] := by rw [enc, if_pos h]
set_option maxRecDepth 100000 in
theorem enc_big {n : Nat} (h : 128 ≤ n) : enc n = (128 + ((n % 128 : Nat) : Int)) :: enc (n / 128) := by rw [enc, if_neg (by omega)]

set_option maxRecDepth 100000 in
theorem enc_rec {P : Nat → Prop} (h0 : ∀ n, n < 128 → P n) (h1 : ∀ n, 128 ≤ n → P (n / 128) → P n) (n : Nat) : P n := by
  induction n using Nat.strongRecOn with
  | ind n ih =>
    rcases Nat.lt_or_ge n 128 with h | h
    · exact h0 n h
    · exact h1 n h (ih _ (by omega))

set_option maxRecDepth 100000 in
theorem enc_wf (n : Nat) : ∀ d ∈ enc n, (Lit.int .u8 d).wf = true := by
  induction n using enc_rec with
  | h0 n h => intro d hd; rw [enc_small h, List.mem_singleton] at hd; subst hd; exact WalkArith.wf_u8 ⟨by omega, by omega⟩
  | h1 n h ih =>
    intro d hd
    rw [enc_big h] at hd
    rcases List.mem_cons.1 hd with rfl | hd
    · exact WalkArith.wf_u8 ⟨by omega, by omega⟩
    · exact ih d hd
set_option maxRecDepth 100000 in
theorem enc_ne (n : Nat) : enc n ≠ [] := by
  rcases Nat.lt_or_ge n 128 with h | h
  · rw [enc_small h]; simp
  · rw [enc_big h]; simp
set_option maxRecDepth 100000 in
theorem enc_pos (n : Nat) : 0 < (enc n).length := List.length_pos_iff.2 (enc_ne n)
set_option maxRecDepth 100000 in
theorem enc_len (k : Nat) : ∀ n, n < 128 ^ (k + 1) → (enc n).length ≤ k + 1 := by
  induction k with
  | zero => intro n h; rw [enc_small (by simpa using h)]; simp
  | succ k ih =>
    intro n h
    rcases Nat.lt_or_ge n 128 with h1 | h1
    · rw [enc_small h1]; simp
    · rw [enc_big h1, List.length_cons]
      have : n / 128 < 128 ^ (k + 1) := by rw [Nat.div_lt_iff_lt_mul (by omega)]; rw [Nat.pow_succ] at h; exact h
      have := ih _ this
      omega
set_option maxRecDepth 100000 in
theorem len_10 {n : Nat} (h : n < 18446744073709551616) : (enc n).length ≤ 10 := enc_len 9 n (by omega)
set_option maxRecDepth 100000 in
theorem len_mono (a : Nat) : ∀ b, a ≤ b → (enc a).length ≤ (enc b).length := by
  induction a using enc_rec with
  | h0 a h => intro b _; rw [enc_small h]; exact enc_pos b
  | h1 a h ih =>
    intro b hb
    rw [enc_big h, enc_big (n := b) (by omega), List.length_cons, List.length_cons]
    have := ih (b / 128) (by omega)
    omega
set_option maxRecDepth 100000 in
theorem len_times {a : Nat} (h : 0 < a) : (enc (a * 128)).length = (enc a).length + 1 := by
  rw [enc_big (by omega), List.length_cons, Nat.mul_div_cancel _ (by omega)]

/-- the number that bytes hold -/
def val : List Int → Nat
  | [] => 0
  | x :: xs => x.toNat % 128 + 128 * val xs
set_option maxRecDepth 100000 in
theorem val_enc (n : Nat) : val (enc n) = n := by
  induction n using enc_rec with
  | h0 n h => rw [enc_small h]; simp [val]; omega
  | h1 n h ih => rw [enc_big h, val, ih]; omega
set_option maxRecDepth 100000 in
theorem enc_inj {a b : Nat} (h : enc a = enc b) : a = b := by rw [← val_enc a, h, val_enc]
set_option maxRecDepth 100000 in
theorem val_snoc (l : List Int) (x : Int) : val (l ++ [x]) = val l + 128 ^ l.length * (x.toNat % 128) := by
  induction l with
  | nil => simp [val]
  | cons y l ih =>
    rw [List.cons_append, val, ih, val, List.length_cons, Nat.pow_succ, Nat.mul_add, Nat.add_assoc]
    congr 1
    congr 1
    rw [← Nat.mul_assoc, Nat.mul_comm 128 (128 ^ l.length)]
set_option maxRecDepth 100000 in
theorem val_take {l : List Int} {i : Nat} (h : i < l.length) : val (l.take (i + 1)) = val (l.take i) + 128 ^ i * ((l.getD i 0).toNat % 128) := by
  rw [List.take_succ_eq_append_getElem h, val_snoc, List.length_take, Nat.min_eq_left (by omega)]
  simp [h]

set_option maxRecDepth 100000 in
theorem val_drop {l : List Int} {i : Nat} (h : i < l.length) : val (l.drop i) = (l.getD i 0).toNat % 128 + 128 * val (l.drop (i + 1)) := by
  rw [List.drop_eq_getElem_cons h, val]
  simp [h]

/-- the bytes up to one that has no more behind it, k at most -/
def upTo : Nat → List Int → List Int
  | 0, _ => []
  | _ + 1, [] => []
  | k + 1, x :: xs => if x < 128 then [x] else x :: upTo k xs
set_option maxRecDepth 100000 in
theorem upTo_stop : ∀ (i k : Nat) (b : List Int), (∀ x ∈ b.take i, 128 ≤ x) → i < b.length → b.getD i 0 < 128 → i < k → upTo k b = b.take (i + 1) := by
  intro i
  induction i with
  | zero =>
    intro k b _ h1 h2 h3
    match k, b, h3 with
    | k + 1, x :: b, _ => simp at h2; simp [upTo, h2]
    | k + 1, [], _ => simp at h1
  | succ i ih =>
    intro k b h0 h1 h2 h3
    match k, b, h3 with
    | k + 1, [], _ => simp at h1
    | k + 1, x :: b, _ =>
      have hx := h0 x (by simp)
      have : ¬ x < 128 := by omega
      rw [upTo, if_neg this, ih k b (fun y hy => h0 y (by simp [hy])) (by simpa using h1) (by simpa using h2) (by omega)]
      simp
set_option maxRecDepth 100000 in
theorem upTo_end : ∀ (i k : Nat) (b : List Int), (∀ x ∈ b.take i, 128 ≤ x) → (i = b.length ∨ i = k) → i ≤ k → upTo k b = b.take i := by
  intro i
  induction i with
  | zero =>
    intro k b _ h1 _
    match k, b with
    | 0, _ => simp [upTo]
    | k + 1, [] => simp [upTo]
    | k + 1, x :: b => simp at h1
  | succ i ih =>
    intro k b h0 h1 h2
    match k, b with
    | 0, _ => omega
    | k + 1, [] => simp [upTo]
    | k + 1, x :: b =>
      have hx := h0 x (by simp)
      have : ¬ x < 128 := by omega
      rw [upTo, if_neg this, ih k b (fun y hy => h0 y (by simp [hy])) (by simpa using h1) (by omega)]
      simp
set_option maxRecDepth 100000 in
theorem upTo_enc (n : Nat) : ∀ (k : Nat) (r : List Int), (enc n).length ≤ k → upTo k (enc n ++ r) = enc n := by
  induction n using enc_rec with
  | h0 n h =>
    intro k r hk
    rw [enc_small h] at *
    match k, hk with
    | k + 1, _ => have : (n : Int) < 128 := by omega
                  simp [upTo, this]
  | h1 n h ih =>
    intro k r hk
    rw [enc_big h] at *
    match k, hk with
    | k + 1, hk =>
      rw [List.cons_append, upTo, if_neg (by omega), ih k r (by simpa using hk)]

/-- the number that bytes begin with, and what is behind -/
def num (b : List Int) : Nat := val (upTo 10 b) % 18446744073709551616
def take (b : List Int) : Option (Nat × List Int) := if enc (num b) = b.take (enc (num b)).length then some (num b, b.drop (enc (num b)).length) else none
set_option maxRecDepth 100000 in
theorem num_lt (b : List Int) : num b < 18446744073709551616 := Nat.mod_lt _ (by omega)

set_option maxRecDepth 100000 in
theorem num_enc {n : Nat} (h : n < 18446744073709551616) (r : List Int) : num (enc n ++ r) = n := by
  rw [num, upTo_enc n 10 r (len_10 h), val_enc, Nat.mod_eq_of_lt h]
set_option maxRecDepth 100000 in
theorem take_enc {n : Nat} (h : n < 18446744073709551616) (r : List Int) : take (enc n ++ r) = some (n, r) := by
  have hn := num_enc h r
  rw [take, hn, if_pos (by simp)]
  simp
set_option maxRecDepth 100000 in
theorem take_some {b : List Int} {n : Nat} {r : List Int} (h : take b = some (n, r)) : b = enc n ++ r ∧ n < 18446744073709551616 := by
  rw [take] at h
  split at h
  · rename_i h1
    simp only [Option.some.injEq, Prod.mk.injEq] at h
    obtain ⟨rfl, rfl⟩ := h
    refine ⟨?_, num_lt b⟩
    conv => lhs; rw [← List.take_append_drop (enc (num b)).length b]
    rw [← h1]
  · cases h
set_option maxRecDepth 100000 in
theorem take_ne {b : List Int} (h : enc (num b) ≠ b.take (enc (num b)).length) : take b = none := by rw [take, if_neg h]
set_option maxRecDepth 100000 in
theorem take_eq {b : List Int} (h : enc (num b) = b.take (enc (num b)).length) : take b = some (num b, b.drop (enc (num b)).length) := by rw [take, if_pos h]

set_option maxRecDepth 100000 in
/-- no number's bytes begin another's -/
theorem take_cut {n j : Nat} (h : n < 18446744073709551616) (hj : j < (enc n).length) : take ((enc n).take j) = none := by
  cases h1 : take ((enc n).take j) with
  | none => rfl
  | some p =>
    obtain ⟨m, r⟩ := p
    obtain ⟨h2, h3⟩ := take_some h1
    have h4 : enc n = enc m ++ (r ++ (enc n).drop j) := by
      conv => lhs; rw [← List.take_append_drop j (enc n)]
      rw [h2, List.append_assoc]
    have h5 := take_enc h []
    rw [List.append_nil, h4, take_enc h3] at h5
    simp only [Option.some.injEq, Prod.mk.injEq, List.append_eq_nil_iff] at h5
    have h6 := congrArg List.length h5.2.2
    simp at h6
    omega

set_option maxRecDepth 100000 in
/-- the document's way: the first byte that has no more behind it stands at k -/
theorem take_at {b : List Int} {k : Nat} (h0 : ∀ x ∈ b.take k, 128 ≤ x) (h1 : k < b.length) (h2 : b.getD k 0 < 128) (h3 : k ≤ 9) :
    num b = val (b.take (k + 1)) % 18446744073709551616 := by
  rw [num, upTo_stop k 10 b h0 h1 h2 (by omega)]
set_option maxRecDepth 100000 in
theorem stop_enc (n : Nat) : ∀ (k : Nat) (r : List Int), (∀ x ∈ (enc n ++ r).take k, 128 ≤ x) → (enc n ++ r).getD k 0 < 128 → k < (enc n ++ r).length → k + 1 = (enc n).length := by
  induction n using enc_rec with
  | h0 n h =>
    intro k r h1 h2 h3
    rw [enc_small h] at *
    cases k with
    | zero => rfl
    | succ k => have := h1 (n : Int) (by simp); omega
  | h1 n h ih =>
    intro k r h1 h2 h3
    rw [enc_big h] at *
    cases k with
    | zero => simp at h2; omega
    | succ k =>
      have := ih k r (fun x hx => h1 x (by simp [hx])) (by simpa using h2) (by simpa using h3)
      simp [this]
set_option maxRecDepth 100000 in
theorem take_at_some {b : List Int} {k : Nat} (h0 : ∀ x ∈ b.take k, 128 ≤ x) (h1 : k < b.length) (h2 : b.getD k 0 < 128) (h3 : k ≤ 9) (h : enc (num b) = b.take (k + 1)) :
    take b = some (num b, b.drop (k + 1)) := by
  have hl : (enc (num b)).length = k + 1 := by rw [h]; simp; omega
  rw [take_eq (by rw [hl]; exact h), hl]
set_option maxRecDepth 100000 in
theorem take_at_none {b : List Int} {k : Nat} (h0 : ∀ x ∈ b.take k, 128 ≤ x) (h1 : k < b.length) (h2 : b.getD k 0 < 128) (h : enc (num b) ≠ b.take (k + 1)) : take b = none := by
  cases h4 : take b with
  | none => rfl
  | some p =>
    obtain ⟨m, r⟩ := p
    obtain ⟨h5, h6⟩ := take_some h4
    exfalso
    apply h
    subst h5
    have := stop_enc m k r h0 h2 h1
    rw [num_enc h6, this]
    simp
set_option maxRecDepth 100000 in
theorem take_far {b : List Int} {k : Nat} (h0 : ∀ x ∈ b.take k, 128 ≤ x) (h1 : b.length ≤ k ∨ 9 < k) : take b = none := by
  cases h4 : take b with
  | none => rfl
  | some p =>
    obtain ⟨m, r⟩ := p
    obtain ⟨h5, h6⟩ := take_some h4
    exfalso
    have hl := len_10 h6
    have hlast : ∀ n, ∃ l x, enc n = l ++ [x] ∧ x < 128 := by
      intro n
      induction n using enc_rec with
      | h0 n h => exact ⟨[], n, by rw [enc_small h]; rfl, by omega⟩
      | h1 n h ih =>
        obtain ⟨l, x, h7, h8⟩ := ih
        exact ⟨_ :: l, x, by rw [enc_big h, h7]; rfl, h8⟩
    obtain ⟨l, x, h7, h8⟩ := hlast m
    have h9 : (enc m).length ≤ k := by
      rcases h1 with h1 | h1
      · rw [h5] at h1; simp at h1; omega
      · omega
    have := h0 x (by
      rw [h5, List.take_append, List.take_of_length_le h9, h7]
      simp)
    omega

end Var
end Go.Proofs.Ytlpgnolibpfhpaa
