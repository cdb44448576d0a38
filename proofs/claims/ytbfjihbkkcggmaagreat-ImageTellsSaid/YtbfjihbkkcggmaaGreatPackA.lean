import Derived.Below
import Derived.WalkKit
/- Used by the law. -/
namespace Go.Proofs.YtbfjihbkkcggmaaGreat.Utf

def good (n : Int) : Bool := decide (0 ≤ n) && decide (n ≤ 1114111) && (decide (n < 55296) || decide (57343 < n))
def size (n : Int) : Nat := if n < 128 then 1 else if n < 2048 then 2 else if n < 65536 then 3 else 4
def enc (n : Int) : List Int :=
  if n < 128 then [n] else if n < 2048 then [192 + n / 64, 128 + n % 64]
  else if n < 65536 then [224 + n / 4096, 128 + n / 64 % 64, 128 + n % 64]
  else [240 + n / 262144, 128 + n / 4096 % 64, 128 + n / 64 % 64, 128 + n % 64]
def put (l : List Int) : List Int := l.flatMap enc
def mark (k : Int) : Int := if k = 1 then 0 else if k = 2 then 192 else if k = 3 then 224 else 240
def byHead (c : Int) : Nat := if c < 128 then 1 else if c < 192 then 0 else if c < 224 then 2 else if c < 240 then 3 else if c < 248 then 4 else 0
def allGood (l : List Int) : Bool := l.all good

theorem good_iff (n : Int) : good n = true ↔ 0 ≤ n ∧ n ≤ 1114111 ∧ (n < 55296 ∨ 57343 < n) := by
  simp [good, and_assoc]
theorem enc_length (n : Int) : (enc n).length = size n := by
  unfold enc size; split <;> (try split) <;> (try split) <;> rfl
theorem size_pos (n : Int) : 1 ≤ size n := by unfold size; split <;> (try split) <;> (try split) <;> omega
theorem size_le (n : Int) : size n ≤ 4 := by unfold size; split <;> (try split) <;> (try split) <;> omega
theorem enc_ne (n : Int) : enc n ≠ [] := by
  intro h; have := enc_length n; rw [h] at this; have := size_pos n; simp at *; omega
theorem enc_bytes (n : Int) (h : good n = true) : ∀ b ∈ enc n, 0 ≤ b ∧ b ≤ 255 := by
  rw [good_iff] at h
  unfold enc; split
  · intro b hb; simp at hb; omega
  · split
    · intro b hb; simp at hb; omega
    · split
      · intro b hb; simp at hb; omega
      · intro b hb; simp at hb; omega

theorem enc_cancel (m n : Int) (r s : List Int) (hm : good m = true) (hn : good n = true) (h : enc m ++ r = enc n ++ s) : m = n ∧ r = s := by
  rw [good_iff] at hm hn
  unfold enc at h
  split at h
  · split at h
    · simp at h; exact ⟨by omega, h.2⟩
    · split at h
      · simp at h; omega
      · split at h
        · simp at h; omega
        · simp at h; omega
  · split at h
    · split at h
      · simp at h; omega
      · split at h
        · simp at h; exact ⟨by omega, h.2.2⟩
        · split at h
          · simp at h; omega
          · simp at h; omega
    · split at h
      · split at h
        · simp at h; omega
        · split at h
          · simp at h; omega
          · split at h
            · simp at h; exact ⟨by omega, h.2.2.2⟩
            · simp at h; omega
      · split at h
        · simp at h; omega
        · split at h
          · simp at h; omega
          · split at h
            · simp at h; omega
            · simp at h; exact ⟨by omega, h.2.2.2.2⟩

theorem put_nil : put [] = [] := rfl
theorem put_cons (n : Int) (l : List Int) : put (n :: l) = enc n ++ put l := rfl
theorem allGood_cons (n : Int) (l : List Int) : allGood (n :: l) = (good n && allGood l) := rfl
theorem put_ne (n : Int) (l : List Int) : put (n :: l) ≠ [] := by
  rw [put_cons]; intro h; exact enc_ne n (List.append_eq_nil_iff.1 h).1
theorem put_length_le (l : List Int) : (put l).length ≤ 4 * l.length := by
  induction l with
  | nil => simp [put]
  | cons n l ih => rw [put_cons, List.length_append, enc_length, List.length_cons]; have := size_le n; omega
theorem put_bytes (l : List Int) (h : allGood l = true) : ∀ b ∈ put l, 0 ≤ b ∧ b ≤ 255 := by
  intro b hb
  obtain ⟨n, hn, hbn⟩ := List.mem_flatMap.1 hb
  exact enc_bytes n (by simpa using (List.all_eq_true.1 h) n hn) b hbn

theorem put_cancel : ∀ (d l : List Int) (rs : List Int), allGood d = true → allGood l = true → put l = put d ++ rs → ∃ l', l = d ++ l' ∧ put l' = rs
  | [], l, rs, _, _, h => ⟨l, rfl, by simpa [put] using h⟩
  | n :: d, [], rs, _, _, h => by
    rw [put_cons] at h
    simp only [put_nil, List.append_assoc] at h
    exact absurd (List.append_eq_nil_iff.1 h.symm).1 (enc_ne n)
  | n :: d, m :: l, rs, hd, hl, h => by
    rw [allGood_cons, Bool.and_eq_true] at hd hl
    rw [put_cons, put_cons, List.append_assoc] at h
    obtain ⟨rfl, h'⟩ := enc_cancel m n _ _ hl.1 hd.1 h
    obtain ⟨l', rfl, h''⟩ := put_cancel d l rs hd.2 hl.2 h'
    exact ⟨l', rfl, h''⟩
theorem put_inj (l d : List Int) (hl : allGood l = true) (hd : allGood d = true) (h : put l = put d) : l = d := by
  obtain ⟨l', rfl, h'⟩ := put_cancel d l [] hd hl (by simpa using h)
  cases l' with
  | nil => simp
  | cons n l' => exact absurd h' (put_ne n l')

def IsTake (zs : List Int) : Option (Int × Nat) → Prop
  | some (n, k) => good n = true ∧ k = size n ∧ ∃ r, zs = enc n ++ r
  | none => ∀ n r, good n = true → zs ≠ enc n ++ r
theorem IsTake.one {zs : List Int} {x y : Option (Int × Nat)} (hx : IsTake zs x) (hy : IsTake zs y) : x = y := by
  cases x with
  | none => cases y with
    | none => rfl
    | some p => obtain ⟨n, k⟩ := p; obtain ⟨g, _, r, e⟩ := hy; exact absurd e (hx n r g)
  | some p => cases y with
    | none => obtain ⟨n, k⟩ := p; obtain ⟨g, _, r, e⟩ := hx; exact absurd e (hy n r g)
    | some q =>
      obtain ⟨n, k⟩ := p; obtain ⟨m, j⟩ := q
      obtain ⟨g, rfl, r, e⟩ := hx; obtain ⟨g', rfl, r', e'⟩ := hy
      obtain ⟨rfl, _⟩ := enc_cancel n m r r' g g' (e.symm.trans e')
      rfl

def IsRead (zs : List Int) : Option (List Int) → Prop
  | some l => allGood l = true ∧ put l = zs
  | none => ∀ l, allGood l = true → put l ≠ zs
theorem IsRead.one {zs : List Int} {x y : Option (List Int)} (hx : IsRead zs x) (hy : IsRead zs y) : x = y := by
  cases x with
  | none => cases y with
    | none => rfl
    | some l => exact absurd hy.2 (hx l hy.1)
  | some d => cases y with
    | none => exact absurd hx.2 (hy d hx.1)
    | some l => rw [put_inj d l hx.1 hy.1 (hx.2.trans hy.2.symm)]

/-! ### a sign's bytes, one by one -/
theorem enc_next (s : Int) (j : Nat) (hj : j + 1 < size s) :
    (enc s).take (size s - j) = (enc s).take (size s - (j + 1)) ++ [128 + s / 2 ^ (6 * j) % 64] := by
  unfold size at hj
  unfold enc size
  split at hj
  · omega
  · rename_i a
    rw [if_neg a, if_neg a]
    split at hj
    · rename_i b
      rw [if_pos b, if_pos b]
      obtain rfl : j = 0 := by omega
      simp
    · rename_i b
      rw [if_neg b, if_neg b]
      split at hj
      · rename_i c
        rw [if_pos c, if_pos c]
        obtain rfl | rfl : j = 0 ∨ j = 1 := by omega
        · simp
        · simp
      · rename_i c
        rw [if_neg c, if_neg c]
        obtain rfl | rfl | rfl : j = 0 ∨ j = 1 ∨ j = 2 := by omega
        · simp
        · simp
        · simp

end Go.Proofs.YtbfjihbkkcggmaaGreat.Utf

/- Used by the law. -/
namespace Go.Proofs.YtbfjihbkkcggmaaGreat

def common : List Int → List Int → Nat
  | x :: xs, y :: ys => if x = y then common xs ys + 1 else 0
  | _, _ => 0

def lessL : List Int → List Int → Bool
  | [], [] => false
  | [], _ :: _ => true
  | _ :: _, [] => false
  | x :: xs, y :: ys => if x = y then lessL xs ys else decide (x < y)

theorem common_nil_l (b : List Int) : common [] b = 0 := by cases b <;> rfl
theorem common_nil_r (a : List Int) : common a [] = 0 := by cases a <;> rfl

theorem common_le : ∀ a b : List Int, common a b ≤ a.length ∧ common a b ≤ b.length
  | [], b => by simp [common_nil_l]
  | x :: xs, [] => by simp [common_nil_r]
  | x :: xs, y :: ys => by
    have := common_le xs ys
    unfold common
    split <;> simp <;> omega

theorem common_comm : ∀ a b : List Int, common a b = common b a
  | [], b => by simp [common_nil_l, common_nil_r]
  | x :: xs, [] => by simp [common_nil_l, common_nil_r]
  | x :: xs, y :: ys => by
    have := common_comm xs ys
    unfold common
    by_cases h : x = y
    · subst h; simp [this]
    · have h' : ¬ y = x := fun e => h e.symm
      simp [h, h']

theorem common_at : ∀ {i : Nat} {a b : List Int}, a.take i = b.take i → i ≤ a.length → i ≤ b.length → (i = a.length ∨ i = b.length ∨ a.getD i 0 ≠ b.getD i 0) → common a b = i
  | 0, a, b, _, _, _, h => by
    cases a with
    | nil => simp [common_nil_l]
    | cons x xs => cases b with
      | nil => simp [common_nil_r]
      | cons y ys =>
        simp at h
        simp [common, h]
  | i + 1, a, b, ht, ha, hb, h => by
    cases a with
    | nil => simp at ha
    | cons x xs => cases b with
      | nil => simp at hb
      | cons y ys =>
        simp only [List.take_succ_cons, List.cons.injEq] at ht
        obtain ⟨rfl, ht⟩ := ht
        simp only [List.length_cons, Nat.add_le_add_iff_right] at ha hb
        simp only [List.length_cons, Nat.add_right_cancel_iff, List.getD_cons_succ] at h
        simp [common, common_at ht ha hb h]

set_option maxRecDepth 100000 in
theorem less_common : ∀ a b : List Int, lessL a b = if common a b < a.length ∧ common a b < b.length then decide (a.getD (common a b) 0 < b.getD (common a b) 0) else decide (a.length < b.length)
  | [], [] => by simp [common_nil_l, lessL]
  | [], y :: ys => by simp [common_nil_l, lessL]
  | x :: xs, [] => by simp [common_nil_r, lessL]
  | x :: xs, y :: ys => by
    have ih := less_common xs ys
    by_cases h : x = y
    · subst h; simp [common, lessL, ih]
    · simp [common, lessL, h]

theorem less_irrefl : ∀ a : List Int, lessL a a = false
  | [] => rfl
  | x :: xs => by simp [lessL, less_irrefl xs]

set_option maxRecDepth 100000 in
theorem less_trans : ∀ {a b c : List Int}, lessL a b = true → lessL b c = true → lessL a c = true
  | [], [], c, h, _ => by simp [lessL] at h
  | [], _ :: _, [], _, h => by simp [lessL] at h
  | [], _ :: _, _ :: _, _, _ => rfl
  | _ :: _, [], _, h, _ => by simp [lessL] at h
  | _ :: _, _ :: _, [], _, h => by simp [lessL] at h
  | x :: xs, y :: ys, z :: zs, h1, h2 => by
    have ih := @less_trans xs ys zs
    simp only [lessL] at h1 h2 ⊢
    by_cases e1 : x = y
    · subst e1
      by_cases e2 : x = z
      · subst e2; simp at h1 h2 ⊢; exact ih h1 h2
      · simp [e2] at h2 ⊢; exact h2
    · simp [e1] at h1
      by_cases e2 : y = z
      · subst e2; simp [e1]; exact h1
      · simp [e2] at h2
        have e3 : ¬ x = z := by omega
        simp [e3]; omega

theorem less_asymm {a b : List Int} (h : lessL a b = true) : lessL b a = false := by
  cases h' : lessL b a with
  | false => rfl
  | true => have := less_trans h h'; rw [less_irrefl] at this; cases this

theorem less_total : ∀ {a b : List Int}, lessL a b = false → lessL b a = false → a = b
  | [], [], _, _ => rfl
  | [], _ :: _, h, _ => by simp [lessL] at h
  | _ :: _, [], _, h => by simp [lessL] at h
  | x :: xs, y :: ys, h1, h2 => by
    simp only [lessL] at h1 h2
    by_cases e : x = y
    · subst e; simp at h1 h2; rw [less_total h1 h2]
    · have e' : ¬ y = x := fun h => e h.symm
      simp [e] at h1; simp [e'] at h2
      omega

def cmpI (x y : Int) : Int := if x < y then -1 else if y < x then 1 else 0
def cmpL (a b : List Int) : Int := if lessL a b then -1 else if lessL b a then 1 else 0

set_option maxRecDepth 100000 in
theorem cmp_less (a b : List Int) : decide (cmpL a b < 0) = lessL a b := by
  unfold cmpL
  cases lessL a b <;> cases lessL b a <;> simp
set_option maxRecDepth 100000 in
theorem cmp_common (a b : List Int) : cmpL a b = if common a b < a.length ∧ common a b < b.length then cmpI (a.getD (common a b) 0) (b.getD (common a b) 0) else cmpI a.length b.length := by
  unfold cmpL cmpI
  rw [less_common a b, less_common b a, common_comm b a]
  by_cases h : common a b < a.length ∧ common a b < b.length
  · have h' : common a b < b.length ∧ common a b < a.length := ⟨h.2, h.1⟩
    rw [if_pos h, if_pos h', if_pos h]
    simp only [decide_eq_true_eq]
  · have h' : ¬ (common a b < b.length ∧ common a b < a.length) := fun x => h ⟨x.2, x.1⟩
    rw [if_neg h, if_neg h', if_neg h]
    simp only [decide_eq_true_eq]
    split <;> split <;> (try split) <;> (try split) <;> first | rfl | omega

/-! ### words in order -/
def Rise (l : List (List Int)) : Prop := l.Pairwise fun a b => lessL a b = true
def cnt (l : List (List Int)) (w : List Int) : Nat := l.countP fun x => lessL x w
def ins (l : List (List Int)) (w : List Int) : List (List Int) := if w ∈ l then l else l.take (cnt l w) ++ w :: l.drop (cnt l w)
theorem Rise.at {l : List (List Int)} (h : Rise l) {i j : Nat} (hij : i < j) (hj : j < l.length) : lessL (l.getD i []) (l.getD j []) = true := by
  have := List.pairwise_iff_getElem.1 h i j (by omega) hj hij
  simpa [List.getD_eq_getElem?_getD, List.getElem?_eq_getElem hj, List.getElem?_eq_getElem (show i < l.length by omega)] using this

theorem Rise.mono {l : List (List Int)} (h : Rise l) (w : List Int) {a b : Nat} (hab : a ≤ b) (hb : b < l.length) (ha : lessL (l.getD a []) w = false) : lessL (l.getD b []) w = false := by
  rcases Nat.lt_or_ge a b with hlt | hge
  · cases hx : lessL (l.getD b []) w with
    | false => rfl
    | true => rw [less_trans (h.at hlt hb) hx] at ha; exact ha
  · obtain rfl : a = b := by omega
    exact ha

theorem Rise.own {l : List (List Int)} (h : Rise l) {i : Nat} (hi : i < l.length) : cnt l (l.getD i []) = i := by
  have e : l = l.take i ++ l.drop i := (List.take_append_drop i l).symm
  have h1 : (l.take i).countP (fun x => lessL x (l.getD i [])) = (l.take i).length := by
    rw [List.countP_eq_length]
    intro x hx
    obtain ⟨j, hj, rfl⟩ := List.mem_iff_getElem.1 hx
    have hj' : j < i := by simp at hj; omega
    have := h.at hj' hi
    rw [List.getElem_take]
    simpa [List.getD_eq_getElem?_getD, List.getElem?_eq_getElem (show j < l.length by omega)] using this
  have h2 : (l.drop i).countP (fun x => lessL x (l.getD i [])) = 0 := by
    rw [List.countP_eq_zero]
    intro x hx
    obtain ⟨j, hj, rfl⟩ := List.mem_iff_getElem.1 hx
    have hj' : i + j < l.length := by simp at hj; omega
    rw [List.getElem_drop]
    rcases Nat.eq_zero_or_pos j with rfl | hp
    · have e2 : l.getD i [] = l[i] := by simp [List.getD_eq_getElem?_getD, hi]
      simp [hi, less_irrefl]
    · have := less_asymm (h.at (i := i) (j := i + j) (by omega) hj')
      simpa [List.getD_eq_getElem?_getD, List.getElem?_eq_getElem hj', hi] using this
  unfold cnt
  rw [e, List.countP_append, ← e, h1, h2, List.length_take]
  omega

end Go.Proofs.YtbfjihbkkcggmaaGreat

/- Used by the law. -/
namespace Go.Proofs.YtbfjihbkkcggmaaGreat

structure Rul where
  L : List Int
  R : List Int
  C : Int
theorem Rul.ext' {a b : Rul} (h1 : a.L = b.L) (h2 : a.R = b.R) (h3 : a.C = b.C) : a = b := by cases a; cases b; simp_all
instance : DecidableEq Rul := fun a b => decidable_of_iff (a.L = b.L ∧ a.R = b.R ∧ a.C = b.C) ⟨fun h => Rul.ext' h.1 h.2.1 h.2.2, fun h => h ▸ ⟨rfl, rfl, rfl⟩⟩
def Rul.no : Rul := ⟨[], [], 0⟩
def Rul.like (a b : Rul) : Prop := a.L = b.L ∧ a.R = b.R
theorem Rul.like.symm {a b : Rul} (h : a.like b) : b.like a := ⟨h.1.symm, h.2.symm⟩
theorem Rul.like.trans {a b c : Rul} (h : a.like b) (h' : b.like c) : a.like c := ⟨h.1.trans h'.1, h.2.trans h'.2⟩
instance (a b : Rul) : Decidable (a.like b) := inferInstanceAs (Decidable (_ ∧ _))

def goodL (l : List Int) : Bool := l.all Utf.good && decide (l.length ≤ 8)
def chk (r : Rul) : Bool := goodL r.L && goodL r.R && decide (r.C < 18446744073709551615) && !decide (r.L = r.R)

def lessS (a b : Rul) : Bool := if a.L = b.L then lessL a.R b.R else lessL a.L b.L
def lessR (a b : Rul) : Bool := if a.L = b.L then (if a.R = b.R then decide (a.C < b.C) else lessL a.R b.R) else lessL a.L b.L

theorem lessR_sides (a b : Rul) : lessR ⟨a.L, a.R, 0⟩ ⟨b.L, b.R, 0⟩ = lessS a b := by
  unfold lessR lessS
  by_cases h1 : a.L = b.L
  · by_cases h2 : a.R = b.R
    · simp [h1, h2, less_irrefl]
    · simp [h1, h2]
  · simp [h1]
theorem lessS_irrefl (a : Rul) : lessS a a = false := by simp [lessS, less_irrefl]
theorem lessS_like {a b : Rul} (h : a.like b) : lessS a b = false := by simp [lessS, h.1, h.2, less_irrefl]
theorem lessS_congr {a a' b b' : Rul} (h : a.like a') (h' : b.like b') : lessS a b = lessS a' b' := by simp [lessS, h.1, h.2, h'.1, h'.2]
theorem lessS_trans {a b c : Rul} (h1 : lessS a b = true) (h2 : lessS b c = true) : lessS a c = true := by
  unfold lessS at *
  by_cases e1 : a.L = b.L
  · by_cases e2 : b.L = c.L
    · rw [if_pos e1] at h1; rw [if_pos e2] at h2; rw [if_pos (e1.trans e2)]; exact less_trans h1 h2
    · rw [if_neg e2] at h2; rw [if_neg (by rw [e1]; exact e2), e1]; exact h2
  · by_cases e2 : b.L = c.L
    · rw [if_neg e1] at h1; rw [if_neg (by rw [← e2]; exact e1), ← e2]; exact h1
    · rw [if_neg e1] at h1; rw [if_neg e2] at h2
      have h3 := less_trans h1 h2
      rw [if_neg (by intro e; rw [e, less_irrefl] at h3; cases h3)]; exact h3
theorem lessS_asymm {a b : Rul} (h : lessS a b = true) : lessS b a = false := by
  cases h' : lessS b a with
  | false => rfl
  | true => have := lessS_trans h h'; rw [lessS_irrefl] at this; cases this
theorem lessS_total {a b : Rul} (h1 : lessS a b = false) (h2 : lessS b a = false) : a.like b := by
  unfold lessS at *
  by_cases e : a.L = b.L
  · rw [if_pos e] at h1; rw [if_pos e.symm] at h2; exact ⟨e, less_total h1 h2⟩
  · rw [if_neg e] at h1; rw [if_neg (fun h => e h.symm)] at h2; exact absurd (less_total h1 h2) e
set_option maxRecDepth 100000 in
theorem lessR_def (a b : Rul) : lessR a b = (lessS a b || (decide (a.like b) && decide (a.C < b.C))) := by
  unfold lessR lessS Rul.like
  by_cases e1 : a.L = b.L
  · by_cases e2 : a.R = b.R
    · simp [e1, e2, less_irrefl]
    · simp [e1, e2]
  · simp [e1]
theorem lessR_irrefl (a : Rul) : lessR a a = false := by simp [lessR]
set_option maxRecDepth 100000 in
theorem lessR_trans {a b c : Rul} (h1 : lessR a b = true) (h2 : lessR b c = true) : lessR a c = true := by
  rw [lessR_def] at *
  simp only [Bool.or_eq_true, Bool.and_eq_true, decide_eq_true_eq] at *
  rcases h1 with h1 | ⟨h1, h1'⟩
  · rcases h2 with h2 | ⟨h2, h2'⟩
    · exact .inl (lessS_trans h1 h2)
    · left; rw [← lessS_congr (a := a) ⟨rfl, rfl⟩ h2]; exact h1
  · rcases h2 with h2 | ⟨h2, h2'⟩
    · left; rw [lessS_congr h1 (b' := c) ⟨rfl, rfl⟩]; exact h2
    · right; exact ⟨h1.trans h2, by omega⟩
set_option maxRecDepth 100000 in
theorem lessR_total {a b : Rul} (h1 : lessR a b = false) (h2 : lessR b a = false) : a = b := by
  rw [lessR_def] at *
  simp only [Bool.or_eq_false_iff, Bool.and_eq_false_iff, decide_eq_false_iff_not] at *
  have hl := lessS_total h1.1 h2.1
  refine Rul.ext' hl.1 hl.2 ?_
  rcases h1.2 with h | h
  · exact absurd hl h
  · rcases h2.2 with h' | h'
    · exact absurd hl.symm h'
    · omega
/-! ### rules in order -/
def RiseR (n : List Rul) : Prop := n.Pairwise fun a b => lessS a b = true
def IsNorm (l n : List Rul) : Prop :=
  RiseR n ∧ (∀ r ∈ n, r ∈ l ∧ chk r = true) ∧ ∀ r ∈ l, chk r = true → ∃ s ∈ n, s.like r ∧ s.C ≤ r.C

theorem RiseR.one {n : List Rul} (h : RiseR n) {a b : Rul} (ha : a ∈ n) (hb : b ∈ n) (hab : a.like b) : a = b := by
  obtain ⟨i, hi, rfl⟩ := List.mem_iff_getElem.1 ha
  obtain ⟨j, hj, rfl⟩ := List.mem_iff_getElem.1 hb
  rcases Nat.lt_trichotomy i j with h1 | h1 | h1
  · have := List.pairwise_iff_getElem.1 h i j hi hj h1
    rw [lessS_like hab] at this; cases this
  · subst h1; rfl
  · have := List.pairwise_iff_getElem.1 h j i hj hi h1
    rw [lessS_like hab.symm] at this; cases this
theorem riseR_unique : ∀ {l l' : List Rul}, RiseR l → RiseR l' → (∀ x, x ∈ l ↔ x ∈ l') → l = l'
  | [], [], _, _, _ => rfl
  | [], y :: ys, _, _, h => by have := (h y).2 (by simp); simp at this
  | x :: xs, [], _, _, h => by have := (h x).1 (by simp); simp at this
  | x :: xs, y :: ys, h1, h2, h => by
    have a1 := List.pairwise_cons.1 h1
    have a2 := List.pairwise_cons.1 h2
    have e : x = y := by
      rcases List.mem_cons.1 ((h x).1 (by simp)) with e | hx
      · exact e
      · rcases List.mem_cons.1 ((h y).2 (by simp)) with e | hy
        · exact e.symm
        · have := lessS_asymm (a1.1 y hy)
          rw [a2.1 x hx] at this; cases this
    subst e
    have : xs = ys := riseR_unique a1.2 a2.2 fun z => by
      constructor
      · intro hz
        rcases List.mem_cons.1 ((h z).1 (by simp [hz])) with e | h'
        · subst e; have := a1.1 z hz; rw [lessS_irrefl] at this; cases this
        · exact h'
      · intro hz
        rcases List.mem_cons.1 ((h z).2 (by simp [hz])) with e | h'
        · subst e; have := a2.1 z hz; rw [lessS_irrefl] at this; cases this
        · exact h'
    rw [this]
theorem IsNorm.sub {l l' n n' : List Rul} (h : IsNorm l n) (h' : IsNorm l' n') (hl : ∀ r ∈ l, chk r = true → ∃ s ∈ l', chk s = true ∧ s.like r ∧ s.C ≤ r.C) (hl' : ∀ r ∈ l', chk r = true → ∃ s ∈ l, chk s = true ∧ s.like r ∧ s.C ≤ r.C) : ∀ r ∈ n, r ∈ n' := by
  intro r hr
  obtain ⟨hrl, hrc⟩ := h.2.1 r hr
  obtain ⟨s, hs, hsc, hsr, hsC⟩ := hl r hrl hrc
  obtain ⟨t, ht, hts, htC⟩ := h'.2.2 s hs hsc
  obtain ⟨htl, htc⟩ := h'.2.1 t ht
  obtain ⟨u, hu, huc, hut, huC⟩ := hl' t htl htc
  obtain ⟨v, hv, hvu, hvC⟩ := h.2.2 u hu huc
  have e := h.1.one hv hr (((hvu.trans hut).trans hts).trans hsr)
  subst e
  have : t = v := Rul.ext' (hts.trans hsr).1 (hts.trans hsr).2 (by omega)
  rw [← this]; exact ht
theorem IsNorm.same {l l' n n' : List Rul} (h : IsNorm l n) (h' : IsNorm l' n') (hl : ∀ r ∈ l, chk r = true → ∃ s ∈ l', chk s = true ∧ s.like r ∧ s.C ≤ r.C) (hl' : ∀ r ∈ l', chk r = true → ∃ s ∈ l, chk s = true ∧ s.like r ∧ s.C ≤ r.C) : n = n' :=
  riseR_unique h.1 h'.1 fun r => ⟨h.sub h' hl hl' r, h'.sub h hl' hl r⟩
theorem IsNorm.uniq {l l' n n' : List Rul} (h : IsNorm l n) (h' : IsNorm l' n') (hl : ∀ r, r ∈ l ↔ r ∈ l') : n = n' :=
  h.same h' (fun r hr hc => ⟨r, (hl r).1 hr, hc, ⟨rfl, rfl⟩, Int.le_refl _⟩) (fun r hr hc => ⟨r, (hl r).2 hr, hc, ⟨rfl, rfl⟩, Int.le_refl _⟩)

def insR : List Rul → Rul → List Rul
  | [], r => [r]
  | s :: n, r => if lessS s r = true then s :: insR n r else if s.like r then ⟨s.L, s.R, min s.C r.C⟩ :: n else r :: s :: n
def stepR (o : List Rul) (r : Rul) : List Rul := if chk r = true then insR o r else o
def nrm (l : List Rul) : List Rul := l.foldl stepR []

theorem mem_insR {r x : Rul} : ∀ {n : List Rul}, x ∈ insR n r → x = r ∨ x ∈ n
  | [], h => by simp [insR] at h; exact .inl h
  | s :: n, h => by
    unfold insR at h
    split at h
    · rcases List.mem_cons.1 h with e | h
      · right; simp [e]
      · rcases mem_insR h with e | h
        · exact .inl e
        · right; simp [h]
    · split at h
      · rename_i hl
        rcases List.mem_cons.1 h with e | h
        · by_cases hc : s.C ≤ r.C
          · right; rw [e, Int.min_eq_left hc]; simp
          · left; rw [e, Int.min_eq_right (by omega)]; exact Rul.ext' hl.1 hl.2 rfl
        · right; simp [h]
      · rcases List.mem_cons.1 h with e | h
        · exact .inl e
        · right; exact h
theorem insR_has {r : Rul} : ∀ (n : List Rul), (∃ s ∈ insR n r, s.like r ∧ s.C ≤ r.C) ∧ ∀ x ∈ n, ∃ s ∈ insR n r, s.like x ∧ s.C ≤ x.C
  | [] => ⟨⟨r, by simp [insR], ⟨rfl, rfl⟩, Int.le_refl _⟩, by simp⟩
  | s :: n => by
    have ih := insR_has (r := r) n
    unfold insR
    split
    · refine ⟨?_, fun x hx => ?_⟩
      · obtain ⟨t, ht, h⟩ := ih.1
        exact ⟨t, by simp [ht], h⟩
      · rcases List.mem_cons.1 hx with e | hx
        · exact ⟨s, by simp, by rw [e]; exact ⟨rfl, rfl⟩, by rw [e]; exact Int.le_refl _⟩
        · obtain ⟨t, ht, h⟩ := ih.2 x hx
          exact ⟨t, by simp [ht], h⟩
    · split
      · rename_i hl
        refine ⟨⟨⟨s.L, s.R, min s.C r.C⟩, by simp, hl, Int.min_le_right _ _⟩, fun x hx => ?_⟩
        rcases List.mem_cons.1 hx with e | hx
        · exact ⟨⟨s.L, s.R, min s.C r.C⟩, by simp, by rw [e]; exact ⟨rfl, rfl⟩, by rw [e]; exact Int.min_le_left _ _⟩
        · exact ⟨x, by simp [hx], ⟨rfl, rfl⟩, Int.le_refl _⟩
      · refine ⟨⟨r, by simp, ⟨rfl, rfl⟩, Int.le_refl _⟩, fun x hx => ⟨x, by simp at hx ⊢; exact .inr hx, ⟨rfl, rfl⟩, Int.le_refl _⟩⟩
theorem rise_insR {r : Rul} : ∀ {n : List Rul}, RiseR n → RiseR (insR n r)
  | [], _ => by simp [insR, RiseR]
  | s :: n, h => by
    have h' := List.pairwise_cons.1 h
    unfold insR
    split
    · rename_i hs
      refine List.pairwise_cons.2 ⟨fun x hx => ?_, rise_insR h'.2⟩
      rcases mem_insR hx with e | hx
      · rw [e]; exact hs
      · exact h'.1 x hx
    · rename_i hs
      split
      · exact List.pairwise_cons.2 ⟨fun x hx => h'.1 x hx, h'.2⟩
      · rename_i hl
        have hrs : lessS r s = true := by
          cases hq : lessS r s with
          | true => rfl
          | false => exact absurd (lessS_total (by simpa using hs) hq) hl
        refine List.pairwise_cons.2 ⟨fun x hx => ?_, h⟩
        rcases List.mem_cons.1 hx with e | hx
        · rw [e]; exact hrs
        · exact lessS_trans hrs (h'.1 x hx)
theorem isNorm_step {l n : List Rul} (h : IsNorm l n) (r : Rul) : IsNorm (l ++ [r]) (stepR n r) := by
  unfold stepR
  by_cases hc : chk r = true
  · rw [if_pos hc]
    refine ⟨rise_insR h.1, fun x hx => ?_, fun x hx hxc => ?_⟩
    · rcases mem_insR hx with e | hx
      · rw [e]; exact ⟨by simp, hc⟩
      · have := h.2.1 x hx; exact ⟨by simp [this.1], this.2⟩
    · rcases List.mem_append.1 hx with hx | hx
      · obtain ⟨s, hs, hsx, hsC⟩ := h.2.2 x hx hxc
        obtain ⟨t, ht, hts, htC⟩ := (insR_has (r := r) n).2 s hs
        exact ⟨t, ht, hts.trans hsx, by omega⟩
      · rw [List.mem_singleton.1 hx]; exact (insR_has n).1
  · rw [if_neg hc]
    refine ⟨h.1, fun x hx => ?_, fun x hx hxc => ?_⟩
    · have := h.2.1 x hx; exact ⟨by simp [this.1], this.2⟩
    · rcases List.mem_append.1 hx with hx | hx
      · exact h.2.2 x hx hxc
      · rw [List.mem_singleton.1 hx] at hxc; exact absurd hxc hc
theorem isNorm_foldl : ∀ (d l n : List Rul), IsNorm l n → IsNorm (l ++ d) (d.foldl stepR n)
  | [], l, n, h => by simpa using h
  | r :: d, l, n, h => by
    have := isNorm_foldl d (l ++ [r]) (stepR n r) (isNorm_step h r)
    simpa using this
theorem isNorm_nrm (l : List Rul) : IsNorm l (nrm l) := by
  have := isNorm_foldl l [] [] ⟨List.Pairwise.nil, by simp, by simp⟩
  simpa [nrm] using this
theorem IsNorm.eq {l n : List Rul} (h : IsNorm l n) : n = nrm l := h.uniq (isNorm_nrm l) fun _ => Iff.rfl
theorem nrm_snoc (l : List Rul) (r : Rul) : nrm (l ++ [r]) = stepR (nrm l) r := by simp [nrm]
theorem nrm_nrm (l : List Rul) : nrm (nrm l) = nrm l := by
  refine (isNorm_nrm (nrm l)).same (isNorm_nrm l) (fun r hr hc => ?_) (fun r hr hc => ?_)
  · exact ⟨r, ((isNorm_nrm l).2.1 r hr).1, hc, ⟨rfl, rfl⟩, Int.le_refl _⟩
  · obtain ⟨s, hs, h⟩ := (isNorm_nrm l).2.2 r hr hc
    exact ⟨s, hs, ((isNorm_nrm l).2.1 s hs).2, h⟩
theorem nrm_parts (a b : List Rul) : nrm (nrm a ++ nrm b) = nrm (a ++ b) := by
  refine (isNorm_nrm _).same (isNorm_nrm _) (fun r hr hc => ?_) (fun r hr hc => ?_)
  · rcases List.mem_append.1 hr with hr | hr
    · exact ⟨r, List.mem_append.2 (.inl ((isNorm_nrm a).2.1 r hr).1), hc, ⟨rfl, rfl⟩, Int.le_refl _⟩
    · exact ⟨r, List.mem_append.2 (.inr ((isNorm_nrm b).2.1 r hr).1), hc, ⟨rfl, rfl⟩, Int.le_refl _⟩
  · rcases List.mem_append.1 hr with hr | hr
    · obtain ⟨s, hs, h⟩ := (isNorm_nrm a).2.2 r hr hc
      exact ⟨s, List.mem_append.2 (.inl hs), ((isNorm_nrm a).2.1 s hs).2, h⟩
    · obtain ⟨s, hs, h⟩ := (isNorm_nrm b).2.2 r hr hc
      exact ⟨s, List.mem_append.2 (.inr hs), ((isNorm_nrm b).2.1 s hs).2, h⟩
/-! ### sides turned -/
/-! ### the place of one rule -/
theorem insR_at {r : Rul} : ∀ (n : List Rul) (k : Nat), k ≤ n.length → (∀ x ∈ n.take k, lessS x r = true) → (k < n.length → lessS (n.getD k Rul.no) r = false) →
    insR n r = if k < n.length ∧ (n.getD k Rul.no).like r then n.set k ⟨(n.getD k Rul.no).L, (n.getD k Rul.no).R, min (n.getD k Rul.no).C r.C⟩ else n.take k ++ r :: n.drop k
  | [], k, hk, _, _ => by
    obtain rfl : k = 0 := by simpa using hk
    simp [insR]
  | s :: n, 0, _, _, h => by
    have h0 : lessS s r = false := h (by simp)
    unfold insR
    simp only [h0, Bool.false_eq_true, if_false, List.length_cons, List.getD_cons_zero, List.set_cons_zero, List.take_zero, List.drop_zero, List.nil_append]
    by_cases hl : s.like r
    · rw [if_pos hl, if_pos ⟨by omega, hl⟩]
    · rw [if_neg hl, if_neg (fun h => hl h.2)]
  | s :: n, k + 1, hk, ha, h => by
    have hs : lessS s r = true := ha s (by simp)
    have ih := insR_at n k (by simpa using hk) (fun x hx => ha x (by simp [hx])) (fun hk' => by have := h (by simpa using hk'); simpa using this)
    unfold insR
    rw [if_pos hs, ih]
    simp only [List.length_cons, List.getD_cons_succ, List.set_cons_succ, List.take_succ_cons, List.drop_succ_cons, List.cons_append, Nat.add_lt_add_iff_right]
    split <;> rfl

end Go.Proofs.YtbfjihbkkcggmaaGreat

/- Used by the law. -/
namespace Go.Proofs.YtbfjihbkkcggmaaGreat
namespace Line

def splitA (cur : List Int) : List Int → List (List Int)
  | [] => if cur = [] then [] else [cur]
  | c :: cs => if c = 10 then cur :: splitA [] cs else splitA (cur ++ [c]) cs
def split (b : List Int) : List (List Int) := splitA [] b

def isBlank (c : Int) : Bool := c == 32 || c == 9
def fieldsA (cur : List Int) : List Int → List (List Int)
  | [] => if cur = [] then [] else [cur]
  | c :: cs => if isBlank c then (if cur = [] then fieldsA [] cs else cur :: fieldsA [] cs) else fieldsA (cur ++ [c]) cs
def fields (b : List Int) : List (List Int) := fieldsA [] b
def bare (b : List Int) : Bool := match fields b with
  | [] => true
  | f :: _ => f.getD 0 0 == 35

/-! ### fields -/
end Line
end Go.Proofs.YtbfjihbkkcggmaaGreat

/- Used by the law. -/
namespace Go.Proofs.YtbfjihbkkcggmaaGreat
namespace Num

def dig (c : Nat) : List Int := if c < 10 then [48 + (c : Int)] else dig (c / 10) ++ [48 + ((c % 10 : Nat) : Int)]
termination_by c
decreasing_by omega
theorem dig_small {c : Nat} (h : c < 10) : dig c = [48 + (c : Int)] := by rw [dig, if_pos h]
theorem dig_big {c : Nat} (h : 10 ≤ c) : dig c = dig (c / 10) ++ [48 + ((c % 10 : Nat) : Int)] := by rw [dig, if_neg (by omega)]
theorem dig_snoc {c d : Nat} (h : c ≠ 0) (hd : d < 10) : dig (10 * c + d) = dig c ++ [48 + (d : Int)] := by
  rw [dig_big (by omega), show (10 * c + d) / 10 = c from by omega, show (10 * c + d) % 10 = d from by omega]

def val (l : List Int) : Nat := l.foldl (fun a d => a * 10 + (d - 48).toNat) 0
theorem val_snoc (l : List Int) (d : Int) : val (l ++ [d]) = val l * 10 + (d - 48).toNat := by simp [val, List.foldl_append]
theorem val_one (d : Int) : val [d] = (d - 48).toNat := by simp [val]
theorem head_snoc {l : List Int} (h : l ≠ []) (d : Int) : (l ++ [d]).getD 0 0 = l.getD 0 0 := by
  cases l with
  | nil => exact absurd rfl h
  | cons a l => rfl
theorem dig_val : ∀ (n : Nat) (b : List Int), b.length = n → b ≠ [] → (∀ d ∈ b, 48 ≤ d ∧ d ≤ 57) → (b.length = 1 ∨ b.getD 0 0 ≠ 48) → dig (val b) = b
  | 0, b, hn, h0, _, _ => absurd (List.eq_nil_of_length_eq_zero hn) h0
  | n + 1, b, hn, h0, hd, hh => by
    have hb : b = b.dropLast ++ [b.getLast h0] := (List.dropLast_concat_getLast h0).symm
    obtain ⟨a, ha⟩ : ∃ a, a = b.dropLast := ⟨_, rfl⟩
    obtain ⟨d, hdd⟩ : ∃ d, d = b.getLast h0 := ⟨_, rfl⟩
    rw [← ha, ← hdd] at hb
    have hdr := hd d (by rw [hb]; simp)
    by_cases hae : a = []
    · rw [hb, hae, List.nil_append, val_one, dig_small (by omega)]
      congr 1; omega
    · have hal : a.length = n := by have := congrArg List.length hb; simp at this; omega
      have hh2 : a.getD 0 0 ≠ 48 := by
        rcases hh with h | h
        · have := List.length_pos_iff.2 hae; omega
        · rw [hb, head_snoc hae] at h; exact h
      have ih := dig_val n a hal hae (fun e he => hd e (by rw [hb]; simp [he])) (.inr hh2)
      have hv : val a ≠ 0 := by
        intro h
        rw [h, dig_small (by omega)] at ih
        apply hh2
        rw [← ih]; rfl
      rw [hb, val_snoc, show val a * 10 + (d - 48).toNat = 10 * val a + (d - 48).toNat from by omega, dig_snoc hv (by omega), ih]
      congr 2; omega

def read (b : List Int) : Option Nat := if dig (val b) = b ∧ val b < 18446744073709551615 then some (val b) else none
theorem read_of {b : List Int} (h0 : b ≠ []) (h1 : ∀ d ∈ b, 48 ≤ d ∧ d ≤ 57) (h2 : b.length = 1 ∨ b.getD 0 0 ≠ 48) (h3 : val b < 18446744073709551615) : read b = some (val b) := by
  unfold read; rw [if_pos ⟨dig_val _ b rfl h0 h1 h2, h3⟩]
/-! ### how long -/
/-! ### which stands ahead -/
def lessL : List Int → List Int → Bool
  | _, [] => false
  | [], _ :: _ => true
  | a :: x, b :: y => decide (a < b) || (a == b && lessL x y)
/-! ### the first digits -/
end Num
end Go.Proofs.YtbfjihbkkcggmaaGreat

/- Used by the law. -/
namespace Go.Proofs.YtbfjihbkkcggmaaGreat
namespace Spec

def plain (l : List Int) : Bool := l.all (fun c => decide (c ≠ 9) && decide (c ≠ 10) && decide (c ≠ 32)) && !decide (l = [95])
def fit (r : Rul) : Bool := chk r && plain r.L && plain r.R
open Classical in
noncomputable def signs (zs : List Int) : Option (List Int) := if h : ∃ l, Utf.IsRead zs (some l) then some h.choose else none
noncomputable def side (f : List Int) : Option (List Int) := if f = [95] then some [] else signs f

def both (a b c : Int) : List Rul := [⟨[a], [b], c⟩, ⟨[b], [a], c⟩]
def keysG (c : Int) : Nat → Int → List Int → List Rul
  | _, _, [] => []
  | row, p, x :: l => if x = 124 then keysG c 0 x l else (if 1 ≤ row ∧ x ≠ p then both p x c else []) ++ keysG c (row + 1) x l
def keysOk : Nat → List Int → Bool
  | _, [] => true
  | row, x :: l => if x = 124 then keysOk 0 l else decide (row + 1 ≤ 12) && decide (x ≠ 95) && keysOk (row + 1) l
def mapsA (c a : Int) (l : List Int) : List Rul := l.flatMap fun b => if a ≠ b then [⟨[a], [b], c⟩] else []
def mapsG (c : Int) (l : List Int) : List Rul := l.flatMap fun a => mapsA c a l
def mapsOk (l : List Int) : Bool := decide (l.length ≤ 12) && l.all fun x => decide (x ≠ 95)

structure Sp where
  e : Int
  base : List Int
  rules : List Rul
def Sp.no (e : Int) : Sp := ⟨e, [], []⟩

def costs : List (List Int) → Option (List Int)
  | [] => some []
  | f :: fs => match Num.read f with
    | none => none
    | some c => match costs fs with
      | none => none
      | some l => some ((c : Int) :: l)
def told (ok : Bool) (rs : List Rul) : Sp := if ok = true ∧ rs.all fit = true then ⟨0, [], rs⟩ else Sp.no 60
def last (f : List Int) (k : Int → Sp) : Sp := match Num.read f with
  | none => Sp.no 50
  | some c => k c
noncomputable def rep (f : List (List Int)) : Sp := match side (f.getD 1 []), side (f.getD 2 []) with
  | some a, some b => last (f.getD 3 []) fun c => told true [⟨a, b, c⟩]
  | _, _ => Sp.no 10
noncomputable def key (f : List (List Int)) : Sp := match signs (f.getD 1 []) with
  | some a => last (f.getD 2 []) fun c => told (keysOk 0 a) (keysG c 0 0 a)
  | none => Sp.no 10
noncomputable def map (f : List (List Int)) : Sp := match signs (f.getD 1 []) with
  | some a => last (f.getD 2 []) fun c => told (mapsOk a) (mapsG c a)
  | none => Sp.no 10
def base (f : List (List Int)) : Sp := match costs (f.drop 1) with
  | some l => ⟨0, l, []⟩
  | none => Sp.no 50
def wBASE : List Int := [66, 65, 83, 69]
def wREP : List Int := [82, 69, 80]
def wKEY : List Int := [75, 69, 89]
def wMAP : List Int := [77, 65, 80]
noncomputable def byWord (f : List (List Int)) : Sp :=
  if f.getD 0 [] = wBASE then (if f.length = 5 then base f else Sp.no 71)
  else if f.getD 0 [] = wREP then (if f.length = 4 then rep f else Sp.no 71)
  else if f.getD 0 [] = wKEY then (if f.length = 3 then key f else Sp.no 71)
  else if f.getD 0 [] = wMAP then (if f.length = 3 then map f else Sp.no 71)
  else Sp.no 70
noncomputable def read (l : List Int) : Sp := if Line.bare l = true then Sp.no 0 else byWord (Line.fields l)

/-! ### what is told fits -/
/-! ### a rule is read as it was written -/
theorem fit_parts {r : Rul} (h : fit r = true) : chk r = true ∧ plain r.L = true ∧ plain r.R = true := by
  unfold fit at h
  simp only [Bool.and_eq_true] at h
  exact ⟨h.1.1, h.1.2, h.2⟩
set_option maxRecDepth 100000 in
theorem chk_sides {r : Rul} (h : chk r = true) : Utf.allGood r.L = true ∧ Utf.allGood r.R = true ∧ r.C < 18446744073709551615 := by
  unfold chk goodL at h
  simp only [Bool.and_eq_true, decide_eq_true_eq] at h
  exact ⟨h.1.1.1.1, h.1.1.2.1, h.1.2⟩
end Spec
end Go.Proofs.YtbfjihbkkcggmaaGreat

/- Used by the law. -/
namespace Go.Proofs.YtbfjihbkkcggmaaGreat
namespace File

structure Cst where
  base : List Int
  rules : List Rul
def Cst.zero : Cst := ⟨[0, 0, 0, 0], []⟩
structure Got where
  c : Cst
  at_ : Int
  e : Int

noncomputable def readA (i : Nat) (had : Bool) (base : List Int) (rs : List Rul) : List (List Int) → Got
  | [] => ⟨⟨base, rs⟩, -1, 0⟩
  | l :: ls =>
    if (Spec.read l).e ≠ 0 then ⟨Cst.zero, (i : Int), (Spec.read l).e⟩
    else if (Spec.read l).base ≠ [] ∧ had = true then ⟨Cst.zero, (i : Int), 80⟩
    else if 200 < (nrm (rs ++ (Spec.read l).rules)).length then ⟨Cst.zero, (i : Int), 81⟩
    else readA (i + 1) (had || !decide ((Spec.read l).base = [])) (if (Spec.read l).base = [] then base else (Spec.read l).base) (nrm (rs ++ (Spec.read l).rules)) ls
noncomputable def read (b : List Int) : Got := readA 0 false [1, 1, 1, 1] [] (Line.split b)

noncomputable def flat (ls : List (List Int)) : List Rul := ls.flatMap fun l => (Spec.read l).rules
noncomputable def bs (ls : List (List Int)) : List (List Int) := ls.flatMap fun l => if (Spec.read l).base = [] then [] else [(Spec.read l).base]
theorem flat_app (a b : List (List Int)) : flat (a ++ b) = flat a ++ flat b := by simp [flat]
theorem flat_cons (a : List Int) (b : List (List Int)) : flat (a :: b) = (Spec.read a).rules ++ flat b := by simp [flat]
theorem bs_cons (a : List Int) (b : List (List Int)) : bs (a :: b) = (if (Spec.read a).base = [] then [] else [(Spec.read a).base]) ++ bs b := by simp [bs]

/-! ### lengths of what is in order -/
theorem nrm_left (a b : List Rul) : nrm (nrm a ++ b) = nrm (a ++ b) := by
  rw [← nrm_parts (nrm a) b, nrm_nrm, nrm_parts]

/-! ### what is read, at once -/
def Ok (had : Bool) (rs : List Rul) (ls : List (List Int)) : Prop :=
  (∀ l ∈ ls, (Spec.read l).e = 0) ∧ (if had = true then 1 else 0) + (bs ls).length ≤ 1 ∧ (nrm (rs ++ flat ls)).length ≤ 200

theorem readA_bad : ∀ (ls : List (List Int)) (i : Nat) (had : Bool) (base : List Int) (rs : List Rul) (g : Got), nrm rs = rs → rs.length ≤ 200 → readA i had base rs ls = g → g.e ≠ 0 →
    ∃ k, k < ls.length ∧ g.at_ = ((i + k : Nat) : Int) ∧ g.c = Cst.zero ∧ Ok had rs (ls.take k) ∧
      ((Spec.read (ls.getD k [])).e = g.e ∨ (Spec.read (ls.getD k [])).e = 0 ∧ (g.e = 80 ∧ (Spec.read (ls.getD k [])).base ≠ [] ∧ (had = true ∨ bs (ls.take k) ≠ []) ∨ g.e = 81 ∧ 200 < (nrm (rs ++ flat (ls.take (k + 1)))).length))
  | [], i, had, base, rs, g, hn, hl, hg, he => by
    subst hg; simp [readA] at he
  | l :: ls, i, had, base, rs, g, hn, hl, hg, he => by
    unfold readA at hg
    by_cases h0 : (Spec.read l).e = 0
    · rw [if_neg (by simp [h0])] at hg
      by_cases h1 : (Spec.read l).base ≠ [] ∧ had = true
      · rw [if_pos h1] at hg; subst hg
        exact ⟨0, by simp, by simp, rfl, ⟨by simp, by cases had <;> simp [bs], by simp [flat, hn, hl]⟩, .inr ⟨h0, .inl ⟨rfl, h1.1, .inl h1.2⟩⟩⟩
      · rw [if_neg h1] at hg
        by_cases h2 : 200 < (nrm (rs ++ (Spec.read l).rules)).length
        · rw [if_pos h2] at hg; subst hg
          exact ⟨0, by simp, by simp, rfl, ⟨by simp, by cases had <;> simp [bs], by simp [flat, hn, hl]⟩, .inr ⟨h0, .inr ⟨rfl, by simpa [flat] using h2⟩⟩⟩
        · rw [if_neg h2] at hg
          obtain ⟨k, hk, ha, hc, ⟨g1, g2, g3⟩, hor⟩ := readA_bad ls _ _ _ _ g (nrm_nrm _) (by omega) hg he
          refine ⟨k + 1, by simp; omega, by rw [ha]; congr 1; omega, hc, ⟨?_, ?_, ?_⟩, ?_⟩
          · intro x hx
            rw [List.take_succ_cons] at hx
            rcases List.mem_cons.1 hx with rfl | hx
            · exact h0
            · exact g1 x hx
          · rw [List.take_succ_cons, bs_cons]
            by_cases hb : (Spec.read l).base = []
            · rw [if_pos hb]
              simpa [hb] using g2
            · rw [if_neg hb]
              have hh : had = false := by
                cases had with
                | false => rfl
                | true => exact absurd ⟨hb, rfl⟩ h1
              subst hh
              have h5 : (bs (ls.take k)).length = 0 := by
                rw [if_pos (by simp [hb])] at g2; omega
              simp [h5]
          · rw [List.take_succ_cons, flat_cons, ← List.append_assoc, ← nrm_left]; exact g3
          · rw [List.getD_cons_succ]
            rcases hor with h | ⟨h, ⟨h5, h6, h7⟩ | ⟨h5, h6⟩⟩
            · exact .inl h
            · refine .inr ⟨h, .inl ⟨h5, h6, ?_⟩⟩
              by_cases hb : (Spec.read l).base = []
              · rcases h7 with h7 | h7
                · left; simpa [hb] using h7
                · right; rw [List.take_succ_cons, bs_cons, if_pos hb]; exact h7
              · right; rw [List.take_succ_cons, bs_cons, if_neg hb]; simp
            · refine .inr ⟨h, .inr ⟨h5, ?_⟩⟩
              rw [List.take_succ_cons, flat_cons, ← List.append_assoc, ← nrm_left]; exact h6
    · rw [if_pos (by simpa using h0)] at hg; subst hg
      exact ⟨0, by simp, by simp, rfl, ⟨by simp, by cases had <;> simp [bs], by simp [flat, hn, hl]⟩, .inl rfl⟩

theorem read_bad {b : List Int} {g : Got} (h : read b = g) (he : g.e ≠ 0) :
    ∃ k, k < (Line.split b).length ∧ g.at_ = (k : Int) ∧ g.c = Cst.zero ∧ Ok false [] ((Line.split b).take k) ∧
      ((Spec.read ((Line.split b).getD k [])).e = g.e ∨ (Spec.read ((Line.split b).getD k [])).e = 0 ∧ (g.e = 80 ∧ (Spec.read ((Line.split b).getD k [])).base ≠ [] ∧ bs ((Line.split b).take k) ≠ [] ∨ g.e = 81 ∧ 200 < (nrm (flat ((Line.split b).take (k + 1)))).length)) := by
  obtain ⟨k, h1, h2, h3, h4, h5⟩ := readA_bad _ _ _ _ _ g rfl (by simp) h he
  refine ⟨k, h1, by simpa using h2, h3, h4, ?_⟩
  rcases h5 with h5 | ⟨h6, ⟨h7, h8, h9 | h9⟩ | h7⟩
  · exact .inl h5
  · cases h9
  · exact .inr ⟨h6, .inl ⟨h7, h8, h9⟩⟩
  · exact .inr ⟨h6, .inr h7⟩

/-! ### costs that may be, and their file -/
def check (c : Cst) : Bool := c.base.all (fun x => decide (x < 18446744073709551615)) && decide (c.rules.length ≤ 200) && c.rules.all Spec.fit && decide (nrm c.rules = c.rules)
set_option maxRecDepth 100000 in
theorem check_parts {c : Cst} (h : check c = true) : (∀ x ∈ c.base, x < 18446744073709551615) ∧ c.rules.length ≤ 200 ∧ (∀ r ∈ c.rules, Spec.fit r = true) ∧ nrm c.rules = c.rules := by
  unfold check at h
  simp only [Bool.and_eq_true, decide_eq_true_eq, List.all_eq_true] at h
  exact ⟨h.1.1.1, h.1.1.2, h.1.2, h.2⟩
/-! ### what is read may be -/
theorem ones : ([1, 1, 1, 1] : List Int).length = 4 ∧ ∀ x ∈ ([1, 1, 1, 1] : List Int), 0 ≤ x ∧ x < 18446744073709551615 := ⟨rfl, by simp⟩
/-! ### rules that say nothing new -/
def held (n : List Rul) (r : Rul) : Bool := n.any fun s => decide (s.like r) && decide (s.C ≤ r.C)
end File
end Go.Proofs.YtbfjihbkkcggmaaGreat

/- Used by the law. -/
namespace Go.Proofs.YtbfjihbkkcggmaaGreat
namespace Spec

end Spec
end Go.Proofs.YtbfjihbkkcggmaaGreat

/- Used by the law. -/
namespace Go.Proofs.YtbfjihbkkcggmaaGreat.Utf

def tail (c : Int) : Bool := decide (128 ≤ c) && decide (c < 192)
def acc (c : Int) (k : Nat) (l : List Int) : Int := l.foldl (fun s d => s * 64 + d % 64) (c - mark k)
def takeL (zs : List Int) : Option (Int × Nat) :=
  match zs with
  | [] => none
  | c :: rest =>
    if byHead c = 0 ∨ zs.length < byHead c then none
    else if (rest.take (byHead c - 1)).all tail = false then none
    else if good (acc c (byHead c) (rest.take (byHead c - 1))) = true ∧ size (acc c (byHead c) (rest.take (byHead c - 1))) = byHead c then
      some (acc c (byHead c) (rest.take (byHead c - 1)), byHead c)
    else none

/-! ### the document's own way: one to four bytes are tried -/
def base (c : Int) (k : Nat) : Int := if k = 2 then c % 32 else if k = 3 then c % 16 else if k = 4 then c % 8 else c
def num (c : Int) (k : Nat) (l : List Int) : Int := l.foldl (fun s d => s * 64 + d % 64) (base c k)
theorem num_enc (n : Int) (c : Int) (l : List Int) (h : good n = true) (he : enc n = c :: l) : num c (size n) l = n := by
  have hg := (good_iff n).1 h
  unfold enc at he
  unfold size
  split at he
  · rename_i a
    rw [if_pos a]
    obtain ⟨rfl, rfl⟩ := List.cons.inj he
    rfl
  · rename_i a
    rw [if_neg a]
    split at he
    · rename_i b
      rw [if_pos b]
      obtain ⟨rfl, rfl⟩ := List.cons.inj he
      simp [num, base]; omega
    · rename_i b
      rw [if_neg b]
      split at he
      · rename_i d
        rw [if_pos d]
        obtain ⟨rfl, rfl⟩ := List.cons.inj he
        simp [num, base]; omega
      · rename_i d
        rw [if_neg d]
        obtain ⟨rfl, rfl⟩ := List.cons.inj he
        simp [num, base]; omega
end Go.Proofs.YtbfjihbkkcggmaaGreat.Utf
