/- Sums of 32 bits, in plain numbers and lists. No program. -/
import Derived.WalkKit
namespace Go.Proofs.Ythblpmejkjdkcaa
namespace Crc

/-- the polynomial, and all ones -/
def pol : Nat := 3988292384
def ones : Nat := 4294967295
/-- a step, of a number of whatever size -/
def step (s : Nat) : Nat := (s / 2) ^^^ (if s % 2 = 1 then pol else 0)
def steps : Nat → Nat → Nat
  | 0, s => s
  | k + 1, s => steps k (step s)

set_option maxRecDepth 100000 in
theorem testBit_zero_mod (s : Nat) : s.testBit 0 = decide (s % 2 = 1) := by simp [Nat.testBit_zero]
set_option maxRecDepth 100000 in
theorem xor_mod2 (a b : Nat) : ((a ^^^ b) % 2 = 1) ↔ ¬ (a % 2 = 1 ↔ b % 2 = 1) := by
  have h := Nat.testBit_xor a b 0
  simp only [testBit_zero_mod] at h
  by_cases h1 : a % 2 = 1 <;> by_cases h2 : b % 2 = 1 <;> simp_all
set_option maxRecDepth 100000 in
theorem xor_div2 (a b : Nat) : (a ^^^ b) / 2 = (a / 2) ^^^ (b / 2) := by
  apply Nat.eq_of_testBit_eq
  intro i
  simp [Nat.testBit_div_two, Nat.testBit_xor]
set_option maxRecDepth 100000 in
theorem xor_same {a b : Nat} (h : a ^^^ b = 0) : a = b := by
  have h1 : a ^^^ b ^^^ b = b := by rw [h, Nat.zero_xor]
  rwa [Nat.xor_assoc, Nat.xor_self, Nat.xor_zero] at h1
set_option maxRecDepth 100000 in
theorem step_xor (a b : Nat) : step (a ^^^ b) = step a ^^^ step b := by
  unfold step
  rw [xor_div2]
  have h := xor_mod2 a b
  by_cases h1 : a % 2 = 1 <;> by_cases h2 : b % 2 = 1
  · rw [if_pos h1, if_pos h2, if_neg (by rw [h]; simp [h1, h2])]
    rw [Nat.xor_zero]
    rw [show a / 2 ^^^ pol ^^^ (b / 2 ^^^ pol) = a / 2 ^^^ b / 2 ^^^ (pol ^^^ pol) from by
      simp only [Nat.xor_assoc]; congr 1
      rw [← Nat.xor_assoc pol, Nat.xor_comm pol, Nat.xor_assoc]]
    rw [Nat.xor_self, Nat.xor_zero]
  · rw [if_pos h1, if_neg h2, if_pos (by rw [h]; simp [h1, h2])]
    rw [Nat.xor_zero, Nat.xor_assoc, Nat.xor_comm (b / 2), ← Nat.xor_assoc]
  · rw [if_neg h1, if_pos h2, if_pos (by rw [h]; simp [h1, h2])]
    rw [Nat.xor_zero, Nat.xor_assoc]
  · rw [if_neg h1, if_neg h2, if_neg (by rw [h]; simp [h1, h2])]
    simp
set_option maxRecDepth 100000 in
theorem steps_xor (k : Nat) : ∀ a b, steps k (a ^^^ b) = steps k a ^^^ steps k b := by
  induction k with
  | zero => intro a b; rfl
  | succ k ih => intro a b; simp only [steps]; rw [step_xor, ih]
set_option maxRecDepth 100000 in
theorem steps_add (j k : Nat) : ∀ a, steps (j + k) a = steps k (steps j a) := by
  induction j with
  | zero => intro a; simp [steps]
  | succ j ih => intro a; rw [Nat.succ_add]; simp only [steps]; exact ih _
set_option maxRecDepth 100000 in
theorem step_two (a : Nat) : step (a * 2) = a := by
  unfold step
  rw [if_neg (by omega), Nat.xor_zero]; omega
set_option maxRecDepth 100000 in
theorem steps_pow (k : Nat) : ∀ a, steps k (a * 2 ^ k) = a := by
  induction k with
  | zero => intro a; simp [steps]
  | succ k ih =>
    intro a
    simp only [steps]
    rw [Nat.pow_succ, ← Nat.mul_assoc, step_two, ih]
set_option maxRecDepth 100000 in
theorem step_lt {s : Nat} (h : s < 4294967296) : step s < 4294967296 := by
  unfold step
  have h1 : s / 2 < 2 ^ 32 := by omega
  have h2 : (if s % 2 = 1 then pol else 0) < 2 ^ 32 := by split <;> simp [pol]
  exact Nat.xor_lt_two_pow h1 h2
set_option maxRecDepth 100000 in
theorem steps_lt (k : Nat) : ∀ s, s < 4294967296 → steps k s < 4294967296 := by
  induction k with
  | zero => intro s h; exact h
  | succ k ih => intro s h; exact ih _ (step_lt h)
set_option maxRecDepth 100000 in
theorem step_zero {s : Nat} (h : s < 4294967296) (h0 : step s = 0) : s = 0 := by
  unfold step at h0
  by_cases h1 : s % 2 = 1
  · rw [if_pos h1] at h0
    exfalso
    have h2 : (s / 2).testBit 31 = false := Nat.testBit_lt_two_pow (by omega)
    have h3 := congrArg (fun z => Nat.testBit z 31) h0
    simp only [Nat.testBit_xor, h2, Nat.zero_testBit] at h3
    revert h3
    decide
  · rw [if_neg h1, Nat.xor_zero] at h0
    omega
set_option maxRecDepth 100000 in
theorem steps_zero (k : Nat) : ∀ s, s < 4294967296 → steps k s = 0 → s = 0 := by
  induction k with
  | zero => intro s _ h; exact h
  | succ k ih => intro s h h0; exact step_zero h (ih _ (step_lt h) h0)
set_option maxRecDepth 100000 in
theorem steps_0 (k : Nat) : steps k 0 = 0 := by
  induction k with
  | zero => rfl
  | succ k ih => simp only [steps]; exact ih

/-- bytes as one number, the lowest first -/
def num : List Int → Nat
  | [] => 0
  | x :: xs => x.toNat + 256 * num xs
def raw (s : Nat) (l : List Int) : Nat := l.foldl (fun s x => steps 8 (s ^^^ x.toNat)) s
def sum (l : List Int) : Nat := raw ones l ^^^ ones
def Bytes (l : List Int) : Prop := ∀ z ∈ l, 0 ≤ z ∧ z ≤ 255

set_option maxRecDepth 100000 in
theorem add_xor (x m : Nat) (h : x < 256) : x + 256 * m = x ^^^ (m * 2 ^ 8) := by
  apply Nat.eq_of_testBit_eq
  intro i
  rw [Nat.testBit_xor, Nat.add_comm, show 256 * m = 2 ^ 8 * m from rfl, Nat.testBit_two_pow_mul_add _ h, Nat.mul_comm m, Nat.testBit_two_pow_mul]
  by_cases hi : i < 8
  · rw [if_pos hi]; simp [show ¬ 8 ≤ i by omega]
  · rw [if_neg hi, Nat.testBit_lt_two_pow (Nat.lt_of_lt_of_le (show x < 2 ^ 8 from h) (Nat.pow_le_pow_right (by decide) (show 8 ≤ i by omega)))]
    simp [show 8 ≤ i by omega]
set_option maxRecDepth 100000 in
theorem raw_num : ∀ (l : List Int) (s : Nat), Bytes l → raw s l = steps (8 * l.length) (s ^^^ num l) := by
  intro l
  induction l with
  | nil => intro s _; simp [raw, num, steps]
  | cons x l ih =>
    intro s h
    have hx := h x (by simp)
    have h1 : raw s (x :: l) = raw (steps 8 (s ^^^ x.toNat)) l := rfl
    rw [h1, ih _ (fun z hz => h z (by simp [hz])), List.length_cons, show 8 * (l.length + 1) = 8 + 8 * l.length from by omega, steps_add]
    congr 1
    rw [num, add_xor _ _ (by omega), ← Nat.xor_assoc, steps_xor 8 (s ^^^ x.toNat), steps_pow]
set_option maxRecDepth 100000 in
theorem raw_lt (l : List Int) : ∀ s, s < 4294967296 → Bytes l → raw s l < 4294967296 := by
  induction l with
  | nil => intro s h _; exact h
  | cons x l ih =>
    intro s h hb
    have hx := hb x (by simp)
    refine ih _ (steps_lt 8 _ ?_) (fun z hz => hb z (by simp [hz]))
    exact Nat.xor_lt_two_pow (n := 32) h (by omega)
set_option maxRecDepth 100000 in
theorem raw_app (s : Nat) (a b : List Int) : raw s (a ++ b) = raw (raw s a) b := by simp [raw, List.foldl_append]
set_option maxRecDepth 100000 in
theorem raw_snoc (s : Nat) (a : List Int) (x : Int) : raw s (a ++ [x]) = steps 8 (raw s a ^^^ x.toNat) := by simp [raw, List.foldl_append]
set_option maxRecDepth 100000 in
theorem sum_lt {l : List Int} (h : Bytes l) : sum l < 4294967296 := Nat.xor_lt_two_pow (n := 32) (raw_lt l _ (by decide) h) (by decide)

/-- a number's four bytes, the lowest first -/
def le4 (s : Nat) : List Int := [((s % 256 : Nat) : Int), ((s / 256 % 256 : Nat) : Int), ((s / 65536 % 256 : Nat) : Int), ((s / 16777216 % 256 : Nat) : Int)]
set_option maxRecDepth 100000 in
theorem le4_bytes (s : Nat) : Bytes (le4 s) := by
  intro z hz
  simp only [le4, List.mem_cons, List.not_mem_nil, or_false] at hz
  omega
set_option maxRecDepth 100000 in
theorem num_le4 {s : Nat} (h : s < 4294967296) : num (le4 s) = s := by
  simp only [le4, num]; omega
set_option maxRecDepth 100000 in
theorem le4_num {q : List Int} (h : Bytes q) (h4 : q.length = 4) : le4 (num q) = q ∧ num q < 4294967296 := by
  match q, h4 with
  | [a, b, c, d], _ =>
    have ha := h a (by simp)
    have hb := h b (by simp)
    have hc := h c (by simp)
    have hd := h d (by simp)
    simp only [le4, num]
    refine ⟨?_, by omega⟩
    congr 1
    · omega
    congr 1
    · omega
    congr 1
    · omega
    congr 1
    omega

def lock (l : List Int) : List Int := l ++ le4 (sum l)
def opn (l : List Int) : Option (List Int) := if 4 ≤ l.length ∧ lock (l.take (l.length - 4)) = l then some (l.take (l.length - 4)) else none
set_option maxRecDepth 100000 in
theorem lock_length (l : List Int) : (lock l).length = l.length + 4 := by simp [lock, le4]
set_option maxRecDepth 100000 in
theorem lock_bytes {l : List Int} (h : Bytes l) : Bytes (lock l) := by
  intro z hz
  rcases List.mem_append.1 hz with hz | hz
  · exact h z hz
  · exact le4_bytes _ z hz
set_option maxRecDepth 100000 in
theorem opn_lock (l : List Int) : opn (lock l) = some l := by
  have h : (lock l).take ((lock l).length - 4) = l := by rw [lock_length, Nat.add_sub_cancel]; simp [lock]
  rw [opn, h, if_pos ⟨by rw [lock_length]; omega, rfl⟩]
set_option maxRecDepth 100000 in
theorem opn_some {l y : List Int} (h : opn l = some y) : lock y = l := by
  rw [opn] at h
  split at h
  · rename_i h1
    cases h
    exact h1.2
  · cases h

/-- what is left of a sealed text -/
def rest : Nat := steps 32 ones
set_option maxRecDepth 100000 in
theorem raw_lock {l : List Int} (h : Bytes l) : raw ones (lock l) = rest := by
  rw [lock, raw_app, raw_num _ _ (le4_bytes _), num_le4 (sum_lt h)]
  show steps 32 (raw ones l ^^^ (raw ones l ^^^ ones)) = rest
  rw [← Nat.xor_assoc, Nat.xor_self, Nat.zero_xor]; rfl
set_option maxRecDepth 100000 in
theorem lock_of {l : List Int} (h : Bytes l) (h4 : 4 ≤ l.length) (hr : raw ones l = rest) : lock (l.take (l.length - 4)) = l := by
  obtain ⟨a, ha⟩ : ∃ a, a = l.take (l.length - 4) := ⟨_, rfl⟩
  obtain ⟨q, hq⟩ : ∃ q, q = l.drop (l.length - 4) := ⟨_, rfl⟩
  have hl : l = a ++ q := by rw [ha, hq, List.take_append_drop]
  have hqb : Bytes q := fun z hz => h z (by rw [hq] at hz; exact List.mem_of_mem_drop hz)
  have hab : Bytes a := fun z hz => h z (by rw [ha] at hz; exact List.mem_of_mem_take hz)
  have hq4 : q.length = 4 := by rw [hq, List.length_drop]; omega
  rw [← ha]
  rw [hl, raw_app, raw_num _ _ hqb, hq4] at hr
  have hlt := le4_num hqb hq4
  have hz : steps 32 (raw ones a ^^^ num q ^^^ ones) = 0 := by
    rw [steps_xor]
    have : steps 32 (raw ones a ^^^ num q) = steps 32 ones := hr
    rw [this, Nat.xor_self]
  have h0 := steps_zero 32 _ (Nat.xor_lt_two_pow (n := 32) (Nat.xor_lt_two_pow (n := 32) (raw_lt a _ (by decide) hab) hlt.2) (by decide)) hz
  have hs : sum a = num q := by
    unfold sum
    have e : raw ones a ^^^ ones ^^^ num q = 0 := by rw [Nat.xor_assoc, Nat.xor_comm ones, ← Nat.xor_assoc]; exact h0
    exact xor_same e
  rw [lock, hs, hlt.1, ← hl]
set_option maxRecDepth 100000 in
theorem opn_iff {l : List Int} (h : Bytes l) (h4 : 4 ≤ l.length) : (opn l).isSome = true ↔ raw ones l = rest := by
  constructor
  · intro h1
    obtain ⟨y, hy⟩ := Option.isSome_iff_exists.1 h1
    have := opn_some hy
    rw [← this]
    refine raw_lock ?_
    have hy2 : y = l.take (l.length - 4) := by
      rw [opn] at hy
      split at hy
      · cases hy; rfl
      · cases hy
    rw [hy2]
    exact fun z hz => h z (List.mem_of_mem_take hz)
  · intro h1
    rw [opn, if_pos ⟨h4, lock_of h h4 h1⟩]; rfl

set_option maxRecDepth 100000 in
/-- bytes of which some bits are turned -/
theorem num_flip : ∀ (l : List Int) (j y : Nat), Bytes l → j < l.length → y < 256 → num (l.set j (((l.getD j 0).toNat ^^^ y : Nat) : Int)) = num l ^^^ (y * 2 ^ (8 * j)) := by
  intro l
  induction l with
  | nil => intro j y _ h _; simp at h
  | cons x l ih =>
    intro j y hb hj hy
    have hx := hb x (by simp)
    have hlt : x.toNat ^^^ y < 256 := Nat.xor_lt_two_pow (n := 8) (by omega) hy
    cases j with
    | zero =>
      simp only [List.set_cons_zero, List.getD_cons_zero, num]
      rw [Int.toNat_natCast, add_xor _ _ hlt, add_xor _ _ (by omega), Nat.mul_zero, Nat.pow_zero, Nat.mul_one, Nat.xor_assoc, Nat.xor_comm y, Nat.xor_assoc]
    | succ j =>
      simp only [List.set_cons_succ, List.getD_cons_succ, num]
      rw [ih j y (fun z hz => hb z (by simp [hz])) (by simpa using hj) hy, add_xor _ _ (by omega), add_xor _ _ (by omega), Nat.xor_assoc]
      congr 1
      rw [show 8 * (j + 1) = 8 * j + 8 from by omega, Nat.pow_add, ← Nat.mul_assoc]
      rw [Nat.mul_comm _ (2 ^ 8), Nat.mul_comm (num l), Nat.mul_comm _ (2 ^ 8)]
      apply Nat.eq_of_testBit_eq
      intro i
      simp only [Nat.testBit_xor, Nat.testBit_two_pow_mul]
      cases decide (8 ≤ i) <;> simp
set_option maxRecDepth 100000 in
theorem flip_seen {l c : List Int} {B f : Nat} (hl : Bytes l) (hc : Bytes c) (hlen : c.length = l.length) (h4 : 4 ≤ l.length) (hs : raw ones l = rest) (hB : B < 4294967296) (hf : f ≤ 8 * l.length) (hn : num c = num l ^^^ (B * 2 ^ f)) :
    (opn c).isSome = decide (B = 0) := by
  have h1 : raw ones c = rest ^^^ steps (8 * l.length - f) B := by
    rw [raw_num _ _ hc, hlen, hn, ← Nat.xor_assoc, steps_xor, ← raw_num _ _ hl, hs]
    congr 1
    rw [show 8 * l.length = f + (8 * l.length - f) from by omega, steps_add, steps_pow]
    congr 1
    omega
  by_cases h0 : B = 0
  · have h2 := (opn_iff hc (by omega)).2 (by rw [h1, h0, steps_0, Nat.xor_zero])
    rw [h2]; simp [h0]
  · cases h3 : (opn c).isSome with
    | false => simp [h0]
    | true =>
      exfalso
      have h4 := (opn_iff hc (by omega)).1 h3
      rw [h1] at h4
      have h5 : steps (8 * l.length - f) B = 0 := by
        have := congrArg (fun z => rest ^^^ z) h4
        simpa [← Nat.xor_assoc] using this
      exact h0 (steps_zero _ _ hB h5)

set_option maxRecDepth 100000 in
theorem num_xor3 : ∀ (d a b c : List Int), Bytes a → Bytes b → Bytes c → a.length = d.length → b.length = d.length → c.length = d.length → (∀ i, i < d.length → d.getD i 0 = (((a.getD i 0).toNat ^^^ (b.getD i 0).toNat ^^^ (c.getD i 0).toNat : Nat) : Int)) → num d = num a ^^^ num b ^^^ num c := by
  intro d
  induction d with
  | nil =>
    intro a b c _ _ _ ha hb hc _
    obtain rfl := List.eq_nil_of_length_eq_zero ha
    obtain rfl := List.eq_nil_of_length_eq_zero hb
    obtain rfl := List.eq_nil_of_length_eq_zero hc
    rfl
  | cons x d ih =>
    intro a b c h1 h2 h3 ha hb hc hx
    match a, b, c, ha, hb, hc with
    | p :: a, q :: b, r :: c, ha, hb, hc =>
      have hp := h1 p (by simp)
      have hq := h2 q (by simp)
      have hr := h3 r (by simp)
      have e0 := hx 0 (by simp)
      simp only [List.getD_cons_zero] at e0
      have hlt : p.toNat ^^^ q.toNat ^^^ r.toNat < 256 := Nat.xor_lt_two_pow (n := 8) (Nat.xor_lt_two_pow (n := 8) (by omega) (by omega)) (by omega)
      have e1 := ih a b c (fun z hz => h1 z (by simp [hz])) (fun z hz => h2 z (by simp [hz])) (fun z hz => h3 z (by simp [hz])) (by simpa using ha) (by simpa using hb) (by simpa using hc) (fun i hi => by
        have := hx (i + 1) (by simpa using hi)
        simpa using this)
      simp only [num]
      rw [e0, Int.toNat_natCast, e1, add_xor _ _ hlt, add_xor p.toNat _ (by omega), add_xor q.toNat _ (by omega), add_xor r.toNat _ (by omega)]
      rw [Nat.mul_comm _ (2 ^ 8), Nat.mul_comm _ (2 ^ 8), Nat.mul_comm _ (2 ^ 8), Nat.mul_comm _ (2 ^ 8)]
      apply Nat.eq_of_testBit_eq
      intro i
      simp only [Nat.testBit_xor, Nat.testBit_two_pow_mul]
      cases decide (8 ≤ i) <;> cases p.toNat.testBit i <;> cases q.toNat.testBit i <;> cases r.toNat.testBit i <;> simp
set_option maxRecDepth 100000 in
theorem sum_xor3 {d a b c : List Int} (hd : Bytes d) (h1 : Bytes a) (h2 : Bytes b) (h3 : Bytes c) (ha : a.length = d.length) (hb : b.length = d.length) (hc : c.length = d.length) (hx : ∀ i, i < d.length → d.getD i 0 = (((a.getD i 0).toNat ^^^ (b.getD i 0).toNat ^^^ (c.getD i 0).toNat : Nat) : Int)) :
    sum d = sum a ^^^ sum b ^^^ sum c := by
  unfold sum
  rw [raw_num _ _ hd, raw_num _ _ h1, raw_num _ _ h2, raw_num _ _ h3, ha, hb, hc, num_xor3 d a b c h1 h2 h3 ha hb hc hx]
  simp only [steps_xor]
  apply Nat.eq_of_testBit_eq
  intro i
  simp only [Nat.testBit_xor]
  cases (steps (8 * d.length) ones).testBit i <;> cases ones.testBit i <;> simp

end Crc
end Go.Proofs.Ythblpmejkjdkcaa
