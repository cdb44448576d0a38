import Derived.WalkKit
import Derived.Test.YtbfjihbkkcggmaaPackB
import Derived.Test.YtbfjihbkkcggmaaPackA
/- Numbers of seven bits a byte, in plain numbers and lists. No program. -/
namespace Go.Proofs.Ytbfjihbkkcggmaa
namespace Var

/-- a number's bytes, the lowest first -/
def enc (n : Nat) : List Int := if n < 128 then [(n : Int)] else (128 + ((n % 128 : Nat) : Int)) :: enc (n / 128)
termination_by n
decreasing_by omega
set_option maxRecDepth 100000 in
theorem enc_small {n : Nat} (h : n < 128) : enc n = [(n : Int)] := by rw [enc, if_pos h]
set_option maxRecDepth 100000 in
theorem enc_big {n : Nat} (h : 128 ≤ n) : enc n = (128 + ((n % 128 : Nat) : Int)) :: enc (n / 128) := by rw [enc, if_neg (by omega)]

set_option maxRecDepth 100000 in
theorem enc_rec {P : Nat → Prop} (h0 : ∀ n, n < 128 → P n) (h1 : ∀ n, 128 ≤ n → P (n / 128) → P n) (n : Nat) : P n := by
  induction n using Nat.strongRecOn with
  | ind n ih =>
    rcases Nat.lt_or_ge n 128 with h | h
    · exact h0 n h
    · exact h1 n h (ih _ (by omega))

set_option maxRecDepth 100000 in
theorem enc_wf (n : Nat) : ∀ d ∈ enc n, (Lit.int .u8 d).wf = true := by
  induction n using enc_rec with
  | h0 n h => intro d hd; rw [enc_small h, List.mem_singleton] at hd; subst hd; exact WalkArith.wf_u8 ⟨by omega, by omega⟩
  | h1 n h ih =>
    intro d hd
    rw [enc_big h] at hd
    rcases List.mem_cons.1 hd with rfl | hd
    · exact WalkArith.wf_u8 ⟨by omega, by omega⟩
    · exact ih d hd
set_option maxRecDepth 100000 in
theorem enc_ne (n : Nat) : enc n ≠ [] := by
  rcases Nat.lt_or_ge n 128 with h | h
  · rw [enc_small h]; simp
  · rw [enc_big h]; simp
set_option maxRecDepth 100000 in
theorem enc_pos (n : Nat) : 0 < (enc n).length := List.length_pos_iff.2 (enc_ne n)
set_option maxRecDepth 100000 in
theorem enc_len (k : Nat) : ∀ n, n < 128 ^ (k + 1) → (enc n).length ≤ k + 1 := by
  induction k with
  | zero => intro n h; rw [enc_small (by simpa using h)]; simp
  | succ k ih =>
    intro n h
    rcases Nat.lt_or_ge n 128 with h1 | h1
    · rw [enc_small h1]; simp
    · rw [enc_big h1, List.length_cons]
      have : n / 128 < 128 ^ (k + 1) := by rw [Nat.div_lt_iff_lt_mul (by omega)]; rw [Nat.pow_succ] at h; exact h
      have := ih _ this
      omega
set_option maxRecDepth 100000 in
theorem len_10 {n : Nat} (h : n < 18446744073709551616) : (enc n).length ≤ 10 := enc_len 9 n (by omega)
set_option maxRecDepth 100000 in
theorem len_mono (a : Nat) : ∀ b, a ≤ b → (enc a).length ≤ (enc b).length := by
  induction a using enc_rec with
  | h0 a h => intro b _; rw [enc_small h]; exact enc_pos b
  | h1 a h ih =>
    intro b hb
    rw [enc_big h, enc_big (n := b) (by omega), List.length_cons, List.length_cons]
    have := ih (b / 128) (by omega)
    omega
set_option maxRecDepth 100000 in
theorem len_times {a : Nat} (h : 0 < a) : (enc (a * 128)).length = (enc a).length + 1 := by
  rw [enc_big (by omega), List.length_cons, Nat.mul_div_cancel _ (by omega)]

/-- the number that bytes hold -/
def val : List Int → Nat
  | [] => 0
  | x :: xs => x.toNat % 128 + 128 * val xs
set_option maxRecDepth 100000 in
theorem val_enc (n : Nat) : val (enc n) = n := by
  induction n using enc_rec with
  | h0 n h => rw [enc_small h]; simp [val]; omega
  | h1 n h ih => rw [enc_big h, val, ih]; omega
set_option maxRecDepth 100000 in
theorem enc_inj {a b : Nat} (h : enc a = enc b) : a = b := by rw [← val_enc a, h, val_enc]
set_option maxRecDepth 100000 in
theorem val_snoc (l : List Int) (x : Int) : val (l ++ [x]) = val l + 128 ^ l.length * (x.toNat % 128) := by
  induction l with
  | nil => simp [val]
  | cons y l ih =>
    rw [List.cons_append, val, ih, val, List.length_cons, Nat.pow_succ, Nat.mul_add, Nat.add_assoc]
    congr 1
    congr 1
    rw [← Nat.mul_assoc, Nat.mul_comm 128 (128 ^ l.length)]
set_option maxRecDepth 100000 in
theorem val_take {l : List Int} {i : Nat} (h : i < l.length) : val (l.take (i + 1)) = val (l.take i) + 128 ^ i * ((l.getD i 0).toNat % 128) := by
  rw [List.take_succ_eq_append_getElem h, val_snoc, List.length_take, Nat.min_eq_left (by omega)]
  simp [h]

set_option maxRecDepth 100000 in
theorem val_drop {l : List Int} {i : Nat} (h : i < l.length) : val (l.drop i) = (l.getD i 0).toNat % 128 + 128 * val (l.drop (i + 1)) := by
  rw [List.drop_eq_getElem_cons h, val]
  simp [h]

/-- the bytes up to one that has no more behind it, k at most -/
def upTo : Nat → List Int → List Int
  | 0, _ => []
  | _ + 1, [] => []
  | k + 1, x :: xs => if x < 128 then [x] else x :: upTo k xs
set_option maxRecDepth 100000 in
theorem upTo_stop : ∀ (i k : Nat) (b : List Int), (∀ x ∈ b.take i, 128 ≤ x) → i < b.length → b.getD i 0 < 128 → i < k → upTo k b = b.take (i + 1) := by
  intro i
  induction i with
  | zero =>
    intro k b _ h1 h2 h3
    match k, b, h3 with
    | k + 1, x :: b, _ => simp at h2; simp [upTo, h2]
    | k + 1, [], _ => simp at h1
  | succ i ih =>
    intro k b h0 h1 h2 h3
    match k, b, h3 with
    | k + 1, [], _ => simp at h1
    | k + 1, x :: b, _ =>
      have hx := h0 x (by simp)
      have : ¬ x < 128 := by omega
      rw [upTo, if_neg this, ih k b (fun y hy => h0 y (by simp [hy])) (by simpa using h1) (by simpa using h2) (by omega)]
      simp
set_option maxRecDepth 100000 in
theorem upTo_end : ∀ (i k : Nat) (b : List Int), (∀ x ∈ b.take i, 128 ≤ x) → (i = b.length ∨ i = k) → i ≤ k → upTo k b = b.take i := by
  intro i
  induction i with
  | zero =>
    intro k b _ h1 _
    match k, b with
    | 0, _ => simp [upTo]
    | k + 1, [] => simp [upTo]
    | k + 1, x :: b => simp at h1
  | succ i ih =>
    intro k b h0 h1 h2
    match k, b with
    | 0, _ => omega
    | k + 1, [] => simp [upTo]
    | k + 1, x :: b =>
      have hx := h0 x (by simp)
      have : ¬ x < 128 := by omega
      rw [upTo, if_neg this, ih k b (fun y hy => h0 y (by simp [hy])) (by simpa using h1) (by omega)]
      simp
set_option maxRecDepth 100000 in
theorem upTo_enc (n : Nat) : ∀ (k : Nat) (r : List Int), (enc n).length ≤ k → upTo k (enc n ++ r) = enc n := by
  induction n using enc_rec with
  | h0 n h =>
    intro k r hk
    rw [enc_small h] at *
    match k, hk with
    | k + 1, _ => have : (n : Int) < 128 := by omega
                  simp [upTo, this]
  | h1 n h ih =>
    intro k r hk
    rw [enc_big h] at *
    match k, hk with
    | k + 1, hk =>
      rw [List.cons_append, upTo, if_neg (by omega), ih k r (by simpa using hk)]

/-- the number that bytes begin with, and what is behind -/
def num (b : List Int) : Nat := val (upTo 10 b) % 18446744073709551616
def take (b : List Int) : Option (Nat × List Int) := if enc (num b) = b.take (enc (num b)).length then some (num b, b.drop (enc (num b)).length) else none
set_option maxRecDepth 100000 in
theorem num_lt (b : List Int) : num b < 18446744073709551616 := Nat.mod_lt _ (by omega)

set_option maxRecDepth 100000 in
theorem num_enc {n : Nat} (h : n < 18446744073709551616) (r : List Int) : num (enc n ++ r) = n := by
  rw [num, upTo_enc n 10 r (len_10 h), val_enc, Nat.mod_eq_of_lt h]
set_option maxRecDepth 100000 in
theorem take_enc {n : Nat} (h : n < 18446744073709551616) (r : List Int) : take (enc n ++ r) = some (n, r) := by
  have hn := num_enc h r
  rw [take, hn, if_pos (by simp)]
  simp
set_option maxRecDepth 100000 in
theorem take_some {b : List Int} {n : Nat} {r : List Int} (h : take b = some (n, r)) : b = enc n ++ r ∧ n < 18446744073709551616 := by
  rw [take] at h
  split at h
  · rename_i h1
    simp only [Option.some.injEq, Prod.mk.injEq] at h
    obtain ⟨rfl, rfl⟩ := h
    refine ⟨?_, num_lt b⟩
    conv => lhs; rw [← List.take_append_drop (enc (num b)).length b]
    rw [← h1]
  · cases h
set_option maxRecDepth 100000 in
theorem take_ne {b : List Int} (h : enc (num b) ≠ b.take (enc (num b)).length) : take b = none := by rw [take, if_neg h]
set_option maxRecDepth 100000 in
theorem take_eq {b : List Int} (h : enc (num b) = b.take (enc (num b)).length) : take b = some (num b, b.drop (enc (num b)).length) := by rw [take, if_pos h]

set_option maxRecDepth 100000 in
/-- no number's bytes begin another's -/
theorem take_cut {n j : Nat} (h : n < 18446744073709551616) (hj : j < (enc n).length) : take ((enc n).take j) = none := by
  cases h1 : take ((enc n).take j) with
  | none => rfl
  | some p =>
    obtain ⟨m, r⟩ := p
    obtain ⟨h2, h3⟩ := take_some h1
    have h4 : enc n = enc m ++ (r ++ (enc n).drop j) := by
      conv => lhs; rw [← List.take_append_drop j (enc n)]
      rw [h2, List.append_assoc]
    have h5 := take_enc h []
    rw [List.append_nil, h4, take_enc h3] at h5
    simp only [Option.some.injEq, Prod.mk.injEq, List.append_eq_nil_iff] at h5
    have h6 := congrArg List.length h5.2.2
    simp at h6
    omega

set_option maxRecDepth 100000 in
/-- the document's way: the first byte that has no more behind it stands at k -/
theorem take_at {b : List Int} {k : Nat} (h0 : ∀ x ∈ b.take k, 128 ≤ x) (h1 : k < b.length) (h2 : b.getD k 0 < 128) (h3 : k ≤ 9) :
    num b = val (b.take (k + 1)) % 18446744073709551616 := by
  rw [num, upTo_stop k 10 b h0 h1 h2 (by omega)]
set_option maxRecDepth 100000 in
theorem stop_enc (n : Nat) : ∀ (k : Nat) (r : List Int), (∀ x ∈ (enc n ++ r).take k, 128 ≤ x) → (enc n ++ r).getD k 0 < 128 → k < (enc n ++ r).length → k + 1 = (enc n).length := by
  induction n using enc_rec with
  | h0 n h =>
    intro k r h1 h2 h3
    rw [enc_small h] at *
    cases k with
    | zero => rfl
    | succ k => have := h1 (n : Int) (by simp); omega
  | h1 n h ih =>
    intro k r h1 h2 h3
    rw [enc_big h] at *
    cases k with
    | zero => simp at h2; omega
    | succ k =>
      have := ih k r (fun x hx => h1 x (by simp [hx])) (by simpa using h2) (by simpa using h3)
      simp [this]
set_option maxRecDepth 100000 in
theorem take_at_some {b : List Int} {k : Nat} (h0 : ∀ x ∈ b.take k, 128 ≤ x) (h1 : k < b.length) (h2 : b.getD k 0 < 128) (h3 : k ≤ 9) (h : enc (num b) = b.take (k + 1)) :
    take b = some (num b, b.drop (k + 1)) := by
  have hl : (enc (num b)).length = k + 1 := by rw [h]; simp; omega
  rw [take_eq (by rw [hl]; exact h), hl]
set_option maxRecDepth 100000 in
theorem take_at_none {b : List Int} {k : Nat} (h0 : ∀ x ∈ b.take k, 128 ≤ x) (h1 : k < b.length) (h2 : b.getD k 0 < 128) (h : enc (num b) ≠ b.take (k + 1)) : take b = none := by
  cases h4 : take b with
  | none => rfl
  | some p =>
    obtain ⟨m, r⟩ := p
    obtain ⟨h5, h6⟩ := take_some h4
    exfalso
    apply h
    subst h5
    have := stop_enc m k r h0 h2 h1
    rw [num_enc h6, this]
    simp
set_option maxRecDepth 100000 in
theorem take_far {b : List Int} {k : Nat} (h0 : ∀ x ∈ b.take k, 128 ≤ x) (h1 : b.length ≤ k ∨ 9 < k) : take b = none := by
  cases h4 : take b with
  | none => rfl
  | some p =>
    obtain ⟨m, r⟩ := p
    obtain ⟨h5, h6⟩ := take_some h4
    exfalso
    have hl := len_10 h6
    have hlast : ∀ n, ∃ l x, enc n = l ++ [x] ∧ x < 128 := by
      intro n
      induction n using enc_rec with
      | h0 n h => exact ⟨[], n, by rw [enc_small h]; rfl, by omega⟩
      | h1 n h ih =>
        obtain ⟨l, x, h7, h8⟩ := ih
        exact ⟨_ :: l, x, by rw [enc_big h, h7]; rfl, h8⟩
    obtain ⟨l, x, h7, h8⟩ := hlast m
    have h9 : (enc m).length ≤ k := by
      rcases h1 with h1 | h1
      · rw [h5] at h1; simp at h1; omega
      · omega
    have := h0 x (by
      rw [h5, List.take_append, List.take_of_length_le h9, h7]
      simp)
    omega

end Var
end Go.Proofs.Ytbfjihbkkcggmaa

/- Images as numbers, and numbers as bytes, in plain lists: nothing of the program. -/
namespace Go.Proofs.Ytbfjihbkkcggmaa
namespace Img

/-- an image: its automaton, and its costs -/
structure Im where
  sts : List Tri.St
  c : File.Cst
def Im.no : Im := ⟨[], File.Cst.zero⟩

/-! ### an image's numbers, and its bytes -/
def arcNums (i : Int) : Int → List (Int × Int) → List Nat
  | _, [] => []
  | p, a :: r => (a.1 - p - 1).toNat :: (a.2 - i - 1).toNat :: arcNums i a.1 r
def headNum (s : Tri.St) : Nat := 2 * s.arcs.length + (if s.final = true then 1 else 0)
def stNums (i : Int) (s : Tri.St) : List Nat := headNum s :: arcNums i (-1) s.arcs
def stsNums : Int → List Tri.St → List Nat
  | _, [] => []
  | i, s :: r => stNums i s ++ stsNums (i + 1) r
def sideNums (l : List Int) : List Nat := l.length :: l.map Int.toNat
def ruleNums (r : Rul) : List Nat := sideNums r.L ++ (sideNums r.R ++ [r.C.toNat])
def rulesNums (l : List Rul) : List Nat := l.flatMap ruleNums
def costNums (c : File.Cst) : List Nat := c.base.map Int.toNat ++ c.rules.length :: rulesNums c.rules
def nums (x : Im) : List Nat := x.sts.length :: stsNums 0 x.sts ++ costNums x.c
def flat (l : List Nat) : List Int := l.flatMap Var.enc
def body (x : Im) : List Int := flat (nums x)
set_option maxRecDepth 100000 in
theorem flat_nil : flat [] = [] := rfl
set_option maxRecDepth 100000 in
theorem flat_cons (n : Nat) (l : List Nat) : flat (n :: l) = Var.enc n ++ flat l := by simp [flat]
set_option maxRecDepth 100000 in
theorem flat_app (a b : List Nat) : flat (a ++ b) = flat a ++ flat b := by simp [flat]
set_option maxRecDepth 100000 in
theorem flat_one (n : Nat) : flat [n] = Var.enc n := by simp [flat]
set_option maxRecDepth 100000 in
theorem flat_len (l : List Nat) : l.length ≤ (flat l).length := by
  induction l with
  | nil => simp [flat]
  | cons n l ih => rw [flat_cons, List.length_append, List.length_cons]; have := Var.enc_pos n; omega
set_option maxRecDepth 100000 in
theorem flat_wf (l : List Nat) : ∀ z ∈ flat l, (Lit.int .u8 z).wf = true := by
  intro z hz
  simp only [flat, List.mem_flatMap] at hz
  obtain ⟨n, _, hz⟩ := hz
  exact Var.enc_wf n z hz

/-! ### numbers, read -/
/-- a number that is no greater than M -/
def take (M : Nat) (b : List Int) : Option (Nat × List Int) :=
  match Var.take b with
  | some (n, r) => if n ≤ M then some (n, r) else none
  | none => none
def pArcs (M : Nat) (i : Int) : Nat → Int → List Int → Option (List (Int × Int) × List Int)
  | 0, _, b => some ([], b)
  | k + 1, p, b =>
    match take M b with
    | none => none
    | some (s, r) =>
      match take M r with
      | none => none
      | some (t, q) =>
        match pArcs M i k (p + 1 + (s : Int)) q with
        | none => none
        | some (l, z) => some ((p + 1 + (s : Int), i + 1 + (t : Int)) :: l, z)
def pState (M : Nat) (i : Int) (b : List Int) : Option (Tri.St × List Int) :=
  match take M b with
  | none => none
  | some (n, r) =>
    match pArcs M i (n / 2) (-1) r with
    | none => none
    | some (l, z) => some (⟨decide (n % 2 = 1), l⟩, z)
def pStates (M : Nat) : Nat → Int → List Int → Option (List Tri.St × List Int)
  | 0, _, b => some ([], b)
  | k + 1, i, b =>
    match pState M i b with
    | none => none
    | some (s, r) =>
      match pStates M k (i + 1) r with
      | none => none
      | some (l, z) => some (s :: l, z)
def pInts (M : Nat) : Nat → List Int → Option (List Int × List Int)
  | 0, b => some ([], b)
  | k + 1, b =>
    match take M b with
    | none => none
    | some (s, r) =>
      match pInts M k r with
      | none => none
      | some (l, z) => some ((s : Int) :: l, z)
def pSide (M : Nat) (b : List Int) : Option (List Int × List Int) :=
  match take M b with
  | none => none
  | some (n, r) => pInts M n r
def pRule (M : Nat) (b : List Int) : Option (Rul × List Int) :=
  match pSide M b with
  | none => none
  | some (L, q) =>
    match pSide M q with
    | none => none
    | some (R, q2) =>
      match Var.take q2 with
      | none => none
      | some (c, z) => some (⟨L, R, (c : Int)⟩, z)
def pRules (M : Nat) : Nat → List Int → Option (List Rul × List Int)
  | 0, b => some ([], b)
  | k + 1, b =>
    match pRule M b with
    | none => none
    | some (x, r) =>
      match pRules M k r with
      | none => none
      | some (l, z) => some (x :: l, z)
def pFour : Nat → List Int → Option (List Int × List Int)
  | 0, b => some ([], b)
  | k + 1, b =>
    match Var.take b with
    | none => none
    | some (s, r) =>
      match pFour k r with
      | none => none
      | some (l, z) => some ((s : Int) :: l, z)
def pCosts (M : Nat) (b : List Int) : Option (File.Cst × List Int) :=
  match pFour 4 b with
  | none => none
  | some (l, r) =>
    match take M r with
    | none => none
    | some (n, q) =>
      match pRules M n q with
      | none => none
      | some (rs, z) => some (⟨l, rs⟩, z)
def pBody (M : Nat) (b : List Int) : Option (Im × List Int) :=
  match take M b with
  | none => none
  | some (n, r) =>
    match pStates M n 0 r with
    | none => none
    | some (ss, q) =>
      match pCosts M q with
      | none => none
      | some (c, z) => some (⟨ss, c⟩, z)

set_option maxRecDepth 100000 in
theorem take_flat {M n : Nat} (h : n ≤ M) (hn : n < 18446744073709551616) (r : List Int) : take M (Var.enc n ++ r) = some (n, r) := by
  rw [take, Var.take_enc hn]; simp [h]

set_option maxRecDepth 100000 in
theorem good_le {z : Int} (h : Utf.good z = true) : 0 ≤ z ∧ z ≤ 1114111 := by
  unfold Utf.good at h
  simp at h
  omega

set_option maxRecDepth 100000 in
theorem pArcs_enc {M n i : Nat} (hM : 1114111 ≤ M) (hn : n ≤ 6001) : ∀ (l : List (Int × Int)) (p : Option Int), Tri.arcsOk n i p l = true → (∀ q, p = some q → 0 ≤ q) → ∀ r,
    pArcs M (i : Int) l.length (p.getD (-1)) (flat (arcNums (i : Int) (p.getD (-1)) l) ++ r) = some (l, r)
  | [], _, _, _, r => by simp [pArcs, arcNums, flat]
  | a :: l, p, h, hp, r => by
    unfold Tri.arcsOk at h
    simp only [Bool.and_eq_true, decide_eq_true_eq] at h
    obtain ⟨⟨⟨⟨h1, h2⟩, h3⟩, h4⟩, h5⟩ := h
    have hg := good_le h1
    have hlt : p.getD (-1) < a.1 := by
      cases p with
      | none => simp; omega
      | some q => simpa [Tri.behind] using h4
    have hp1 : -1 ≤ p.getD (-1) := by
      cases p with
      | none => simp
      | some q => have := hp q rfl; simp; omega
    have ih := pArcs_enc hM hn l (some a.1) h5 (fun q hq => by cases hq; exact hg.1) r
    simp only [Option.getD_some] at ih
    rw [List.length_cons, pArcs, arcNums, flat_cons, flat_cons, List.append_assoc, List.append_assoc, take_flat (by omega) (by omega)]
    simp only
    rw [take_flat (by omega) (by omega)]
    simp only
    rw [show p.getD (-1) + 1 + ((a.1 - p.getD (-1) - 1).toNat : Int) = a.1 from by omega, show (i : Int) + 1 + ((a.2 - (i : Int) - 1).toNat : Int) = a.2 from by omega, ih]

set_option maxRecDepth 100000 in
theorem arcs_len {n i : Nat} : ∀ (l : List (Int × Int)) (p : Option Int), Tri.arcsOk n i p l = true → (∀ q, p = some q → 0 ≤ q ∧ q ≤ 1114111) → (l.length : Int) ≤ 1114111 - p.getD (-1)
  | [], p, _, hp => by
    cases p with
    | none => simp
    | some q => have := hp q rfl; simp; omega
  | a :: l, p, h, hp => by
    unfold Tri.arcsOk at h
    simp only [Bool.and_eq_true, decide_eq_true_eq] at h
    obtain ⟨⟨⟨⟨h1, h2⟩, h3⟩, h4⟩, h5⟩ := h
    have hg := good_le h1
    have ih := arcs_len l (some a.1) h5 (fun q hq => by cases hq; exact hg)
    simp only [Option.getD_some] at ih
    have hlt : p.getD (-1) < a.1 := by
      cases p with
      | none => simp; omega
      | some q => simpa [Tri.behind] using h4
    simp only [List.length_cons]
    omega

/-- a state's numbers may be read where at most M is -/
def Fits (M : Nat) (l : List Tri.St) : Prop := ∀ s ∈ l, 2 * s.arcs.length + 1 ≤ M

set_option maxRecDepth 100000 in
theorem pState_enc {M n i : Nat} {s : Tri.St} (hM : 1114111 ≤ M) (hn : n ≤ 6001) (h : Tri.arcsOk n i none s.arcs = true) (hf : 2 * s.arcs.length + 1 ≤ M) (r : List Int) :
    pState M (i : Int) (flat (stNums (i : Int) s) ++ r) = some (s, r) := by
  have hl := arcs_len _ _ h (by intro q hq; cases hq)
  simp only [Option.getD_none] at hl
  have hh : headNum s ≤ 2 * s.arcs.length + 1 := by unfold headNum; split <;> omega
  rw [pState, stNums, flat_cons, List.append_assoc, take_flat (by omega) (by omega)]
  simp only
  have h1 : headNum s / 2 = s.arcs.length := by unfold headNum; split <;> omega
  have h2 : decide (headNum s % 2 = 1) = s.final := by unfold headNum; cases s.final <;> simp <;> omega
  have h3 := pArcs_enc hM hn s.arcs none h (by intro q hq; cases hq) r
  simp only [Option.getD_none] at h3
  rw [h1, h3, h2]

set_option maxRecDepth 100000 in
theorem pStates_enc {M n : Nat} (hM : 1114111 ≤ M) (hn : n ≤ 6001) : ∀ (l : List Tri.St) (i : Nat), Tri.checkA n i l = true → Fits M l → ∀ r, pStates M l.length (i : Int) (flat (stsNums (i : Int) l) ++ r) = some (l, r)
  | [], i, _, _, r => by simp [pStates, stsNums, flat]
  | s :: l, i, h, hf, r => by
    unfold Tri.checkA at h
    simp only [Bool.and_eq_true] at h
    have ih := pStates_enc hM hn l (i + 1) h.2 (fun x hx => hf x (by simp [hx])) r
    rw [Int.natCast_add, Int.natCast_one] at ih
    rw [List.length_cons, pStates, stsNums, flat_app, List.append_assoc, pState_enc hM hn h.1 (hf s (by simp))]
    simp only
    rw [ih]

set_option maxRecDepth 100000 in
theorem pInts_enc {M : Nat} : ∀ (l : List Int), (∀ z ∈ l, 0 ≤ z ∧ z.toNat ≤ M ∧ z < 18446744073709551616) → ∀ r, pInts M l.length (flat (l.map Int.toNat) ++ r) = some (l, r)
  | [], _, r => by simp [pInts, flat]
  | z :: l, h, r => by
    have hz := h z (by simp)
    rw [List.length_cons, pInts, List.map_cons, flat_cons, List.append_assoc, take_flat hz.2.1 (by omega)]
    simp only
    rw [pInts_enc l (fun x hx => h x (by simp [hx])) r]
    simp only
    rw [show ((z.toNat : Nat) : Int) = z from by omega]

set_option maxRecDepth 100000 in
theorem side_small {l : List Int} (h : Utf.allGood l = true) : ∀ z ∈ l, 0 ≤ z ∧ z ≤ 1114111 := by
  intro z hz
  unfold Utf.allGood at h
  exact good_le (List.all_eq_true.1 h z hz)

set_option maxRecDepth 100000 in
theorem pSide_enc {M : Nat} {l : List Int} (hM : 1114111 ≤ M) (h : Utf.allGood l = true) (h8 : l.length ≤ 8) (r : List Int) : pSide M (flat (sideNums l) ++ r) = some (l, r) := by
  rw [pSide, sideNums, flat_cons, List.append_assoc, take_flat (by omega) (by omega)]
  simp only
  exact pInts_enc l (fun z hz => by have := side_small h z hz; omega) r

set_option maxRecDepth 100000 in
/-- what rules that fit are made of -/
theorem fit_rule {r : Rul} (h : Spec.fit r = true) : Utf.allGood r.L = true ∧ Utf.allGood r.R = true ∧ r.L.length ≤ 8 ∧ r.R.length ≤ 8 ∧ r.C < 18446744073709551615 := by
  have h1 := (Spec.fit_parts h).1
  have h2 := Spec.chk_sides h1
  unfold chk goodL at h1
  simp only [Bool.and_eq_true, decide_eq_true_eq] at h1
  exact ⟨h2.1, h2.2.1, by omega, by omega, h2.2.2⟩

set_option maxRecDepth 100000 in
theorem pRule_enc {M : Nat} {x : Rul} (hM : 1114111 ≤ M) (h : Spec.fit x = true) (h0 : 0 ≤ x.C) (r : List Int) : pRule M (flat (ruleNums x) ++ r) = some (x, r) := by
  obtain ⟨h1, h2, h3, h4, h5⟩ := fit_rule h
  rw [pRule, ruleNums, flat_app, flat_app, List.append_assoc, List.append_assoc, pSide_enc hM h1 h3]
  simp only
  rw [pSide_enc hM h2 h4]
  simp only
  rw [flat_one, Var.take_enc (by omega)]
  simp only
  rw [show ((x.C.toNat : Nat) : Int) = x.C from by omega]

set_option maxRecDepth 100000 in
theorem pRules_enc {M : Nat} (hM : 1114111 ≤ M) : ∀ (l : List Rul), (∀ x ∈ l, Spec.fit x = true ∧ 0 ≤ x.C) → ∀ r, pRules M l.length (flat (rulesNums l) ++ r) = some (l, r)
  | [], _, r => by simp [pRules, rulesNums, flat]
  | x :: l, h, r => by
    rw [List.length_cons, pRules, rulesNums, List.flatMap_cons, flat_app, List.append_assoc, pRule_enc hM (h x (by simp)).1 (h x (by simp)).2]
    simp only
    rw [show l.flatMap ruleNums = rulesNums l from rfl, pRules_enc hM l (fun y hy => h y (by simp [hy])) r]

set_option maxRecDepth 100000 in
theorem pFour_enc : ∀ (l : List Int), (∀ z ∈ l, 0 ≤ z ∧ z < 18446744073709551616) → ∀ r, pFour l.length (flat (l.map Int.toNat) ++ r) = some (l, r)
  | [], _, r => by simp [pFour, flat]
  | z :: l, h, r => by
    have hz := h z (by simp)
    rw [List.length_cons, pFour, List.map_cons, flat_cons, List.append_assoc, Var.take_enc (by omega)]
    simp only
    rw [pFour_enc l (fun x hx => h x (by simp [hx])) r]
    simp only
    rw [show ((z.toNat : Nat) : Int) = z from by omega]

/-- costs that lie as the program's do: four base steps, and no number below 0 -/
def Plain (c : File.Cst) : Prop := c.base.length = 4 ∧ (∀ z ∈ c.base, 0 ≤ z ∧ z < 18446744073709551616) ∧ ∀ x ∈ c.rules, 0 ≤ x.C

set_option maxRecDepth 100000 in
theorem pCosts_enc {M : Nat} {c : File.Cst} (hM : 1114111 ≤ M) (hp : Plain c) (h : File.check c = true) (r : List Int) : pCosts M (flat (costNums c) ++ r) = some (c, r) := by
  obtain ⟨h1, h2, h3, _⟩ := File.check_parts h
  rw [pCosts, costNums, flat_app, List.append_assoc]
  have h4 := pFour_enc c.base hp.2.1 (flat (c.rules.length :: rulesNums c.rules) ++ r)
  rw [hp.1] at h4
  rw [h4]
  simp only
  rw [flat_cons, List.append_assoc, take_flat (by omega) (by omega)]
  simp only
  rw [pRules_enc hM c.rules (fun x hx => ⟨h3 x hx, hp.2.2 x hx⟩) r]

/-- an image that may be written -/
def Ok (x : Im) : Prop := Tri.check x.sts = true ∧ File.check x.c = true
set_option maxRecDepth 100000 in
theorem check_sts {l : List Tri.St} (h : Tri.check l = true) : Tri.checkA l.length 0 l = true ∧ 1 ≤ l.length ∧ l.length ≤ 6001 := by
  unfold Tri.check at h
  simp only [Bool.and_eq_true, decide_eq_true_eq] at h
  exact ⟨h.1.1, h.1.2, h.2⟩
set_option maxRecDepth 100000 in
theorem checkA_mem {n : Nat} : ∀ (l : List Tri.St) (i : Nat), Tri.checkA n i l = true → ∀ s ∈ l, ∃ k, Tri.arcsOk n k none s.arcs = true
  | [], _, _, s, hs => by cases hs
  | t :: l, i, h, s, hs => by
    unfold Tri.checkA at h
    simp only [Bool.and_eq_true] at h
    rcases List.mem_cons.1 hs with rfl | hs
    · exact ⟨i, h.1⟩
    · exact checkA_mem l (i + 1) h.2 s hs
set_option maxRecDepth 100000 in
theorem arcs_few {l : List Tri.St} (h : Tri.check l = true) : ∀ s ∈ l, s.arcs.length ≤ 1114112 := by
  intro s hs
  obtain ⟨k, hk⟩ := checkA_mem l 0 (check_sts h).1 s hs
  have := arcs_len _ _ hk (by intro q hq; cases hq)
  simp only [Option.getD_none] at this
  omega
set_option maxRecDepth 100000 in
theorem fits_any {M : Nat} {l : List Tri.St} (hM : 2228225 ≤ M) (h : Tri.check l = true) : Fits M l := by
  intro s hs
  have := arcs_few h s hs
  omega

set_option maxRecDepth 100000 in
theorem pBody_enc {M : Nat} {x : Im} (hM : 1114111 ≤ M) (hf : Fits M x.sts) (hp : Plain x.c) (h : Ok x) (r : List Int) : pBody M (body x ++ r) = some (x, r) := by
  obtain ⟨h1, h2, h3⟩ := check_sts h.1
  rw [body, nums, List.cons_append, flat_cons, flat_app, pBody, List.append_assoc, List.append_assoc, take_flat (by omega) (by omega)]
  simp only
  have h4 := pStates_enc hM h3 x.sts 0 h1 hf (flat (costNums x.c) ++ r)
  rw [Int.natCast_zero] at h4
  rw [h4]
  simp only
  rw [pCosts_enc hM hp h.2 r]

set_option maxRecDepth 100000 in
/-- no image's bytes begin with another one's -/
theorem body_begin {x y : Im} (hx : Ok x) (hy : Ok y) (hpx : Plain x.c) (hpy : Plain y.c) {r : List Int} (h : body x = body y ++ r) : x = y ∧ r = [] := by
  have h1 := pBody_enc (M := 3000000) (by omega) (fits_any (by omega) hx.1) hpx hx []
  have h2 := pBody_enc (M := 3000000) (by omega) (fits_any (by omega) hy.1) hpy hy r
  rw [List.append_nil, h, h2] at h1
  cases h1
  exact ⟨rfl, rfl⟩
set_option maxRecDepth 100000 in
theorem body_inj {x y : Im} (hx : Ok x) (hy : Ok y) (hpx : Plain x.c) (hpy : Plain y.c) (h : body x = body y) : x = y :=
  (body_begin hx hy hpx hpy (r := []) (by rw [h, List.append_nil])).1

end Img
end Go.Proofs.Ytbfjihbkkcggmaa

/- Sums of 32 bits, in plain numbers and lists. No program. -/
namespace Go.Proofs.Ytbfjihbkkcggmaa
namespace Crc

/-- the polynomial, and all ones -/
def pol : Nat := 3988292384
def ones : Nat := 4294967295
/-- a step, of a number of whatever size -/
def step (s : Nat) : Nat := (s / 2) ^^^ (if s % 2 = 1 then pol else 0)
def steps : Nat → Nat → Nat
  | 0, s => s
  | k + 1, s => steps k (step s)

set_option maxRecDepth 100000 in
theorem testBit_zero_mod (s : Nat) : s.testBit 0 = decide (s % 2 = 1) := by simp [Nat.testBit_zero]
set_option maxRecDepth 100000 in
theorem xor_mod2 (a b : Nat) : ((a ^^^ b) % 2 = 1) ↔ ¬ (a % 2 = 1 ↔ b % 2 = 1) := by
  have h := Nat.testBit_xor a b 0
  simp only [testBit_zero_mod] at h
  by_cases h1 : a % 2 = 1 <;> by_cases h2 : b % 2 = 1 <;> simp_all
set_option maxRecDepth 100000 in
theorem xor_div2 (a b : Nat) : (a ^^^ b) / 2 = (a / 2) ^^^ (b / 2) := by
  apply Nat.eq_of_testBit_eq
  intro i
  simp [Nat.testBit_div_two, Nat.testBit_xor]
set_option maxRecDepth 100000 in
theorem xor_same {a b : Nat} (h : a ^^^ b = 0) : a = b := by
  have h1 : a ^^^ b ^^^ b = b := by rw [h, Nat.zero_xor]
  rwa [Nat.xor_assoc, Nat.xor_self, Nat.xor_zero] at h1
set_option maxRecDepth 100000 in
theorem step_xor (a b : Nat) : step (a ^^^ b) = step a ^^^ step b := by
  unfold step
  rw [xor_div2]
  have h := xor_mod2 a b
  by_cases h1 : a % 2 = 1 <;> by_cases h2 : b % 2 = 1
  · rw [if_pos h1, if_pos h2, if_neg (by rw [h]; simp [h1, h2])]
    rw [Nat.xor_zero]
    rw [show a / 2 ^^^ pol ^^^ (b / 2 ^^^ pol) = a / 2 ^^^ b / 2 ^^^ (pol ^^^ pol) from by
      simp only [Nat.xor_assoc]; congr 1
      rw [← Nat.xor_assoc pol, Nat.xor_comm pol, Nat.xor_assoc]]
    rw [Nat.xor_self, Nat.xor_zero]
  · rw [if_pos h1, if_neg h2, if_pos (by rw [h]; simp [h1, h2])]
    rw [Nat.xor_zero, Nat.xor_assoc, Nat.xor_comm (b / 2), ← Nat.xor_assoc]
  · rw [if_neg h1, if_pos h2, if_pos (by rw [h]; simp [h1, h2])]
    rw [Nat.xor_zero, Nat.xor_assoc]
  · rw [if_neg h1, if_neg h2, if_neg (by rw [h]; simp [h1, h2])]
    simp
set_option maxRecDepth 100000 in
theorem steps_xor (k : Nat) : ∀ a b, steps k (a ^^^ b) = steps k a ^^^ steps k b := by
  induction k with
  | zero => intro a b; rfl
  | succ k ih => intro a b; simp only [steps]; rw [step_xor, ih]
set_option maxRecDepth 100000 in
theorem steps_add (j k : Nat) : ∀ a, steps (j + k) a = steps k (steps j a) := by
  induction j with
  | zero => intro a; simp [steps]
  | succ j ih => intro a; rw [Nat.succ_add]; simp only [steps]; exact ih _
set_option maxRecDepth 100000 in
theorem step_two (a : Nat) : step (a * 2) = a := by
  unfold step
  rw [if_neg (by omega), Nat.xor_zero]; omega
set_option maxRecDepth 100000 in
theorem steps_pow (k : Nat) : ∀ a, steps k (a * 2 ^ k) = a := by
  induction k with
  | zero => intro a; simp [steps]
  | succ k ih =>
    intro a
    simp only [steps]
    rw [Nat.pow_succ, ← Nat.mul_assoc, step_two, ih]
set_option maxRecDepth 100000 in
theorem step_lt {s : Nat} (h : s < 4294967296) : step s < 4294967296 := by
  unfold step
  have h1 : s / 2 < 2 ^ 32 := by omega
  have h2 : (if s % 2 = 1 then pol else 0) < 2 ^ 32 := by split <;> simp [pol]
  exact Nat.xor_lt_two_pow h1 h2
set_option maxRecDepth 100000 in
theorem steps_lt (k : Nat) : ∀ s, s < 4294967296 → steps k s < 4294967296 := by
  induction k with
  | zero => intro s h; exact h
  | succ k ih => intro s h; exact ih _ (step_lt h)
set_option maxRecDepth 100000 in
theorem step_zero {s : Nat} (h : s < 4294967296) (h0 : step s = 0) : s = 0 := by
  unfold step at h0
  by_cases h1 : s % 2 = 1
  · rw [if_pos h1] at h0
    exfalso
    have h2 : (s / 2).testBit 31 = false := Nat.testBit_lt_two_pow (by omega)
    have h3 := congrArg (fun z => Nat.testBit z 31) h0
    simp only [Nat.testBit_xor, h2, Nat.zero_testBit] at h3
    revert h3
    decide
  · rw [if_neg h1, Nat.xor_zero] at h0
    omega
set_option maxRecDepth 100000 in
theorem steps_zero (k : Nat) : ∀ s, s < 4294967296 → steps k s = 0 → s = 0 := by
  induction k with
  | zero => intro s _ h; exact h
  | succ k ih => intro s h h0; exact step_zero h (ih _ (step_lt h) h0)
set_option maxRecDepth 100000 in
theorem steps_0 (k : Nat) : steps k 0 = 0 := by
  induction k with
  | zero => rfl
  | succ k ih => simp only [steps]; exact ih

/-- bytes as one number, the lowest first -/
def num : List Int → Nat
  | [] => 0
  | x :: xs => x.toNat + 256 * num xs
def raw (s : Nat) (l : List Int) : Nat := l.foldl (fun s x => steps 8 (s ^^^ x.toNat)) s
def sum (l : List Int) : Nat := raw ones l ^^^ ones
def Bytes (l : List Int) : Prop := ∀ z ∈ l, 0 ≤ z ∧ z ≤ 255

set_option maxRecDepth 100000 in
theorem add_xor (x m : Nat) (h : x < 256) : x + 256 * m = x ^^^ (m * 2 ^ 8) := by
  apply Nat.eq_of_testBit_eq
  intro i
  rw [Nat.testBit_xor, Nat.add_comm, show 256 * m = 2 ^ 8 * m from rfl, Nat.testBit_two_pow_mul_add _ h, Nat.mul_comm m, Nat.testBit_two_pow_mul]
  by_cases hi : i < 8
  · rw [if_pos hi]; simp [show ¬ 8 ≤ i by omega]
  · rw [if_neg hi, Nat.testBit_lt_two_pow (Nat.lt_of_lt_of_le (show x < 2 ^ 8 from h) (Nat.pow_le_pow_right (by decide) (show 8 ≤ i by omega)))]
    simp [show 8 ≤ i by omega]
set_option maxRecDepth 100000 in
theorem raw_num : ∀ (l : List Int) (s : Nat), Bytes l → raw s l = steps (8 * l.length) (s ^^^ num l) := by
  intro l
  induction l with
  | nil => intro s _; simp [raw, num, steps]
  | cons x l ih =>
    intro s h
    have hx := h x (by simp)
    have h1 : raw s (x :: l) = raw (steps 8 (s ^^^ x.toNat)) l := rfl
    rw [h1, ih _ (fun z hz => h z (by simp [hz])), List.length_cons, show 8 * (l.length + 1) = 8 + 8 * l.length from by omega, steps_add]
    congr 1
    rw [num, add_xor _ _ (by omega), ← Nat.xor_assoc, steps_xor 8 (s ^^^ x.toNat), steps_pow]
set_option maxRecDepth 100000 in
theorem raw_lt (l : List Int) : ∀ s, s < 4294967296 → Bytes l → raw s l < 4294967296 := by
  induction l with
  | nil => intro s h _; exact h
  | cons x l ih =>
    intro s h hb
    have hx := hb x (by simp)
    refine ih _ (steps_lt 8 _ ?_) (fun z hz => hb z (by simp [hz]))
    exact Nat.xor_lt_two_pow (n := 32) h (by omega)
set_option maxRecDepth 100000 in
theorem raw_app (s : Nat) (a b : List Int) : raw s (a ++ b) = raw (raw s a) b := by simp [raw, List.foldl_append]
set_option maxRecDepth 100000 in
theorem raw_snoc (s : Nat) (a : List Int) (x : Int) : raw s (a ++ [x]) = steps 8 (raw s a ^^^ x.toNat) := by simp [raw, List.foldl_append]
set_option maxRecDepth 100000 in
theorem sum_lt {l : List Int} (h : Bytes l) : sum l < 4294967296 := Nat.xor_lt_two_pow (n := 32) (raw_lt l _ (by decide) h) (by decide)

/-- a number's four bytes, the lowest first -/
def le4 (s : Nat) : List Int := [((s % 256 : Nat) : Int), ((s / 256 % 256 : Nat) : Int), ((s / 65536 % 256 : Nat) : Int), ((s / 16777216 % 256 : Nat) : Int)]
set_option maxRecDepth 100000 in
theorem le4_bytes (s : Nat) : Bytes (le4 s) := by
  intro z hz
  simp only [le4, List.mem_cons, List.not_mem_nil, or_false] at hz
  omega
set_option maxRecDepth 100000 in
theorem num_le4 {s : Nat} (h : s < 4294967296) : num (le4 s) = s := by
  simp only [le4, num]; omega
set_option maxRecDepth 100000 in
theorem le4_num {q : List Int} (h : Bytes q) (h4 : q.length = 4) : le4 (num q) = q ∧ num q < 4294967296 := by
  match q, h4 with
  | [a, b, c, d], _ =>
    have ha := h a (by simp)
    have hb := h b (by simp)
    have hc := h c (by simp)
    have hd := h d (by simp)
    simp only [le4, num]
    refine ⟨?_, by omega⟩
    congr 1
    · omega
    congr 1
    · omega
    congr 1
    · omega
    congr 1
    omega

def lock (l : List Int) : List Int := l ++ le4 (sum l)
def opn (l : List Int) : Option (List Int) := if 4 ≤ l.length ∧ lock (l.take (l.length - 4)) = l then some (l.take (l.length - 4)) else none
set_option maxRecDepth 100000 in
theorem lock_length (l : List Int) : (lock l).length = l.length + 4 := by simp [lock, le4]
set_option maxRecDepth 100000 in
theorem lock_bytes {l : List Int} (h : Bytes l) : Bytes (lock l) := by
  intro z hz
  rcases List.mem_append.1 hz with hz | hz
  · exact h z hz
  · exact le4_bytes _ z hz
set_option maxRecDepth 100000 in
theorem opn_lock (l : List Int) : opn (lock l) = some l := by
  have h : (lock l).take ((lock l).length - 4) = l := by rw [lock_length, Nat.add_sub_cancel]; simp [lock]
  rw [opn, h, if_pos ⟨by rw [lock_length]; omega, rfl⟩]
set_option maxRecDepth 100000 in
theorem opn_some {l y : List Int} (h : opn l = some y) : lock y = l := by
  rw [opn] at h
  split at h
  · rename_i h1
    cases h
    exact h1.2
  · cases h

/-- what is left of a sealed text -/
def rest : Nat := steps 32 ones
set_option maxRecDepth 100000 in
theorem raw_lock {l : List Int} (h : Bytes l) : raw ones (lock l) = rest := by
  rw [lock, raw_app, raw_num _ _ (le4_bytes _), num_le4 (sum_lt h)]
  show steps 32 (raw ones l ^^^ (raw ones l ^^^ ones)) = rest
  rw [← Nat.xor_assoc, Nat.xor_self, Nat.zero_xor]; rfl
set_option maxRecDepth 100000 in
theorem lock_of {l : List Int} (h : Bytes l) (h4 : 4 ≤ l.length) (hr : raw ones l = rest) : lock (l.take (l.length - 4)) = l := by
  obtain ⟨a, ha⟩ : ∃ a, a = l.take (l.length - 4) := ⟨_, rfl⟩
  obtain ⟨q, hq⟩ : ∃ q, q = l.drop (l.length - 4) := ⟨_, rfl⟩
  have hl : l = a ++ q := by rw [ha, hq, List.take_append_drop]
  have hqb : Bytes q := fun z hz => h z (by rw [hq] at hz; exact List.mem_of_mem_drop hz)
  have hab : Bytes a := fun z hz => h z (by rw [ha] at hz; exact List.mem_of_mem_take hz)
  have hq4 : q.length = 4 := by rw [hq, List.length_drop]; omega
  rw [← ha]
  rw [hl, raw_app, raw_num _ _ hqb, hq4] at hr
  have hlt := le4_num hqb hq4
  have hz : steps 32 (raw ones a ^^^ num q ^^^ ones) = 0 := by
    rw [steps_xor]
    have : steps 32 (raw ones a ^^^ num q) = steps 32 ones := hr
    rw [this, Nat.xor_self]
  have h0 := steps_zero 32 _ (Nat.xor_lt_two_pow (n := 32) (Nat.xor_lt_two_pow (n := 32) (raw_lt a _ (by decide) hab) hlt.2) (by decide)) hz
  have hs : sum a = num q := by
    unfold sum
    have e : raw ones a ^^^ ones ^^^ num q = 0 := by rw [Nat.xor_assoc, Nat.xor_comm ones, ← Nat.xor_assoc]; exact h0
    exact xor_same e
  rw [lock, hs, hlt.1, ← hl]
set_option maxRecDepth 100000 in
theorem opn_iff {l : List Int} (h : Bytes l) (h4 : 4 ≤ l.length) : (opn l).isSome = true ↔ raw ones l = rest := by
  constructor
  · intro h1
    obtain ⟨y, hy⟩ := Option.isSome_iff_exists.1 h1
    have := opn_some hy
    rw [← this]
    refine raw_lock ?_
    have hy2 : y = l.take (l.length - 4) := by
      rw [opn] at hy
      split at hy
      · cases hy; rfl
      · cases hy
    rw [hy2]
    exact fun z hz => h z (List.mem_of_mem_take hz)
  · intro h1
    rw [opn, if_pos ⟨h4, lock_of h h4 h1⟩]; rfl

set_option maxRecDepth 100000 in
/-- bytes of which some bits are turned -/
theorem num_flip : ∀ (l : List Int) (j y : Nat), Bytes l → j < l.length → y < 256 → num (l.set j (((l.getD j 0).toNat ^^^ y : Nat) : Int)) = num l ^^^ (y * 2 ^ (8 * j)) := by
  intro l
  induction l with
  | nil => intro j y _ h _; simp at h
  | cons x l ih =>
    intro j y hb hj hy
    have hx := hb x (by simp)
    have hlt : x.toNat ^^^ y < 256 := Nat.xor_lt_two_pow (n := 8) (by omega) hy
    cases j with
    | zero =>
      simp only [List.set_cons_zero, List.getD_cons_zero, num]
      rw [Int.toNat_natCast, add_xor _ _ hlt, add_xor _ _ (by omega), Nat.mul_zero, Nat.pow_zero, Nat.mul_one, Nat.xor_assoc, Nat.xor_comm y, Nat.xor_assoc]
    | succ j =>
      simp only [List.set_cons_succ, List.getD_cons_succ, num]
      rw [ih j y (fun z hz => hb z (by simp [hz])) (by simpa using hj) hy, add_xor _ _ (by omega), add_xor _ _ (by omega), Nat.xor_assoc]
      congr 1
      rw [show 8 * (j + 1) = 8 * j + 8 from by omega, Nat.pow_add, ← Nat.mul_assoc]
      rw [Nat.mul_comm _ (2 ^ 8), Nat.mul_comm (num l), Nat.mul_comm _ (2 ^ 8)]
      apply Nat.eq_of_testBit_eq
      intro i
      simp only [Nat.testBit_xor, Nat.testBit_two_pow_mul]
      cases decide (8 ≤ i) <;> simp
set_option maxRecDepth 100000 in
theorem flip_seen {l c : List Int} {B f : Nat} (hl : Bytes l) (hc : Bytes c) (hlen : c.length = l.length) (h4 : 4 ≤ l.length) (hs : raw ones l = rest) (hB : B < 4294967296) (hf : f ≤ 8 * l.length) (hn : num c = num l ^^^ (B * 2 ^ f)) :
    (opn c).isSome = decide (B = 0) := by
  have h1 : raw ones c = rest ^^^ steps (8 * l.length - f) B := by
    rw [raw_num _ _ hc, hlen, hn, ← Nat.xor_assoc, steps_xor, ← raw_num _ _ hl, hs]
    congr 1
    rw [show 8 * l.length = f + (8 * l.length - f) from by omega, steps_add, steps_pow]
    congr 1
    omega
  by_cases h0 : B = 0
  · have h2 := (opn_iff hc (by omega)).2 (by rw [h1, h0, steps_0, Nat.xor_zero])
    rw [h2]; simp [h0]
  · cases h3 : (opn c).isSome with
    | false => simp [h0]
    | true =>
      exfalso
      have h4 := (opn_iff hc (by omega)).1 h3
      rw [h1] at h4
      have h5 : steps (8 * l.length - f) B = 0 := by
        have := congrArg (fun z => rest ^^^ z) h4
        simpa [← Nat.xor_assoc] using this
      exact h0 (steps_zero _ _ hB h5)

set_option maxRecDepth 100000 in
theorem num_xor3 : ∀ (d a b c : List Int), Bytes a → Bytes b → Bytes c → a.length = d.length → b.length = d.length → c.length = d.length → (∀ i, i < d.length → d.getD i 0 = (((a.getD i 0).toNat ^^^ (b.getD i 0).toNat ^^^ (c.getD i 0).toNat : Nat) : Int)) → num d = num a ^^^ num b ^^^ num c := by
  intro d
  induction d with
  | nil =>
    intro a b c _ _ _ ha hb hc _
    obtain rfl := List.eq_nil_of_length_eq_zero ha
    obtain rfl := List.eq_nil_of_length_eq_zero hb
    obtain rfl := List.eq_nil_of_length_eq_zero hc
    rfl
  | cons x d ih =>
    intro a b c h1 h2 h3 ha hb hc hx
    match a, b, c, ha, hb, hc with
    | p :: a, q :: b, r :: c, ha, hb, hc =>
      have hp := h1 p (by simp)
      have hq := h2 q (by simp)
      have hr := h3 r (by simp)
      have e0 := hx 0 (by simp)
      simp only [List.getD_cons_zero] at e0
      have hlt : p.toNat ^^^ q.toNat ^^^ r.toNat < 256 := Nat.xor_lt_two_pow (n := 8) (Nat.xor_lt_two_pow (n := 8) (by omega) (by omega)) (by omega)
      have e1 := ih a b c (fun z hz => h1 z (by simp [hz])) (fun z hz => h2 z (by simp [hz])) (fun z hz => h3 z (by simp [hz])) (by simpa using ha) (by simpa using hb) (by simpa using hc) (fun i hi => by
        have := hx (i + 1) (by simpa using hi)
        simpa using this)
      simp only [num]
      rw [e0, Int.toNat_natCast, e1, add_xor _ _ hlt, add_xor p.toNat _ (by omega), add_xor q.toNat _ (by omega), add_xor r.toNat _ (by omega)]
      rw [Nat.mul_comm _ (2 ^ 8), Nat.mul_comm _ (2 ^ 8), Nat.mul_comm _ (2 ^ 8), Nat.mul_comm _ (2 ^ 8)]
      apply Nat.eq_of_testBit_eq
      intro i
      simp only [Nat.testBit_xor, Nat.testBit_two_pow_mul]
      cases decide (8 ≤ i) <;> cases p.toNat.testBit i <;> cases q.toNat.testBit i <;> cases r.toNat.testBit i <;> simp
set_option maxRecDepth 100000 in
theorem sum_xor3 {d a b c : List Int} (hd : Bytes d) (h1 : Bytes a) (h2 : Bytes b) (h3 : Bytes c) (ha : a.length = d.length) (hb : b.length = d.length) (hc : c.length = d.length) (hx : ∀ i, i < d.length → d.getD i 0 = (((a.getD i 0).toNat ^^^ (b.getD i 0).toNat ^^^ (c.getD i 0).toNat : Nat) : Int)) :
    sum d = sum a ^^^ sum b ^^^ sum c := by
  unfold sum
  rw [raw_num _ _ hd, raw_num _ _ h1, raw_num _ _ h2, raw_num _ _ h3, ha, hb, hc, num_xor3 d a b c h1 h2 h3 ha hb hc hx]
  simp only [steps_xor]
  apply Nat.eq_of_testBit_eq
  intro i
  simp only [Nat.testBit_xor]
  cases (steps (8 * d.length) ones).testBit i <;> cases ones.testBit i <;> simp

end Crc
end Go.Proofs.Ytbfjihbkkcggmaa

/- The document's reading of an image's numbers, flag by flag, in plain lists; and what it comes to: nothing of the program. -/
namespace Go.Proofs.Ytbfjihbkkcggmaa
namespace Img

/-- a number, what is behind it, and whether there is one -/
def dTake (b : List Int) : Nat × List Int × Bool :=
  match take 2000000 b with
  | some (n, r) => (n, r, true)
  | none => (0, [], false)
def dCost (b : List Int) : Nat × List Int × Bool :=
  match Var.take b with
  | some (n, r) => (n, r, true)
  | none => (0, [], false)
def dArcs (i : Int) : Nat → Int → List Int → List (Int × Int) × List Int × Bool
  | 0, _, b => ([], b, true)
  | k + 1, p, b =>
    if (dTake b).2.2 && (dTake (dTake b).2.1).2.2 then
      ((p + 1 + ((dTake b).1 : Int), i + 1 + ((dTake (dTake b).2.1).1 : Int)) :: (dArcs i k (p + 1 + ((dTake b).1 : Int)) (dTake (dTake b).2.1).2.1).1,
        (dArcs i k (p + 1 + ((dTake b).1 : Int)) (dTake (dTake b).2.1).2.1).2.1, (dArcs i k (p + 1 + ((dTake b).1 : Int)) (dTake (dTake b).2.1).2.1).2.2)
    else ([(p + 1 + ((dTake b).1 : Int), i + 1 + ((dTake (dTake b).2.1).1 : Int))], (dTake (dTake b).2.1).2.1, false)
def dState (i : Int) (b : List Int) : Tri.St × List Int × Bool :=
  if (dTake b).2.2 then
    (⟨decide ((dTake b).1 % 2 = 1), (dArcs i ((dTake b).1 / 2) (-1) (dTake b).2.1).1⟩, (dArcs i ((dTake b).1 / 2) (-1) (dTake b).2.1).2.1, (dArcs i ((dTake b).1 / 2) (-1) (dTake b).2.1).2.2)
  else (⟨false, []⟩, [], false)
def dStates : Nat → Int → List Int → List Tri.St × List Int × Bool
  | 0, _, b => ([], b, true)
  | k + 1, i, b =>
    if (dState i b).2.2 then ((dState i b).1 :: (dStates k (i + 1) (dState i b).2.1).1, (dStates k (i + 1) (dState i b).2.1).2.1, (dStates k (i + 1) (dState i b).2.1).2.2)
    else ([(dState i b).1], (dState i b).2.1, false)
def dInts : Nat → List Int → List Int × List Int × Bool
  | 0, b => ([], b, true)
  | k + 1, b =>
    if (dTake b).2.2 then (((dTake b).1 : Int) :: (dInts k (dTake b).2.1).1, (dInts k (dTake b).2.1).2.1, (dInts k (dTake b).2.1).2.2)
    else ([((dTake b).1 : Int)], (dTake b).2.1, false)
def dSide (b : List Int) : List Int × List Int × Bool :=
  if (dTake b).2.2 then dInts (dTake b).1 (dTake b).2.1 else ([], [], false)
def dRule (b : List Int) : Rul × List Int × Bool :=
  (⟨(dSide b).1, (dSide (dSide b).2.1).1, ((dCost (dSide (dSide b).2.1).2.1).1 : Int)⟩, (dCost (dSide (dSide b).2.1).2.1).2.1, (dSide b).2.2 && (dSide (dSide b).2.1).2.2 && (dCost (dSide (dSide b).2.1).2.1).2.2)
def dRules : Nat → List Int → List Rul × List Int × Bool
  | 0, b => ([], b, true)
  | k + 1, b =>
    if (dRule b).2.2 then ((dRule b).1 :: (dRules k (dRule b).2.1).1, (dRules k (dRule b).2.1).2.1, (dRules k (dRule b).2.1).2.2)
    else ([(dRule b).1], (dRule b).2.1, false)
def dFour : Nat → List Int → List Int × List Int × Bool
  | 0, b => ([], b, true)
  | k + 1, b => (((dCost b).1 : Int) :: (dFour k (dCost b).2.1).1, (dFour k (dCost b).2.1).2.1, (dCost b).2.2 && (dFour k (dCost b).2.1).2.2)
def dCosts (b : List Int) : File.Cst × List Int × Bool :=
  if (dFour 4 b).2.2 && (dTake (dFour 4 b).2.1).2.2 then
    (⟨(dFour 4 b).1, (dRules (dTake (dFour 4 b).2.1).1 (dTake (dFour 4 b).2.1).2.1).1⟩, (dRules (dTake (dFour 4 b).2.1).1 (dTake (dFour 4 b).2.1).2.1).2.1, (dRules (dTake (dFour 4 b).2.1).1 (dTake (dFour 4 b).2.1).2.1).2.2)
  else (⟨(dFour 4 b).1, []⟩, (dTake (dFour 4 b).2.1).2.1, false)
def dStatesOf (b : List Int) : List Tri.St × List Int × Bool :=
  if (dTake b).2.2 then dStates (dTake b).1 0 (dTake b).2.1 else ([], [], false)
def dBody (b : List Int) : Im × Bool :=
  (⟨(dStatesOf b).1, (dCosts (dStatesOf b).2.1).1⟩, (dStatesOf b).2.2 && (dCosts (dStatesOf b).2.1).2.2)

/-! ### where the numbers are there, both readings tell the same -/
set_option maxRecDepth 100000 in
theorem dTake_of {b r : List Int} {n : Nat} (h : take 2000000 b = some (n, r)) : dTake b = (n, r, true) := by rw [dTake, h]
set_option maxRecDepth 100000 in
theorem dCost_of {b r : List Int} {n : Nat} (h : Var.take b = some (n, r)) : dCost b = (n, r, true) := by rw [dCost, h]
set_option maxRecDepth 100000 in
theorem dArcs_of (i : Int) : ∀ (k : Nat) (p : Int) (b : List Int) (l : List (Int × Int)) (z : List Int), pArcs 2000000 i k p b = some (l, z) → dArcs i k p b = (l, z, true)
  | 0, p, b, l, z, h => by
    rw [pArcs] at h
    cases h; rfl
  | k + 1, p, b, l, z, h => by
    rw [pArcs] at h
    split at h
    · cases h
    · rename_i s r h1
      split at h
      · cases h
      · rename_i t q h2
        split at h
        · cases h
        · rename_i l' z' h3
          cases h
          rw [dArcs, dTake_of h1]
          simp only
          rw [dTake_of h2]
          simp only
          rw [dArcs_of i k _ _ _ _ h3]
          rfl
set_option maxRecDepth 100000 in
theorem dState_of {i : Int} {b z : List Int} {s : Tri.St} (h : pState 2000000 i b = some (s, z)) : dState i b = (s, z, true) := by
  rw [pState] at h
  split at h
  · cases h
  · rename_i n r h1
    split at h
    · cases h
    · rename_i l z' h2
      cases h
      rw [dState, dTake_of h1]
      simp only
      rw [dArcs_of i _ _ _ _ _ h2]
      rfl
set_option maxRecDepth 100000 in
theorem dStates_of : ∀ (k : Nat) (i : Int) (b : List Int) (l : List Tri.St) (z : List Int), pStates 2000000 k i b = some (l, z) → dStates k i b = (l, z, true)
  | 0, i, b, l, z, h => by
    rw [pStates] at h
    cases h; rfl
  | k + 1, i, b, l, z, h => by
    rw [pStates] at h
    split at h
    · cases h
    · rename_i s r h1
      split at h
      · cases h
      · rename_i l' z' h2
        cases h
        rw [dStates, dState_of h1]
        simp only
        rw [dStates_of k _ _ _ _ h2]
        rfl
set_option maxRecDepth 100000 in
theorem dInts_of : ∀ (k : Nat) (b : List Int) (l : List Int) (z : List Int), pInts 2000000 k b = some (l, z) → dInts k b = (l, z, true)
  | 0, b, l, z, h => by
    rw [pInts] at h
    cases h; rfl
  | k + 1, b, l, z, h => by
    rw [pInts] at h
    split at h
    · cases h
    · rename_i s r h1
      split at h
      · cases h
      · rename_i l' z' h2
        cases h
        rw [dInts, dTake_of h1]
        simp only
        rw [dInts_of k _ _ _ h2]
        rfl
set_option maxRecDepth 100000 in
theorem dSide_of {b l z : List Int} (h : pSide 2000000 b = some (l, z)) : dSide b = (l, z, true) := by
  rw [pSide] at h
  split at h
  · cases h
  · rename_i n r h1
    rw [dSide, dTake_of h1]
    simp only
    rw [dInts_of _ _ _ _ h]
    rfl
set_option maxRecDepth 100000 in
theorem dRule_of {b z : List Int} {x : Rul} (h : pRule 2000000 b = some (x, z)) : dRule b = (x, z, true) := by
  rw [pRule] at h
  split at h
  · cases h
  · rename_i L q h1
    split at h
    · cases h
    · rename_i R q2 h2
      split at h
      · cases h
      · rename_i c z' h3
        cases h
        rw [dRule, dSide_of h1]
        simp only
        rw [dSide_of h2]
        simp only
        rw [dCost_of h3]
        rfl
set_option maxRecDepth 100000 in
theorem dRules_of : ∀ (k : Nat) (b : List Int) (l : List Rul) (z : List Int), pRules 2000000 k b = some (l, z) → dRules k b = (l, z, true)
  | 0, b, l, z, h => by
    rw [pRules] at h
    cases h; rfl
  | k + 1, b, l, z, h => by
    rw [pRules] at h
    split at h
    · cases h
    · rename_i s r h1
      split at h
      · cases h
      · rename_i l' z' h2
        cases h
        rw [dRules, dRule_of h1]
        simp only
        rw [dRules_of k _ _ _ h2]
        rfl
set_option maxRecDepth 100000 in
theorem dFour_of : ∀ (k : Nat) (b : List Int) (l : List Int) (z : List Int), pFour k b = some (l, z) → dFour k b = (l, z, true)
  | 0, b, l, z, h => by
    rw [pFour] at h
    cases h; rfl
  | k + 1, b, l, z, h => by
    rw [pFour] at h
    split at h
    · cases h
    · rename_i s r h1
      split at h
      · cases h
      · rename_i l' z' h2
        cases h
        rw [dFour, dCost_of h1]
        simp only
        rw [dFour_of k _ _ _ h2]
        rfl
set_option maxRecDepth 100000 in
theorem dCosts_of {b z : List Int} {c : File.Cst} (h : pCosts 2000000 b = some (c, z)) : dCosts b = (c, z, true) := by
  rw [pCosts] at h
  split at h
  · cases h
  · rename_i l r h1
    split at h
    · cases h
    · rename_i n q h2
      split at h
      · cases h
      · rename_i rs z' h3
        cases h
        rw [dCosts, dFour_of _ _ _ _ h1]
        simp only
        rw [dTake_of h2]
        simp only
        rw [dRules_of _ _ _ _ h3]
        rfl
set_option maxRecDepth 100000 in
theorem dBody_of {b z : List Int} {x : Im} (h : pBody 2000000 b = some (x, z)) : dBody b = (x, true) := by
  rw [pBody] at h
  split at h
  · cases h
  · rename_i n r h1
    split at h
    · cases h
    · rename_i ss q h2
      split at h
      · cases h
      · rename_i c z' h3
        cases h
        rw [dBody, dStatesOf, dTake_of h1]
        simp only [if_true]
        rw [dStates_of _ _ _ _ _ h2]
        simp only
        rw [dCosts_of h3]
        rfl

/-! ### what is written, and what is read -/
open Classical in
/-- an image's bytes, or the error -/
noncomputable def write (x : Im) : Sum (List Int) Int := if Tri.check x.sts = true then if File.check x.c = true then .inl (Crc.lock (body x)) else .inr 60 else .inr 100
/-- x is the image that the bytes are -/
def IsOf (b : List Int) (x : Im) : Prop := Plain x.c ∧ Ok x ∧ Crc.lock (body x) = b
set_option maxRecDepth 100000 in
theorem lock_inj {a b : List Int} (h : Crc.lock a = Crc.lock b) : a = b := by
  have h1 := Crc.opn_lock a
  rw [h, Crc.opn_lock] at h1
  cases h1; rfl
set_option maxRecDepth 100000 in
theorem isOf_one {b : List Int} {x y : Im} (hx : IsOf b x) (hy : IsOf b y) : x = y :=
  body_inj hx.2.1 hy.2.1 hx.1 hy.1 (lock_inj (hx.2.2.trans hy.2.2.symm))
set_option maxRecDepth 100000 in
theorem isOf_opn {b : List Int} {x : Im} (h : IsOf b x) : Crc.opn b = some (body x) := by rw [← h.2.2]; exact Crc.opn_lock _
open Classical in
/-- the image that bytes are, or the error -/
noncomputable def read (b : List Int) : Sum Im Int := if h : ∃ x, IsOf b x then .inl h.choose else if Crc.opn b = none then .inr 140 else .inr 150
set_option maxRecDepth 100000 in
theorem read_of {b : List Int} {x : Im} (h : IsOf b x) : read b = .inl x := by
  have h1 : ∃ x, IsOf b x := ⟨x, h⟩
  rw [read, dif_pos h1]
  exact congrArg _ (isOf_one h1.choose_spec h)
set_option maxRecDepth 100000 in
theorem read_crc {b : List Int} (h : Crc.opn b = none) : read b = .inr 140 := by
  rw [read, dif_neg, if_pos h]
  rintro ⟨x, hx⟩
  rw [isOf_opn hx] at h
  cases h
set_option maxRecDepth 100000 in
theorem read_form {b : List Int} (h : ¬ Crc.opn b = none) (hx : ∀ x, ¬ IsOf b x) : read b = .inr 150 := by
  rw [read, dif_neg (fun ⟨x, h'⟩ => hx x h'), if_neg h]
set_option maxRecDepth 100000 in
/-- bytes that are few are of images whose numbers are small -/
theorem fits_few {x : Im} {n : Nat} (h : (body x).length ≤ n) (hn : n ≤ 1000000) : Fits 2000000 x.sts := by
  intro s hs
  have h1 : (nums x).length ≤ (body x).length := flat_len _
  have h2 : ∀ (l : List Tri.St) (i : Int), s ∈ l → 2 * s.arcs.length + 1 ≤ (stsNums i l).length := by
    have h3 : ∀ (l : List (Int × Int)) (i p : Int), (arcNums i p l).length = 2 * l.length := by
      intro l
      induction l with
      | nil => intro i p; rfl
      | cons a l ih => intro i p; simp only [arcNums, List.length_cons, ih]; omega
    intro l
    induction l with
    | nil => intro i h; cases h
    | cons t l ih =>
      intro i h
      rw [stsNums, List.length_append, stNums, List.length_cons, h3]
      rcases List.mem_cons.1 h with rfl | h
      · omega
      · have := ih (i + 1) h; omega
  have h4 := h2 x.sts 0 hs
  have h5 : (nums x).length = (stsNums 0 x.sts).length + 1 + (costNums x.c).length := by
    rw [nums, List.length_append, List.length_cons]
  omega
set_option maxRecDepth 100000 in
theorem dBody_is {b a : List Int} {x : Im} (h : IsOf b x) (hb : b.length ≤ 1000000) (ha : Crc.opn b = some a) : dBody a = (x, true) := by
  rw [isOf_opn h] at ha
  cases ha
  have hl : (body x).length ≤ b.length := by rw [← h.2.2, Crc.lock_length]; omega
  have h1 := pBody_enc (M := 2000000) (by omega) (fits_few (Nat.le_trans hl hb) (by omega)) h.1 h.2.1 []
  rw [List.append_nil] at h1
  exact dBody_of h1

end Img
end Go.Proofs.Ytbfjihbkkcggmaa

/- More of images as numbers, in plain lists: nothing of the program. -/
namespace Go.Proofs.Ytbfjihbkkcggmaa

/-- numbers as the program has them -/
def ints (l : List Nat) : List Int := l.map fun n : Nat => ((n : Nat) : Int)
set_option maxRecDepth 100000 in
theorem ints_toNat (l : List Nat) : (ints l).map Int.toNat = l := by
  unfold ints
  rw [List.map_map]
  conv => rhs; rw [← List.map_id l]
  exact List.map_congr_left fun x _ => by simp
set_option maxRecDepth 100000 in
theorem ints_nonneg (l : List Nat) : ∀ z ∈ ints l, 0 ≤ z := by
  intro z hz
  obtain ⟨n, _, rfl⟩ := List.mem_map.1 hz
  omega
set_option maxRecDepth 100000 in
theorem ints_length (l : List Nat) : (ints l).length = l.length := by simp [ints]
set_option maxRecDepth 100000 in
theorem ints_app (a b : List Nat) : ints (a ++ b) = ints a ++ ints b := by simp [ints]

namespace Img
set_option maxRecDepth 100000 in
/-- what each arc of a state that may be is -/
theorem arcs_at {n i : Nat} : ∀ (l : List (Int × Int)) (p : Option Int), Tri.arcsOk n i p l = true → ∀ k, k < l.length →
    (0 ≤ (l.getD k (0, 0)).1 ∧ (l.getD k (0, 0)).1 ≤ 1114111) ∧ ((i : Int) < (l.getD k (0, 0)).2 ∧ (l.getD k (0, 0)).2 < (n : Int)) ∧ (∀ m, k = m + 1 → (l.getD m (0, 0)).1 < (l.getD k (0, 0)).1)
  | [], _, _, k, hk => by simp at hk
  | a :: l, p, h, k, hk => by
    unfold Tri.arcsOk at h
    simp only [Bool.and_eq_true, decide_eq_true_eq] at h
    obtain ⟨⟨⟨⟨h1, h2⟩, h3⟩, h4⟩, h5⟩ := h
    cases k with
    | zero => exact ⟨good_le h1, ⟨h2, h3⟩, fun m hm => by omega⟩
    | succ k =>
      have ih := arcs_at l (some a.1) h5 k (by simpa using hk)
      refine ⟨by simpa using ih.1, by simpa using ih.2.1, fun m hm => ?_⟩
      obtain rfl : m = k := by omega
      cases m with
      | zero =>
        cases l with
        | nil => simp at hk
        | cons b l =>
          unfold Tri.arcsOk at h5
          simp only [Bool.and_eq_true, decide_eq_true_eq, Tri.behind] at h5
          simpa using h5.1.2
      | succ m => simpa using ih.2.2 m rfl
set_option maxRecDepth 100000 in
theorem arcNums_len (i : Int) : ∀ (l : List (Int × Int)) (p : Int), (arcNums i p l).length = 2 * l.length
  | [], p => rfl
  | a :: l, p => by simp only [arcNums, List.length_cons, arcNums_len i l]; omega
set_option maxRecDepth 100000 in
theorem arcNums_small {n i : Nat} (hn : n ≤ 6001) : ∀ (l : List (Int × Int)) (p : Option Int), Tri.arcsOk n i p l = true → (∀ q, p = some q → 0 ≤ q) → ∀ x ∈ arcNums (i : Int) (p.getD (-1)) l, x ≤ 1114111
  | [], p, _, _, x, hx => by simp [arcNums] at hx
  | a :: l, p, h, hp, x, hx => by
    unfold Tri.arcsOk at h
    simp only [Bool.and_eq_true, decide_eq_true_eq] at h
    obtain ⟨⟨⟨⟨h1, h2⟩, h3⟩, h4⟩, h5⟩ := h
    have hg := good_le h1
    have hp1 : -1 ≤ p.getD (-1) := by
      cases p with
      | none => simp
      | some q => have := hp q rfl; simp; omega
    rw [arcNums] at hx
    rcases List.mem_cons.1 hx with rfl | hx
    · omega
    · rcases List.mem_cons.1 hx with rfl | hx
      · omega
      · exact arcNums_small hn l (some a.1) h5 (fun q hq => by cases hq; exact hg.1) x hx
set_option maxRecDepth 100000 in
/-- the numbers of one arc more -/
theorem arcNums_next (i : Int) : ∀ (l : List (Int × Int)) (p : Int) (k : Nat), k < l.length →
    (arcNums i p l).take (2 * (k + 1)) = (arcNums i p l).take (2 * k) ++ [((l.getD k (0, 0)).1 - (match k with | 0 => p | m + 1 => (l.getD m (0, 0)).1) - 1).toNat, ((l.getD k (0, 0)).2 - i - 1).toNat]
  | [], p, k, h => by simp at h
  | a :: l, p, 0, h => by simp [arcNums]
  | a :: l, p, k + 1, h => by
    have ih := arcNums_next i l a.1 k (by simpa using h)
    rw [arcNums, show 2 * (k + 1 + 1) = 2 * (k + 1) + 2 from by omega, List.take_succ_cons, List.take_succ_cons, ih, show 2 * (k + 1) = 2 * k + 2 from by omega, List.take_succ_cons, List.take_succ_cons]
    simp only [List.cons_append, List.getD_cons_succ]
    cases k with
    | zero => simp
    | succ m => simp
end Img

namespace Img
/-! ### how many bytes an image has at most -/
set_option maxRecDepth 100000 in
theorem flat_le : ∀ (l : List Nat), (∀ n ∈ l, n < 18446744073709551616) → (flat l).length ≤ 10 * l.length
  | [], _ => by simp [flat]
  | n :: l, h => by
    have h1 := flat_le l (fun m hm => h m (by simp [hm]))
    have h2 := Var.len_10 (h n (by simp))
    rw [flat_cons, List.length_append, List.length_cons]
    omega
set_option maxRecDepth 100000 in
theorem stsNums_len {n : Nat} (hn : n ≤ 6001) : ∀ (l : List Tri.St) (i : Nat), Tri.checkA n i l = true → (∀ s ∈ l, s.arcs.length ≤ 1114112) → (stsNums (i : Int) l).length ≤ 2228225 * l.length ∧ ∀ x ∈ stsNums (i : Int) l, x < 18446744073709551616
  | [], i, _, _ => by simp [stsNums]
  | s :: l, i, h, hf => by
    unfold Tri.checkA at h
    simp only [Bool.and_eq_true] at h
    have ih := stsNums_len hn l (i + 1) h.2 (fun x hx => hf x (by simp [hx]))
    rw [Int.natCast_add, Int.natCast_one] at ih
    have h1 := hf s (by simp)
    have h2 := arcNums_small hn s.arcs none h.1 (by intro q hq; cases hq)
    simp only [Option.getD_none] at h2
    have hh : headNum s ≤ 2 * s.arcs.length + 1 := by unfold headNum; split <;> omega
    constructor
    · rw [stsNums, List.length_append, stNums, List.length_cons, arcNums_len, List.length_cons]
      omega
    · intro x hx
      rw [stsNums, stNums] at hx
      rcases List.mem_append.1 hx with hx | hx
      · rcases List.mem_cons.1 hx with rfl | hx
        · omega
        · have := h2 x hx; omega
      · exact ih.2 x hx
set_option maxRecDepth 100000 in
theorem rulesNums_len : ∀ (l : List Rul), (∀ x ∈ l, Spec.fit x = true ∧ 0 ≤ x.C) → (rulesNums l).length ≤ 19 * l.length ∧ ∀ x ∈ rulesNums l, x < 18446744073709551616
  | [], _ => by simp [rulesNums]
  | r :: l, h => by
    have ih := rulesNums_len l (fun x hx => h x (by simp [hx]))
    obtain ⟨h1, h2, h3, h4, h5⟩ := fit_rule (h r (by simp)).1
    constructor
    · have e : rulesNums (r :: l) = ruleNums r ++ rulesNums l := by simp [rulesNums]
      rw [e, List.length_append, ruleNums, List.length_append, List.length_append, sideNums, sideNums, List.length_cons, List.length_cons, List.length_map, List.length_map, List.length_cons, List.length_cons, List.length_nil]
      omega
    · intro x hx
      have e : rulesNums (r :: l) = ruleNums r ++ rulesNums l := by simp [rulesNums]
      rw [e, ruleNums, sideNums, sideNums] at hx
      simp only [List.mem_append, List.mem_cons, List.mem_map, List.not_mem_nil, or_false] at hx
      rcases hx with ((rfl | ⟨z, hz, rfl⟩) | (rfl | ⟨z, hz, rfl⟩) | rfl) | hx
      · omega
      · have := side_small h1 z hz; omega
      · omega
      · have := side_small h2 z hz; omega
      · omega
      · exact ih.2 x hx
set_option maxRecDepth 100000 in
theorem body_len {x : Im} (hp : Plain x.c) (h : Ok x) : (body x).length ≤ 140000000000 := by
  obtain ⟨h1, h2, h3⟩ := check_sts h.1
  obtain ⟨g1, g2, g3, _⟩ := File.check_parts h.2
  have hs := stsNums_len h3 x.sts 0 h1 (arcs_few h.1)
  rw [Int.natCast_zero] at hs
  have hr := rulesNums_len x.c.rules (fun r hr => ⟨g3 r hr, hp.2.2 r hr⟩)
  have hl : (flat (nums x)).length ≤ 10 * (nums x).length := by
    apply flat_le
    intro n hn
    rw [nums, costNums] at hn
    simp only [List.mem_append, List.mem_cons, List.mem_map] at hn
    rcases hn with (rfl | hn) | ⟨z, hz, rfl⟩ | rfl | hn
    · omega
    · exact hs.2 n hn
    · have := hp.2.1 z hz; omega
    · omega
    · exact hr.2 n hn
  have hn : (nums x).length ≤ 14000000000 := by
    rw [nums, costNums, List.length_append, List.length_cons, List.length_append, List.length_map, List.length_cons, hp.1]
    have := hs.1
    have := hr.1
    omega
  rw [body]
  omega
end Img

end Go.Proofs.Ytbfjihbkkcggmaa

/- The program's reading of an image's numbers, wraps and all, in plain lists: nothing of the program. -/
namespace Go.Proofs.Ytbfjihbkkcggmaa
namespace Img

set_option maxRecDepth 100000 in
theorem wrap_small {x : Int} (h : -4611686018427387904 ≤ x ∧ x ≤ 4611686018427387904) : IntKind.i64.wrap x = x := by rw [IntKind.wrap_i64]; omega
/-- a number, more than another, and one more -/
def sg (s : Nat) (p : Int) : Int := IntKind.i64.wrap (IntKind.i64.wrap (IntKind.i64.wrap (s : Int) + p) + 1)
set_option maxRecDepth 100000 in
theorem sg_is {v p : Int} (h1 : -1 ≤ p) (h2 : p < v) (h3 : v ≤ 1114112) : sg (v - p - 1).toNat p = v := by
  have e : (((v - p - 1).toNat : Nat) : Int) = v - p - 1 := by omega
  unfold sg
  rw [e, wrap_small (x := v - p - 1) (by omega), wrap_small (x := v - p - 1 + p) (by omega), wrap_small (by omega)]
  omega
set_option maxRecDepth 100000 in
theorem sg_wf (s : Nat) (p : Int) : (Lit.int .i64 (sg s p)).wf = true := by
  apply WalkArith.wf_i64
  unfold sg
  rw [IntKind.wrap_i64]
  omega

def qArcs (i : Int) : Nat → Int → List Int → Option (List (Int × Int) × List Int)
  | 0, _, b => some ([], b)
  | k + 1, p, b =>
    match Var.take b with
    | none => none
    | some (s, r) =>
      match Var.take r with
      | none => none
      | some (t, q) =>
        match qArcs i k (sg s p) q with
        | none => none
        | some (l, z) => some ((sg s p, sg t i) :: l, z)
def qState (i : Int) (b : List Int) : Option (Tri.St × List Int) :=
  match Var.take b with
  | none => none
  | some (n, r) =>
    match qArcs i (n / 2) (-1) r with
    | none => none
    | some (l, z) => some (⟨decide (n % 2 = 1), l⟩, z)
def qStates : Nat → Int → List Int → Option (List Tri.St × List Int)
  | 0, _, b => some ([], b)
  | k + 1, i, b =>
    match qState i b with
    | none => none
    | some (s, r) =>
      match qStates k (i + 1) r with
      | none => none
      | some (l, z) => some (s :: l, z)
def qStatesOf (b : List Int) : Option (List Tri.St × List Int) :=
  match take 6001 b with
  | none => none
  | some (n, r) => qStates n 0 r
def qInts : Nat → List Int → Option (List Int × List Int)
  | 0, b => some ([], b)
  | k + 1, b =>
    match Var.take b with
    | none => none
    | some (s, r) =>
      match qInts k r with
      | none => none
      | some (l, z) => some (IntKind.i64.wrap (s : Int) :: l, z)
def qSide (b : List Int) : Option (List Int × List Int) :=
  match take 8 b with
  | none => none
  | some (n, r) => qInts n r
def qRule (b : List Int) : Option (Rul × List Int) :=
  match qSide b with
  | none => none
  | some (L, q) =>
    match qSide q with
    | none => none
    | some (R, q2) =>
      match Var.take q2 with
      | none => none
      | some (c, z) => some (⟨L, R, (c : Int)⟩, z)
def qRules : Nat → List Int → Option (List Rul × List Int)
  | 0, b => some ([], b)
  | k + 1, b =>
    match qRule b with
    | none => none
    | some (x, r) =>
      match qRules k r with
      | none => none
      | some (l, z) => some (x :: l, z)
def qCosts (b : List Int) : Option (File.Cst × List Int) :=
  match pFour 4 b with
  | none => none
  | some (l, r) =>
    match take 200 r with
    | none => none
    | some (n, q) =>
      match qRules n q with
      | none => none
      | some (rs, z) => some (⟨l, rs⟩, z)
def qBody (b : List Int) : Option (Im × List Int) :=
  match qStatesOf b with
  | none => none
  | some (ss, q) =>
    match qCosts q with
    | none => none
    | some (c, z) => some (⟨ss, c⟩, z)

/-! ### what is written is read so -/
set_option maxRecDepth 100000 in
theorem qArcs_enc {n i : Nat} (hn : n ≤ 6001) : ∀ (l : List (Int × Int)) (p : Option Int), Tri.arcsOk n i p l = true → (∀ q, p = some q → 0 ≤ q) → ∀ r,
    qArcs (i : Int) l.length (p.getD (-1)) (flat (arcNums (i : Int) (p.getD (-1)) l) ++ r) = some (l, r)
  | [], _, _, _, r => by simp [qArcs, arcNums, flat]
  | a :: l, p, h, hp, r => by
    unfold Tri.arcsOk at h
    simp only [Bool.and_eq_true, decide_eq_true_eq] at h
    obtain ⟨⟨⟨⟨h1, h2⟩, h3⟩, h4⟩, h5⟩ := h
    have hg := good_le h1
    have hlt : p.getD (-1) < a.1 := by
      cases p with
      | none => simp; omega
      | some q => simpa [Tri.behind] using h4
    have hp1 : -1 ≤ p.getD (-1) := by
      cases p with
      | none => simp
      | some q => have := hp q rfl; simp; omega
    have ih := qArcs_enc hn l (some a.1) h5 (fun q hq => by cases hq; exact hg.1) r
    simp only [Option.getD_some] at ih
    rw [List.length_cons, qArcs, arcNums, flat_cons, flat_cons, List.append_assoc, List.append_assoc, Var.take_enc (by omega)]
    simp only
    rw [Var.take_enc (by omega)]
    simp only
    rw [sg_is hp1 hlt (by omega), sg_is (v := a.2) (p := (i : Int)) (by omega) h2 (by omega), ih]
set_option maxRecDepth 100000 in
theorem qState_enc {n i : Nat} {s : Tri.St} (hn : n ≤ 6001) (h : Tri.arcsOk n i none s.arcs = true) (r : List Int) :
    qState (i : Int) (flat (stNums (i : Int) s) ++ r) = some (s, r) := by
  have hl := arcs_len _ _ h (by intro q hq; cases hq)
  simp only [Option.getD_none] at hl
  have hh : headNum s ≤ 2 * s.arcs.length + 1 := by unfold headNum; split <;> omega
  rw [qState, stNums, flat_cons, List.append_assoc, Var.take_enc (by omega)]
  simp only
  have h1 : headNum s / 2 = s.arcs.length := by unfold headNum; split <;> omega
  have h2 : decide (headNum s % 2 = 1) = s.final := by unfold headNum; cases s.final <;> simp <;> omega
  have h3 := qArcs_enc hn s.arcs none h (by intro q hq; cases hq) r
  simp only [Option.getD_none] at h3
  rw [h1, h3, h2]
set_option maxRecDepth 100000 in
theorem qStates_enc {n : Nat} (hn : n ≤ 6001) : ∀ (l : List Tri.St) (i : Nat), Tri.checkA n i l = true → ∀ r, qStates l.length (i : Int) (flat (stsNums (i : Int) l) ++ r) = some (l, r)
  | [], i, _, r => by simp [qStates, stsNums, flat]
  | s :: l, i, h, r => by
    unfold Tri.checkA at h
    simp only [Bool.and_eq_true] at h
    have ih := qStates_enc hn l (i + 1) h.2 r
    rw [Int.natCast_add, Int.natCast_one] at ih
    rw [List.length_cons, qStates, stsNums, flat_app, List.append_assoc, qState_enc hn h.1]
    simp only
    rw [ih]
set_option maxRecDepth 100000 in
theorem qInts_enc : ∀ (l : List Int), (∀ z ∈ l, 0 ≤ z ∧ z ≤ 1114111) → ∀ r, qInts l.length (flat (l.map Int.toNat) ++ r) = some (l, r)
  | [], _, r => by simp [qInts, flat]
  | z :: l, h, r => by
    have hz := h z (by simp)
    rw [List.length_cons, qInts, List.map_cons, flat_cons, List.append_assoc, Var.take_enc (by omega)]
    simp only
    rw [qInts_enc l (fun x hx => h x (by simp [hx])) r]
    simp only
    rw [show ((z.toNat : Nat) : Int) = z from by omega, wrap_small (by omega)]
set_option maxRecDepth 100000 in
theorem qSide_enc {l : List Int} (h : Utf.allGood l = true) (h8 : l.length ≤ 8) (r : List Int) : qSide (flat (sideNums l) ++ r) = some (l, r) := by
  rw [qSide, sideNums, flat_cons, List.append_assoc, take_flat (by omega) (by omega)]
  simp only
  exact qInts_enc l (fun z hz => by have := side_small h z hz; omega) r
set_option maxRecDepth 100000 in
theorem qRule_enc {x : Rul} (h : Spec.fit x = true) (h0 : 0 ≤ x.C) (r : List Int) : qRule (flat (ruleNums x) ++ r) = some (x, r) := by
  obtain ⟨h1, h2, h3, h4, h5⟩ := fit_rule h
  rw [qRule, ruleNums, flat_app, flat_app, List.append_assoc, List.append_assoc, qSide_enc h1 h3]
  simp only
  rw [qSide_enc h2 h4]
  simp only
  rw [flat_one, Var.take_enc (by omega)]
  simp only
  rw [show ((x.C.toNat : Nat) : Int) = x.C from by omega]
set_option maxRecDepth 100000 in
theorem qRules_enc : ∀ (l : List Rul), (∀ x ∈ l, Spec.fit x = true ∧ 0 ≤ x.C) → ∀ r, qRules l.length (flat (rulesNums l) ++ r) = some (l, r)
  | [], _, r => by simp [qRules, rulesNums, flat]
  | x :: l, h, r => by
    rw [List.length_cons, qRules, rulesNums, List.flatMap_cons, flat_app, List.append_assoc, qRule_enc (h x (by simp)).1 (h x (by simp)).2]
    simp only
    rw [show l.flatMap ruleNums = rulesNums l from rfl, qRules_enc l (fun y hy => h y (by simp [hy])) r]
set_option maxRecDepth 100000 in
theorem qCosts_enc {c : File.Cst} (hp : Plain c) (h : File.check c = true) (r : List Int) : qCosts (flat (costNums c) ++ r) = some (c, r) := by
  obtain ⟨h1, h2, h3, _⟩ := File.check_parts h
  rw [qCosts, costNums, flat_app, List.append_assoc]
  have h4 := pFour_enc c.base hp.2.1 (flat (c.rules.length :: rulesNums c.rules) ++ r)
  rw [hp.1] at h4
  rw [h4]
  simp only
  rw [flat_cons, List.append_assoc, take_flat (by omega) (by omega)]
  simp only
  rw [qRules_enc c.rules (fun x hx => ⟨h3 x hx, hp.2.2 x hx⟩) r]
set_option maxRecDepth 100000 in
theorem qBody_enc {x : Im} (hp : Plain x.c) (h : Ok x) (r : List Int) : qBody (body x ++ r) = some (x, r) := by
  obtain ⟨h1, h2, h3⟩ := check_sts h.1
  rw [body, nums, List.cons_append, flat_cons, flat_app, qBody, qStatesOf, List.append_assoc, List.append_assoc, take_flat (by omega) (by omega)]
  simp only
  have h4 := qStates_enc h3 x.sts 0 h1 (flat (costNums x.c) ++ r)
  rw [Int.natCast_zero] at h4
  rw [h4]
  simp only
  rw [qCosts_enc hp h.2 r]
set_option maxRecDepth 100000 in
/-- an image's bytes are read as it -/
theorem qBody_of {b a : List Int} {x : Im} (h : IsOf b x) (ha : Crc.opn b = some a) : qBody a = some (x, []) := by
  rw [isOf_opn h] at ha
  cases ha
  have h1 := qBody_enc h.1 h.2.1 []
  rwa [List.append_nil] at h1
set_option maxRecDepth 100000 in
/-- what is read is what was to be read, if it is written so -/
theorem read_form_of {b a : List Int} (ha : Crc.opn b = some a) (h : ∀ x r, qBody a = some (x, r) → ¬ IsOf b x) : read b = .inr 150 := by
  apply read_form (by rw [ha]; simp)
  intro x hx
  exact h x [] (qBody_of hx ha) hx

/-! ### a number, out of the first ten bytes -/
set_option maxRecDepth 100000 in
theorem upTo_ten (b : List Int) : ∀ k m, k ≤ m → Var.upTo k (b.take m) = Var.upTo k b := by
  induction b with
  | nil => intro k m _; simp
  | cons x b ih =>
    intro k m hk
    match k, m, hk with
    | 0, _, _ => simp [Var.upTo]
    | k + 1, m + 1, hk =>
      rw [List.take_succ_cons, Var.upTo, Var.upTo, ih k m (by omega)]
set_option maxRecDepth 100000 in
theorem num_ten (b : List Int) : Var.num (b.take 10) = Var.num b := by
  unfold Var.num; rw [upTo_ten b 10 10 (Nat.le_refl _)]
set_option maxRecDepth 100000 in
theorem take_ten_none {b : List Int} (h : Var.take (b.take 10) = none) : Var.take b = none := by
  cases h1 : Var.take b with
  | none => rfl
  | some p =>
    obtain ⟨n, r⟩ := p
    obtain ⟨h2, h3⟩ := Var.take_some h1
    have h10 := Var.len_10 h3
    rw [h2, List.take_append, List.take_of_length_le h10, Var.take_enc h3] at h
    cases h
set_option maxRecDepth 100000 in
theorem take_ten_some {b r : List Int} {n : Nat} (h : Var.take (b.take 10) = some (n, r)) : Var.take b = some (n, b.drop (Var.enc n).length) ∧ n < 18446744073709551616 ∧ (Var.enc n).length ≤ b.length := by
  obtain ⟨h2, h3⟩ := Var.take_some h
  have e : b = Var.enc n ++ (r ++ b.drop 10) := by
    conv => lhs; rw [← List.take_append_drop 10 b, h2, List.append_assoc]
  have h4 : Var.take b = some (n, r ++ b.drop 10) := by
    rw [e]
    conv => lhs; rw [Var.take_enc h3]
    rw [← e]
  refine ⟨?_, h3, by rw [e, List.length_append]; omega⟩
  rw [h4]
  congr 2
  conv => rhs; rw [e]
  simp
set_option maxRecDepth 100000 in
theorem take_less {b r : List Int} {n : Nat} (h : Var.take b = some (n, r)) : r.length < b.length := by
  obtain ⟨h2, _⟩ := Var.take_some h
  have hp := Var.enc_pos n
  rw [h2, List.length_append]; omega

end Img
end Go.Proofs.Ytbfjihbkkcggmaa
