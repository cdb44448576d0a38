/- Words as lists of numbers: how much two have alike, which stands ahead, words put in order. Plain lists; nothing of the program. -/
import Derived.WalkKit
namespace Go.Proofs.Ytflikfnehpaohaa

def common : List Int → List Int → Nat
  | x :: xs, y :: ys => if x = y then common xs ys + 1 else 0
  | _, _ => 0

def lessL : List Int → List Int → Bool
  | [], [] => false
  | [], _ :: _ => true
  | _ :: _, [] => false
  | x :: xs, y :: ys => if x = y then lessL xs ys else decide (x < y)

set_option maxRecDepth 100000 in
theorem common_nil_l (b : List Int) : common [] b = 0 := by cases b <;> rfl
set_option maxRecDepth 100000 in
theorem common_nil_r (a : List Int) : common a [] = 0 := by cases a <;> rfl

set_option maxRecDepth 100000 in
theorem common_le : ∀ a b : List Int, common a b ≤ a.length ∧ common a b ≤ b.length
  | [], b => by simp [common_nil_l]
  | x :: xs, [] => by simp [common_nil_r]
  | x :: xs, y :: ys => by
    have := common_le xs ys
    unfold common
    split <;> simp <;> omega

set_option maxRecDepth 100000 in
theorem common_comm : ∀ a b : List Int, common a b = common b a
  | [], b => by simp [common_nil_l, common_nil_r]
  | x :: xs, [] => by simp [common_nil_l, common_nil_r]
  | x :: xs, y :: ys => by
    have := common_comm xs ys
    unfold common
    by_cases h : x = y
    · subst h; simp [this]
    · have h' : ¬ y = x := fun e => h e.symm
      simp [h, h']

set_option maxRecDepth 100000 in
theorem common_self : ∀ a : List Int, common a a = a.length
  | [] => rfl
  | x :: xs => by simp [common, common_self xs]

set_option maxRecDepth 100000 in
/-- what the loops keep, at their ends -/
theorem common_at : ∀ {i : Nat} {a b : List Int}, a.take i = b.take i → i ≤ a.length → i ≤ b.length → (i = a.length ∨ i = b.length ∨ a.getD i 0 ≠ b.getD i 0) → common a b = i
  | 0, a, b, _, _, _, h => by
    cases a with
    | nil => simp [common_nil_l]
    | cons x xs => cases b with
      | nil => simp [common_nil_r]
      | cons y ys =>
        simp at h
        simp [common, h]
  | i + 1, a, b, ht, ha, hb, h => by
    cases a with
    | nil => simp at ha
    | cons x xs => cases b with
      | nil => simp at hb
      | cons y ys =>
        simp only [List.take_succ_cons, List.cons.injEq] at ht
        obtain ⟨rfl, ht⟩ := ht
        simp only [List.length_cons, Nat.add_le_add_iff_right] at ha hb
        simp only [List.length_cons, Nat.add_right_cancel_iff, List.getD_cons_succ] at h
        simp [common, common_at ht ha hb h]

set_option maxRecDepth 100000 in
theorem common_take : ∀ a b : List Int, a.take (common a b) = b.take (common a b)
  | [], b => by simp [common_nil_l]
  | x :: xs, [] => by simp [common_nil_r]
  | x :: xs, y :: ys => by
    unfold common
    split
    · rename_i h; subst h; simp [common_take xs ys]
    · rfl

set_option maxRecDepth 100000 in
theorem common_app (u a b : List Int) : common (u ++ a) (u ++ b) = u.length + common a b := by
  induction u with
  | nil => simp
  | cons x xs ih => simp [common, ih]; omega

set_option maxRecDepth 100000 in
theorem less_app (u a b : List Int) : lessL (u ++ a) (u ++ b) = lessL a b := by
  induction u with
  | nil => simp
  | cons x xs ih => simp [lessL, ih]

set_option maxRecDepth 100000 in
theorem common_three : ∀ a b c : List Int, min (common a b) (common b c) ≤ common a c
  | [], b, c => by simp [common_nil_l]
  | x :: xs, [], c => by simp [common_nil_r]
  | x :: xs, y :: ys, [] => by simp [common_nil_r]
  | x :: xs, y :: ys, z :: zs => by
    have := common_three xs ys zs
    unfold common
    by_cases h1 : x = y
    · by_cases h2 : y = z
      · subst h1; subst h2; simp; omega
      · simp [h2]
    · simp [h1]

set_option maxRecDepth 100000 in
theorem common_whole {a b : List Int} (ha : common a b = a.length) (hb : common a b = b.length) : a = b := by
  have := common_take a b
  rwa [ha, List.take_length, ← ha, hb, List.take_length] at this

set_option maxRecDepth 100000 in
theorem less_common : ∀ a b : List Int, lessL a b = if common a b < a.length ∧ common a b < b.length then decide (a.getD (common a b) 0 < b.getD (common a b) 0) else decide (a.length < b.length)
  | [], [] => by simp [common_nil_l, lessL]
  | [], y :: ys => by simp [common_nil_l, lessL]
  | x :: xs, [] => by simp [common_nil_r, lessL]
  | x :: xs, y :: ys => by
    have ih := less_common xs ys
    by_cases h : x = y
    · subst h; simp [common, lessL, ih]
    · simp [common, lessL, h]

set_option maxRecDepth 100000 in
theorem less_irrefl : ∀ a : List Int, lessL a a = false
  | [] => rfl
  | x :: xs => by simp [lessL, less_irrefl xs]

set_option maxRecDepth 100000 in
theorem less_trans : ∀ {a b c : List Int}, lessL a b = true → lessL b c = true → lessL a c = true
  | [], [], c, h, _ => by simp [lessL] at h
  | [], _ :: _, [], _, h => by simp [lessL] at h
  | [], _ :: _, _ :: _, _, _ => rfl
  | _ :: _, [], _, h, _ => by simp [lessL] at h
  | _ :: _, _ :: _, [], _, h => by simp [lessL] at h
  | x :: xs, y :: ys, z :: zs, h1, h2 => by
    have ih := @less_trans xs ys zs
    simp only [lessL] at h1 h2 ⊢
    by_cases e1 : x = y
    · subst e1
      by_cases e2 : x = z
      · subst e2; simp at h1 h2 ⊢; exact ih h1 h2
      · simp [e2] at h2 ⊢; exact h2
    · simp [e1] at h1
      by_cases e2 : y = z
      · subst e2; simp [e1]; exact h1
      · simp [e2] at h2
        have e3 : ¬ x = z := by omega
        simp [e3]; omega

set_option maxRecDepth 100000 in
theorem less_asymm {a b : List Int} (h : lessL a b = true) : lessL b a = false := by
  cases h' : lessL b a with
  | false => rfl
  | true => have := less_trans h h'; rw [less_irrefl] at this; cases this

set_option maxRecDepth 100000 in
theorem less_total : ∀ {a b : List Int}, lessL a b = false → lessL b a = false → a = b
  | [], [], _, _ => rfl
  | [], _ :: _, h, _ => by simp [lessL] at h
  | _ :: _, [], _, h => by simp [lessL] at h
  | x :: xs, y :: ys, h1, h2 => by
    simp only [lessL] at h1 h2
    by_cases e : x = y
    · subst e; simp at h1 h2; rw [less_total h1 h2]
    · have e' : ¬ y = x := fun h => e h.symm
      simp [e] at h1; simp [e'] at h2
      omega

set_option maxRecDepth 100000 in
theorem less_ntrans {a b c : List Int} (h1 : lessL a b = false) (h2 : lessL b c = false) : lessL a c = false := by
  cases h : lessL a c with
  | false => rfl
  | true =>
    cases h3 : lessL c b with
    | true => rw [less_trans h h3] at h1; cases h1
    | false => have := less_total h2 h3; subst this; rw [h] at h1; exact h1

set_option maxRecDepth 100000 in
theorem less_more (a : List Int) (x : Int) : lessL a (a ++ [x]) = true := by
  have := less_app a [] [x]
  simpa [lessL] using this

set_option maxRecDepth 100000 in
theorem less_one (a b : List Int) : (lessL a b != lessL b a) = !decide (a = b) := by
  cases h1 : lessL a b <;> cases h2 : lessL b a
  · simp [less_total h1 h2]
  · have : a ≠ b := by rintro rfl; rw [less_irrefl] at h2; cases h2
    simp [this]
  · have : a ≠ b := by rintro rfl; rw [less_irrefl] at h1; cases h1
    simp [this]
  · rw [less_asymm h1] at h2; cases h2

def cmpI (x y : Int) : Int := if x < y then -1 else if y < x then 1 else 0
def cmpL (a b : List Int) : Int := if lessL a b then -1 else if lessL b a then 1 else 0

set_option maxRecDepth 100000 in
theorem cmp_less (a b : List Int) : decide (cmpL a b < 0) = lessL a b := by
  unfold cmpL
  cases lessL a b <;> cases lessL b a <;> simp
set_option maxRecDepth 100000 in
theorem cmp_same (a b : List Int) : decide (cmpL a b = 0) = decide (a = b) := by
  unfold cmpL
  cases h1 : lessL a b <;> cases h2 : lessL b a
  · simp [less_total h1 h2]
  · have : a ≠ b := by rintro rfl; rw [less_irrefl] at h2; cases h2
    simp [this]
  · have : a ≠ b := by rintro rfl; rw [less_irrefl] at h1; cases h1
    simp [this]
  · rw [less_asymm h1] at h2; cases h2

set_option maxRecDepth 100000 in
theorem cmp_common (a b : List Int) : cmpL a b = if common a b < a.length ∧ common a b < b.length then cmpI (a.getD (common a b) 0) (b.getD (common a b) 0) else cmpI a.length b.length := by
  unfold cmpL cmpI
  rw [less_common a b, less_common b a, common_comm b a]
  by_cases h : common a b < a.length ∧ common a b < b.length
  · have h' : common a b < b.length ∧ common a b < a.length := ⟨h.2, h.1⟩
    rw [if_pos h, if_pos h', if_pos h]
    simp only [decide_eq_true_eq]
  · have h' : ¬ (common a b < b.length ∧ common a b < a.length) := fun x => h ⟨x.2, x.1⟩
    rw [if_neg h, if_neg h', if_neg h]
    simp only [decide_eq_true_eq]
    split <;> split <;> (try split) <;> (try split) <;> first | rfl | omega

/-! ### words in order -/
def Rise (l : List (List Int)) : Prop := l.Pairwise fun a b => lessL a b = true
def cnt (l : List (List Int)) (w : List Int) : Nat := l.countP fun x => lessL x w
def ins (l : List (List Int)) (w : List Int) : List (List Int) := if w ∈ l then l else l.take (cnt l w) ++ w :: l.drop (cnt l w)
def srt (l : List (List Int)) : List (List Int) := l.foldl ins []

set_option maxRecDepth 100000 in
theorem cnt_le (l : List (List Int)) (w : List Int) : cnt l w ≤ l.length := List.countP_le_length

set_option maxRecDepth 100000 in
theorem Rise.parts : ∀ {l : List (List Int)} (w : List Int), Rise l → (∀ x ∈ l.take (cnt l w), lessL x w = true) ∧ (∀ x ∈ l.drop (cnt l w), lessL x w = false)
  | [], w, _ => by simp
  | y :: ys, w, h => by
    have h' := List.pairwise_cons.1 h
    have ih := Rise.parts (l := ys) w h'.2
    cases hy : lessL y w with
    | true =>
      have e : cnt (y :: ys) w = cnt ys w + 1 := by simp [cnt, hy]
      rw [e]
      simp only [List.take_succ_cons, List.drop_succ_cons, List.mem_cons, forall_eq_or_imp]
      exact ⟨⟨hy, ih.1⟩, ih.2⟩
    | false =>
      have all : ∀ x ∈ ys, lessL x w = false := fun x hx => by
        cases hx' : lessL x w with
        | false => rfl
        | true => rw [less_trans (h'.1 x hx) hx'] at hy; exact hy
      have e : cnt (y :: ys) w = 0 := by
        unfold cnt
        rw [List.countP_eq_zero]
        intro x hx
        rcases List.mem_cons.1 hx with rfl | hx
        · simp [hy]
        · simp [all x hx]
      rw [e]
      refine ⟨by simp, ?_⟩
      intro x hx
      simp only [List.drop_zero] at hx
      rcases List.mem_cons.1 hx with rfl | hx
      · exact hy
      · exact all x hx

set_option maxRecDepth 100000 in
theorem rise_ins {l : List (List Int)} {w : List Int} (h : Rise l) : Rise (ins l w) := by
  unfold ins
  split
  · exact h
  · rename_i hw
    obtain ⟨h1, h2⟩ := h.parts w
    have hsplit : Rise (l.take (cnt l w) ++ l.drop (cnt l w)) := by rw [List.take_append_drop]; exact h
    obtain ⟨ha, hb, hc⟩ := List.pairwise_append.1 hsplit
    refine List.pairwise_append.2 ⟨ha, List.pairwise_cons.2 ⟨fun x hx => ?_, hb⟩, fun x hx y hy => ?_⟩
    · cases hwx : lessL w x with
      | true => rfl
      | false =>
        have := less_total hwx (h2 x hx)
        subst this
        exact absurd (List.mem_of_mem_drop hx) hw
    · rcases List.mem_cons.1 hy with rfl | hy
      · exact h1 x hx
      · exact hc x hx y hy

set_option maxRecDepth 100000 in
theorem mem_ins {l : List (List Int)} {w x : List Int} : x ∈ ins l w ↔ x ∈ l ∨ x = w := by
  unfold ins
  split
  · rename_i hw
    constructor
    · exact .inl
    · rintro (h | rfl)
      · exact h
      · exact hw
  · have e : x ∈ l ↔ x ∈ l.take (cnt l w) ∨ x ∈ l.drop (cnt l w) := by
      rw [← List.mem_append, List.take_append_drop]
    rw [e]
    simp only [List.mem_append, List.mem_cons]
    constructor
    · rintro (h | h | h)
      · exact .inl (.inl h)
      · exact .inr h
      · exact .inl (.inr h)
    · rintro ((h | h) | h)
      · exact .inl h
      · exact .inr (.inr h)
      · exact .inr (.inl h)

set_option maxRecDepth 100000 in
theorem ins_length (l : List (List Int)) (w : List Int) : (ins l w).length ≤ l.length + 1 := by
  unfold ins
  split
  · omega
  · have := cnt_le l w
    simp; omega

set_option maxRecDepth 100000 in
theorem rise_unique : ∀ {l l' : List (List Int)}, Rise l → Rise l' → (∀ x, x ∈ l ↔ x ∈ l') → l = l'
  | [], [], _, _, _ => rfl
  | [], y :: ys, _, _, h => by have := (h y).2 (by simp); simp at this
  | x :: xs, [], _, _, h => by have := (h x).1 (by simp); simp at this
  | x :: xs, y :: ys, h1, h2, h => by
    have a1 := List.pairwise_cons.1 h1
    have a2 := List.pairwise_cons.1 h2
    have e : x = y := by
      rcases List.mem_cons.1 ((h x).1 (by simp)) with e | hx
      · exact e
      · rcases List.mem_cons.1 ((h y).2 (by simp)) with e | hy
        · exact e.symm
        · have := less_asymm (a1.1 y hy)
          rw [a2.1 x hx] at this; cases this
    subst e
    have : xs = ys := rise_unique a1.2 a2.2 fun z => by
      constructor
      · intro hz
        rcases List.mem_cons.1 ((h z).1 (by simp [hz])) with e | h'
        · subst e; have := a1.1 z hz; rw [less_irrefl] at this; cases this
        · exact h'
      · intro hz
        rcases List.mem_cons.1 ((h z).2 (by simp [hz])) with e | h'
        · subst e; have := a2.1 z hz; rw [less_irrefl] at this; cases this
        · exact h'
    rw [this]

set_option maxRecDepth 100000 in
theorem foldl_ins : ∀ (l o : List (List Int)), Rise o → Rise (l.foldl ins o) ∧ (∀ x, x ∈ l.foldl ins o ↔ x ∈ o ∨ x ∈ l) ∧ (l.foldl ins o).length ≤ o.length + l.length
  | [], o, h => by simp [h]
  | y :: ys, o, h => by
    have ih := foldl_ins ys (ins o y) (rise_ins h)
    have := ins_length o y
    refine ⟨ih.1, fun x => ?_, ?_⟩
    · rw [List.foldl_cons, ih.2.1 x, mem_ins, List.mem_cons]
      constructor
      · rintro ((h | h) | h)
        · exact .inl h
        · exact .inr (.inl h)
        · exact .inr (.inr h)
      · rintro (h | h | h)
        · exact .inl (.inl h)
        · exact .inl (.inr h)
        · exact .inr h
    · have := ih.2.2
      simp only [List.foldl_cons, List.length_cons]
      omega

set_option maxRecDepth 100000 in
theorem rise_srt (l : List (List Int)) : Rise (srt l) := (foldl_ins l [] List.Pairwise.nil).1
set_option maxRecDepth 100000 in
theorem mem_srt {l : List (List Int)} {x : List Int} : x ∈ srt l ↔ x ∈ l := by
  have := (foldl_ins l [] List.Pairwise.nil).2.1 x
  simpa [srt] using this
set_option maxRecDepth 100000 in
theorem srt_length (l : List (List Int)) : (srt l).length ≤ l.length := by
  have := (foldl_ins l [] List.Pairwise.nil).2.2
  simpa [srt] using this
set_option maxRecDepth 100000 in
theorem srt_snoc (l : List (List Int)) (w : List Int) : srt (l ++ [w]) = ins (srt l) w := by simp [srt]
set_option maxRecDepth 100000 in
theorem srt_congr {l l' : List (List Int)} (h : ∀ x, x ∈ l ↔ x ∈ l') : srt l = srt l' :=
  rise_unique (rise_srt l) (rise_srt l') fun x => by rw [mem_srt, mem_srt, h]
set_option maxRecDepth 100000 in
theorem srt_rise {l : List (List Int)} (h : Rise l) : srt l = l := rise_unique (rise_srt l) h fun _ => mem_srt
set_option maxRecDepth 100000 in
theorem srt_srt (l : List (List Int)) : srt (srt l) = srt l := srt_rise (rise_srt l)

set_option maxRecDepth 100000 in
theorem Rise.at {l : List (List Int)} (h : Rise l) {i j : Nat} (hij : i < j) (hj : j < l.length) : lessL (l.getD i []) (l.getD j []) = true := by
  have := List.pairwise_iff_getElem.1 h i j (by omega) hj hij
  simpa [List.getD_eq_getElem?_getD, List.getElem?_eq_getElem hj, List.getElem?_eq_getElem (show i < l.length by omega)] using this

set_option maxRecDepth 100000 in
theorem Rise.mono {l : List (List Int)} (h : Rise l) (w : List Int) {a b : Nat} (hab : a ≤ b) (hb : b < l.length) (ha : lessL (l.getD a []) w = false) : lessL (l.getD b []) w = false := by
  rcases Nat.lt_or_ge a b with hlt | hge
  · cases hx : lessL (l.getD b []) w with
    | false => rfl
    | true => rw [less_trans (h.at hlt hb) hx] at ha; exact ha
  · obtain rfl : a = b := by omega
    exact ha

set_option maxRecDepth 100000 in
theorem Rise.found {l : List (List Int)} (h : Rise l) (w : List Int) : (decide (cnt l w < l.length) && decide (l.getD (cnt l w) [] = w)) = decide (w ∈ l) := by
  obtain ⟨h1, h2⟩ := h.parts w
  by_cases hm : w ∈ l
  · have hd : w ∈ l.drop (cnt l w) := by
      have : w ∈ l.take (cnt l w) ++ l.drop (cnt l w) := by rw [List.take_append_drop]; exact hm
      rcases List.mem_append.1 this with h' | h'
      · have := h1 w h'; rw [less_irrefl] at this; cases this
      · exact h'
    have hlt : cnt l w < l.length := by
      rcases Nat.lt_or_ge (cnt l w) l.length with h' | h'
      · exact h'
      · rw [List.drop_eq_nil_of_le h'] at hd; simp at hd
    have e : l.getD (cnt l w) [] = w := by
      rw [List.drop_eq_getElem_cons hlt] at hd
      have hr : Rise (l.drop (cnt l w)) := List.Pairwise.sublist (List.drop_sublist _ _) h
      rw [List.drop_eq_getElem_cons hlt] at hr
      rw [List.getD_eq_getElem?_getD, List.getElem?_eq_getElem hlt, Option.getD_some]
      rcases List.mem_cons.1 hd with e | h'
      · exact e.symm
      · have a := (List.pairwise_cons.1 hr).1 w h'
        have b := h2 (l[cnt l w]) (by rw [List.drop_eq_getElem_cons hlt]; exact List.mem_cons_self)
        rw [a] at b; cases b
    rw [decide_eq_true hlt, decide_eq_true e, decide_eq_true hm]
    rfl
  · have : ¬ (cnt l w < l.length ∧ l.getD (cnt l w) [] = w) := by
      rintro ⟨hlt, e⟩
      apply hm
      rw [List.getD_eq_getElem?_getD, List.getElem?_eq_getElem hlt, Option.getD_some] at e
      rw [← e]; exact List.getElem_mem hlt
    simp only [hm, decide_false]
    rw [← Bool.decide_and, decide_eq_false_iff_not]
    exact this

set_option maxRecDepth 100000 in
theorem Rise.own {l : List (List Int)} (h : Rise l) {i : Nat} (hi : i < l.length) : cnt l (l.getD i []) = i := by
  have e : l = l.take i ++ l.drop i := (List.take_append_drop i l).symm
  have h1 : (l.take i).countP (fun x => lessL x (l.getD i [])) = (l.take i).length := by
    rw [List.countP_eq_length]
    intro x hx
    obtain ⟨j, hj, rfl⟩ := List.mem_iff_getElem.1 hx
    have hj' : j < i := by simp at hj; omega
    have := h.at hj' hi
    rw [List.getElem_take]
    simpa [List.getD_eq_getElem?_getD, List.getElem?_eq_getElem (show j < l.length by omega)] using this
  have h2 : (l.drop i).countP (fun x => lessL x (l.getD i [])) = 0 := by
    rw [List.countP_eq_zero]
    intro x hx
    obtain ⟨j, hj, rfl⟩ := List.mem_iff_getElem.1 hx
    have hj' : i + j < l.length := by simp at hj; omega
    rw [List.getElem_drop]
    rcases Nat.eq_zero_or_pos j with rfl | hp
    · have e2 : l.getD i [] = l[i] := by simp [List.getD_eq_getElem?_getD, hi]
      simp [hi, less_irrefl]
    · have := less_asymm (h.at (i := i) (j := i + j) (by omega) hj')
      simpa [List.getD_eq_getElem?_getD, List.getElem?_eq_getElem hj', hi] using this
  unfold cnt
  rw [e, List.countP_append, ← e, h1, h2, List.length_take]
  omega

/-- one word more behind those that stand sorted, if the last one stands ahead of it -/
def dd (o : List (List Int)) (w : List Int) : List (List Int) := if o.length = 0 ∨ lessL (o.getD (o.length - 1) []) w = true then o ++ [w] else o

set_option maxRecDepth 100000 in
theorem dd_ins {o : List (List Int)} {w : List Int} (h : Rise o) (hw : ∀ x ∈ o, lessL w x = false) : dd o w = ins o w := by
  unfold dd
  rcases Nat.eq_zero_or_pos o.length with h0 | hp
  · have : o = [] := List.eq_nil_of_length_eq_zero h0
    subst this
    simp [ins]
  · have hlast : o.length - 1 < o.length := by omega
    have hm : o.getD (o.length - 1) [] ∈ o := by
      rw [List.getD_eq_getElem?_getD, List.getElem?_eq_getElem hlast, Option.getD_some]
      exact List.getElem_mem hlast
    cases hl : lessL (o.getD (o.length - 1) []) w with
    | true =>
      have all : ∀ x ∈ o, lessL x w = true := fun x hx => by
        obtain ⟨j, hj, rfl⟩ := List.mem_iff_getElem.1 hx
        rcases Nat.lt_or_ge j (o.length - 1) with hlt | hge
        · have := h.at hlt hlast
          have := less_trans this hl
          simpa [List.getD_eq_getElem?_getD, hj] using this
        · have : j = o.length - 1 := by omega
          subst this
          simpa [List.getD_eq_getElem?_getD, hj] using hl
      have hnm : w ∉ o := fun hx => by have := all w hx; rw [less_irrefl] at this; cases this
      have hc : cnt o w = o.length := by
        unfold cnt; rw [List.countP_eq_length]; exact all
      simp [ins, hnm, hc]
    | false =>
      have e := less_total hl (hw _ hm)
      have hmem : w ∈ o := by rw [← e]; exact hm
      have : ¬ (o.length = 0) := by omega
      simp [ins, hmem, this]

set_option maxRecDepth 100000 in
theorem dd_foldl : ∀ (d o : List (List Int)), Rise o → (∀ x ∈ o, ∀ y ∈ d, lessL y x = false) → d.Pairwise (fun a b => lessL b a = false) → d.foldl dd o = d.foldl ins o
  | [], _, _, _, _ => rfl
  | y :: ys, o, h, hxy, hd => by
    have hd' := List.pairwise_cons.1 hd
    rw [List.foldl_cons, List.foldl_cons, dd_ins h (fun x hx => hxy x hx y (by simp))]
    refine dd_foldl ys (ins o y) (rise_ins h) (fun x hx z hz => ?_) hd'.2
    rcases mem_ins.1 hx with hx | rfl
    · exact hxy x hx z (by simp [hz])
    · exact hd'.1 z hz

set_option maxRecDepth 100000 in
/-- what the program's loop makes of the sorted words -/
theorem dd_srt {d l : List (List Int)} (hd : d.Pairwise (fun a b => lessL b a = false)) (hp : d.Perm l) : d.foldl dd [] = srt l := by
  rw [dd_foldl d [] List.Pairwise.nil (by simp) hd]
  exact srt_congr (l := d) (l' := l) fun x => hp.mem_iff

end Go.Proofs.Ytflikfnehpaohaa
