/- Rules in order, in plain lists and numbers: nothing of the program. -/
import Derived.Test.YtcpilhgofdnigaaUtfMath
import Derived.Test.YtcpilhgofdnigaaOrderMath
namespace Go.Proofs.Ytcpilhgofdnigaa

/-- a rule: its two sides, and its cost -/
structure Rul where
  L : List Int
  R : List Int
  C : Int
theorem Rul.ext' {a b : Rul} (h1 : a.L = b.L) (h2 : a.R = b.R) (h3 : a.C = b.C) : a = b := by cases a; cases b; simp_all
instance : DecidableEq Rul := fun a b => decidable_of_iff (a.L = b.L ∧ a.R = b.R ∧ a.C = b.C) ⟨fun h => Rul.ext' h.1 h.2.1 h.2.2, fun h => h ▸ ⟨rfl, rfl, rfl⟩⟩
def Rul.no : Rul := ⟨[], [], 0⟩
/-- the same sides -/
def Rul.like (a b : Rul) : Prop := a.L = b.L ∧ a.R = b.R
theorem Rul.like.symm {a b : Rul} (h : a.like b) : b.like a := ⟨h.1.symm, h.2.symm⟩
theorem Rul.like.trans {a b c : Rul} (h : a.like b) (h' : b.like c) : a.like c := ⟨h.1.trans h'.1, h.2.trans h'.2⟩
instance (a b : Rul) : Decidable (a.like b) := inferInstanceAs (Decidable (_ ∧ _))

def goodL (l : List Int) : Bool := l.all Utf.good && decide (l.length ≤ 8)
def chk (r : Rul) : Bool := goodL r.L && goodL r.R && decide (r.C < 18446744073709551615) && !decide (r.L = r.R)

/-- ahead by the sides -/
def lessS (a b : Rul) : Bool := if a.L = b.L then lessL a.R b.R else lessL a.L b.L
/-- ahead -/
def lessR (a b : Rul) : Bool := if a.L = b.L then (if a.R = b.R then decide (a.C < b.C) else lessL a.R b.R) else lessL a.L b.L

theorem lessR_sides (a b : Rul) : lessR ⟨a.L, a.R, 0⟩ ⟨b.L, b.R, 0⟩ = lessS a b := by
  unfold lessR lessS
  by_cases h1 : a.L = b.L
  · by_cases h2 : a.R = b.R
    · simp [h1, h2, less_irrefl]
    · simp [h1, h2]
  · simp [h1]
theorem lessS_irrefl (a : Rul) : lessS a a = false := by simp [lessS, less_irrefl]
theorem lessS_like {a b : Rul} (h : a.like b) : lessS a b = false := by simp [lessS, h.1, h.2, less_irrefl]
theorem lessS_congr {a a' b b' : Rul} (h : a.like a') (h' : b.like b') : lessS a b = lessS a' b' := by simp [lessS, h.1, h.2, h'.1, h'.2]
theorem lessS_trans {a b c : Rul} (h1 : lessS a b = true) (h2 : lessS b c = true) : lessS a c = true := by
  unfold lessS at *
  by_cases e1 : a.L = b.L
  · by_cases e2 : b.L = c.L
    · rw [if_pos e1] at h1; rw [if_pos e2] at h2; rw [if_pos (e1.trans e2)]; exact less_trans h1 h2
    · rw [if_neg e2] at h2; rw [if_neg (by rw [e1]; exact e2), e1]; exact h2
  · by_cases e2 : b.L = c.L
    · rw [if_neg e1] at h1; rw [if_neg (by rw [← e2]; exact e1), ← e2]; exact h1
    · rw [if_neg e1] at h1; rw [if_neg e2] at h2
      have h3 := less_trans h1 h2
      rw [if_neg (by intro e; rw [e, less_irrefl] at h3; cases h3)]; exact h3
theorem lessS_asymm {a b : Rul} (h : lessS a b = true) : lessS b a = false := by
  cases h' : lessS b a with
  | false => rfl
  | true => have := lessS_trans h h'; rw [lessS_irrefl] at this; cases this
theorem lessS_total {a b : Rul} (h1 : lessS a b = false) (h2 : lessS b a = false) : a.like b := by
  unfold lessS at *
  by_cases e : a.L = b.L
  · rw [if_pos e] at h1; rw [if_pos e.symm] at h2; exact ⟨e, less_total h1 h2⟩
  · rw [if_neg e] at h1; rw [if_neg (fun h => e h.symm)] at h2; exact absurd (less_total h1 h2) e
theorem lessS_ntrans {a b c : Rul} (h1 : lessS a b = false) (h2 : lessS b c = false) : lessS a c = false := by
  cases h : lessS a c with
  | false => rfl
  | true =>
    cases h3 : lessS c b with
    | true => rw [lessS_trans h h3] at h1; cases h1
    | false =>
      have := lessS_total h2 h3
      rw [lessS_congr (a := a) ⟨rfl, rfl⟩ this, h] at h1; exact h1
theorem lessR_def (a b : Rul) : lessR a b = (lessS a b || (decide (a.like b) && decide (a.C < b.C))) := by
  unfold lessR lessS Rul.like
  by_cases e1 : a.L = b.L
  · by_cases e2 : a.R = b.R
    · simp [e1, e2, less_irrefl]
    · simp [e1, e2]
  · simp [e1]
theorem lessR_irrefl (a : Rul) : lessR a a = false := by simp [lessR]
theorem lessR_trans {a b c : Rul} (h1 : lessR a b = true) (h2 : lessR b c = true) : lessR a c = true := by
  rw [lessR_def] at *
  simp only [Bool.or_eq_true, Bool.and_eq_true, decide_eq_true_eq] at *
  rcases h1 with h1 | ⟨h1, h1'⟩
  · rcases h2 with h2 | ⟨h2, h2'⟩
    · exact .inl (lessS_trans h1 h2)
    · left; rw [← lessS_congr (a := a) ⟨rfl, rfl⟩ h2]; exact h1
  · rcases h2 with h2 | ⟨h2, h2'⟩
    · left; rw [lessS_congr h1 (b' := c) ⟨rfl, rfl⟩]; exact h2
    · right; exact ⟨h1.trans h2, by omega⟩
theorem lessR_asymm {a b : Rul} (h : lessR a b = true) : lessR b a = false := by
  cases h' : lessR b a with
  | false => rfl
  | true => have := lessR_trans h h'; rw [lessR_irrefl] at this; cases this
theorem lessR_total {a b : Rul} (h1 : lessR a b = false) (h2 : lessR b a = false) : a = b := by
  rw [lessR_def] at *
  simp only [Bool.or_eq_false_iff, Bool.and_eq_false_iff, decide_eq_false_iff_not] at *
  have hl := lessS_total h1.1 h2.1
  refine Rul.ext' hl.1 hl.2 ?_
  rcases h1.2 with h | h
  · exact absurd hl h
  · rcases h2.2 with h' | h'
    · exact absurd hl.symm h'
    · omega
/-- of two unlike rules just one stands ahead -/
theorem lessR_one (a b : Rul) : (lessR a b != lessR b a) = !decide (a = b) := by
  cases h1 : lessR a b <;> cases h2 : lessR b a
  · simp [lessR_total h1 h2]
  · have : a ≠ b := by rintro rfl; rw [lessR_irrefl] at h2; cases h2
    simp [this]
  · have : a ≠ b := by rintro rfl; rw [lessR_irrefl] at h1; cases h1
    simp [this]
  · rw [lessR_asymm h1] at h2; cases h2

/-! ### rules in order -/
def RiseR (n : List Rul) : Prop := n.Pairwise fun a b => lessS a b = true
/-- n is l in order -/
def IsNorm (l n : List Rul) : Prop :=
  RiseR n ∧ (∀ r ∈ n, r ∈ l ∧ chk r = true) ∧ ∀ r ∈ l, chk r = true → ∃ s ∈ n, s.like r ∧ s.C ≤ r.C

theorem RiseR.one {n : List Rul} (h : RiseR n) {a b : Rul} (ha : a ∈ n) (hb : b ∈ n) (hab : a.like b) : a = b := by
  obtain ⟨i, hi, rfl⟩ := List.mem_iff_getElem.1 ha
  obtain ⟨j, hj, rfl⟩ := List.mem_iff_getElem.1 hb
  rcases Nat.lt_trichotomy i j with h1 | h1 | h1
  · have := List.pairwise_iff_getElem.1 h i j hi hj h1
    rw [lessS_like hab] at this; cases this
  · subst h1; rfl
  · have := List.pairwise_iff_getElem.1 h j i hj hi h1
    rw [lessS_like hab.symm] at this; cases this
theorem riseR_unique : ∀ {l l' : List Rul}, RiseR l → RiseR l' → (∀ x, x ∈ l ↔ x ∈ l') → l = l'
  | [], [], _, _, _ => rfl
  | [], y :: ys, _, _, h => by have := (h y).2 (by simp); simp at this
  | x :: xs, [], _, _, h => by have := (h x).1 (by simp); simp at this
  | x :: xs, y :: ys, h1, h2, h => by
    have a1 := List.pairwise_cons.1 h1
    have a2 := List.pairwise_cons.1 h2
    have e : x = y := by
      rcases List.mem_cons.1 ((h x).1 (by simp)) with e | hx
      · exact e
      · rcases List.mem_cons.1 ((h y).2 (by simp)) with e | hy
        · exact e.symm
        · have := lessS_asymm (a1.1 y hy)
          rw [a2.1 x hx] at this; cases this
    subst e
    have : xs = ys := riseR_unique a1.2 a2.2 fun z => by
      constructor
      · intro hz
        rcases List.mem_cons.1 ((h z).1 (by simp [hz])) with e | h'
        · subst e; have := a1.1 z hz; rw [lessS_irrefl] at this; cases this
        · exact h'
      · intro hz
        rcases List.mem_cons.1 ((h z).2 (by simp [hz])) with e | h'
        · subst e; have := a2.1 z hz; rw [lessS_irrefl] at this; cases this
        · exact h'
    rw [this]
theorem IsNorm.sub {l l' n n' : List Rul} (h : IsNorm l n) (h' : IsNorm l' n') (hl : ∀ r ∈ l, chk r = true → ∃ s ∈ l', chk s = true ∧ s.like r ∧ s.C ≤ r.C) (hl' : ∀ r ∈ l', chk r = true → ∃ s ∈ l, chk s = true ∧ s.like r ∧ s.C ≤ r.C) : ∀ r ∈ n, r ∈ n' := by
  intro r hr
  obtain ⟨hrl, hrc⟩ := h.2.1 r hr
  obtain ⟨s, hs, hsc, hsr, hsC⟩ := hl r hrl hrc
  obtain ⟨t, ht, hts, htC⟩ := h'.2.2 s hs hsc
  obtain ⟨htl, htc⟩ := h'.2.1 t ht
  obtain ⟨u, hu, huc, hut, huC⟩ := hl' t htl htc
  obtain ⟨v, hv, hvu, hvC⟩ := h.2.2 u hu huc
  have e := h.1.one hv hr (((hvu.trans hut).trans hts).trans hsr)
  subst e
  have : t = v := Rul.ext' (hts.trans hsr).1 (hts.trans hsr).2 (by omega)
  rw [← this]; exact ht
/-- rules in order are told by the cheapest ones of each two sides -/
theorem IsNorm.same {l l' n n' : List Rul} (h : IsNorm l n) (h' : IsNorm l' n') (hl : ∀ r ∈ l, chk r = true → ∃ s ∈ l', chk s = true ∧ s.like r ∧ s.C ≤ r.C) (hl' : ∀ r ∈ l', chk r = true → ∃ s ∈ l, chk s = true ∧ s.like r ∧ s.C ≤ r.C) : n = n' :=
  riseR_unique h.1 h'.1 fun r => ⟨h.sub h' hl hl' r, h'.sub h hl' hl r⟩
theorem IsNorm.uniq {l l' n n' : List Rul} (h : IsNorm l n) (h' : IsNorm l' n') (hl : ∀ r, r ∈ l ↔ r ∈ l') : n = n' :=
  h.same h' (fun r hr hc => ⟨r, (hl r).1 hr, hc, ⟨rfl, rfl⟩, Int.le_refl _⟩) (fun r hr hc => ⟨r, (hl r).2 hr, hc, ⟨rfl, rfl⟩, Int.le_refl _⟩)

/-- one rule more, put where it stands -/
def insR : List Rul → Rul → List Rul
  | [], r => [r]
  | s :: n, r => if lessS s r = true then s :: insR n r else if s.like r then ⟨s.L, s.R, min s.C r.C⟩ :: n else r :: s :: n
def stepR (o : List Rul) (r : Rul) : List Rul := if chk r = true then insR o r else o
def nrm (l : List Rul) : List Rul := l.foldl stepR []

theorem mem_insR {r x : Rul} : ∀ {n : List Rul}, x ∈ insR n r → x = r ∨ x ∈ n
  | [], h => by simp [insR] at h; exact .inl h
  | s :: n, h => by
    unfold insR at h
    split at h
    · rcases List.mem_cons.1 h with e | h
      · right; simp [e]
      · rcases mem_insR h with e | h
        · exact .inl e
        · right; simp [h]
    · split at h
      · rename_i hl
        rcases List.mem_cons.1 h with e | h
        · by_cases hc : s.C ≤ r.C
          · right; rw [e, Int.min_eq_left hc]; simp
          · left; rw [e, Int.min_eq_right (by omega)]; exact Rul.ext' hl.1 hl.2 rfl
        · right; simp [h]
      · rcases List.mem_cons.1 h with e | h
        · exact .inl e
        · right; exact h
theorem insR_has {r : Rul} : ∀ (n : List Rul), (∃ s ∈ insR n r, s.like r ∧ s.C ≤ r.C) ∧ ∀ x ∈ n, ∃ s ∈ insR n r, s.like x ∧ s.C ≤ x.C
  | [] => ⟨⟨r, by simp [insR], ⟨rfl, rfl⟩, Int.le_refl _⟩, by simp⟩
  | s :: n => by
    have ih := insR_has (r := r) n
    unfold insR
    split
    · refine ⟨?_, fun x hx => ?_⟩
      · obtain ⟨t, ht, h⟩ := ih.1
        exact ⟨t, by simp [ht], h⟩
      · rcases List.mem_cons.1 hx with e | hx
        · exact ⟨s, by simp, by rw [e]; exact ⟨rfl, rfl⟩, by rw [e]; exact Int.le_refl _⟩
        · obtain ⟨t, ht, h⟩ := ih.2 x hx
          exact ⟨t, by simp [ht], h⟩
    · split
      · rename_i hl
        refine ⟨⟨⟨s.L, s.R, min s.C r.C⟩, by simp, hl, Int.min_le_right _ _⟩, fun x hx => ?_⟩
        rcases List.mem_cons.1 hx with e | hx
        · exact ⟨⟨s.L, s.R, min s.C r.C⟩, by simp, by rw [e]; exact ⟨rfl, rfl⟩, by rw [e]; exact Int.min_le_left _ _⟩
        · exact ⟨x, by simp [hx], ⟨rfl, rfl⟩, Int.le_refl _⟩
      · refine ⟨⟨r, by simp, ⟨rfl, rfl⟩, Int.le_refl _⟩, fun x hx => ⟨x, by simp at hx ⊢; exact .inr hx, ⟨rfl, rfl⟩, Int.le_refl _⟩⟩
theorem rise_insR {r : Rul} : ∀ {n : List Rul}, RiseR n → RiseR (insR n r)
  | [], _ => by simp [insR, RiseR]
  | s :: n, h => by
    have h' := List.pairwise_cons.1 h
    unfold insR
    split
    · rename_i hs
      refine List.pairwise_cons.2 ⟨fun x hx => ?_, rise_insR h'.2⟩
      rcases mem_insR hx with e | hx
      · rw [e]; exact hs
      · exact h'.1 x hx
    · rename_i hs
      split
      · exact List.pairwise_cons.2 ⟨fun x hx => h'.1 x hx, h'.2⟩
      · rename_i hl
        have hrs : lessS r s = true := by
          cases hq : lessS r s with
          | true => rfl
          | false => exact absurd (lessS_total (by simpa using hs) hq) hl
        refine List.pairwise_cons.2 ⟨fun x hx => ?_, h⟩
        rcases List.mem_cons.1 hx with e | hx
        · rw [e]; exact hrs
        · exact lessS_trans hrs (h'.1 x hx)
theorem insR_length (n : List Rul) (r : Rul) : (insR n r).length ≤ n.length + 1 := by
  induction n with
  | nil => simp [insR]
  | cons s n ih =>
    unfold insR
    split
    · simp; exact ih
    · split <;> simp
theorem isNorm_step {l n : List Rul} (h : IsNorm l n) (r : Rul) : IsNorm (l ++ [r]) (stepR n r) := by
  unfold stepR
  by_cases hc : chk r = true
  · rw [if_pos hc]
    refine ⟨rise_insR h.1, fun x hx => ?_, fun x hx hxc => ?_⟩
    · rcases mem_insR hx with e | hx
      · rw [e]; exact ⟨by simp, hc⟩
      · have := h.2.1 x hx; exact ⟨by simp [this.1], this.2⟩
    · rcases List.mem_append.1 hx with hx | hx
      · obtain ⟨s, hs, hsx, hsC⟩ := h.2.2 x hx hxc
        obtain ⟨t, ht, hts, htC⟩ := (insR_has (r := r) n).2 s hs
        exact ⟨t, ht, hts.trans hsx, by omega⟩
      · rw [List.mem_singleton.1 hx]; exact (insR_has n).1
  · rw [if_neg hc]
    refine ⟨h.1, fun x hx => ?_, fun x hx hxc => ?_⟩
    · have := h.2.1 x hx; exact ⟨by simp [this.1], this.2⟩
    · rcases List.mem_append.1 hx with hx | hx
      · exact h.2.2 x hx hxc
      · rw [List.mem_singleton.1 hx] at hxc; exact absurd hxc hc
theorem isNorm_foldl : ∀ (d l n : List Rul), IsNorm l n → IsNorm (l ++ d) (d.foldl stepR n)
  | [], l, n, h => by simpa using h
  | r :: d, l, n, h => by
    have := isNorm_foldl d (l ++ [r]) (stepR n r) (isNorm_step h r)
    simpa using this
theorem isNorm_nrm (l : List Rul) : IsNorm l (nrm l) := by
  have := isNorm_foldl l [] [] ⟨List.Pairwise.nil, by simp, by simp⟩
  simpa [nrm] using this
theorem IsNorm.eq {l n : List Rul} (h : IsNorm l n) : n = nrm l := h.uniq (isNorm_nrm l) fun _ => Iff.rfl
theorem nrm_snoc (l : List Rul) (r : Rul) : nrm (l ++ [r]) = stepR (nrm l) r := by simp [nrm]
theorem nrm_length (l : List Rul) : (nrm l).length ≤ l.length := by
  have : ∀ (d n : List Rul), (d.foldl stepR n).length ≤ n.length + d.length := by
    intro d
    induction d with
    | nil => intro n; simp
    | cons r d ih =>
      intro n
      have h1 := ih (stepR n r)
      have h2 : (stepR n r).length ≤ n.length + 1 := by
        unfold stepR; split
        · exact insR_length n r
        · omega
      simp only [List.foldl_cons, List.length_cons]; omega
  have := this l []
  simpa [nrm] using this
theorem nrm_congr {l l' : List Rul} (h : ∀ r, r ∈ l ↔ r ∈ l') : nrm l = nrm l' := (isNorm_nrm l).uniq (isNorm_nrm l') h
/-- what is in order is in order -/
theorem nrm_nrm (l : List Rul) : nrm (nrm l) = nrm l := by
  refine (isNorm_nrm (nrm l)).same (isNorm_nrm l) (fun r hr hc => ?_) (fun r hr hc => ?_)
  · exact ⟨r, ((isNorm_nrm l).2.1 r hr).1, hc, ⟨rfl, rfl⟩, Int.le_refl _⟩
  · obtain ⟨s, hs, h⟩ := (isNorm_nrm l).2.2 r hr hc
    exact ⟨s, hs, ((isNorm_nrm l).2.1 s hs).2, h⟩
theorem nrm_parts (a b : List Rul) : nrm (nrm a ++ nrm b) = nrm (a ++ b) := by
  refine (isNorm_nrm _).same (isNorm_nrm _) (fun r hr hc => ?_) (fun r hr hc => ?_)
  · rcases List.mem_append.1 hr with hr | hr
    · exact ⟨r, List.mem_append.2 (.inl ((isNorm_nrm a).2.1 r hr).1), hc, ⟨rfl, rfl⟩, Int.le_refl _⟩
    · exact ⟨r, List.mem_append.2 (.inr ((isNorm_nrm b).2.1 r hr).1), hc, ⟨rfl, rfl⟩, Int.le_refl _⟩
  · rcases List.mem_append.1 hr with hr | hr
    · obtain ⟨s, hs, h⟩ := (isNorm_nrm a).2.2 r hr hc
      exact ⟨s, List.mem_append.2 (.inl hs), ((isNorm_nrm a).2.1 s hs).2, h⟩
    · obtain ⟨s, hs, h⟩ := (isNorm_nrm b).2.2 r hr hc
      exact ⟨s, List.mem_append.2 (.inr hs), ((isNorm_nrm b).2.1 s hs).2, h⟩
theorem nrm_turned (a b : List Rul) : nrm (b ++ a) = nrm (a ++ b) := nrm_congr fun r => by simp [or_comm]

/-! ### sides turned -/
def Rul.turn (r : Rul) : Rul := ⟨r.R, r.L, r.C⟩
theorem Rul.turn_turn (r : Rul) : r.turn.turn = r := rfl
theorem chk_turn (r : Rul) : chk r.turn = chk r := by
  have h : decide (r.R = r.L) = decide (r.L = r.R) := by rw [decide_eq_decide]; exact ⟨Eq.symm, Eq.symm⟩
  show (goodL r.R && goodL r.L && decide (r.C < 18446744073709551615) && !decide (r.R = r.L)) = (goodL r.L && goodL r.R && decide (r.C < 18446744073709551615) && !decide (r.L = r.R))
  rw [h, Bool.and_comm (goodL r.R)]
theorem nrm_turns (l : List Rul) : nrm ((nrm (l.map Rul.turn)).map Rul.turn) = nrm l := by
  have hn := isNorm_nrm (l.map Rul.turn)
  refine (isNorm_nrm _).same (isNorm_nrm l) (fun r hr hc => ?_) (fun r hr hc => ?_)
  · obtain ⟨s, hs, rfl⟩ := List.mem_map.1 hr
    obtain ⟨u, hu, hus⟩ := List.mem_map.1 (hn.2.1 s hs).1
    exact ⟨s.turn, by rw [← hus]; exact hu, hc, ⟨rfl, rfl⟩, Int.le_refl _⟩
  · obtain ⟨s, hs, hsr, hsC⟩ := hn.2.2 r.turn (List.mem_map.2 ⟨r, hr, rfl⟩) (by rw [chk_turn]; exact hc)
    exact ⟨s.turn, List.mem_map.2 ⟨s, hs, rfl⟩, by rw [chk_turn]; exact (hn.2.1 s hs).2, ⟨hsr.2, hsr.1⟩, hsC⟩

/-! ### the place of one rule -/
theorem insR_at {r : Rul} : ∀ (n : List Rul) (k : Nat), k ≤ n.length → (∀ x ∈ n.take k, lessS x r = true) → (k < n.length → lessS (n.getD k Rul.no) r = false) →
    insR n r = if k < n.length ∧ (n.getD k Rul.no).like r then n.set k ⟨(n.getD k Rul.no).L, (n.getD k Rul.no).R, min (n.getD k Rul.no).C r.C⟩ else n.take k ++ r :: n.drop k
  | [], k, hk, _, _ => by
    obtain rfl : k = 0 := by simpa using hk
    simp [insR]
  | s :: n, 0, _, _, h => by
    have h0 : lessS s r = false := h (by simp)
    unfold insR
    simp only [h0, Bool.false_eq_true, if_false, List.length_cons, List.getD_cons_zero, List.set_cons_zero, List.take_zero, List.drop_zero, List.nil_append]
    by_cases hl : s.like r
    · rw [if_pos hl, if_pos ⟨by omega, hl⟩]
    · rw [if_neg hl, if_neg (fun h => hl h.2)]
  | s :: n, k + 1, hk, ha, h => by
    have hs : lessS s r = true := ha s (by simp)
    have ih := insR_at n k (by simpa using hk) (fun x hx => ha x (by simp [hx])) (fun hk' => by have := h (by simpa using hk'); simpa using this)
    unfold insR
    rw [if_pos hs, ih]
    simp only [List.length_cons, List.getD_cons_succ, List.set_cons_succ, List.take_succ_cons, List.drop_succ_cons, List.cons_append, Nat.add_lt_add_iff_right]
    split <;> rfl

end Go.Proofs.Ytcpilhgofdnigaa
