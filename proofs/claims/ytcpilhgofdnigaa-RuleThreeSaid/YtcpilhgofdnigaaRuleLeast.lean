/- Least costs that stand in a map by the sides, in plain terms: what a loop that fills it keeps, and what collecting and sorting makes of it. Nothing of the program. -/
import Derived.Test.YtcpilhgofdnigaaRuleMath
namespace Go.Proofs.Ytcpilhgofdnigaa

/-- m tells of each two sides of rules of l that may be the least cost that they have there -/
def Least {κ : Type} (key : Rul → κ) (l : List Rul) (m : κ → Option Int) : Prop :=
  (∀ k c, m k = some c → ∃ r ∈ l, chk r = true ∧ key r = k ∧ r.C = c) ∧ ∀ r ∈ l, chk r = true → ∃ c, m (key r) = some c ∧ c ≤ r.C

theorem Least.start {κ : Type} (key : Rul → κ) : Least key [] fun _ => none := ⟨fun _ _ h => (by cases h), (by simp)⟩
theorem Least.pass {κ : Type} {key : Rul → κ} {l : List Rul} {m : κ → Option Int} (h : Least key l m) {r : Rul} (hr : chk r = false) : Least key (l ++ [r]) m :=
  ⟨fun k c hk => by obtain ⟨s, hs, h'⟩ := h.1 k c hk; exact ⟨s, List.mem_append.2 (.inl hs), h'⟩, fun s hs hc => by
    rcases List.mem_append.1 hs with hs | hs
    · exact h.2 s hs hc
    · rw [List.mem_singleton.1 hs, hr] at hc; cases hc⟩
theorem Least.keep {κ : Type} {key : Rul → κ} {l : List Rul} {m : κ → Option Int} (h : Least key l m) {r : Rul} {c : Int} (hm : m (key r) = some c) (hc : c ≤ r.C) : Least key (l ++ [r]) m :=
  ⟨fun k c hk => by obtain ⟨s, hs, h'⟩ := h.1 k c hk; exact ⟨s, List.mem_append.2 (.inl hs), h'⟩, fun s hs hs' => by
    rcases List.mem_append.1 hs with hs | hs
    · exact h.2 s hs hs'
    · rw [List.mem_singleton.1 hs]; exact ⟨c, hm, hc⟩⟩
theorem Least.put {κ : Type} {key : Rul → κ} {l : List Rul} {m m' : κ → Option Int} (h : Least key l m) {r : Rul} (hr : chk r = true) (hlt : ∀ c, m (key r) = some c → r.C ≤ c) (h1 : m' (key r) = some r.C) (h2 : ∀ k, k ≠ key r → m' k = m k) : Least key (l ++ [r]) m' := by
  classical
  refine ⟨fun k c hk => ?_, fun s hs hc => ?_⟩
  · by_cases e : k = key r
    · subst e
      rw [h1] at hk
      exact ⟨r, by simp, hr, rfl, by simpa using hk⟩
    · rw [h2 k e] at hk
      obtain ⟨s, hs, h'⟩ := h.1 k c hk
      exact ⟨s, List.mem_append.2 (.inl hs), h'⟩
  · rcases List.mem_append.1 hs with hs | hs
    · obtain ⟨c, hm, hle⟩ := h.2 s hs hc
      by_cases e : key s = key r
      · rw [e] at hm ⊢
        exact ⟨r.C, h1, Int.le_trans (hlt c hm) hle⟩
      · exact ⟨c, by rw [h2 _ e]; exact hm, hle⟩
    · rw [List.mem_singleton.1 hs]; exact ⟨r.C, h1, Int.le_refl _⟩

/-- rules with unlike sides, put in order -/
theorem isNorm_sorted {l o ys : List Rul} (h1 : ∀ r ∈ o, r ∈ l ∧ chk r = true) (h2 : ∀ r ∈ l, chk r = true → ∃ s ∈ o, s.like r ∧ s.C ≤ r.C) (hd : o.Pairwise fun a b => ¬ a.like b) (hp : ys.Perm o) (hs : ys.Pairwise fun a b => lessS b a = false) : IsNorm l ys := by
  have hd' : ys.Pairwise fun a b => ¬ a.like b := (hp.pairwise_iff (fun {a b} h h' => h h'.symm)).2 hd
  refine ⟨?_, fun r hr => h1 r (hp.mem_iff.1 hr), fun r hr hc => ?_⟩
  · exact (hs.and hd').imp fun {a b} h => by
      cases hq : lessS a b with
      | true => rfl
      | false => exact absurd (lessS_total hq h.1) h.2
  · obtain ⟨s, hs', h⟩ := h2 r hr hc
    exact ⟨s, hp.mem_iff.2 hs', h⟩

/-- what is collected of such a map, and sorted, are the rules in order -/
theorem Least.norm {κ : Type} {key : Rul → κ} {l : List Rul} {m : κ → Option Int} (h : Least key l m) (hk : ∀ r s, chk r = true → chk s = true → key r = key s → r.like s) (hk' : ∀ r s : Rul, r.like s → key r = key s) {o ys : List Rul} (ho : ∀ s ∈ o, chk s = true ∧ m (key s) = some s.C) (ho' : ∀ k c, m k = some c → ∃ s ∈ o, key s = k ∧ s.C = c)
    (hd : o.Pairwise fun a b => key a ≠ key b) (hp : ys.Perm o) (hs : ys.Pairwise fun a b => lessS b a = false) : IsNorm l ys := by
  refine isNorm_sorted (fun r hr => ?_) (fun r hr hc => ?_) (hd.imp fun {a b} hne hl => hne (hk' a b hl)) hp hs
  · obtain ⟨hc, hm⟩ := ho r hr
    obtain ⟨s, hs, hsc, hsk, hsC⟩ := h.1 _ _ hm
    have hl := hk s r hsc hc hsk
    have : s = r := Rul.ext' hl.1 hl.2 hsC
    subst this; exact ⟨hs, hc⟩
  · obtain ⟨c, hm, hle⟩ := h.2 r hr hc
    obtain ⟨s, hs, hsk, hsC⟩ := ho' _ _ hm
    exact ⟨s, hs, hk s r (ho s hs).1 hc hsk, by omega⟩

end Go.Proofs.Ytcpilhgofdnigaa
