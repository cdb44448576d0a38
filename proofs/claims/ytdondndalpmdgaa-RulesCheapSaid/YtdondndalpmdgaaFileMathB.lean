/- What two files say, one behind the other, and what one more line says: plain lists and numbers. -/
import Derived.Test.YtdondndalpmdgaaPackA
namespace Go.Proofs.Ytdondndalpmdgaa
namespace File

set_option maxRecDepth 100000 in
theorem read_bare (l : List Int) (h : Line.bare l = true) : Spec.read l = Spec.Sp.no 0 := by unfold Spec.read; rw [if_pos h]
set_option maxRecDepth 100000 in
theorem read_empty : Spec.read [] = Spec.Sp.no 0 := read_bare [] (by decide +kernel)
set_option maxRecDepth 100000 in
theorem split_end : ∀ (a cur : List Int), Line.splitA cur (a ++ [10]) = Line.splitA cur a ∨ Line.splitA cur (a ++ [10]) = Line.splitA cur a ++ [[]]
  | [], cur => by
    by_cases h : cur = []
    · subst h; exact .inr rfl
    · refine .inl ?_
      simp [Line.splitA, h]
  | c :: a, cur => by
    rw [List.cons_append]
    unfold Line.splitA
    by_cases h : c = 10
    · rw [if_pos h, if_pos h]
      rcases split_end a [] with e | e
      · exact .inl (by rw [e])
      · exact .inr (by rw [e]; rfl)
    · rw [if_neg h, if_neg h]
      exact split_end a (cur ++ [c])
set_option maxRecDepth 100000 in
/-- an end more changes nothing -/
theorem end_same (a : List Int) : flat (Line.split (a ++ [10])) = flat (Line.split a) ∧ bs (Line.split (a ++ [10])) = bs (Line.split a) ∧ ∀ l ∈ Line.split (a ++ [10]), l ∈ Line.split a ∨ l = [] := by
  rcases split_end a [] with e | e
  · have e' : Line.split (a ++ [10]) = Line.split a := e
    rw [e']; exact ⟨rfl, rfl, fun l h => .inl h⟩
  · have e' : Line.split (a ++ [10]) = Line.split a ++ [[]] := e
    rw [e', flat_app, bs_app]
    refine ⟨by simp [flat, read_empty, Spec.Sp.no], by simp [bs, read_empty, Spec.Sp.no], fun l h => ?_⟩
    rcases List.mem_append.1 h with h | h
    · exact .inl h
    · exact .inr (List.mem_singleton.1 h)
set_option maxRecDepth 100000 in
theorem end_ok {a : List Int} (h : Ok false [] (Line.split a)) : Ok false [] (Line.split (a ++ [10])) := by
  obtain ⟨e1, e2, e3⟩ := end_same a
  refine ⟨fun l hl => ?_, by rw [e2]; exact h.2.1, by rw [e1]; exact h.2.2⟩
  rcases e3 l hl with hl | rfl
  · exact h.1 l hl
  · rw [read_empty]; rfl
set_option maxRecDepth 100000 in
theorem ok_end {a : List Int} (h : Ok false [] (Line.split (a ++ [10]))) : Ok false [] (Line.split a) := by
  obtain ⟨e1, e2, _⟩ := end_same a
  refine ⟨fun l hl => h.1 l ?_, by rw [← e2]; exact h.2.1, by rw [← e1]; exact h.2.2⟩
  rcases split_end a [] with e | e
  · rw [show Line.split (a ++ [10]) = Line.split a from e]; exact hl
  · rw [show Line.split (a ++ [10]) = Line.split a ++ [[]] from e]; exact List.mem_append.2 (.inl hl)

set_option maxRecDepth 100000 in
theorem joins {a b : List Int} {x y z : Got} (hx : read a = x) (hy : read b = y) (hz : read (a ++ [10] ++ b) = z) (hxe : x.e = 0) (hye : y.e = 0) :
    (z.e ≠ 0 → ∃ k, z.at_ = ((k : Nat) : Int) ∧ (Line.split (a ++ [10])).length ≤ k ∧ (z.e = 80 ∨ z.e = 81 ∧ 200 < (nrm (x.c.rules ++ y.c.rules)).length)) ∧
    (z.e = 0 → z.at_ = -1 ∧ z.c.rules = nrm (x.c.rules ++ y.c.rules) ∧ (z.c.base = x.c.base ∨ z.c.base = y.c.base)) := by
  have ox := read_ok (by rw [hx]; exact hxe)
  have oy := read_ok (by rw [hy]; exact hye)
  have ax := read_all ox
  have ay := read_all oy
  rw [hx] at ax
  rw [hy] at ay
  subst ax ay
  obtain ⟨e1, e2, e3⟩ := end_same a
  have oA := end_ok ox
  have hs := Line.split_join a b
  have hall : nrm (nrm (flat (Line.split a)) ++ nrm (flat (Line.split b))) = nrm (flat (Line.split (a ++ [10] ++ b))) := by
    rw [nrm_parts, hs, flat_app, e1]
  constructor
  · intro he
    obtain ⟨k, hk, hat, _, hok, hor⟩ := read_bad hz he
    rw [hs] at hk hok hor
    generalize hA : Line.split (a ++ [10]) = A at *
    have h0 : (Spec.read ((A ++ Line.split b).getD k [])).e = 0 := by
      have hm : (A ++ Line.split b).getD k [] ∈ A ++ Line.split b := by rw [List.getD_eq_getElem?_getD, List.getElem?_eq_getElem hk, Option.getD_some]; exact List.getElem_mem _
      rcases List.mem_append.1 hm with hm | hm
      · exact oA.1 _ hm
      · exact oy.1 _ hm
    rcases hor with h | ⟨_, hor⟩
    · rw [h0] at h; exact absurd h.symm he
    · have hkA : A.length ≤ k := by
        rcases Nat.lt_or_ge k A.length with hlt | hge
        · exfalso
          have hg : (A ++ Line.split b).getD k [] = A[k] := by rw [List.getD_eq_getElem?_getD, List.getElem?_append_left hlt, List.getElem?_eq_getElem hlt]; rfl
          rcases hor with ⟨_, hb, hn⟩ | ⟨_, hn⟩
          · rw [hg] at hb
            rw [List.take_append_of_le_length (Nat.le_of_lt hlt)] at hn
            have h1 : bs A = bs (A.take k) ++ bs (A.drop k) := by rw [← bs_app, List.take_append_drop]
            rw [List.drop_eq_getElem_cons hlt, bs_cons, if_neg hb] at h1
            have h2 := oA.2.1
            rw [h1] at h2
            have h3 : 0 < (bs (A.take k)).length := List.length_pos_iff.2 hn
            simp at h2
            omega
          · rw [List.take_append_of_le_length (show k + 1 ≤ A.length from hlt)] at hn
            have h1 : flat A = flat (A.take (k + 1)) ++ flat (A.drop (k + 1)) := by rw [← flat_app, List.take_append_drop]
            have h2 := oA.2.2
            rw [List.nil_append, h1] at h2
            have h3 := nrm_more (flat (A.take (k + 1))) (flat (A.drop (k + 1)))
            omega
        · exact hge
      refine ⟨k, hat, hkA, ?_⟩
      rcases hor with ⟨h, _⟩ | ⟨h, hn⟩
      · exact .inl h
      · refine .inr ⟨h, ?_⟩
        show 200 < (nrm (nrm (flat (Line.split a)) ++ nrm (flat (Line.split b)))).length
        rw [hall, hs]
        have h1 : flat (A ++ Line.split b) = flat ((A ++ Line.split b).take (k + 1)) ++ flat ((A ++ Line.split b).drop (k + 1)) := by rw [← flat_app, List.take_append_drop]
        rw [h1]
        exact Nat.lt_of_lt_of_le hn (nrm_more _ _)
  · intro he
    have oz := read_ok (by rw [hz]; exact he)
    have az := read_all oz
    rw [hz] at az
    subst az
    refine ⟨rfl, hall.symm, ?_⟩
    show (bs (Line.split (a ++ [10] ++ b))).headD [1, 1, 1, 1] = (bs (Line.split a)).headD [1, 1, 1, 1] ∨ _ = (bs (Line.split b)).headD [1, 1, 1, 1]
    rw [hs, bs_app, e2]
    cases bs (Line.split a) with
    | nil => exact .inr rfl
    | cons q t => exact .inl rfl

set_option maxRecDepth 100000 in
/-- the rules of a file, and of one line more -/
theorem cheap {b m : List Int} {x y : Got} (hx : read (b ++ [10]) = x) (hy : read (b ++ [10] ++ m) = y) (hxe : x.e = 0) (hye : y.e = 0) :
    (∀ r ∈ x.c.rules, ∃ s ∈ y.c.rules, s.like r ∧ s.C ≤ r.C) ∧ ∀ l, Line.split m = [l] → (∀ r ∈ (Spec.read l).rules, ∃ s ∈ y.c.rules, s.like r ∧ s.C ≤ r.C) ∧ nrm (x.c.rules ++ (Spec.read l).rules) = y.c.rules := by
  have ox := read_ok (by rw [hx]; exact hxe)
  have oy := read_ok (by rw [hy]; exact hye)
  have ax := read_all ox
  have ay := read_all oy
  rw [hx] at ax
  rw [hy] at ay
  subst ax ay
  have hs := Line.split_join b m
  have hy2 : nrm (flat (Line.split (b ++ [10] ++ m))) = nrm (flat (Line.split (b ++ [10])) ++ flat (Line.split m)) := by rw [hs, flat_app]
  have has : ∀ r ∈ flat (Line.split (b ++ [10])) ++ flat (Line.split m), chk r = true → ∃ s ∈ nrm (flat (Line.split (b ++ [10] ++ m))), s.like r ∧ s.C ≤ r.C := by
    rw [hy2]; exact (isNorm_nrm _).2.2
  refine ⟨fun r hr => ?_, fun l hl => ⟨fun r hr => ?_, ?_⟩⟩
  · have h := (isNorm_nrm _).2.1 r hr
    exact has r (List.mem_append.2 (.inl h.1)) h.2
  · refine has r (List.mem_append.2 (.inr ?_)) ?_
    · rw [hl]; simp [flat, hr]
    · exact (Spec.fit_parts ((Spec.fine_read l).1 r hr)).1
  · show nrm (nrm (flat (Line.split (b ++ [10]))) ++ (Spec.read l).rules) = nrm (flat (Line.split (b ++ [10] ++ m)))
    rw [hy2, nrm_left, hl]
    simp [flat]

/-! ### lines turned, with bare ones between -/
set_option maxRecDepth 100000 in
theorem bs_short {a b : List (List Int)} (h : (bs (a ++ b)).length ≤ 1) : bs (b ++ a) = bs (a ++ b) := by
  rw [bs_app] at *
  rw [bs_app]
  rw [List.length_append] at h
  cases ha : bs a with
  | nil => simp
  | cons q t =>
    rw [ha] at h
    have : bs b = [] := List.eq_nil_of_length_eq_zero (by simp at h; omega)
    rw [this]; simp
def bareLine : List Int := [32, 35, 32, 98, 97, 114, 101]
set_option maxRecDepth 100000 in
theorem read_bareLine : Spec.read bareLine = Spec.Sp.no 0 := read_bare _ (by decide +kernel)
/-- each line with a bare one, and an empty one, behind it -/
def spaced (l : List (List Int)) : List (List Int) := l.flatMap fun x => [x, bareLine, []]
set_option maxRecDepth 100000 in
theorem spaced_facts (l : List (List Int)) : flat (spaced l) = flat l ∧ bs (spaced l) = bs l ∧ ∀ x ∈ spaced l, x ∈ l ∨ x = bareLine ∨ x = [] := by
  induction l with
  | nil => exact ⟨rfl, rfl, by simp [spaced]⟩
  | cons x l ih =>
    obtain ⟨i1, i2, i3⟩ := ih
    have e : spaced (x :: l) = x :: bareLine :: [] :: spaced l := by simp [spaced]
    refine ⟨?_, ?_, fun y hy => ?_⟩
    · rw [e, flat_cons, flat_cons, flat_cons, flat_cons, i1, read_bareLine, read_empty]; rfl
    · rw [e, bs_cons, bs_cons, bs_cons, bs_cons, i2, read_bareLine, read_empty]; rfl
    · rw [e] at hy
      simp only [List.mem_cons] at hy
      rcases hy with rfl | rfl | rfl | hy
      · exact .inl (by simp)
      · exact .inr (.inl rfl)
      · exact .inr (.inr rfl)
      · rcases i3 y hy with h | h
        · exact .inl (by simp [h])
        · exact .inr h
/-- the bytes of lines so spaced -/
def spacedBytes (l : List (List Int)) : List Int := l.flatMap fun x => x ++ [10] ++ [32, 35, 32, 98, 97, 114, 101, 10, 10]
set_option maxRecDepth 100000 in
theorem spacedBytes_is (l : List (List Int)) : spacedBytes l = (spaced l).flatMap fun x => x ++ [10] := by
  unfold spacedBytes spaced
  rw [List.flatMap_assoc]
  congr 1
set_option maxRecDepth 100000 in
theorem split_spaced {l : List (List Int)} (h : ∀ x ∈ l, ∀ c ∈ x, c ≠ 10) : Line.split (spacedBytes l) = spaced l := by
  rw [spacedBytes_is]
  refine Line.split_back _ fun x hx => ?_
  rcases (spaced_facts l).2.2 x hx with hx | rfl | rfl
  · exact h x hx
  · unfold bareLine; simp
  · simp
set_option maxRecDepth 100000 in
theorem turned {b : List Int} {x y : Got} {p q : List (List Int)} (hl : Line.split b = p ++ q) (hx : read b = x) (hy : read (spacedBytes (q ++ p)) = y) (hxe : x.e = 0) : y.e = 0 ∧ y.c = x.c := by
  have ox := read_ok (by rw [hx]; exact hxe)
  have ax := read_all ox
  rw [hx] at ax
  subst ax
  have hno : ∀ z ∈ q ++ p, ∀ c ∈ z, c ≠ 10 := fun z hz => Line.split_no b z (by rw [hl]; rcases List.mem_append.1 hz with h | h <;> simp [h])
  obtain ⟨s1, s2, s3⟩ := spaced_facts (q ++ p)
  rw [hl] at ox
  have hbs : bs (q ++ p) = bs (p ++ q) := bs_short (by have := ox.2.1; simpa using this)
  have hfl : nrm (flat (q ++ p)) = nrm (flat (p ++ q)) := by rw [flat_app, flat_app]; exact nrm_turned _ _
  have oy : Ok false [] (Line.split (spacedBytes (q ++ p))) := by
    rw [split_spaced hno]
    refine ⟨fun z hz => ?_, by rw [s2, hbs]; exact ox.2.1, by rw [s1, List.nil_append, hfl]; exact ox.2.2⟩
    rcases s3 z hz with hz | rfl | rfl
    · exact ox.1 z (by rcases List.mem_append.1 hz with h | h <;> simp [h])
    · rw [read_bareLine]; rfl
    · rw [read_empty]; rfl
  have ay := read_all oy
  rw [hy] at ay
  subst ay
  refine ⟨rfl, ?_⟩
  show Cst.mk _ _ = Cst.mk _ _
  rw [split_spaced hno, s1, s2, hbs, hfl, hl]
set_option maxRecDepth 100000 in
/-- the lines ahead of the one that is wrong are read -/
theorem ahead_read {b : List Int} {x y : Got} {k : Nat} (hx : read b = x) (hk : x.at_ = (k : Int)) (hxe : x.e ≠ 0) (hy : read (((Line.split b).take k).flatMap fun z => z ++ [10]) = y) :
    k < (Line.split b).length ∧ y.e = 0 ∧ ((Spec.read ((Line.split b).getD k [])).e = x.e ∨ (Spec.read ((Line.split b).getD k [])).e = 0 ∧ (x.e = 80 ∨ x.e = 81)) := by
  obtain ⟨k', hlt, hat, _, hok, hor⟩ := read_bad hx hxe
  obtain rfl : k = k' := by rw [hk] at hat; exact Int.ofNat.inj hat
  refine ⟨hlt, ?_, ?_⟩
  · have hs : Line.split (((Line.split b).take k).flatMap fun z => z ++ [10]) = (Line.split b).take k := Line.split_back _ fun z hz => Line.split_no b z (List.mem_of_mem_take hz)
    have := read_all (b := ((Line.split b).take k).flatMap fun z => z ++ [10]) (by rw [hs]; exact hok)
    rw [hy] at this
    rw [this]
  · rcases hor with h | ⟨h, ⟨h1, _⟩ | ⟨h1, _⟩⟩
    · exact .inl h
    · exact .inr ⟨h, .inl h1⟩
    · exact .inr ⟨h, .inr h1⟩
end File
end Go.Proofs.Ytdondndalpmdgaa
