import Derived.Test.YtbfjihbkkcggmaaPackA
/- Automata, and those of words' beginnings, in plain lists and numbers: nothing of the program. -/
namespace Go.Proofs.Ytbfjihbkkcggmaa
namespace Tri

/-- a state: whether it is final, and its arcs (sign, to) -/
structure St where
  final : Bool
  arcs : List (Int × Int)
def St.no : St := ⟨false, []⟩

/-- whether a sign stands behind the one ahead, if there is one -/
def behind : Option Int → Int → Bool
  | none, _ => true
  | some q, s => decide (q < s)
def arcsOk (n i : Nat) : Option Int → List (Int × Int) → Bool
  | _, [] => true
  | p, a :: r => Utf.good a.1 && decide ((i : Int) < a.2) && decide (a.2 < (n : Int)) && behind p a.1 && arcsOk n i (some a.1) r
def checkA (n : Nat) : Nat → List St → Bool
  | _, [] => true
  | i, s :: r => arcsOk n i none s.arcs && checkA n (i + 1) r
def check (l : List St) : Bool := checkA l.length 0 l && decide (1 ≤ l.length) && decide (l.length ≤ 6001)

def step (l : List St) (f s : Int) : Int × Bool :=
  if f < 0 ∨ (l.length : Int) ≤ f then (0, false)
  else match (l.getD f.toNat St.no).arcs.find? fun a => decide (a.1 = s) with
    | some a => (a.2, true)
    | none => (0, false)

/-- the beginnings of one length, and all, by their lengths, and in order -/
def level (ws : List (List Int)) (n : Nat) : List (List Int) := srt ((ws.filter fun w => decide (n ≤ w.length)).map fun w => w.take n)
def begs (ws : List (List Int)) : List (List Int) := [] :: (List.range 20).flatMap fun n => level ws (n + 1)
def arcOf (p : List Int) (x : List Int × Nat) : Option (Int × Int) := if x.1.length = p.length + 1 ∧ x.1.take p.length = p then some (x.1.getD p.length 0, (x.2 : Int)) else none
def arcsOf (l : List (List Int)) (p : List Int) : List (Int × Int) := l.zipIdx.filterMap (arcOf p)
def make (ws : List (List Int)) : List St := (begs ws).map fun p => ⟨decide (p ∈ ws), arcsOf (begs ws) p⟩

/-! ### what the beginnings are -/
set_option maxRecDepth 100000 in
theorem mem_level {ws : List (List Int)} {n : Nat} {p : List Int} : p ∈ level ws n ↔ p.length = n ∧ ∃ w ∈ ws, p <+: w := by
  unfold level
  rw [mem_srt, List.mem_map]
  constructor
  · rintro ⟨w, hw, rfl⟩
    rw [List.mem_filter, decide_eq_true_eq] at hw
    exact ⟨by simp; omega, w, hw.1, List.take_prefix n w⟩
  · rintro ⟨h1, w, hw, hp⟩
    refine ⟨w, ?_, ?_⟩
    · rw [List.mem_filter, decide_eq_true_eq]
      exact ⟨hw, by have := hp.length_le; omega⟩
    · rw [← h1]; exact (List.prefix_iff_eq_take.1 hp).symm
/-- all words are of at most twenty signs -/
def Short (ws : List (List Int)) : Prop := ∀ w ∈ ws, w.length ≤ 20
set_option maxRecDepth 100000 in
theorem mem_begs {ws : List (List Int)} (hs : Short ws) {p : List Int} : p ∈ begs ws ↔ p = [] ∨ ∃ w ∈ ws, p <+: w := by
  unfold begs
  rw [List.mem_cons, List.mem_flatMap]
  constructor
  · rintro (h | ⟨n, _, h⟩)
    · exact .inl h
    · exact .inr (mem_level.1 h).2
  · rintro (h | ⟨w, hw, hp⟩)
    · exact .inl h
    · cases p with
      | nil => exact .inl rfl
      | cons x p =>
        have h1 := hp.length_le
        have h2 := hs w hw
        simp only [List.length_cons] at h1
        exact .inr ⟨p.length, by simp; omega, mem_level.2 ⟨by simp, w, hw, hp⟩⟩
/-- shorter, or as long and ahead -/
def sl (a b : List Int) : Prop := a.length < b.length ∨ a.length = b.length ∧ lessL a b = true
set_option maxRecDepth 100000 in
theorem sl_irrefl (a : List Int) : ¬ sl a a := by
  rintro (h | ⟨_, h⟩)
  · omega
  · rw [less_irrefl] at h; cases h
set_option maxRecDepth 100000 in
theorem sl_asymm {a b : List Int} (h : sl a b) (h' : sl b a) : False := by
  rcases h with h | ⟨h1, h2⟩ <;> rcases h' with h' | ⟨h3, h4⟩
  · omega
  · omega
  · omega
  · rw [less_asymm h2] at h4; cases h4
set_option maxRecDepth 100000 in
theorem level_rise (ws : List (List Int)) (n : Nat) : (level ws n).Pairwise sl := by
  have h : Rise (level ws n) := rise_srt _
  refine List.Pairwise.imp_of_mem ?_ h
  intro a b ha hb hab
  exact .inr ⟨by rw [(mem_level.1 ha).1, (mem_level.1 hb).1], hab⟩
set_option maxRecDepth 100000 in
theorem begs_sorted (ws : List (List Int)) : (begs ws).Pairwise sl := by
  unfold begs
  rw [List.pairwise_cons]
  constructor
  · intro p hp
    obtain ⟨n, _, h⟩ := List.mem_flatMap.1 hp
    have := (mem_level.1 h).1
    exact .inl (by simp; omega)
  · rw [List.pairwise_flatMap]
    refine ⟨fun n _ => level_rise ws (n + 1), ?_⟩
    refine List.Pairwise.imp ?_ (List.pairwise_lt_range (n := 20))
    intro a b hab x hx y hy
    have h1 := (mem_level.1 hx).1
    have h2 := (mem_level.1 hy).1
    exact .inl (by omega)
set_option maxRecDepth 100000 in
theorem begs_nodup (ws : List (List Int)) : (begs ws).Nodup := (begs_sorted ws).imp fun h e => by subst e; exact sl_irrefl _ h
set_option maxRecDepth 100000 in
theorem sorted_unique : ∀ {l l' : List (List Int)}, l.Pairwise sl → l'.Pairwise sl → (∀ x, x ∈ l ↔ x ∈ l') → l = l'
  | [], [], _, _, _ => rfl
  | [], y :: l', _, _, h => absurd ((h y).2 (by simp)) (by simp)
  | x :: l, [], _, _, h => absurd ((h x).1 (by simp)) (by simp)
  | x :: l, y :: l', h1, h2, h => by
    rw [List.pairwise_cons] at h1 h2
    have hxy : x = y := by
      rcases List.mem_cons.1 ((h x).1 (by simp)) with e | e
      · exact e
      · rcases List.mem_cons.1 ((h y).2 (by simp)) with e' | e'
        · exact e'.symm
        · exact (sl_asymm (h1.1 y e') (h2.1 x e)).elim
    subst hxy
    rw [sorted_unique h1.2 h2.2 fun z => ?_]
    constructor
    · intro hz
      rcases List.mem_cons.1 ((h z).1 (by simp [hz])) with e | e
      · subst e; exact (sl_irrefl _ (h1.1 z hz)).elim
      · exact e
    · intro hz
      rcases List.mem_cons.1 ((h z).2 (by simp [hz])) with e | e
      · subst e; exact (sl_irrefl _ (h2.1 z hz)).elim
      · exact e
set_option maxRecDepth 100000 in
theorem begs_pos (ws : List (List Int)) : 0 < (begs ws).length := by simp [begs]
set_option maxRecDepth 100000 in
theorem begs_zero (ws : List (List Int)) : (begs ws)[0]'(begs_pos ws) = [] := rfl
set_option maxRecDepth 100000 in
theorem begs_closed {ws : List (List Int)} (hs : Short ws) {p q : List Int} (hq : q ∈ begs ws) (hp : p <+: q) : p ∈ begs ws := by
  rcases (mem_begs hs).1 hq with rfl | ⟨w, hw, h⟩
  · rw [List.prefix_nil.1 hp]; exact hq
  · exact (mem_begs hs).2 (.inr ⟨w, hw, hp.trans h⟩)
set_option maxRecDepth 100000 in
theorem level_le (ws : List (List Int)) (n : Nat) : (level ws n).length ≤ ws.length := by
  refine Nat.le_trans (srt_length _) ?_
  rw [List.length_map]; exact List.length_filter_le _ _
set_option maxRecDepth 100000 in
theorem begs_le (ws : List (List Int)) : (begs ws).length ≤ 1 + 20 * ws.length := by
  unfold begs
  have h : ∀ l : List Nat, (l.flatMap fun n => level ws (n + 1)).length ≤ l.length * ws.length := by
    intro l
    induction l with
    | nil => simp
    | cons x l ih =>
      rw [List.flatMap_cons, List.length_append, List.length_cons, Nat.succ_mul]
      have := level_le ws (x + 1)
      omega
  have := h (List.range 20)
  rw [List.length_range] at this
  rw [List.length_cons]; omega

/-! ### how many there are -/
/-- the most that a word has alike with others -/
def mc (seen : List (List Int)) (w : List Int) : Nat := seen.foldl (fun k x => max k (common x w)) 0
set_option maxRecDepth 100000 in
theorem foldl_max : ∀ (seen : List (List Int)) (w : List Int) (k : Nat), (∀ m, seen.foldl (fun k x => max k (common x w)) k ≤ m ↔ k ≤ m ∧ ∀ x ∈ seen, common x w ≤ m)
  | [], w, k => by simp
  | x :: seen, w, k => by
    intro m
    rw [List.foldl_cons, foldl_max seen w _ m]
    simp only [List.mem_cons, forall_eq_or_imp, Nat.max_le]
    constructor
    · rintro ⟨⟨h1, h2⟩, h3⟩; exact ⟨h1, h2, h3⟩
    · rintro ⟨h1, h2, h3⟩; exact ⟨⟨h1, h2⟩, h3⟩
set_option maxRecDepth 100000 in
theorem mc_le {seen : List (List Int)} {w : List Int} {m : Nat} : mc seen w ≤ m ↔ ∀ x ∈ seen, common x w ≤ m := by
  unfold mc; rw [foldl_max]; simp
set_option maxRecDepth 100000 in
theorem mc_snoc (seen : List (List Int)) (x w : List Int) : mc (seen ++ [x]) w = max (mc seen w) (common x w) := by simp [mc]
set_option maxRecDepth 100000 in
theorem mc_length (seen : List (List Int)) (w : List Int) : mc seen w ≤ w.length := mc_le.2 fun x _ => (common_le x w).2
set_option maxRecDepth 100000 in
theorem prefix_common {p x w : List Int} (hp : p <+: w) : p <+: x ↔ p.length ≤ common x w := by
  constructor
  · intro h
    have hx := List.prefix_iff_eq_take.1 h
    have hw := List.prefix_iff_eq_take.1 hp
    have h1 := common_three x p w
    have e1 : common p w = p.length := by
      obtain ⟨t, rfl⟩ := hp
      have := common_app p [] t
      rw [List.append_nil, common_nil_l] at this
      simpa using this
    have e2 : common x p = p.length := by
      obtain ⟨t, rfl⟩ := h
      have := common_app p t []
      rw [List.append_nil, common_nil_r] at this
      simpa using this
    rw [e1, e2] at h1
    simpa using h1
  · intro h
    have hw := List.prefix_iff_eq_take.1 hp
    have hc := common_take x w
    have : p = x.take p.length := by
      have h1 : x.take p.length = (x.take (common x w)).take p.length := by rw [List.take_take, Nat.min_eq_left h]
      have h2 : w.take p.length = (w.take (common x w)).take p.length := by rw [List.take_take, Nat.min_eq_left h]
      rw [h1, hc, ← h2]; exact hw
    exact List.prefix_iff_eq_take.2 this
set_option maxRecDepth 100000 in
theorem mc_lt {seen : List (List Int)} {w p : List Int} (hp : p <+: w) : mc seen w < p.length ↔ p ≠ [] ∧ ∀ x ∈ seen, ¬ p <+: x := by
  constructor
  · intro h
    refine ⟨fun e => by rw [e] at h; simp at h, fun x hx hpx => ?_⟩
    have h1 := (prefix_common hp).1 hpx
    have h2 := mc_le.1 (Nat.le_refl (mc seen w)) x hx
    omega
  · rintro ⟨h1, h2⟩
    have hpos : 0 < p.length := List.length_pos_iff.2 h1
    have : mc seen w ≤ p.length - 1 := mc_le.2 fun x hx => by
      have := h2 x hx
      rw [prefix_common hp] at this
      omega
    omega
/-- the beginnings of a word that are longer than k -/
def tails (w : List Int) (k : Nat) : List (List Int) := (List.range (w.length - k)).map fun j => w.take (k + 1 + j)
set_option maxRecDepth 100000 in
theorem mem_tails {w p : List Int} {k : Nat} : p ∈ tails w k ↔ k < p.length ∧ p <+: w := by
  unfold tails
  rw [List.mem_map]
  constructor
  · rintro ⟨j, hj, rfl⟩
    rw [List.mem_range] at hj
    exact ⟨by simp; omega, List.take_prefix _ _⟩
  · rintro ⟨h1, h2⟩
    refine ⟨p.length - k - 1, ?_, ?_⟩
    · have := h2.length_le; rw [List.mem_range]; omega
    · rw [show k + 1 + (p.length - k - 1) = p.length by omega]
      exact (List.prefix_iff_eq_take.1 h2).symm
set_option maxRecDepth 100000 in
theorem tails_length (w : List Int) (k : Nat) : (tails w k).length = w.length - k := by simp [tails]
set_option maxRecDepth 100000 in
theorem tails_nodup (w : List Int) (k : Nat) : (tails w k).Nodup := by
  unfold tails List.Nodup
  rw [List.pairwise_map]
  refine List.Pairwise.imp_of_mem ?_ List.pairwise_lt_range
  intro x y hx hy hxy e
  rw [List.mem_range] at hx hy
  have := congrArg List.length e
  simp at this
  omega
/-- the beginnings that words have, each with the first that has it -/
def preA : List (List Int) → List (List Int) → List (List Int)
  | _, [] => []
  | seen, w :: r => tails w (mc seen w) ++ preA (seen ++ [w]) r
set_option maxRecDepth 100000 in
theorem mem_preA : ∀ {ws seen : List (List Int)} {p : List Int}, p ∈ preA seen ws ↔ p ≠ [] ∧ (∃ w ∈ ws, p <+: w) ∧ ∀ x ∈ seen, ¬ p <+: x
  | [], seen, p => by simp [preA]
  | w :: r, seen, p => by
    unfold preA
    rw [List.mem_append, mem_tails, mem_preA]
    constructor
    · rintro (⟨h1, h2⟩ | ⟨h1, ⟨y, hy, h2⟩, h3⟩)
      · obtain ⟨h3, h4⟩ := (mc_lt h2).1 h1
        exact ⟨h3, ⟨w, by simp, h2⟩, h4⟩
      · exact ⟨h1, ⟨y, by simp [hy], h2⟩, fun x hx => h3 x (by simp [hx])⟩
    · rintro ⟨h1, ⟨y, hy, h2⟩, h3⟩
      by_cases hw : p <+: w
      · exact .inl ⟨(mc_lt hw).2 ⟨h1, h3⟩, hw⟩
      · rcases List.mem_cons.1 hy with rfl | hy
        · exact absurd h2 hw
        · refine .inr ⟨h1, ⟨y, hy, h2⟩, fun x hx => ?_⟩
          rcases List.mem_append.1 hx with hx | hx
          · exact h3 x hx
          · rw [List.mem_singleton.1 hx]; exact hw
set_option maxRecDepth 100000 in
theorem preA_nodup : ∀ (ws seen : List (List Int)), (preA seen ws).Nodup
  | [], seen => by simp [preA]
  | w :: r, seen => by
    unfold preA
    rw [List.nodup_append]
    refine ⟨tails_nodup _ _, preA_nodup r _, ?_⟩
    intro a ha b hb e
    subst e
    exact (mem_preA.1 hb).2.2 w (by simp) (mem_tails.1 ha).2
set_option maxRecDepth 100000 in
theorem preA_app : ∀ (ws seen : List (List Int)) (w : List Int), (preA seen (ws ++ [w])).length = (preA seen ws).length + (w.length - mc (seen ++ ws) w)
  | [], seen, w => by simp [preA, tails_length]
  | x :: ws, seen, w => by
    rw [List.cons_append, preA, preA, List.length_append, List.length_append, preA_app ws (seen ++ [x]) w]
    simp; omega
set_option maxRecDepth 100000 in
theorem begs_length {ws : List (List Int)} (hs : Short ws) : (begs ws).length = 1 + (preA [] ws).length := by
  have hn : ([] :: preA [] ws).Nodup := by
    rw [List.nodup_cons]
    exact ⟨fun h => (mem_preA.1 h).1 rfl, preA_nodup _ _⟩
  have hp : (begs ws).Perm ([] :: preA [] ws) := by
    refine (List.perm_ext_iff_of_nodup (begs_nodup ws) hn).2 fun p => ?_
    rw [mem_begs hs, List.mem_cons, mem_preA]
    constructor
    · rintro (h | h)
      · exact .inl h
      · by_cases hp : p = []
        · exact .inl hp
        · exact .inr ⟨hp, h, by simp⟩
    · rintro (h | ⟨_, h, _⟩)
      · exact .inl h
      · exact .inr h
  rw [hp.length_eq, List.length_cons]; omega
set_option maxRecDepth 100000 in
theorem begs_more {ws : List (List Int)} {w : List Int} (hs : Short ws) (hw : w.length ≤ 20) : (begs (srt (ws ++ [w]))).length = (begs ws).length + w.length - mc ws w := by
  have h1 : Short (srt (ws ++ [w])) := fun x hx => by
    rcases List.mem_append.1 (mem_srt.1 hx) with h | h
    · exact hs x h
    · rw [List.mem_singleton.1 h]; exact hw
  have h2 : Short (ws ++ [w]) := fun x hx => h1 x (mem_srt.2 hx)
  have e : begs (srt (ws ++ [w])) = begs (ws ++ [w]) := sorted_unique (begs_sorted _) (begs_sorted _) fun p => by
    rw [mem_begs h1, mem_begs h2]
    simp only [mem_srt]
  rw [e, begs_length h2, begs_length hs, preA_app, List.nil_append]
  have := mc_length ws w
  omega
set_option maxRecDepth 100000 in
theorem alike_between {y x w : List Int} {k : Nat} (hk : k ≤ y.length) (hw : w = y.take k ++ w.drop k) (h1 : lessL y x = true) (h2 : lessL x w = true) : k ≤ common x y := by
  rcases Nat.lt_or_ge (common x y) k with hlt | hge
  · exfalso
    -- x leaves y at a place ahead of k: it stands on one side of both
    have hc := less_common y x
    rw [h1, common_comm] at hc
    have hcl := common_le x y
    have hxw : common x w = common x y := by
      have h3 := common_three x y w
      have h4 := common_three x w y
      have h5 : k ≤ common y w := by
        have e : common (y.take k ++ y.drop k) (y.take k ++ w.drop k) = (y.take k).length + common (y.drop k) (w.drop k) := common_app _ _ _
        rw [List.take_append_drop, ← hw] at e
        rw [e]; simp; omega
      rw [common_comm w y] at h4
      omega
    have hd := less_common x w
    rw [h2, hxw] at hd
    have hyl : common x y < y.length := by omega
    have hwl : common x y < w.length := by
      have : (y.take k).length ≤ w.length := by rw [hw]; simp
      simp at this; omega
    have hwy : w.getD (common x y) 0 = y.getD (common x y) 0 := by
      have hwk : w.take k = y.take k := by
        have e := congrArg (List.take k) hw
        rw [List.take_append_of_le_length (by simp; omega)] at e
        simpa [List.take_take] using e
      have e := congrArg (fun l => l[common x y]?) hwk
      simp only [List.getElem?_take, if_pos hlt] at e
      rw [List.getD_eq_getElem?_getD, List.getD_eq_getElem?_getD, e]
    by_cases hx : common x y < x.length
    · rw [if_pos ⟨hyl, hx⟩] at hc
      rw [if_pos ⟨hx, hwl⟩, hwy] at hd
      have hc' := of_decide_eq_true hc.symm
      have hd' := of_decide_eq_true hd.symm
      omega
    · rw [if_neg (fun h => hx h.2)] at hc
      have hc' := of_decide_eq_true hc.symm
      omega
  · exact hge
set_option maxRecDepth 100000 in
theorem common_between {y x w : List Int} (h1 : lessL y x = true) (h2 : lessL x w = true) : common y w ≤ common x w := by
  -- where y and w are alike x is, too
  obtain ⟨k, hk⟩ : ∃ k, common y w = k := ⟨_, rfl⟩
  have hy := common_le y w
  have ht := common_take y w
  rw [hk] at hy ht ⊢
  have ey : y = y.take k ++ y.drop k := (List.take_append_drop k y).symm
  have ew : w = y.take k ++ w.drop k := by rw [ht]; exact (List.take_append_drop k w).symm
  have hp : (y.take k) <+: x := by
    have hl : (y.take k).length = k := by simp; omega
    refine (prefix_common (List.take_prefix k y)).2 ?_
    rw [hl]
    exact alike_between hy.1 ew h1 h2
  have := (prefix_common (w := w) (x := x) (p := y.take k) (by rw [ht]; exact List.take_prefix k w)).1 hp
  have hl : (y.take k).length = k := by simp; omega
  rw [hl] at this; exact this
set_option maxRecDepth 100000 in
/-- words that rise: a word has most alike with the one ahead -/
theorem mc_rise : ∀ {ws : List (List Int)} {w : List Int}, Rise (ws ++ [w]) → mc ws w = if ws = [] then 0 else common (ws.getLastD []) w := by
  intro ws w h
  rcases List.eq_nil_or_concat ws with rfl | ⟨l, x, rfl⟩
  · simp [mc]
  · rw [List.concat_eq_append] at h ⊢
    rw [if_neg (by simp), mc_snoc, List.getLastD_concat]
    have hlx : Rise (l ++ [x]) := (List.pairwise_append.1 h).1
    have hxw : lessL x w = true := (List.pairwise_append.1 h).2.2 x (by simp) w (by simp)
    have : mc l w ≤ common x w := mc_le.2 fun y hy => by
      have hyx : lessL y x = true := (List.pairwise_append.1 hlx).2.2 y hy x (by simp)
      exact common_between hyx hxw
    omega

end Tri
end Go.Proofs.Ytbfjihbkkcggmaa

/- The automaton of words' beginnings: its arcs, where words lead, that it may be, how much it has. Nothing of the program. -/
namespace Go.Proofs.Ytbfjihbkkcggmaa
namespace Tri

set_option maxRecDepth 100000 in
theorem arc_some {p : List Int} {x : List Int × Nat} {a : Int × Int} : arcOf p x = some a ↔ x.1 = p ++ [a.1] ∧ a.2 = (x.2 : Int) := by
  obtain ⟨q, k⟩ := x
  obtain ⟨s, t⟩ := a
  unfold arcOf
  constructor
  · intro h
    split at h
    · rename_i hc
      simp only [Option.some.injEq, Prod.mk.injEq] at h
      obtain ⟨h1, h2⟩ := h
      simp only at hc
      refine ⟨?_, h2.symm⟩
      have e : q = q.take p.length ++ q.drop p.length := (List.take_append_drop _ _).symm
      have hd : q.drop p.length = [s] := by
        rw [List.drop_eq_getElem_cons (by omega), List.drop_eq_nil_of_le (by omega)]
        have : q.getD p.length 0 = q[p.length]'(by omega) := by simp [show p.length < q.length by omega]
        rw [← h1, this]
      rw [hc.2, hd] at e
      exact e
    · cases h
  · rintro ⟨h1, h2⟩
    simp only at h1 h2
    subst h1 h2
    rw [if_pos ⟨by simp, by simp⟩]
    simp
set_option maxRecDepth 100000 in
theorem mem_arcs {B : List (List Int)} {p : List Int} {a : Int × Int} : a ∈ arcsOf B p ↔ ∃ k, ∃ h : k < B.length, B[k] = p ++ [a.1] ∧ a.2 = (k : Int) := by
  unfold arcsOf
  rw [List.mem_filterMap]
  constructor
  · rintro ⟨⟨q, k⟩, hm, ha⟩
    obtain ⟨h1, h2⟩ := arc_some.1 ha
    have hk := List.mem_zipIdx hm
    simp only at h1 h2 hk
    refine ⟨k, by omega, ?_, h2⟩
    rw [← h1]
    have := hk.2.2
    simpa using this.symm
  · rintro ⟨k, hk, h1, h2⟩
    refine ⟨(p ++ [a.1], k), ?_, arc_some.2 ⟨rfl, h2⟩⟩
    rw [← h1]
    refine List.mem_iff_getElem?.2 ⟨k, ?_⟩
    rw [List.getElem?_zipIdx, List.getElem?_eq_getElem hk]
    simp
set_option maxRecDepth 100000 in
theorem sl_app {p : List Int} {s t : Int} (h : sl (p ++ [s]) (p ++ [t])) : s < t := by
  rcases h with h | ⟨_, h⟩
  · simp at h
  · rw [less_app] at h
    have h' : ¬ s = t ∧ s < t := by simpa [lessL] using h
    exact h'.2
set_option maxRecDepth 100000 in
theorem arcs_rise {B : List (List Int)} (hB : B.Pairwise sl) (p : List Int) : (arcsOf B p).Pairwise fun a b => a.1 < b.1 ∧ a.2 < b.2 := by
  have hz : B.zipIdx.Pairwise fun x y => sl x.1 y.1 ∧ x.2 < y.2 := by
    rw [List.pairwise_iff_getElem]
    intro i j hi hj hij
    rw [List.getElem_zipIdx, List.getElem_zipIdx]
    simp only [List.length_zipIdx] at hi hj
    exact ⟨List.pairwise_iff_getElem.1 hB i j hi hj hij, by omega⟩
  unfold arcsOf
  rw [List.pairwise_filterMap]
  refine hz.imp ?_
  intro x y hxy a ha b hb
  obtain ⟨h1, h2⟩ := arc_some.1 ha
  obtain ⟨h3, h4⟩ := arc_some.1 hb
  rw [h1, h3] at hxy
  exact ⟨sl_app hxy.1, by rw [h2, h4]; exact Int.ofNat_lt.2 hxy.2⟩
set_option maxRecDepth 100000 in
theorem at_of_sl {B : List (List Int)} (hB : B.Pairwise sl) {i k : Nat} {p : List Int} {s : Int} (hi : i < B.length) (hk : k < B.length) (h1 : B[i] = p) (h2 : B[k] = p ++ [s]) : i < k := by
  rcases Nat.lt_or_ge i k with h | h
  · exact h
  · exfalso
    rcases Nat.lt_or_eq_of_le h with h | h
    · have := List.pairwise_iff_getElem.1 hB k i hk hi h
      rw [h1, h2] at this
      rcases this with h3 | ⟨h3, _⟩ <;> (simp at h3; try omega)
    · subst h
      rw [h1] at h2
      have := congrArg List.length h2
      simp at this
set_option maxRecDepth 100000 in
theorem nodup_at {B : List (List Int)} (hB : B.Nodup) {i k : Nat} (hi : i < B.length) (hk : k < B.length) (h : B[i] = B[k]) : i = k := by
  rcases Nat.lt_trichotomy i k with h' | h' | h'
  · exact absurd h (List.pairwise_iff_getElem.1 hB i k hi hk h')
  · exact h'
  · exact absurd h.symm (List.pairwise_iff_getElem.1 hB k i hk hi h')

/-! ### it may be -/
set_option maxRecDepth 100000 in
theorem arcsOk_of {n i : Nat} : ∀ {l : List (Int × Int)} {p : Option Int}, (∀ a ∈ l, Utf.good a.1 = true ∧ (i : Int) < a.2 ∧ a.2 < (n : Int)) → (l.Pairwise fun a b => a.1 < b.1) → (∀ q, p = some q → ∀ a ∈ l, q < a.1) → arcsOk n i p l = true
  | [], _, _, _, _ => rfl
  | a :: r, p, h1, h2, h3 => by
    rw [List.pairwise_cons] at h2
    obtain ⟨g1, g2, g3⟩ := h1 a (by simp)
    unfold arcsOk
    rw [arcsOk_of (fun b hb => h1 b (by simp [hb])) h2.2 (fun q hq b hb => by cases hq; exact h2.1 b hb)]
    cases p with
    | none => simp [g1, g2, g3, behind]
    | some q => simp [g1, g2, g3, behind, h3 q rfl a (by simp)]
set_option maxRecDepth 100000 in
theorem checkA_of {n : Nat} : ∀ {l : List St} {i : Nat}, (∀ k, ∀ h : k < l.length, arcsOk n (i + k) none l[k].arcs = true) → checkA n i l = true
  | [], _, _ => rfl
  | s :: r, i, h => by
    unfold checkA
    have h0 := h 0 (by simp)
    simp only [Nat.add_zero, List.getElem_cons_zero] at h0
    rw [h0, checkA_of (i := i + 1) fun k hk => ?_]
    · rfl
    · have := h (k + 1) (by simp; omega)
      rw [List.getElem_cons_succ] at this
      rw [show i + 1 + k = i + (k + 1) by omega]; exact this
set_option maxRecDepth 100000 in
theorem make_length (ws : List (List Int)) : (make ws).length = (begs ws).length := by simp [make]
set_option maxRecDepth 100000 in
theorem make_at {ws : List (List Int)} {i : Nat} (h : i < (make ws).length) : (make ws)[i] = ⟨decide ((begs ws)[i]'(by rw [make_length] at h; exact h) ∈ ws), arcsOf (begs ws) ((begs ws)[i]'(by rw [make_length] at h; exact h))⟩ := by simp [make]
set_option maxRecDepth 100000 in
theorem make_arc {ws : List (List Int)} (hs : Short ws) (hg : ∀ w ∈ ws, Utf.allGood w = true) {i : Nat} (hi : i < (begs ws).length) {a : Int × Int} (ha : a ∈ arcsOf (begs ws) ((begs ws)[i])) : Utf.good a.1 = true ∧ (i : Int) < a.2 ∧ a.2 < ((begs ws).length : Int) := by
  obtain ⟨k, hk, h1, h2⟩ := mem_arcs.1 ha
  have hik := at_of_sl (begs_sorted ws) hi hk rfl h1
  refine ⟨?_, by rw [h2]; exact Int.ofNat_lt.2 hik, by rw [h2]; exact Int.ofNat_lt.2 hk⟩
  have hm : (begs ws)[i] ++ [a.1] ∈ begs ws := by rw [← h1]; exact List.getElem_mem _
  rcases (mem_begs hs).1 hm with h | ⟨w, hw, t, ht⟩
  · simp at h
  · have := hg w hw
    unfold Utf.allGood at this
    exact List.all_eq_true.1 this a.1 (by rw [← ht]; simp)
set_option maxRecDepth 100000 in
theorem make_check {ws : List (List Int)} (hs : Short ws) (hg : ∀ w ∈ ws, Utf.allGood w = true) (hl : ws.length ≤ 300) : check (make ws) = true := by
  unfold check
  have h1 := begs_le ws
  have h2 := begs_pos ws
  have h3 := make_length ws
  rw [checkA_of fun k hk => ?_]
  · rw [decide_eq_true (show 1 ≤ (make ws).length by omega), decide_eq_true (show (make ws).length ≤ 6001 by omega)]; rfl
  · rw [make_at hk]
    have hkb : k < (begs ws).length := by omega
    refine arcsOk_of (fun a ha => ?_) ((arcs_rise (begs_sorted ws) _).imp fun h => h.1) (fun q hq => by cases hq)
    rw [Nat.zero_add, h3]
    exact make_arc hs hg hkb ha

/-! ### where words lead -/
set_option maxRecDepth 100000 in
theorem step_make {ws : List (List Int)} {i : Nat} {p : List Int} {s : Int} (hi : i < (begs ws).length) (hp : (begs ws)[i] = p) :
    (∀ k, ∀ h : k < (begs ws).length, (begs ws)[k] = p ++ [s] → step (make ws) (i : Int) s = ((k : Int), true)) ∧ (p ++ [s] ∉ begs ws → step (make ws) (i : Int) s = (0, false)) := by
  have hst : step (make ws) (i : Int) s = match (arcsOf (begs ws) p).find? fun a => decide (a.1 = s) with
      | some a => (a.2, true)
      | none => (0, false) := by
    unfold step
    have hl := make_length ws
    rw [if_neg (by omega)]
    have e : (make ws).getD (i : Int).toNat St.no = (make ws)[i]'(by omega) := by
      rw [Int.toNat_natCast]; simp [show i < (make ws).length by omega]
    rw [e, make_at (by omega)]
    simp only [hp]
    all_goals rfl
  rw [hst]
  constructor
  · intro k hk hkp
    cases hf : (arcsOf (begs ws) p).find? fun a => decide (a.1 = s) with
    | none =>
      have h := List.find?_eq_none.1 hf (s, (k : Int)) (mem_arcs.2 ⟨k, hk, hkp, rfl⟩)
      simp at h
    | some a =>
      have h1 := List.find?_some hf
      have h2 := List.mem_of_find?_eq_some hf
      obtain ⟨k', hk', h3, h4⟩ := mem_arcs.1 h2
      have h5 : a.1 = s := of_decide_eq_true h1
      rw [h5, ← hkp] at h3
      have := nodup_at (begs_nodup ws) hk' hk h3
      subst this
      simp [h4]
  · intro hn
    cases hf : (arcsOf (begs ws) p).find? fun a => decide (a.1 = s) with
    | none => rfl
    | some a =>
      exfalso
      have h1 := List.find?_some hf
      obtain ⟨k', hk', h3, _⟩ := mem_arcs.1 (List.mem_of_find?_eq_some hf)
      have h5 : a.1 = s := of_decide_eq_true h1
      rw [h5] at h3
      exact hn (by rw [← h3]; exact List.getElem_mem _)
/-- where signs lead from a state -/
def walk (l : List St) : Int → List Int → Option Int
  | a, [] => some a
  | a, s :: w => if (step l a s).2 = true then walk l (step l a s).1 w else none
set_option maxRecDepth 100000 in
theorem walk_app (l : List St) : ∀ (a : Int) (u v : List Int), walk l a (u ++ v) = (walk l a u).bind fun b => walk l b v
  | a, [], v => rfl
  | a, s :: u, v => by
    rw [List.cons_append, walk, walk]
    split
    · exact walk_app l _ u v
    · rfl
set_option maxRecDepth 100000 in
theorem walk_from {ws : List (List Int)} (hs : Short ws) : ∀ (w : List Int) {i : Nat} {p : List Int} (hi : i < (begs ws).length) (_ : (begs ws)[i] = p),
    (∀ k, ∀ h : k < (begs ws).length, (begs ws)[k] = p ++ w → walk (make ws) (i : Int) w = some (k : Int)) ∧ (p ++ w ∉ begs ws → walk (make ws) (i : Int) w = none)
  | [], i, p, hi, hp => by
    refine ⟨fun k hk h => ?_, fun h => absurd (by rw [List.append_nil, ← hp]; exact List.getElem_mem _) h⟩
    rw [List.append_nil, ← hp] at h
    rw [nodup_at (begs_nodup ws) hk hi h]; rfl
  | s :: w, i, p, hi, hp => by
    obtain ⟨h1, h2⟩ := step_make (s := s) hi hp
    have e : p ++ s :: w = (p ++ [s]) ++ w := by simp
    by_cases hm : p ++ [s] ∈ begs ws
    · obtain ⟨k, hk, hkp⟩ := List.getElem_of_mem hm
      have h3 := h1 k hk hkp
      obtain ⟨h4, h5⟩ := walk_from hs w hk hkp
      rw [e]
      unfold walk
      rw [h3]
      exact ⟨fun k' hk' h => by simpa using h4 k' hk' h, fun h => by simpa using h5 h⟩
    · have h3 := h2 hm
      have hno : p ++ s :: w ∉ begs ws := fun h => hm (begs_closed hs h (by rw [e]; exact List.prefix_append _ _))
      refine ⟨fun k hk h => absurd (by rw [← h]; exact List.getElem_mem _) hno, fun _ => ?_⟩
      unfold walk
      rw [h3]; simp
set_option maxRecDepth 100000 in
theorem walk_make {ws : List (List Int)} (hs : Short ws) (w : List Int) : (∀ k, ∀ h : k < (begs ws).length, (begs ws)[k] = w → walk (make ws) 0 w = some (k : Int)) ∧ (w ∉ begs ws → walk (make ws) 0 w = none) := by
  have h := walk_from hs w (begs_pos ws) (begs_zero ws)
  simpa using h
set_option maxRecDepth 100000 in
theorem final_at {ws : List (List Int)} {k : Nat} {w : List Int} (hk : k < (begs ws).length) (h : (begs ws)[k] = w) : ((make ws).getD k St.no).final = decide (w ∈ ws) := by
  have hl := make_length ws
  have e : (make ws).getD k St.no = (make ws)[k]'(by omega) := by simp [show k < (make ws).length by omega]
  rw [e, make_at (by omega)]
  simp only [h]
set_option maxRecDepth 100000 in
theorem word_begs {ws : List (List Int)} (hs : Short ws) {w : List Int} (hw : w ∈ ws) : w ∈ begs ws := (mem_begs hs).2 (.inr ⟨w, hw, List.prefix_refl w⟩)
set_option maxRecDepth 100000 in
theorem begs_common {ws : List (List Int)} (hs : Short ws) {w : List Int} : w ∈ begs ws ↔ w = [] ∨ ∃ x ∈ ws, common x w = w.length := by
  rw [mem_begs hs]
  have h : ∀ x, w <+: x ↔ common x w = w.length := fun x => by
    rw [prefix_common (List.prefix_refl w)]
    have := (common_le x w).2
    omega
  simp only [h]

/-! ### how much it has -/
set_option maxRecDepth 100000 in
theorem finals_count {ws : List (List Int)} (hs : Short ws) (hr : Rise ws) : (make ws).countP (fun s => s.final) = ws.length := by
  have hn : ws.Nodup := hr.imp fun h e => by subst e; rw [less_irrefl] at h; cases h
  have h1 : (make ws).countP (fun s => s.final) = ((begs ws).filter fun p => decide (p ∈ ws)).length := by
    unfold make
    rw [List.countP_map, List.countP_eq_length_filter]; rfl
  rw [h1]
  refine List.Perm.length_eq ((List.perm_ext_iff_of_nodup (List.Pairwise.filter _ (begs_nodup ws)) hn).2 fun p => ?_)
  rw [List.mem_filter, decide_eq_true_eq]
  exact ⟨fun h => h.2, fun h => ⟨word_begs hs h, h⟩⟩
/-- all that is led to, in order of the states that lead there -/
def tos (l : List St) : List Int := l.flatMap fun s => s.arcs.map fun a => a.2
set_option maxRecDepth 100000 in
theorem tos_nodup (ws : List (List Int)) : (tos (make ws)).Nodup := by
  unfold tos make List.Nodup
  rw [List.flatMap_map, List.pairwise_flatMap]
  refine ⟨fun p _ => ?_, ?_⟩
  · rw [List.pairwise_map]
    exact (arcs_rise (begs_sorted ws) p).imp fun h e => by have := h.2; omega
  · refine (begs_nodup ws).imp ?_
    intro p q hpq x hx y hy e
    obtain ⟨a, ha, rfl⟩ := List.mem_map.1 hx
    obtain ⟨b, hb, rfl⟩ := List.mem_map.1 hy
    obtain ⟨k, hk, h1, h2⟩ := mem_arcs.1 ha
    obtain ⟨j, hj, h3, h4⟩ := mem_arcs.1 hb
    have : k = j := by omega
    subst this
    rw [h1] at h3
    exact hpq (List.append_inj' h3 rfl).1
set_option maxRecDepth 100000 in
theorem mem_tos {ws : List (List Int)} (hs : Short ws) {t : Int} : t ∈ tos (make ws) ↔ 1 ≤ t ∧ t < ((begs ws).length : Int) := by
  unfold tos
  rw [List.mem_flatMap]
  constructor
  · rintro ⟨s, hs', hx⟩
    obtain ⟨p, _, rfl⟩ := List.mem_map.1 hs'
    obtain ⟨a, ha, rfl⟩ := List.mem_map.1 hx
    obtain ⟨k, hk, h1, h2⟩ := mem_arcs.1 ha
    have : k ≠ 0 := fun e => by
      subst e
      rw [begs_zero] at h1
      simp at h1
    omega
  · rintro ⟨h1, h2⟩
    obtain ⟨k, rfl⟩ : ∃ k : Nat, t = (k : Int) := ⟨t.toNat, by omega⟩
    have hk : k < (begs ws).length := by omega
    obtain ⟨q, hq⟩ : ∃ q, (begs ws)[k] = q := ⟨_, rfl⟩
    have hne : q ≠ [] := fun e => by
      rw [e, ← begs_zero ws] at hq
      have := nodup_at (begs_nodup ws) hk (begs_pos ws) hq
      omega
    rcases List.eq_nil_or_concat q with h | ⟨p, s, h⟩
    · exact absurd h hne
    · rw [List.concat_eq_append] at h
      have hpm : p ∈ begs ws := begs_closed hs (q := q) (by rw [← hq]; exact List.getElem_mem _) (by rw [h]; exact List.prefix_append _ _)
      refine ⟨⟨decide (p ∈ ws), arcsOf (begs ws) p⟩, List.mem_map.2 ⟨p, hpm, rfl⟩, List.mem_map.2 ⟨(s, (k : Int)), mem_arcs.2 ⟨k, hk, by rw [hq, h], rfl⟩, rfl⟩⟩
set_option maxRecDepth 100000 in
theorem tos_length {ws : List (List Int)} (hs : Short ws) : (tos (make ws)).length = (begs ws).length - 1 := by
  have hn : ((List.range ((begs ws).length - 1)).map fun j => ((j + 1 : Nat) : Int)).Nodup := by
    unfold List.Nodup
    rw [List.pairwise_map]
    exact List.pairwise_lt_range.imp fun h e => by omega
  rw [((List.perm_ext_iff_of_nodup (tos_nodup ws) hn).2 fun t => ?_).length_eq]
  · simp
  · rw [mem_tos hs, List.mem_map]
    constructor
    · rintro ⟨h1, h2⟩
      exact ⟨t.toNat - 1, by rw [List.mem_range]; omega, by omega⟩
    · rintro ⟨j, hj, rfl⟩
      rw [List.mem_range] at hj
      omega
set_option maxRecDepth 100000 in
theorem tos_arcs (l : List St) : (tos l).length = (l.map fun s => s.arcs.length).sum := by
  unfold tos
  rw [List.length_flatMap]
  congr 1
  exact List.map_congr_left fun s _ => by simp
set_option maxRecDepth 100000 in
/-- what is counted, word by word -/
theorem count_step {ws : List (List Int)} (hr : Rise ws) {i : Nat} (hi : i < ws.length) : (preA [] (ws.take (i + 1))).length = (preA [] (ws.take i)).length + ((ws.getD i []).length - if i = 0 then 0 else common (ws.getD i []) (ws.getD (i - 1) [])) := by
  have e : ws.take (i + 1) = ws.take i ++ [ws.getD i []] := by
    rw [List.take_succ_eq_append_getElem hi]; simp [hi]
  have hr' : Rise (ws.take i ++ [ws.getD i []]) := by rw [← e]; exact List.Pairwise.sublist (List.take_sublist _ _) hr
  rw [e, preA_app, List.nil_append, mc_rise hr']
  congr 2
  by_cases h0 : i = 0
  · subst h0; simp
  · rw [if_neg h0, if_neg (fun h => by have := congrArg List.length h; rw [List.length_take, List.length_nil] at this; omega), common_comm]
    congr 1
    rw [List.getLastD_eq_getLast?, List.getLast?_take, if_neg h0, List.getElem?_eq_getElem (show i - 1 < ws.length by omega)]
    simp [show i - 1 < ws.length by omega]

end Tri
end Go.Proofs.Ytbfjihbkkcggmaa

/- The endings of beginnings, the kinds of beginnings that are alike, and their order, in plain lists and numbers: nothing of the program. -/
namespace Go.Proofs.Ytbfjihbkkcggmaa
namespace Daw
open Tri

/-- the endings of a beginning -/
def ends (ws : List (List Int)) (p : List Int) : List (List Int) := (ws.filter fun w => decide (p.length ≤ w.length) && decide (w.take p.length = p)).map fun w => w.drop p.length
set_option maxRecDepth 100000 in
theorem mem_ends {ws : List (List Int)} {p x : List Int} : x ∈ ends ws p ↔ p ++ x ∈ ws := by
  unfold ends
  rw [List.mem_map]
  constructor
  · rintro ⟨w, hw, rfl⟩
    rw [List.mem_filter, Bool.and_eq_true, decide_eq_true_eq, decide_eq_true_eq] at hw
    have : p ++ w.drop p.length = w := by
      conv => lhs; arg 1; rw [← hw.2.2]
      exact List.take_append_drop _ _
    rw [this]; exact hw.1
  · intro h
    refine ⟨p ++ x, ?_, by simp⟩
    rw [List.mem_filter, Bool.and_eq_true, decide_eq_true_eq, decide_eq_true_eq]
    exact ⟨h, by simp, by simp⟩
set_option maxRecDepth 100000 in
theorem ends_rise {ws : List (List Int)} (hr : Rise ws) (p : List Int) : Rise (ends ws p) := by
  unfold ends Rise
  rw [List.pairwise_map]
  refine List.Pairwise.imp_of_mem ?_ (List.Pairwise.filter _ hr)
  intro a b ha hb hab
  rw [List.mem_filter, Bool.and_eq_true, decide_eq_true_eq, decide_eq_true_eq] at ha hb
  have ea : p ++ a.drop p.length = a := by
    conv => lhs; arg 1; rw [← ha.2.2]
    exact List.take_append_drop _ _
  have eb : p ++ b.drop p.length = b := by
    conv => lhs; arg 1; rw [← hb.2.2]
    exact List.take_append_drop _ _
  rw [← ea, ← eb, less_app] at hab
  exact hab
set_option maxRecDepth 100000 in
theorem ends_eq {ws : List (List Int)} (hr : Rise ws) {p q : List Int} : ends ws p = ends ws q ↔ ∀ x, p ++ x ∈ ws ↔ q ++ x ∈ ws := by
  constructor
  · intro h x
    rw [← mem_ends, ← mem_ends, h]
  · intro h
    exact rise_unique (ends_rise hr p) (ends_rise hr q) fun x => by rw [mem_ends, mem_ends]; exact h x
set_option maxRecDepth 100000 in
theorem ends_step {ws : List (List Int)} (hr : Rise ws) {p q : List Int} (h : ends ws p = ends ws q) (s : Int) : ends ws (p ++ [s]) = ends ws (q ++ [s]) := by
  rw [ends_eq hr] at h ⊢
  intro x
  have := h (s :: x)
  simpa using this
set_option maxRecDepth 100000 in
theorem begs_ends {ws : List (List Int)} (hs : Short ws) {p : List Int} : p ∈ begs ws ↔ p = [] ∨ ends ws p ≠ [] := by
  rw [mem_begs hs]
  constructor
  · rintro (h | ⟨w, hw, t, rfl⟩)
    · exact .inl h
    · refine .inr fun he => ?_
      have := mem_ends.2 hw
      rw [he] at this; cases this
  · rintro (h | h)
    · exact .inl h
    · obtain ⟨x, hx⟩ := List.exists_mem_of_ne_nil _ h
      exact .inr ⟨p ++ x, mem_ends.1 hx, List.prefix_append _ _⟩
set_option maxRecDepth 100000 in
theorem begs_nil (ws : List (List Int)) : [] ∈ begs ws := by simp [begs]
set_option maxRecDepth 100000 in
theorem ends_nil (ws : List (List Int)) : ends ws [] = ws := by
  unfold ends
  have : (fun w : List Int => decide (([] : List Int).length ≤ w.length) && decide (w.take ([] : List Int).length = [])) = fun _ => true := by funext w; simp
  rw [this]; simp
set_option maxRecDepth 100000 in
theorem begs_step {ws : List (List Int)} (hs : Short ws) (hr : Rise ws) {p q : List Int} (h : ends ws p = ends ws q) (s : Int) : p ++ [s] ∈ begs ws ↔ q ++ [s] ∈ begs ws := by
  rw [begs_ends hs, begs_ends hs, ends_step hr h s]
  simp
set_option maxRecDepth 100000 in
/-- nothing but nothing has all words behind it -/
theorem ends_all {ws : List (List Int)} (hs : Short ws) {q : List Int} (hq : q ∈ begs ws) (h : ends ws q = ends ws []) : q = [] := by
  rcases (begs_ends hs).1 hq with h1 | h1
  · exact h1
  · by_cases hn : q = []
    · exact hn
    · exfalso
      have hl : 0 < q.length := List.length_pos_iff.2 hn
      rw [h, ends_nil] at h1
      have key : ∀ n : Nat, ∃ w ∈ ws, n ≤ w.length := by
        intro n
        induction n with
        | zero =>
          obtain ⟨x, hx⟩ := List.exists_mem_of_ne_nil _ h1
          exact ⟨x, hx, Nat.zero_le _⟩
        | succ n ih =>
          obtain ⟨w, hw, hlw⟩ := ih
          have : w ∈ ends ws q := by rw [h, ends_nil]; exact hw
          exact ⟨q ++ w, mem_ends.1 this, by simp; omega⟩
      obtain ⟨w, hw, hlw⟩ := key 21
      have := hs w hw
      omega

/-! ### kinds -/
/-- beginnings that are alike: their endings, the longest one's length, the first one in order -/
structure Kd where
  E : List (List Int)
  L : Nat
  F : List Int
def Kd.no : Kd := ⟨[], 0, []⟩
/-- the place of the kind that has these endings -/
def findK (l : List Kd) (e : List (List Int)) : Option Nat := l.findIdx? fun k => decide (k.E = e)
set_option maxRecDepth 100000 in
theorem findK_some {l : List Kd} {e : List (List Int)} {k : Nat} (h : findK l e = some k) : k < l.length ∧ (l.getD k Kd.no).E = e := by
  unfold findK at h
  obtain ⟨h1, h2, _⟩ := List.findIdx?_eq_some_iff_getElem.1 h
  refine ⟨h1, ?_⟩
  have : l.getD k Kd.no = l[k] := by simp [h1]
  rw [this]; exact of_decide_eq_true h2
set_option maxRecDepth 100000 in
theorem findK_none {l : List Kd} {e : List (List Int)} (h : findK l e = none) : ∀ k ∈ l, k.E ≠ e := by
  unfold findK at h
  rw [List.findIdx?_eq_none_iff] at h
  intro k hk
  have := h k hk
  simpa using this
set_option maxRecDepth 100000 in
theorem findK_first {l : List Kd} {e : List (List Int)} {k : Nat} (hk : k < l.length) (he : (l.getD k Kd.no).E = e) (hn : ∀ j, j < k → (l.getD j Kd.no).E ≠ e) : findK l e = some k := by
  unfold findK
  rw [List.findIdx?_eq_some_iff_getElem]
  have e1 : l.getD k Kd.no = l[k] := by simp [hk]
  refine ⟨hk, by rw [← e1, he]; simp, fun j hj => ?_⟩
  have hjl : j < l.length := by omega
  have e2 : l.getD j Kd.no = l[j] := by simp [hjl]
  have := hn j hj
  rw [e2] at this
  simpa using this
/-- one beginning more -/
def addK (ws : List (List Int)) (all : List Kd) (q : List Int) : List Kd :=
  match findK all (ends ws q) with
  | none => all ++ [⟨ends ws q, q.length, q⟩]
  | some k => all.set k ⟨(all.getD k Kd.no).E, max (all.getD k Kd.no).L q.length, if lessL q (all.getD k Kd.no).F = true then q else (all.getD k Kd.no).F⟩
def aheadK (a b : Kd) : Bool := decide (a.L < b.L) || decide (a.L = b.L) && lessL a.F b.F
def insK (out : List Kd) (x : Kd) : List Kd := out.takeWhile (fun a => aheadK a x) ++ x :: out.dropWhile (fun a => aheadK a x)
def allK (ws : List (List Int)) (l : List (List Int)) : List Kd := l.foldl (addK ws) []
def kinds (ws : List (List Int)) : List Kd := (allK ws (begs ws)).foldl insK []

/-- a kind tells of some beginnings what it says -/
def KdOk (ws P : List (List Int)) (k : Kd) : Prop := k.F ∈ P ∧ k.E = ends ws k.F ∧ (∀ q ∈ P, ends ws q = k.E → q.length ≤ k.L ∧ lessL q k.F = false) ∧ ∃ q ∈ P, ends ws q = k.E ∧ q.length = k.L
set_option maxRecDepth 100000 in
theorem allK_ok (ws : List (List Int)) : ∀ (l P : List (List Int)) (all : List Kd), (∀ k ∈ all, KdOk ws P k) → (∀ q ∈ P, ∃ k ∈ all, k.E = ends ws q) → all.Pairwise (fun a b => a.E ≠ b.E) →
    (∀ k ∈ l.foldl (addK ws) all, KdOk ws (P ++ l) k) ∧ (∀ q ∈ P ++ l, ∃ k ∈ l.foldl (addK ws) all, k.E = ends ws q) ∧ (l.foldl (addK ws) all).Pairwise (fun a b => a.E ≠ b.E)
  | [], P, all, h1, h2, h3 => by simpa using ⟨h1, h2, h3⟩
  | q :: l, P, all, h1, h2, h3 => by
    have key : (∀ k ∈ addK ws all q, KdOk ws (P ++ [q]) k) ∧ (∀ x ∈ P ++ [q], ∃ k ∈ addK ws all q, k.E = ends ws x) ∧ (addK ws all q).Pairwise (fun a b => a.E ≠ b.E) := by
      unfold addK
      cases hf : findK all (ends ws q) with
      | none =>
        have hno := findK_none hf
        simp only
        refine ⟨fun k hk => ?_, fun x hx => ?_, ?_⟩
        · rcases List.mem_append.1 hk with hk | hk
          · obtain ⟨a1, a2, a3, y, a4, a5, a6⟩ := h1 k hk
            refine ⟨by simp [a1], a2, fun x hx he => ?_, y, by simp [a4], a5, a6⟩
            rcases List.mem_append.1 hx with hx | hx
            · exact a3 x hx he
            · rw [List.mem_singleton.1 hx] at he
              exact absurd he.symm (hno k hk)
          · rw [List.mem_singleton.1 hk]
            refine ⟨by simp, rfl, fun x hx he => ?_, q, by simp, rfl, rfl⟩
            rcases List.mem_append.1 hx with hx | hx
            · obtain ⟨k', hk', he'⟩ := h2 x hx
              exact absurd (he'.trans he) (hno k' hk')
            · rw [List.mem_singleton.1 hx]; exact ⟨Nat.le_refl _, less_irrefl _⟩
        · rcases List.mem_append.1 hx with hx | hx
          · obtain ⟨k, hk, he⟩ := h2 x hx
            exact ⟨k, by simp [hk], he⟩
          · rw [List.mem_singleton.1 hx]; exact ⟨⟨ends ws q, q.length, q⟩, by simp, rfl⟩
        · rw [List.pairwise_append]
          refine ⟨h3, List.pairwise_singleton _ _, fun a ha b hb => ?_⟩
          rw [List.mem_singleton.1 hb]; exact hno a ha
      | some k =>
        obtain ⟨hk, hE⟩ := findK_some hf
        simp only
        obtain ⟨z, hz⟩ : ∃ z, all.getD k Kd.no = z := ⟨_, rfl⟩
        rw [hz] at hE ⊢
        have hzk : all[k] = z := by rw [← hz]; simp [hk]
        have hzm : z ∈ all := by rw [← hzk]; exact List.getElem_mem _
        obtain ⟨a1, a2, a3, y, a4, a5, a6⟩ := h1 z hzm
        refine ⟨fun x hx => ?_, fun x hx => ?_, ?_⟩
        · rcases List.mem_or_eq_of_mem_set hx with hx' | rfl
          · by_cases hxE : x.E = ends ws q
            · -- the kind itself stands there no more
              obtain ⟨i, hi, rfl⟩ := List.getElem_of_mem hx
              have hi' : i < all.length := by simpa using hi
              rw [List.getElem_set] at hxE hx' ⊢
              by_cases hik : k = i
              · rw [if_pos hik]
                refine ⟨?_, ?_, ?_, ?_⟩
                · by_cases hl : lessL q z.F = true
                  · simp [hl]
                  · simp [hl, a1]
                · by_cases hl : lessL q z.F = true
                  · simp only [hl, if_true]; exact hE
                  · simp only [hl]; exact a2
                · intro u hu he
                  rcases List.mem_append.1 hu with hu | hu
                  · obtain ⟨b1, b2⟩ := a3 u hu he
                    refine ⟨Nat.le_trans b1 (Nat.le_max_left _ _), ?_⟩
                    by_cases hl : lessL q z.F = true
                    · simp only [hl, if_true]
                      cases hc : lessL u q with
                      | false => rfl
                      | true => rw [less_trans hc hl] at b2; cases b2
                    · simp only [hl]; exact b2
                  · rw [List.mem_singleton.1 hu]
                    refine ⟨Nat.le_max_right _ _, ?_⟩
                    by_cases hl : lessL q z.F = true
                    · simp only [hl, if_true]; exact less_irrefl _
                    · simp only [hl]; simpa using hl
                · rcases Nat.le_total z.L q.length with hle | hle
                  · exact ⟨q, by simp, hE.symm, by simp [Nat.max_eq_right hle]⟩
                  · exact ⟨y, by simp [a4], a5, by simp [Nat.max_eq_left hle, a6]⟩
              · rw [if_neg hik] at hxE
                exfalso
                have hij := h3
                rw [List.pairwise_iff_getElem] at hij
                rcases Nat.lt_or_gt_of_ne hik with hlt | hgt
                · exact hij k i hk hi' hlt (by rw [hzk, hE, hxE])
                · exact hij i k hi' hk hgt (by rw [hzk, hE, hxE])
            · obtain ⟨b1, b2, b3, u, b4, b5, b6⟩ := h1 x hx'
              refine ⟨by simp [b1], b2, fun v hv he => ?_, u, by simp [b4], b5, b6⟩
              rcases List.mem_append.1 hv with hv | hv
              · exact b3 v hv he
              · rw [List.mem_singleton.1 hv] at he
                exact absurd he.symm hxE
          · refine ⟨?_, ?_, ?_, ?_⟩
            · by_cases hl : lessL q z.F = true
              · simp [hl]
              · simp [hl, a1]
            · by_cases hl : lessL q z.F = true
              · simp only [hl, if_true]; exact hE
              · simp only [hl]; exact a2
            · intro u hu he
              rcases List.mem_append.1 hu with hu | hu
              · obtain ⟨b1, b2⟩ := a3 u hu he
                refine ⟨Nat.le_trans b1 (Nat.le_max_left _ _), ?_⟩
                by_cases hl : lessL q z.F = true
                · simp only [hl, if_true]
                  cases hc : lessL u q with
                  | false => rfl
                  | true => rw [less_trans hc hl] at b2; cases b2
                · simp only [hl]; exact b2
              · rw [List.mem_singleton.1 hu]
                refine ⟨Nat.le_max_right _ _, ?_⟩
                by_cases hl : lessL q z.F = true
                · simp only [hl, if_true]; exact less_irrefl _
                · simp only [hl]; simpa using hl
            · rcases Nat.le_total z.L q.length with hle | hle
              · exact ⟨q, by simp, hE.symm, by simp [Nat.max_eq_right hle]⟩
              · exact ⟨y, by simp [a4], a5, by simp [Nat.max_eq_left hle, a6]⟩
        · have hx2 : ∃ k' ∈ all, k'.E = ends ws x := by
            rcases List.mem_append.1 hx with hx | hx
            · exact h2 x hx
            · rw [List.mem_singleton.1 hx]; exact ⟨z, hzm, hE⟩
          obtain ⟨k', hk', he'⟩ := hx2
          obtain ⟨i, hi, rfl⟩ := List.getElem_of_mem hk'
          by_cases hik : k = i
          · subst hik
            refine ⟨⟨z.E, max z.L q.length, if lessL q z.F = true then q else z.F⟩, List.mem_set hk _, ?_⟩
            rw [← he', hzk]
          · refine ⟨all[i], ?_, he'⟩
            rw [List.mem_iff_getElem]
            exact ⟨i, by simpa using hi, by rw [List.getElem_set, if_neg hik]⟩
        · generalize hy' : (⟨z.E, max z.L q.length, if lessL q z.F = true then q else z.F⟩ : Kd) = y'
          have hyE : y'.E = z.E := by rw [← hy']
          rw [List.pairwise_iff_getElem]
          intro i j hi hj hij
          have hi' : i < all.length := by simpa using hi
          have hj' : j < all.length := by simpa using hj
          have h0 := List.pairwise_iff_getElem.1 h3 i j hi' hj' hij
          rw [List.getElem_set, List.getElem_set]
          by_cases hki : k = i
          · rw [if_pos hki, if_neg (by omega), hyE]
            subst hki
            rw [hzk] at h0; exact h0
          · rw [if_neg hki]
            by_cases hkj : k = j
            · rw [if_pos hkj, hyE]
              subst hkj
              rw [hzk] at h0; exact h0
            · rw [if_neg hkj]; exact h0
    obtain ⟨k1, k2, k3⟩ := key
    have := allK_ok ws l (P ++ [q]) (addK ws all q) k1 k2 k3
    simpa using this

set_option maxRecDepth 100000 in
theorem ahead_trans {a b c : Kd} (h1 : aheadK a b = true) (h2 : aheadK b c = true) : aheadK a c = true := by
  unfold aheadK at *
  simp only [Bool.or_eq_true, Bool.and_eq_true, decide_eq_true_eq] at *
  rcases h1 with h1 | ⟨h1, h1'⟩ <;> rcases h2 with h2 | ⟨h2, h2'⟩
  · exact .inl (by omega)
  · exact .inl (by omega)
  · exact .inl (by omega)
  · exact .inr ⟨by omega, less_trans h1' h2'⟩
set_option maxRecDepth 100000 in
theorem ahead_irrefl (a : Kd) : aheadK a a = false := by
  unfold aheadK
  simp [less_irrefl]
set_option maxRecDepth 100000 in
theorem ahead_total {a b : Kd} (h : a.F ≠ b.F) (h1 : aheadK a b = false) : aheadK b a = true := by
  unfold aheadK at *
  simp only [Bool.or_eq_false_iff, Bool.and_eq_false_iff, decide_eq_false_iff_not, Bool.or_eq_true, Bool.and_eq_true, decide_eq_true_eq] at *
  obtain ⟨h2, h3⟩ := h1
  rcases Nat.lt_or_ge b.L a.L with hlt | hge
  · exact .inl hlt
  · have e : a.L = b.L := by omega
    rcases h3 with h3 | h3
    · exact absurd e h3
    · refine .inr ⟨e.symm, ?_⟩
      cases hc : lessL b.F a.F with
      | true => rfl
      | false => exact absurd (less_total h3 hc) h
set_option maxRecDepth 100000 in
theorem insK_perm (out : List Kd) (x : Kd) : (insK out x).Perm (x :: out) := by
  unfold insK
  refine List.perm_middle.trans ?_
  rw [List.takeWhile_append_dropWhile]
set_option maxRecDepth 100000 in
theorem insK_sorted {out : List Kd} {x : Kd} (h : out.Pairwise fun a b => aheadK a b = true) (hx : ∀ a ∈ out, a.F ≠ x.F) : (insK out x).Pairwise fun a b => aheadK a b = true := by
  induction out with
  | nil => simp [insK]
  | cons a out ih =>
    rw [List.pairwise_cons] at h
    unfold insK
    by_cases ha : aheadK a x = true
    · simp only [List.takeWhile_cons, List.dropWhile_cons, ha, if_true, List.cons_append]
      rw [List.pairwise_cons]
      refine ⟨fun b hb => ?_, ih h.2 (fun b hb => hx b (by simp [hb]))⟩
      have hb' : b ∈ x :: out := (insK_perm out x).mem_iff.1 hb
      rcases List.mem_cons.1 hb' with rfl | hb'
      · exact ha
      · exact h.1 b hb'
    · have ha' : aheadK a x = false := by simpa using ha
      simp only [List.takeWhile_cons, List.dropWhile_cons, ha', Bool.false_eq_true, if_false, List.nil_append]
      rw [List.pairwise_cons]
      have hxa : aheadK x a = true := ahead_total (hx a (by simp)) (by simpa using ha)
      refine ⟨fun b hb => ?_, List.pairwise_cons.2 h⟩
      rcases List.mem_cons.1 hb with rfl | hb
      · exact hxa
      · exact ahead_trans hxa (h.1 b hb)
set_option maxRecDepth 100000 in
theorem foldl_insK : ∀ (l out : List Kd), (out.Pairwise fun a b => aheadK a b = true) → (l.Pairwise fun a b => a.F ≠ b.F) → (∀ a ∈ out, ∀ b ∈ l, a.F ≠ b.F) → ((l.foldl insK out).Pairwise fun a b => aheadK a b = true) ∧ (l.foldl insK out).Perm (out ++ l)
  | [], out, h, _, _ => by simpa using h
  | x :: l, out, h, h1, h2 => by
    rw [List.pairwise_cons] at h1
    have h3 := insK_sorted h (fun a ha => h2 a ha x (by simp))
    have hp := insK_perm out x
    have := foldl_insK l (insK out x) h3 h1.2 (fun a ha b hb => by
      rcases List.mem_cons.1 (hp.mem_iff.1 ha) with rfl | ha
      · exact h1.1 b hb
      · exact h2 a ha b (by simp [hb]))
    refine ⟨this.1, this.2.trans ?_⟩
    have h4 : (insK out x ++ l).Perm ((x :: out) ++ l) := hp.append_right l
    exact h4.trans (by simpa using (List.perm_middle (a := x) (l₁ := out) (l₂ := l)).symm)

/-! ### what the kinds are -/
set_option maxRecDepth 100000 in
theorem kinds_facts (ws : List (List Int)) : (kinds ws).Pairwise (fun a b => aheadK a b = true) ∧ (∀ k ∈ kinds ws, KdOk ws (begs ws) k) ∧ (∀ q ∈ begs ws, ∃ k ∈ kinds ws, k.E = ends ws q) ∧ (kinds ws).Pairwise (fun a b => a.E ≠ b.E) := by
  have h := allK_ok ws (begs ws) [] [] (by simp) (by simp) (by simp)
  rw [List.nil_append] at h
  obtain ⟨h1, h2, h3⟩ := h
  have hF : (allK ws (begs ws)).Pairwise fun a b => a.F ≠ b.F := by
    refine List.Pairwise.imp_of_mem ?_ h3
    intro a b ha hb hne e
    have e1 := (h1 a ha).2.1
    have e2 := (h1 b hb).2.1
    exact hne (by rw [e1, e2, e])
  have hs := foldl_insK (allK ws (begs ws)) [] List.Pairwise.nil hF (by simp)
  rw [List.nil_append] at hs
  refine ⟨hs.1, fun k hk => h1 k (hs.2.mem_iff.1 hk), fun q hq => ?_, (hs.2.pairwise_iff (fun {a b} h h' => h h'.symm)).2 h3⟩
  obtain ⟨k, hk, he⟩ := h2 q hq
  exact ⟨k, hs.2.mem_iff.2 hk, he⟩
set_option maxRecDepth 100000 in
theorem sortedK_unique : ∀ {l l' : List Kd}, (l.Pairwise fun a b => aheadK a b = true) → (l'.Pairwise fun a b => aheadK a b = true) → (∀ x, x ∈ l ↔ x ∈ l') → l = l'
  | [], [], _, _, _ => rfl
  | [], y :: l', _, _, h => absurd ((h y).2 (by simp)) (by simp)
  | x :: l, [], _, _, h => absurd ((h x).1 (by simp)) (by simp)
  | x :: l, y :: l', h1, h2, h => by
    rw [List.pairwise_cons] at h1 h2
    have hxy : x = y := by
      rcases List.mem_cons.1 ((h x).1 (by simp)) with e | e
      · exact e
      · rcases List.mem_cons.1 ((h y).2 (by simp)) with e' | e'
        · exact e'.symm
        · have := ahead_trans (h1.1 y e') (h2.1 x e)
          rw [ahead_irrefl] at this; cases this
    subst hxy
    rw [sortedK_unique h1.2 h2.2 fun z => ?_]
    constructor
    · intro hz
      rcases List.mem_cons.1 ((h z).1 (by simp [hz])) with e | e
      · subst e
        have := h1.1 z hz
        rw [ahead_irrefl] at this; cases this
      · exact e
    · intro hz
      rcases List.mem_cons.1 ((h z).2 (by simp [hz])) with e | e
      · subst e
        have := h2.1 z hz
        rw [ahead_irrefl] at this; cases this
      · exact e
set_option maxRecDepth 100000 in
/-- a kind is told by its endings -/
theorem kdOk_unique {ws P : List (List Int)} {a b : Kd} (ha : KdOk ws P a) (hb : KdOk ws P b) (h : a.E = b.E) : a = b := by
  obtain ⟨a1, a2, a3, x, a4, a5, a6⟩ := ha
  obtain ⟨b1, b2, b3, y, b4, b5, b6⟩ := hb
  have hL : a.L = b.L := by
    have h1 := (b3 x a4 (by rw [a5, h])).1
    have h2 := (a3 y b4 (by rw [b5, h])).1
    omega
  have hF : a.F = b.F := less_total (b3 a.F a1 (by rw [← a2, h])).2 (a3 b.F b1 (by rw [← b2, h])).2
  cases a; cases b
  simp only at h hL hF
  subst h hL hF; rfl

end Daw
end Go.Proofs.Ytbfjihbkkcggmaa

/- The least automaton: its states, where signs lead in it, that it may be, and that it is least. Nothing of the program. -/
namespace Go.Proofs.Ytbfjihbkkcggmaa
namespace Daw
open Tri

/-- the place of the kind that a beginning is of -/
def cls (ws : List (List Int)) (q : List Int) : Nat := (findK (kinds ws) (ends ws q)).getD 0
def toCls (ws : List (List Int)) (a : Int × Int) : Int × Int := (a.1, (cls ws ((begs ws).getD a.2.toNat []) : Int))
def dmake (ws : List (List Int)) : List St := (kinds ws).map fun k => ⟨decide (k.F ∈ ws), (arcsOf (begs ws) k.F).map (toCls ws)⟩
set_option maxRecDepth 100000 in
theorem dmake_length (ws : List (List Int)) : (dmake ws).length = (kinds ws).length := by simp [dmake]
set_option maxRecDepth 100000 in
theorem getK {l : List Kd} {i : Nat} (h : i < l.length) : l.getD i Kd.no = l[i] := by simp [h]
set_option maxRecDepth 100000 in
theorem getK_mem {l : List Kd} {i : Nat} (h : i < l.length) : l.getD i Kd.no ∈ l := by rw [getK h]; exact List.getElem_mem _
set_option maxRecDepth 100000 in
theorem kindsE_inj {ws : List (List Int)} {i j : Nat} (hi : i < (kinds ws).length) (hj : j < (kinds ws).length) (h : ((kinds ws).getD i Kd.no).E = ((kinds ws).getD j Kd.no).E) : i = j := by
  have hp := (kinds_facts ws).2.2.2
  rw [List.pairwise_iff_getElem] at hp
  rw [getK hi, getK hj] at h
  rcases Nat.lt_trichotomy i j with h' | h' | h'
  · exact absurd h (hp i j hi hj h')
  · exact h'
  · exact absurd h.symm (hp j i hj hi h')
set_option maxRecDepth 100000 in
theorem cls_spec {ws : List (List Int)} {q : List Int} (hq : q ∈ begs ws) : cls ws q < (kinds ws).length ∧ ((kinds ws).getD (cls ws q) Kd.no).E = ends ws q := by
  unfold cls
  cases hf : findK (kinds ws) (ends ws q) with
  | none =>
    obtain ⟨k, hk, he⟩ := (kinds_facts ws).2.2.1 q hq
    exact absurd he (findK_none hf k hk)
  | some i => exact findK_some hf
set_option maxRecDepth 100000 in
theorem find_cls {ws : List (List Int)} {q : List Int} (hq : q ∈ begs ws) : findK (kinds ws) (ends ws q) = some (cls ws q) := by
  unfold cls
  cases hf : findK (kinds ws) (ends ws q) with
  | none =>
    obtain ⟨k, hk, he⟩ := (kinds_facts ws).2.2.1 q hq
    exact absurd he (findK_none hf k hk)
  | some i => rfl
set_option maxRecDepth 100000 in
theorem cls_eq {ws : List (List Int)} {p q : List Int} (hp : p ∈ begs ws) (hq : q ∈ begs ws) : cls ws p = cls ws q ↔ ends ws p = ends ws q := by
  constructor
  · intro h
    rw [← (cls_spec hp).2, ← (cls_spec hq).2, h]
  · intro h
    exact kindsE_inj (cls_spec hp).1 (cls_spec hq).1 (by rw [(cls_spec hp).2, (cls_spec hq).2, h])
set_option maxRecDepth 100000 in
theorem cls_congr {ws : List (List Int)} {p q : List Int} (h : ends ws p = ends ws q) : cls ws p = cls ws q := by unfold cls; rw [h]
set_option maxRecDepth 100000 in
/-- the first of its kind -/
theorem fst_spec {ws : List (List Int)} {i : Nat} (hi : i < (kinds ws).length) : ((kinds ws).getD i Kd.no).F ∈ begs ws ∧ cls ws ((kinds ws).getD i Kd.no).F = i ∧ ends ws ((kinds ws).getD i Kd.no).F = ((kinds ws).getD i Kd.no).E := by
  obtain ⟨h1, h2, _⟩ := (kinds_facts ws).2.1 _ (getK_mem hi)
  refine ⟨h1, ?_, h2.symm⟩
  exact kindsE_inj (cls_spec h1).1 hi (by rw [(cls_spec h1).2]; exact h2.symm)
set_option maxRecDepth 100000 in
theorem dmake_at {ws : List (List Int)} {i : Nat} (hi : i < (kinds ws).length) : (dmake ws).getD i St.no = ⟨decide (((kinds ws).getD i Kd.no).F ∈ ws), (arcsOf (begs ws) ((kinds ws).getD i Kd.no).F).map (toCls ws)⟩ := by
  simp [dmake, hi]
set_option maxRecDepth 100000 in
theorem mem_ends_iff {ws : List (List Int)} {p q : List Int} (h : ends ws p = ends ws q) : p ∈ ws ↔ q ∈ ws := by
  have h1 := mem_ends (ws := ws) (p := p) (x := [])
  have h2 := mem_ends (ws := ws) (p := q) (x := [])
  rw [List.append_nil] at h1 h2
  rw [← h1, ← h2, h]
set_option maxRecDepth 100000 in
theorem mem_darcs {ws : List (List Int)} (hs : Short ws) (hr : Rise ws) {q : List Int} (hq : q ∈ begs ws) {a : Int × Int} : a ∈ ((dmake ws).getD (cls ws q) St.no).arcs ↔ q ++ [a.1] ∈ begs ws ∧ a.2 = (cls ws (q ++ [a.1]) : Int) := by
  obtain ⟨hc, hE⟩ := cls_spec hq
  obtain ⟨f1, f2, f3⟩ := fst_spec hc
  rw [dmake_at hc]
  generalize ((kinds ws).getD (cls ws q) Kd.no).F = F at f1 f2 f3
  have hF : ends ws F = ends ws q := by rw [f3, hE]
  show a ∈ (arcsOf (begs ws) F).map (toCls ws) ↔ _
  rw [List.mem_map]
  constructor
  · rintro ⟨b, hb, rfl⟩
    obtain ⟨k, hk, h1, h2⟩ := mem_arcs.1 hb
    have hm : F ++ [b.1] ∈ begs ws := by rw [← h1]; exact List.getElem_mem _
    refine ⟨(begs_step hs hr hF b.1).1 hm, ?_⟩
    show (cls ws ((begs ws).getD b.2.toNat []) : Int) = _
    have e : (begs ws).getD b.2.toNat [] = F ++ [b.1] := by
      rw [h2, Int.toNat_natCast, ← h1]; simp [hk]
    rw [e, cls_congr (ends_step hr hF b.1)]
    rfl
  · rintro ⟨h1, h2⟩
    have hm := (begs_step hs hr hF a.1).2 h1
    obtain ⟨k, hk, e⟩ := List.getElem_of_mem hm
    refine ⟨(a.1, (k : Int)), mem_arcs.2 ⟨k, hk, e, rfl⟩, ?_⟩
    unfold toCls
    have e2 : (begs ws).getD (k : Int).toNat [] = F ++ [a.1] := by
      rw [Int.toNat_natCast, ← e]; simp [hk]
    simp only [e2, cls_congr (ends_step hr hF a.1), ← h2]
set_option maxRecDepth 100000 in
theorem darcs_rise {ws : List (List Int)} {i : Nat} (hi : i < (kinds ws).length) : (((dmake ws).getD i St.no).arcs).Pairwise fun a b => a.1 < b.1 := by
  rw [dmake_at hi]
  show ((arcsOf (begs ws) _).map (toCls ws)).Pairwise _
  rw [List.pairwise_map]
  exact (arcs_rise (begs_sorted ws) _).imp fun h => h.1
set_option maxRecDepth 100000 in
theorem dfinal {ws : List (List Int)} {q : List Int} (hq : q ∈ begs ws) : ((dmake ws).getD (cls ws q) St.no).final = decide (q ∈ ws) := by
  obtain ⟨hc, hE⟩ := cls_spec hq
  obtain ⟨f1, f2, f3⟩ := fst_spec hc
  rw [dmake_at hc]
  exact decide_eq_decide.2 (mem_ends_iff (by rw [f3, hE]))
set_option maxRecDepth 100000 in
/-- a longer beginning's kind stands behind -/
theorem cls_lt {ws : List (List Int)} (hs : Short ws) (hr : Rise ws) {q : List Int} {s : Int} (hq : q ∈ begs ws) (hqs : q ++ [s] ∈ begs ws) : cls ws q < cls ws (q ++ [s]) := by
  obtain ⟨hc, hE⟩ := cls_spec hq
  obtain ⟨hc', hE'⟩ := cls_spec hqs
  obtain ⟨_, _, _, y, y1, y2, y3⟩ := (kinds_facts ws).2.1 _ (getK_mem hc)
  obtain ⟨_, _, z3, _⟩ := (kinds_facts ws).2.1 _ (getK_mem hc')
  have hyq : ends ws y = ends ws q := by rw [y2, hE]
  have hy := (z3 (y ++ [s]) ((begs_step hs hr hyq s).2 hqs) (by rw [hE']; exact ends_step hr hyq s)).1
  rw [List.length_append, y3] at hy
  have hL : ((kinds ws).getD (cls ws q) Kd.no).L < ((kinds ws).getD (cls ws (q ++ [s])) Kd.no).L := by
    have h : ((kinds ws).getD (cls ws q) Kd.no).L + ([s] : List Int).length ≤ ((kinds ws).getD (cls ws (q ++ [s])) Kd.no).L := hy
    rw [List.length_singleton] at h; omega
  rcases Nat.lt_or_ge (cls ws q) (cls ws (q ++ [s])) with h | h
  · exact h
  · exfalso
    rcases Nat.lt_or_eq_of_le h with h | h
    · have hp := (kinds_facts ws).1
      rw [List.pairwise_iff_getElem] at hp
      have := hp _ _ hc' hc h
      rw [getK hc, getK hc'] at hL
      unfold aheadK at this
      simp only [Bool.or_eq_true, Bool.and_eq_true, decide_eq_true_eq] at this
      rcases this with h1 | ⟨h1, _⟩ <;> omega
    · rw [h] at hL; omega
set_option maxRecDepth 100000 in
theorem cls_nil {ws : List (List Int)} (hs : Short ws) : cls ws [] = 0 := by
  obtain ⟨hc, hE⟩ := cls_spec (begs_nil ws)
  obtain ⟨_, _, _, y, y1, y2, y3⟩ := (kinds_facts ws).2.1 _ (getK_mem hc)
  have hy0 : y = [] := ends_all hs y1 (by rw [y2, hE])
  rcases Nat.eq_zero_or_pos (cls ws []) with h | h
  · exact h
  · exfalso
    have h0 : 0 < (kinds ws).length := by omega
    have hp := (kinds_facts ws).1
    rw [List.pairwise_iff_getElem] at hp
    have := hp 0 _ h0 hc h
    unfold aheadK at this
    simp only [Bool.or_eq_true, Bool.and_eq_true, decide_eq_true_eq] at this
    have hL : ((kinds ws)[cls ws []]).L = 0 := by rw [← getK hc, ← y3, hy0]; rfl
    rcases this with h1 | ⟨h1, h2⟩
    · omega
    · -- of length nothing: nothing itself
      obtain ⟨f1, f2, f3⟩ := fst_spec h0
      obtain ⟨_, _, w3, _⟩ := (kinds_facts ws).2.1 _ (getK_mem h0)
      have hlen := (w3 _ f1 f3).1
      rw [getK h0] at hlen f2
      rw [h1, hL] at hlen
      have : ((kinds ws)[0]).F = [] := List.eq_nil_of_length_eq_zero (by omega)
      rw [this] at f2
      omega
set_option maxRecDepth 100000 in
theorem kinds_pos (ws : List (List Int)) : 0 < (kinds ws).length := by have := (cls_spec (begs_nil ws)).1; omega
set_option maxRecDepth 100000 in
theorem kinds_le (ws : List (List Int)) : (kinds ws).length ≤ (begs ws).length := by
  have hn : ((kinds ws).map Kd.F).Nodup := by
    unfold List.Nodup
    rw [List.pairwise_map]
    refine List.Pairwise.imp_of_mem ?_ (kinds_facts ws).2.2.2
    intro a b ha hb hne e
    exact hne (by rw [((kinds_facts ws).2.1 a ha).2.1, ((kinds_facts ws).2.1 b hb).2.1, e])
  have hp : ((kinds ws).map Kd.F).Perm ((begs ws).filter fun q => decide (q ∈ (kinds ws).map Kd.F)) := by
    refine (List.perm_ext_iff_of_nodup hn (List.Pairwise.filter _ (begs_nodup ws))).2 fun x => ?_
    rw [List.mem_filter, decide_eq_true_eq]
    refine ⟨fun h => ⟨?_, h⟩, fun h => h.2⟩
    obtain ⟨k, hk, rfl⟩ := List.mem_map.1 h
    exact ((kinds_facts ws).2.1 k hk).1
  have h1 := hp.length_eq
  have h2 := List.length_filter_le (fun q => decide (q ∈ (kinds ws).map Kd.F)) (begs ws)
  rw [List.length_map] at h1
  omega

/-! ### it may be -/
set_option maxRecDepth 100000 in
theorem dmake_check {ws : List (List Int)} (hs : Short ws) (hr : Rise ws) (hg : ∀ w ∈ ws, Utf.allGood w = true) (hl : ws.length ≤ 300) : check (dmake ws) = true := by
  unfold check
  have h1 := begs_le ws
  have h2 := kinds_pos ws
  have h3 := dmake_length ws
  have h4 := kinds_le ws
  rw [checkA_of fun k hk => ?_]
  · rw [decide_eq_true (show 1 ≤ (dmake ws).length by omega), decide_eq_true (show (dmake ws).length ≤ 6001 by omega)]; rfl
  · have hkk : k < (kinds ws).length := by omega
    obtain ⟨f1, f2, f3⟩ := fst_spec hkk
    have e : (dmake ws)[k] = (dmake ws).getD k St.no := by simp [hk]
    rw [e]
    refine arcsOk_of (fun a ha => ?_) (darcs_rise hkk) (fun q hq => by cases hq)
    rw [← f2] at ha
    obtain ⟨a1, a2⟩ := (mem_darcs hs hr f1).1 ha
    have hlt := cls_lt hs hr f1 a1
    have hc := (cls_spec a1).1
    rw [f2] at hlt
    refine ⟨?_, by rw [a2]; omega, by rw [a2, h3]; exact Int.ofNat_lt.2 hc⟩
    rcases (mem_begs hs).1 a1 with h | ⟨w, hw, t, ht⟩
    · simp at h
    · have := hg w hw
      unfold Utf.allGood at this
      exact List.all_eq_true.1 this a.1 (by rw [← ht]; simp)

/-! ### where words lead -/
set_option maxRecDepth 100000 in
theorem dstep {ws : List (List Int)} (hs : Short ws) (hr : Rise ws) {q : List Int} {s : Int} (hq : q ∈ begs ws) :
    (q ++ [s] ∈ begs ws → Tri.step (dmake ws) (cls ws q : Int) s = ((cls ws (q ++ [s]) : Int), true)) ∧ (q ++ [s] ∉ begs ws → Tri.step (dmake ws) (cls ws q : Int) s = (0, false)) := by
  have hc := (cls_spec hq).1
  have hst : Tri.step (dmake ws) (cls ws q : Int) s = match ((dmake ws).getD (cls ws q) St.no).arcs.find? fun a => decide (a.1 = s) with
      | some a => (a.2, true)
      | none => (0, false) := by
    unfold Tri.step
    have hl := dmake_length ws
    rw [if_neg (by omega), Int.toNat_natCast]; try rfl
  rw [hst]
  constructor
  · intro h
    cases hf : ((dmake ws).getD (cls ws q) St.no).arcs.find? fun a => decide (a.1 = s) with
    | none =>
      have h' := List.find?_eq_none.1 hf (s, (cls ws (q ++ [s]) : Int)) ((mem_darcs hs hr hq).2 ⟨h, rfl⟩)
      simp at h'
    | some a =>
      have h1 : a.1 = s := of_decide_eq_true (List.find?_some (p := fun a : Int × Int => decide (a.1 = s)) hf)
      have h2 := ((mem_darcs hs hr hq).1 (List.mem_of_find?_eq_some hf)).2
      rw [h1] at h2
      simp [h2]
  · intro h
    cases hf : ((dmake ws).getD (cls ws q) St.no).arcs.find? fun a => decide (a.1 = s) with
    | none => rfl
    | some a =>
      have h1 : a.1 = s := of_decide_eq_true (List.find?_some (p := fun a : Int × Int => decide (a.1 = s)) hf)
      have h2 := ((mem_darcs hs hr hq).1 (List.mem_of_find?_eq_some hf)).1
      rw [h1] at h2
      exact absurd h2 h
set_option maxRecDepth 100000 in
theorem dwalk_from {ws : List (List Int)} (hs : Short ws) (hr : Rise ws) : ∀ (w : List Int) {p : List Int} (_ : p ∈ begs ws),
    (p ++ w ∈ begs ws → walk (dmake ws) (cls ws p : Int) w = some (cls ws (p ++ w) : Int)) ∧ (p ++ w ∉ begs ws → walk (dmake ws) (cls ws p : Int) w = none)
  | [], p, hp => ⟨fun _ => by rw [List.append_nil]; rfl, fun h => absurd (by rw [List.append_nil]; exact hp) h⟩
  | s :: w, p, hp => by
    obtain ⟨h1, h2⟩ := dstep hs hr (s := s) hp
    have e : p ++ s :: w = (p ++ [s]) ++ w := by simp
    by_cases hm : p ++ [s] ∈ begs ws
    · have h3 := h1 hm
      obtain ⟨h4, h5⟩ := dwalk_from hs hr w hm
      rw [e]
      unfold walk
      rw [h3]
      exact ⟨fun h => by simpa using h4 h, fun h => by simpa using h5 h⟩
    · have h3 := h2 hm
      have hno : p ++ s :: w ∉ begs ws := fun h => hm (begs_closed hs h (by rw [e]; exact List.prefix_append _ _))
      refine ⟨fun h => absurd h hno, fun _ => ?_⟩
      unfold walk
      rw [h3]; simp
set_option maxRecDepth 100000 in
theorem dwalk {ws : List (List Int)} (hs : Short ws) (hr : Rise ws) (w : List Int) : (w ∈ begs ws → walk (dmake ws) 0 w = some (cls ws w : Int)) ∧ (w ∉ begs ws → walk (dmake ws) 0 w = none) := by
  have h := dwalk_from hs hr w (begs_nil ws)
  rw [cls_nil hs] at h
  simpa using h

/-! ### it is least -/
def sameS (a b : St) : Bool := decide (a.final = b.final) && decide (a.arcs = b.arcs)
def unlike : List St → Bool
  | [] => true
  | s :: r => !(r.any fun t => sameS s t) && unlike r
def least (l : List St) : Bool := unlike l && check l
set_option maxRecDepth 100000 in
theorem unlike_iff : ∀ {l : List St}, unlike l = true ↔ l.Pairwise fun a b => sameS a b = false
  | [] => by simp [unlike]
  | s :: r => by
    unfold unlike
    rw [Bool.and_eq_true, unlike_iff, List.pairwise_cons, Bool.not_eq_true', List.any_eq_false]
    simp
set_option maxRecDepth 100000 in
theorem alike_ends {ws : List (List Int)} (hs : Short ws) (hr : Rise ws) : ∀ (x : List Int) {p q : List Int} (_ : p ∈ begs ws) (_ : q ∈ begs ws), sameS ((dmake ws).getD (cls ws p) St.no) ((dmake ws).getD (cls ws q) St.no) = true → p ++ x ∈ ws → q ++ x ∈ ws
  | [], p, q, hp, hq, h, hx => by
    unfold sameS at h
    rw [Bool.and_eq_true, decide_eq_true_eq, dfinal hp, dfinal hq] at h
    rw [List.append_nil] at hx ⊢
    have := h.1
    rw [decide_eq_true hx] at this
    exact of_decide_eq_true this.symm
  | s :: x, p, q, hp, hq, h, hx => by
    have hps : p ++ [s] ∈ begs ws := begs_closed hs (word_begs hs hx) (by rw [show p ++ s :: x = (p ++ [s]) ++ x by simp]; exact List.prefix_append _ _)
    have ha := (mem_darcs hs hr hp (a := (s, (cls ws (p ++ [s]) : Int)))).2 ⟨hps, rfl⟩
    unfold sameS at h
    rw [Bool.and_eq_true, decide_eq_true_eq, decide_eq_true_eq] at h
    rw [h.2] at ha
    obtain ⟨h1, h2⟩ := (mem_darcs hs hr hq).1 ha
    simp only at h1 h2
    have hE : ends ws (p ++ [s]) = ends ws (q ++ [s]) := (cls_eq hps h1).1 (by omega)
    have : x ∈ ends ws (p ++ [s]) := mem_ends.2 (by simpa using hx)
    rw [hE] at this
    simpa using mem_ends.1 this
set_option maxRecDepth 100000 in
theorem dmake_unlike {ws : List (List Int)} (hs : Short ws) (hr : Rise ws) : unlike (dmake ws) = true := by
  rw [unlike_iff, List.pairwise_iff_getElem]
  intro i j hi hj hij
  rw [dmake_length] at hi hj
  cases hc : sameS (dmake ws)[i] (dmake ws)[j] with
  | false => rfl
  | true =>
    exfalso
    have ei : (dmake ws)[i]'(by rw [dmake_length]; exact hi) = (dmake ws).getD i St.no := by simp [dmake_length, hi]
    have ej : (dmake ws)[j]'(by rw [dmake_length]; exact hj) = (dmake ws).getD j St.no := by simp [dmake_length, hj]
    rw [ei, ej] at hc
    obtain ⟨f1, f2, _⟩ := fst_spec hi
    obtain ⟨g1, g2, _⟩ := fst_spec hj
    rw [← f2, ← g2] at hc
    have hsym : sameS ((dmake ws).getD (cls ws ((kinds ws).getD j Kd.no).F) St.no) ((dmake ws).getD (cls ws ((kinds ws).getD i Kd.no).F) St.no) = true := by
      unfold sameS at hc ⊢
      rw [Bool.and_eq_true, decide_eq_true_eq, decide_eq_true_eq] at hc ⊢
      exact ⟨hc.1.symm, hc.2.symm⟩
    have hE : ends ws ((kinds ws).getD i Kd.no).F = ends ws ((kinds ws).getD j Kd.no).F := (ends_eq hr).2 fun x => ⟨alike_ends hs hr x f1 g1 hc, alike_ends hs hr x g1 f1 hsym⟩
    have := (cls_eq f1 g1).2 hE
    rw [f2, g2] at this
    omega
set_option maxRecDepth 100000 in
theorem dmake_least {ws : List (List Int)} (hs : Short ws) (hr : Rise ws) (hg : ∀ w ∈ ws, Utf.allGood w = true) (hl : ws.length ≤ 300) : least (dmake ws) = true := by
  unfold least
  rw [dmake_unlike hs hr, dmake_check hs hr hg hl]; rfl

end Daw
end Go.Proofs.Ytbfjihbkkcggmaa
