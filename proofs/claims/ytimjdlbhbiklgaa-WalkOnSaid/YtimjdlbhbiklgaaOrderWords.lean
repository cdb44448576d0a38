/- A slice of words as the walks are told of it: its words, and the cells that hold them. Nothing of the program. -/
import Derived.Test.YtimjdlbhbiklgaaPackB
namespace Go.Proofs.Ytimjdlbhbiklgaa
open Go.RowKit

/-- a word: where its slice lies, and its numbers -/
structure Wd where
  a : Option Addr
  n : Nat
  cap : Nat
  zs : List Int
def Wd.v (x : Wd) : Value := .slice x.a x.n x.cap
def Wd.Good (w : World) (x : Wd) : Prop := Sl .i64 w x.a x.n x.cap x.zs
def Wd.no : Wd := ⟨none, 0, 0, []⟩
instance : Inhabited Wd := ⟨Wd.no⟩
set_option maxRecDepth 100000 in
theorem Wd.no_good (w : World) : Wd.no.Good w := Sl.nil
set_option maxRecDepth 100000 in
theorem Wd.Good.below {w w' : World} {x : Wd} {B : Nat} (h : x.Good w) (hb : Below B w w') (hB : w.heap.size ≤ B) : x.Good w' := Sl.below h hb hB

def nums (xs : List Wd) : List (List Int) := xs.map Wd.zs
def vals (xs : List Wd) : List Value := xs.map Wd.v
set_option maxRecDepth 100000 in
theorem nums_length (xs : List Wd) : (nums xs).length = xs.length := by simp [nums]
set_option maxRecDepth 100000 in
theorem vals_length (xs : List Wd) : (vals xs).length = xs.length := by simp [vals]
set_option maxRecDepth 100000 in
theorem nums_app (xs ys : List Wd) : nums (xs ++ ys) = nums xs ++ nums ys := by simp [nums]
set_option maxRecDepth 100000 in
theorem vals_app (xs ys : List Wd) : vals (xs ++ ys) = vals xs ++ vals ys := by simp [vals]
set_option maxRecDepth 100000 in
theorem nums_at (xs : List Wd) (i : Nat) : (nums xs).getD i [] = (xs.getD i Wd.no).zs := by
  simp only [nums, List.getD_eq_getElem?_getD, List.getElem?_map]
  cases xs[i]? <;> rfl

/-- the slice (a, n, cap) reads as the words xs in the world w -/
def Ws (w : World) (a : Option Addr) (n cap : Nat) (xs : List Wd) : Prop :=
  xs.length = n ∧ n ≤ cap ∧ cap ≤ maxLen ∧ (∀ x ∈ xs, x.Good w) ∧
    (n = 0 ∨ ∃ b off, a = some ⟨b, off, none⟩ ∧ ∀ i, i < n → w.cell? ⟨b, off + i, none⟩ = some (xs.getD i Wd.no).v)

set_option maxRecDepth 100000 in
theorem Ws.below {w w' : World} {a : Option Addr} {n cap B : Nat} {xs : List Wd} (h : Ws w a n cap xs) (hb : Below B w w') (hB : w.heap.size ≤ B) : Ws w' a n cap xs := by
  obtain ⟨h1, h2, h3, h4, h5⟩ := h
  refine ⟨h1, h2, h3, fun x hx => (h4 x hx).below hb hB, ?_⟩
  rcases h5 with h5 | ⟨b, off, ha, hc⟩
  · exact .inl h5
  · refine .inr ⟨b, off, ha, fun i hi => ?_⟩
    have hci := hc i hi
    have hlt := cell_lt hci
    rw [hb.cell (p := ⟨b, off + i, none⟩) (by show b < B; omega)]
    exact hci
set_option maxRecDepth 100000 in
theorem Ws.alloc {w : World} {a : Option Addr} {n cap : Nat} {xs : List Wd} (h : Ws w a n cap xs) (o : Obj) : Ws (w.alloc o) a n cap xs :=
  h.below ((Below.refl w.heap.size w).alloc (Nat.le_refl _) o) (Nat.le_refl _)
set_option maxRecDepth 100000 in
theorem Ws.drewN {w : World} {a : Option Addr} {n cap : Nat} {xs : List Wd} (h : Ws w a n cap xs) (m : Nat) : Ws (w.drewN m) a n cap xs := h
set_option maxRecDepth 100000 in
theorem Ws.drawn {w w' : World} {a : Option Addr} {n cap : Nat} {xs : List Wd} (h : Ws w a n cap xs) (hq : ∃ q, w' = w.drewN q) : Ws w' a n cap xs := by
  obtain ⟨q, rfl⟩ := hq; exact h
set_option maxRecDepth 100000 in
theorem Ws.nil {w : World} : Ws w none 0 0 [] := ⟨rfl, Nat.le_refl _, by unfold maxLen; omega, by simp, .inl rfl⟩

set_option maxRecDepth 100000 in
theorem Ws.good {w : World} {a : Option Addr} {n cap : Nat} {xs : List Wd} (h : Ws w a n cap xs) (i : Nat) : (xs.getD i Wd.no).Good w := by
  rw [List.getD_eq_getElem?_getD]
  cases hx : xs[i]? with
  | none => exact Wd.no_good w
  | some x => exact h.2.2.2.1 x (List.mem_of_getElem? hx)

set_option maxRecDepth 100000 in
theorem Ws.at {w : World} {a : Option Addr} {n cap : Nat} {xs : List Wd} (h : Ws w a n cap xs) (hn : 0 < n) :
    ∃ b off, a = some ⟨b, off, none⟩ ∧ b < w.heap.size ∧ ∀ i, i < n → w.cell? ⟨b, off + i, none⟩ = some (.slice (xs.getD i Wd.no).a (xs.getD i Wd.no).n (xs.getD i Wd.no).cap) := by
  obtain ⟨h1, h2, h3, h4, h5⟩ := h
  rcases h5 with h5 | ⟨b, off, ha, hc⟩
  · omega
  · exact ⟨b, off, ha, cell_lt (hc 0 hn), hc⟩

set_option maxRecDepth 100000 in
/-- one cell of it, laid bare -/
theorem Ws.one {w : World} {a : Option Addr} {n cap : Nat} {xs : List Wd} (h : Ws w a n cap xs) (i : Nat) (hi : i < n) :
    ∃ b off a1 n1 c1 zs, a = some ⟨b, off, none⟩ ∧ b < w.heap.size ∧ xs.getD i Wd.no = ⟨a1, n1, c1, zs⟩ ∧ w.cell? ⟨b, off + i, none⟩ = some (.slice a1 n1 c1) ∧ Sl .i64 w a1 n1 c1 zs ∧ (nums xs).getD i [] = zs := by
  obtain ⟨b, off, ha, hb, hc⟩ := h.at (by omega)
  exact ⟨b, off, _, _, _, _, ha, hb, rfl, hc i hi, h.good i, nums_at xs i⟩

set_option maxRecDepth 100000 in
theorem Ws.of_owns {w : World} {B : Nat} {T : TypeId} {a : Option Addr} {n cap : Nat} {xs : List Wd}
    (h : w.ownsRow B T 1 (.slice a n cap) n (vals xs)) (hw : ∀ x ∈ xs, x.Good w) (hl : xs.length = n) : Ws w a n cap xs := by
  have h' := h
  obtain ⟨_, h2⟩ := h
  rcases h2 with ⟨hv, h0⟩ | ⟨g, c, cur, hv, hg, hh, hnc, hcm, hcs, ht⟩
  · simp only [Value.slice.injEq] at hv
    obtain ⟨rfl, rfl, rfl⟩ := hv
    exact ⟨hl, Nat.le_refl _, by unfold maxLen; omega, hw, .inl rfl⟩
  · simp only [Value.slice.injEq] at hv
    obtain ⟨rfl, _, rfl⟩ := hv
    refine ⟨hl, hnc, hcm, hw, .inr ⟨g, 0, rfl, fun i hi => ?_⟩⟩
    rw [Nat.zero_add, h'.cellAt i (by omega)]
    simp [vals, hl, hi]

set_option maxRecDepth 100000 in
theorem Ws.piece {w : World} {b off n cap : Nat} {xs : List Wd} (h : Ws w (some ⟨b, off, none⟩) n cap xs) (i j : Nat) (hij : i + j ≤ n) :
    Ws w (some ⟨b, off + i, none⟩) j (cap - i) ((xs.drop i).take j) := by
  obtain ⟨h1, h2, h3, h4, h5⟩ := h
  refine ⟨by simp; omega, by omega, by unfold maxLen at *; omega, fun z hz => h4 z (List.mem_of_mem_drop (List.mem_of_mem_take hz)), ?_⟩
  rcases h5 with h5 | ⟨b', off', ha, hc⟩
  · exact .inl (by omega)
  · simp only [Option.some.injEq, Addr.mk.injEq] at ha
    obtain ⟨rfl, rfl, _⟩ := ha
    refine .inr ⟨b, off + i, rfl, fun m hm => ?_⟩
    rw [Nat.add_assoc, hc (i + m) (by omega)]
    simp [hm]
set_option maxRecDepth 100000 in
theorem Ws.first {w : World} {a : Option Addr} {n cap : Nat} {xs : List Wd} (h : Ws w a n cap xs) (j : Nat) (hj : j ≤ n) : Ws w a j cap (xs.take j) := by
  obtain ⟨h1, h2, h3, h4, h5⟩ := h
  refine ⟨by simp; omega, by omega, h3, fun z hz => h4 z (List.mem_of_mem_take hz), ?_⟩
  rcases h5 with h5 | ⟨b', off', ha, hc⟩
  · exact .inl (by omega)
  · refine .inr ⟨b', off', ha, fun m hm => ?_⟩
    rw [hc m (by omega)]
    simp [hm]

/-- the shell's own word for a slice of slices that came in -/
def wdOf (A : Nat → Option Addr) (L C : Nat → Nat) (Z : Nat → List Int) (r : Nat) : Wd := ⟨A r, L r, C r, (Z r).take (L r)⟩
set_option maxRecDepth 100000 in
theorem Ws.of_rows {w : World} {base : Nat} {a : Addr} {len cap : Nat} {A : Nat → Option Addr} {L C : Nat → Nat} {Z : Nat → List Int} (hl : len ≤ cap) (hm : cap ≤ maxLen)
    (h : ∀ r, r < cap → w.cell? (a.add r) = some (.slice (A r) (L r) (C r)) ∧ L r ≤ C r ∧ C r ≤ maxLen ∧ (Z r).length = C r ∧ (∀ n ∈ Z r, (Lit.int .i64 n).wf = true) ∧ (A r = none → C r = 0) ∧
        ∀ a', A r = some a' → base ≤ a'.block ∧ ∀ c, c < C r → w.cell? (a'.add c) = some (.int .i64 ((Z r).getD c 0))) :
    Ws w (some a) len cap ((List.range len).map (wdOf A L C Z)) := by
  have good : ∀ r, r < cap → (wdOf A L C Z r).Good w := by
    intro r hr
    obtain ⟨h1, h2, h3, h4, h5, h6, h7⟩ := h r hr
    refine ⟨by show ((Z r).take (L r)).length = L r; rw [List.length_take]; omega, h2, h3, fun z hz => h5 z (List.mem_of_mem_take hz), ?_⟩
    show L r = 0 ∨ _
    rcases Nat.eq_zero_or_pos (L r) with h0 | hp
    · exact .inl h0
    · right
      cases hA : A r with
      | none => have := h6 hA; omega
      | some a' =>
        obtain ⟨b, off, spot⟩ := a'
        have hc := (h7 _ hA).2
        have hspot : spot = none := by simpa [Addr.add] using World.cell?_spot (hc 0 (by omega))
        subst hspot
        refine ⟨b, off, hA, fun i hi => ?_⟩
        have hi' : i < L r := hi
        have := hc i (by omega)
        rw [show (⟨b, off, none⟩ : Addr).add i = ⟨b, off + i, none⟩ from by simp [Addr.add]] at this
        rw [this]
        simp [wdOf, hi']
  refine ⟨by simp, hl, hm, fun x hx => ?_, ?_⟩
  · obtain ⟨r, hr, rfl⟩ := List.mem_map.1 hx
    exact good r (by have := List.mem_range.1 hr; omega)
  · rcases Nat.eq_zero_or_pos len with h0 | hp
    · exact .inl h0
    · obtain ⟨b, off, spot⟩ := a
      have hspot : spot = none := by simpa [Addr.add] using World.cell?_spot (h 0 (by omega)).1
      subst hspot
      refine .inr ⟨b, off, rfl, fun i hi => ?_⟩
      have := (h i (by omega)).1
      rw [show (⟨b, off, none⟩ : Addr).add i = ⟨b, off + i, none⟩ from by simp [Addr.add]] at this
      rw [this]
      simp [hi, wdOf, Wd.v]

end Go.Proofs.Ytimjdlbhbiklgaa
