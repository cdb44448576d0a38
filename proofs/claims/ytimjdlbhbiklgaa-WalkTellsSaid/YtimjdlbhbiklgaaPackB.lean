import Derived.WalkKit
import Derived.ProofKit
import Derived.Deep.QuietTactic
import Derived.Laws.CopyOwn
import Derived.Laws.Rows
import Derived.OwnWalk
import Derived.Below
import Derived.Laws.IdiomCopy
import Derived.Laws.AppendOwn
import Derived.Maps.AppendAt
/- Used by the law. -/
namespace Go.Proofs.Ytimjdlbhbiklgaa
open Go.RowKit

def u8s (l : List Int) : List Value := l.map (.int .u8)
theorem u8s_snoc (xs : List Int) (b : Int) : u8s xs ++ [.int .u8 b] = u8s (xs ++ [b]) := by simp [u8s]
def i64s (l : List Int) : List Value := l.map (.int .i64)
def Sl (k : IntKind) (w : World) (a : Option Addr) (n cap : Nat) (zs : List Int) : Prop :=
  zs.length = n ∧ n ≤ cap ∧ cap ≤ maxLen ∧ (∀ z ∈ zs, (Lit.int k z).wf = true) ∧
    (n = 0 ∨ ∃ b off, a = some ⟨b, off, none⟩ ∧ ∀ i, i < n → w.cell? ⟨b, off + i, none⟩ = some (.int k (zs.getD i 0)))

theorem cell_lt {w : World} {b o : Nat} {v : Value} (h : w.cell? ⟨b, o, none⟩ = some v) : b < w.heap.size := by
  rcases Nat.lt_or_ge b w.heap.size with hlt | hge
  · exact hlt
  · rw [World.cell?] at h; simp [Array.getElem?_eq_none hge] at h

theorem Sl.below {k : IntKind} {w w' : World} {a : Option Addr} {n cap B : Nat} {zs : List Int} (h : Sl k w a n cap zs) (hb : Below B w w') (hB : w.heap.size ≤ B) : Sl k w' a n cap zs := by
  obtain ⟨h1, h2, h3, h4, h5⟩ := h
  refine ⟨h1, h2, h3, h4, ?_⟩
  rcases h5 with h5 | ⟨b, off, ha, hc⟩
  · exact .inl h5
  · refine .inr ⟨b, off, ha, fun i hi => ?_⟩
    have hci := hc i hi
    have hlt := cell_lt hci
    rw [hb.cell (p := ⟨b, off + i, none⟩) (by show b < B; omega)]
    exact hci

theorem Sl.of_owns {k : IntKind} {w : World} {B : Nat} {T : TypeId} {a : Option Addr} {n cap : Nat} {zs : List Int}
    (h : w.ownsRow B T 1 (.slice a n cap) n (zs.map (.int k))) (hw : ∀ z ∈ zs, (Lit.int k z).wf = true) (hl : zs.length = n) : Sl k w a n cap zs := by
  have h' := h
  obtain ⟨_, h2⟩ := h
  rcases h2 with ⟨hv, h0⟩ | ⟨g, c, cur, hv, hg, hh, hnc, hcm, hcs, ht⟩
  · simp only [Value.slice.injEq] at hv
    obtain ⟨rfl, rfl, rfl⟩ := hv
    exact ⟨hl, Nat.le_refl _, by unfold maxLen; omega, hw, .inl rfl⟩
  · simp only [Value.slice.injEq] at hv
    obtain ⟨rfl, _, rfl⟩ := hv
    refine ⟨hl, hnc, hcm, hw, .inr ⟨g, 0, rfl, fun i hi => ?_⟩⟩
    rw [Nat.zero_add, h'.cellAt i (by omega)]
    simp [hl, hi]

theorem Sl.of_row {k : IntKind} {w : World} {a : Option Addr} {len cap : Nat} {zs : List Int}
    (h : (a = none ∧ len = 0 ∧ cap = 0 ∧ zs = []) ∨ ∃ x, a = some x ∧ len ≤ cap ∧ cap ≤ maxLen ∧ zs.length = cap ∧ (∀ i, i < zs.length → w.cell? (x.add i) = some (.int k (zs.getD i 0))) ∧ ∀ n ∈ zs, (Lit.int k n).wf = true) :
    Sl k w a len cap (zs.take len) := by
  rcases h with ⟨rfl, rfl, rfl, rfl⟩ | ⟨x, rfl, hl, hm, hz, hcell, hwz⟩
  · exact ⟨rfl, Nat.le_refl _, by unfold maxLen; omega, by simp, .inl rfl⟩
  · refine ⟨by simp; omega, hl, hm, fun z hz' => hwz z (List.mem_of_mem_take hz'), ?_⟩
    rcases Nat.eq_zero_or_pos len with h0 | hp
    · exact .inl h0
    · obtain ⟨b, off, spot⟩ := x
      have hc := hcell 0 (by omega)
      have hspot : spot = none := by simpa [Addr.add] using World.cell?_spot hc
      subst hspot
      refine .inr ⟨b, off, rfl, fun i hi => ?_⟩
      have := hcell i (by omega)
      rw [show (⟨b, off, none⟩ : Addr).add i = ⟨b, off + i, none⟩ from by simp [Addr.add]] at this
      rw [this]
      simp [hi]

theorem Sl.piece {k : IntKind} {w : World} {b off n cap : Nat} {zs : List Int} (h : Sl k w (some ⟨b, off, none⟩) n cap zs) (i j : Nat) (hij : i + j ≤ n) :
    Sl k w (some ⟨b, off + i, none⟩) j (cap - i) ((zs.drop i).take j) := by
  obtain ⟨h1, h2, h3, h4, h5⟩ := h
  refine ⟨by simp; omega, by omega, by unfold maxLen at *; omega, fun z hz => h4 z (List.mem_of_mem_drop (List.mem_of_mem_take hz)), ?_⟩
  rcases h5 with h5 | ⟨b', off', ha, hc⟩
  · exact .inl (by omega)
  · simp only [Option.some.injEq, Addr.mk.injEq] at ha
    obtain ⟨rfl, rfl, _⟩ := ha
    refine .inr ⟨b, off + i, rfl, fun m hm => ?_⟩
    rw [Nat.add_assoc, hc (i + m) (by omega)]
    simp [hm]

theorem Sl.at {k : IntKind} {w : World} {a : Option Addr} {n cap : Nat} {zs : List Int} (h : Sl k w a n cap zs) (hn : 0 < n) :
    ∃ b off, a = some ⟨b, off, none⟩ ∧ b < w.heap.size ∧ ∀ i, i < n → w.cell? ⟨b, off + i, none⟩ = some (.int k (zs.getD i 0)) := by
  obtain ⟨h1, h2, h3, h4, h5⟩ := h
  rcases h5 with h5 | ⟨b, off, ha, hc⟩
  · omega
  · exact ⟨b, off, ha, cell_lt (hc 0 hn), hc⟩

theorem one_newp {w : World} {B : Nat} {v : Value} {t : TypeId} (hB : B = w.heap.size) : ∀ j u, [v][j]? = some u → (w.alloc (.cells #[v] t)).cell? ((⟨B, 0, none⟩ : Addr).add j) = some u := by
  subst hB
  intro j u hj
  match j, hj with
  | 0, hj => simp at hj; subst hj; simp [Addr.add]
theorem Sl.alloc {k : IntKind} {w : World} {a : Option Addr} {n cap : Nat} {zs : List Int} (h : Sl k w a n cap zs) (o : Obj) : Sl k (w.alloc o) a n cap zs :=
  h.below ((Below.refl w.heap.size w).alloc (Nat.le_refl _) o) (Nat.le_refl _)
theorem Sl.drew {k : IntKind} {w : World} {a : Option Addr} {n cap : Nat} {zs : List Int} (h : Sl k w a n cap zs) : Sl k w.drew a n cap zs := h
theorem Sl.drewN {k : IntKind} {w : World} {a : Option Addr} {n cap : Nat} {zs : List Int} (h : Sl k w a n cap zs) (m : Nat) : Sl k (w.drewN m) a n cap zs := h
theorem Sl.first {k : IntKind} {w : World} {b off n cap : Nat} {zs : List Int} (h : Sl k w (some ⟨b, off, none⟩) n cap zs) (j : Nat) (hj : j ≤ n) : Sl k w (some ⟨b, off, none⟩) j cap (zs.take j) := by
  have := h.piece 0 j (by omega)
  simpa using this
theorem ownsRow_below {w w' : World} {base : Nat} {e : TypeId} {size : Nat} {v : Value} {n : Nat} {xs : List Value} {B : Nat} (h : w.ownsRow base e size v n xs) (hb : Below B w w') (hB : w.heap.size ≤ B) : w'.ownsRow base e size v n xs := by
  obtain ⟨h1, h2⟩ := h
  refine ⟨h1, ?_⟩
  rcases h2 with h2 | ⟨g, cap, cur, hv, hg, hh, r⟩
  · exact .inl h2
  · have hlt : g < w.heap.size := by
      rcases Nat.lt_or_ge g w.heap.size with hlt | hge
      · exact hlt
      · rw [Array.getElem?_eq_none hge] at hh; cases hh
    exact .inr ⟨g, cap, cur, hv, hg, by rw [hb.block g (by omega)]; exact hh, r⟩
theorem take_same {xs ys : List Int} {j : Nat} (h : xs.take j = ys.take j) (hx : j < xs.length) (hy : j < ys.length) (e : xs.getD j 0 = ys.getD j 0) : xs.take (j + 1) = ys.take (j + 1) := by
  rw [List.take_succ_eq_append_getElem hx, List.take_succ_eq_append_getElem hy, h]
  simp [hx, hy] at e
  rw [e]
theorem Sl.over {k : IntKind} {w1 w2 : World} {o : Obj} {a : Option Addr} {n cap : Nat} {zs : List Int} (h : Sl k w1 a n cap zs) (hb : Below (w1.alloc o).heap.size (w1.alloc o) w2) : Sl k w2 a n cap zs :=
  (h.alloc o).below hb (Nat.le_refl _)
theorem Sl.nil {k : IntKind} {w : World} : Sl k w none 0 0 [] := ⟨rfl, Nat.le_refl _, by unfold maxLen; omega, by simp, .inl rfl⟩
theorem Sl.drawn {k : IntKind} {w w' : World} {a : Option Addr} {n cap : Nat} {zs : List Int} (h : Sl k w a n cap zs) (hq : ∃ q, w' = w.drewN q) : Sl k w' a n cap zs := by
  obtain ⟨q, rfl⟩ := hq; exact h
theorem below_drawn {B : Nat} {w w1 w2 : World} (h : Below B w w1) (hq : ∃ q, w2 = w1.drewN q) : Below B w w2 := by
  obtain ⟨q, rfl⟩ := hq; exact ⟨h.os, h.tape, h.output, h.size, h.block⟩

end Go.Proofs.Ytimjdlbhbiklgaa

/- Used by the law. -/
namespace Go.Proofs.Ytimjdlbhbiklgaa
open Go.RowKit

theorem Sl.of_heap {k : IntKind} {w : World} {g n : Nat} {t : TypeId} {fr : Nat × Nat} {zs : List Int} (h : w.heap[g]? = some (.cells (zs.map (.int k)).toArray t fr)) (hw : ∀ z ∈ zs, (Lit.int k z).wf = true) (hl : zs.length = n) (hm : n ≤ maxLen) :
    Sl k w (some ⟨g, 0, none⟩) n n zs := by
  refine ⟨hl, Nat.le_refl _, hm, hw, .inr ⟨g, 0, rfl, fun i hi => ?_⟩⟩
  rw [World.cell?, h]
  simp [hl, hi]

end Go.Proofs.Ytimjdlbhbiklgaa

/- Used by the law. -/
namespace Go.Proofs.Ytimjdlbhbiklgaa
open Go.RowKit

end Go.Proofs.Ytimjdlbhbiklgaa

/- Used by the law. -/
namespace Go.Proofs.Ytimjdlbhbiklgaa
open Go Go.RowKit

end Go.Proofs.Ytimjdlbhbiklgaa

/- Used by the law. -/
namespace Go.Proofs.Ytimjdlbhbiklgaa
open Go.RowKit

structure Bd where
  a : Option Addr
  n : Nat
  cap : Nat
  zs : List Int
def Bd.v (x : Bd) : Value := .slice x.a x.n x.cap
def Bd.Good (w : World) (x : Bd) : Prop := Sl .u8 w x.a x.n x.cap x.zs
def Bd.no : Bd := ⟨none, 0, 0, []⟩
instance : Inhabited Bd := ⟨Bd.no⟩
theorem Bd.no_good (w : World) : Bd.no.Good w := Sl.nil
theorem Bd.Good.below {w w' : World} {x : Bd} {B : Nat} (h : x.Good w) (hb : Below B w w') (hB : w.heap.size ≤ B) : x.Good w' := Sl.below h hb hB

def bnums (xs : List Bd) : List (List Int) := xs.map Bd.zs
def bvals (xs : List Bd) : List Value := xs.map Bd.v
theorem bnums_at (xs : List Bd) (i : Nat) : (bnums xs).getD i [] = (xs.getD i Bd.no).zs := by
  simp only [bnums, List.getD_eq_getElem?_getD, List.getElem?_map]
  cases xs[i]? <;> rfl

def Bs (w : World) (a : Option Addr) (n cap : Nat) (xs : List Bd) : Prop :=
  xs.length = n ∧ n ≤ cap ∧ cap ≤ maxLen ∧ (∀ x ∈ xs, x.Good w) ∧
    (n = 0 ∨ ∃ b off, a = some ⟨b, off, none⟩ ∧ ∀ i, i < n → w.cell? ⟨b, off + i, none⟩ = some (xs.getD i Bd.no).v)

theorem Bs.below {w w' : World} {a : Option Addr} {n cap B : Nat} {xs : List Bd} (h : Bs w a n cap xs) (hb : Below B w w') (hB : w.heap.size ≤ B) : Bs w' a n cap xs := by
  obtain ⟨h1, h2, h3, h4, h5⟩ := h
  refine ⟨h1, h2, h3, fun x hx => (h4 x hx).below hb hB, ?_⟩
  rcases h5 with h5 | ⟨b, off, ha, hc⟩
  · exact .inl h5
  · refine .inr ⟨b, off, ha, fun i hi => ?_⟩
    have hci := hc i hi
    have hlt := cell_lt hci
    rw [hb.cell (p := ⟨b, off + i, none⟩) (by show b < B; omega)]
    exact hci
theorem Bs.alloc {w : World} {a : Option Addr} {n cap : Nat} {xs : List Bd} (h : Bs w a n cap xs) (o : Obj) : Bs (w.alloc o) a n cap xs :=
  h.below ((Below.refl w.heap.size w).alloc (Nat.le_refl _) o) (Nat.le_refl _)
theorem Bs.drewN {w : World} {a : Option Addr} {n cap : Nat} {xs : List Bd} (h : Bs w a n cap xs) (m : Nat) : Bs (w.drewN m) a n cap xs := h
theorem Bs.drawn {w w' : World} {a : Option Addr} {n cap : Nat} {xs : List Bd} (h : Bs w a n cap xs) (hq : ∃ q, w' = w.drewN q) : Bs w' a n cap xs := by
  obtain ⟨q, rfl⟩ := hq; exact h
theorem Bs.nil {w : World} : Bs w none 0 0 [] := ⟨rfl, Nat.le_refl _, by unfold maxLen; omega, by simp, .inl rfl⟩

theorem Bs.good {w : World} {a : Option Addr} {n cap : Nat} {xs : List Bd} (h : Bs w a n cap xs) (i : Nat) : (xs.getD i Bd.no).Good w := by
  rw [List.getD_eq_getElem?_getD]
  cases hx : xs[i]? with
  | none => exact Bd.no_good w
  | some x => exact h.2.2.2.1 x (List.mem_of_getElem? hx)

theorem Bs.at {w : World} {a : Option Addr} {n cap : Nat} {xs : List Bd} (h : Bs w a n cap xs) (hn : 0 < n) :
    ∃ b off, a = some ⟨b, off, none⟩ ∧ b < w.heap.size ∧ ∀ i, i < n → w.cell? ⟨b, off + i, none⟩ = some (.slice (xs.getD i Bd.no).a (xs.getD i Bd.no).n (xs.getD i Bd.no).cap) := by
  obtain ⟨h1, h2, h3, h4, h5⟩ := h
  rcases h5 with h5 | ⟨b, off, ha, hc⟩
  · omega
  · exact ⟨b, off, ha, cell_lt (hc 0 hn), hc⟩

theorem Bs.one {w : World} {a : Option Addr} {n cap : Nat} {xs : List Bd} (h : Bs w a n cap xs) (i : Nat) (hi : i < n) :
    ∃ b off a1 n1 c1 zs, a = some ⟨b, off, none⟩ ∧ b < w.heap.size ∧ xs.getD i Bd.no = ⟨a1, n1, c1, zs⟩ ∧ w.cell? ⟨b, off + i, none⟩ = some (.slice a1 n1 c1) ∧ Sl .u8 w a1 n1 c1 zs ∧ (bnums xs).getD i [] = zs := by
  obtain ⟨b, off, ha, hb, hc⟩ := h.at (by omega)
  exact ⟨b, off, _, _, _, _, ha, hb, rfl, hc i hi, h.good i, bnums_at xs i⟩

theorem Bs.of_owns {w : World} {B : Nat} {T : TypeId} {a : Option Addr} {n cap : Nat} {xs : List Bd}
    (h : w.ownsRow B T 1 (.slice a n cap) n (bvals xs)) (hw : ∀ x ∈ xs, x.Good w) (hl : xs.length = n) : Bs w a n cap xs := by
  have h' := h
  obtain ⟨_, h2⟩ := h
  rcases h2 with ⟨hv, h0⟩ | ⟨g, c, cur, hv, hg, hh, hnc, hcm, hcs, ht⟩
  · simp only [Value.slice.injEq] at hv
    obtain ⟨rfl, rfl, rfl⟩ := hv
    exact ⟨hl, Nat.le_refl _, by unfold maxLen; omega, hw, .inl rfl⟩
  · simp only [Value.slice.injEq] at hv
    obtain ⟨rfl, _, rfl⟩ := hv
    refine ⟨hl, hnc, hcm, hw, .inr ⟨g, 0, rfl, fun i hi => ?_⟩⟩
    rw [Nat.zero_add, h'.cellAt i (by omega)]
    simp [bvals, hl, hi]

theorem Bs.piece {w : World} {b off n cap : Nat} {xs : List Bd} (h : Bs w (some ⟨b, off, none⟩) n cap xs) (i j : Nat) (hij : i + j ≤ n) :
    Bs w (some ⟨b, off + i, none⟩) j (cap - i) ((xs.drop i).take j) := by
  obtain ⟨h1, h2, h3, h4, h5⟩ := h
  refine ⟨by simp; omega, by omega, by unfold maxLen at *; omega, fun z hz => h4 z (List.mem_of_mem_drop (List.mem_of_mem_take hz)), ?_⟩
  rcases h5 with h5 | ⟨b', off', ha, hc⟩
  · exact .inl (by omega)
  · simp only [Option.some.injEq, Addr.mk.injEq] at ha
    obtain ⟨rfl, rfl, _⟩ := ha
    refine .inr ⟨b, off + i, rfl, fun m hm => ?_⟩
    rw [Nat.add_assoc, hc (i + m) (by omega)]
    simp [hm]
theorem Bs.first {w : World} {a : Option Addr} {n cap : Nat} {xs : List Bd} (h : Bs w a n cap xs) (j : Nat) (hj : j ≤ n) : Bs w a j cap (xs.take j) := by
  obtain ⟨h1, h2, h3, h4, h5⟩ := h
  refine ⟨by simp; omega, by omega, h3, fun z hz => h4 z (List.mem_of_mem_take hz), ?_⟩
  rcases h5 with h5 | ⟨b', off', ha, hc⟩
  · exact .inl (by omega)
  · refine .inr ⟨b', off', ha, fun m hm => ?_⟩
    rw [hc m (by omega)]
    simp [hm]

end Go.Proofs.Ytimjdlbhbiklgaa
