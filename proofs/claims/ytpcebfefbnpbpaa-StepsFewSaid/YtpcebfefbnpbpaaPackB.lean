import Derived.WalkKit
import Derived.ProofKit
import Derived.Deep.QuietTactic
import Derived.Test.YtpcebfefbnpbpaaPackA
import Derived.Laws.Rows
import Derived.Laws.CopyOwn
import Derived.OwnWalk
import Derived.Below
import Derived.Laws.AppendOwn
set_option linter.all false
set_option maxRecDepth 100000
set_option maxHeartbeats 12800000
namespace Go.Proofs.Ytpcebfefbnpbpaa
section
open Go.RowKit

def u8s (l : List Int) : List Value := l.map (.int .u8)
theorem u8s_snoc (xs : List Int) (b : Int) : u8s xs ++ [.int .u8 b] = u8s (xs ++ [b]) := by simp [u8s]
def i64s (l : List Int) : List Value := l.map (.int .i64)
theorem i64s_snoc (xs : List Int) (b : Int) : i64s xs ++ [.int .i64 b] = i64s (xs ++ [b]) := by simp [i64s]

def u64s (l : List Int) : List Value := l.map (.int .u64)
theorem u64s_snoc (xs : List Int) (b : Int) : u64s xs ++ [.int .u64 b] = u64s (xs ++ [b]) := by simp [u64s]
theorem u64s_app (xs ys : List Int) : u64s xs ++ u64s ys = u64s (xs ++ ys) := by simp [u64s]

/-- the slice (a, n, cap) reads as the numbers zs in the world w -/
def Sl (k : IntKind) (w : World) (a : Option Addr) (n cap : Nat) (zs : List Int) : Prop :=
  zs.length = n ∧ n ≤ cap ∧ cap ≤ maxLen ∧ (∀ z ∈ zs, (Lit.int k z).wf = true) ∧
    (n = 0 ∨ ∃ b off, a = some ⟨b, off, none⟩ ∧ ∀ i, i < n → w.cell? ⟨b, off + i, none⟩ = some (.int k (zs.getD i 0)))

theorem cell_lt {w : World} {b o : Nat} {v : Value} (h : w.cell? ⟨b, o, none⟩ = some v) : b < w.heap.size := by
  rcases Nat.lt_or_ge b w.heap.size with hlt | hge
  · exact hlt
  · rw [World.cell?] at h; simp [Array.getElem?_eq_none hge] at h

theorem Sl.below {k : IntKind} {w w' : World} {a : Option Addr} {n cap B : Nat} {zs : List Int} (h : Sl k w a n cap zs) (hb : Below B w w') (hB : w.heap.size ≤ B) : Sl k w' a n cap zs := by
  obtain ⟨h1, h2, h3, h4, h5⟩ := h
  refine ⟨h1, h2, h3, h4, ?_⟩
  rcases h5 with h5 | ⟨b, off, ha, hc⟩
  · exact .inl h5
  · refine .inr ⟨b, off, ha, fun i hi => ?_⟩
    have hci := hc i hi
    have hlt := cell_lt hci
    rw [hb.cell (p := ⟨b, off + i, none⟩) (by show b < B; omega)]
    exact hci

theorem Sl.of_owns {k : IntKind} {w : World} {B : Nat} {T : TypeId} {a : Option Addr} {n cap : Nat} {zs : List Int}
    (h : w.ownsRow B T 1 (.slice a n cap) n (zs.map (.int k))) (hw : ∀ z ∈ zs, (Lit.int k z).wf = true) (hl : zs.length = n) : Sl k w a n cap zs := by
  have h' := h
  obtain ⟨_, h2⟩ := h
  rcases h2 with ⟨hv, h0⟩ | ⟨g, c, cur, hv, hg, hh, hnc, hcm, hcs, ht⟩
  · simp only [Value.slice.injEq] at hv
    obtain ⟨rfl, rfl, rfl⟩ := hv
    exact ⟨hl, Nat.le_refl _, by unfold maxLen; omega, hw, .inl rfl⟩
  · simp only [Value.slice.injEq] at hv
    obtain ⟨rfl, _, rfl⟩ := hv
    refine ⟨hl, hnc, hcm, hw, .inr ⟨g, 0, rfl, fun i hi => ?_⟩⟩
    rw [Nat.zero_add, h'.cellAt i (by omega)]
    simp [hl, hi]

/-- the shell's own word for a slice that came in -/
theorem Sl.of_row {k : IntKind} {w : World} {a : Option Addr} {len cap : Nat} {zs : List Int}
    (h : (a = none ∧ len = 0 ∧ cap = 0 ∧ zs = []) ∨ ∃ x, a = some x ∧ len ≤ cap ∧ cap ≤ maxLen ∧ zs.length = cap ∧ (∀ i, i < zs.length → w.cell? (x.add i) = some (.int k (zs.getD i 0))) ∧ ∀ n ∈ zs, (Lit.int k n).wf = true) :
    Sl k w a len cap (zs.take len) := by
  rcases h with ⟨rfl, rfl, rfl, rfl⟩ | ⟨x, rfl, hl, hm, hz, hcell, hwz⟩
  · exact ⟨rfl, Nat.le_refl _, by unfold maxLen; omega, by simp, .inl rfl⟩
  · refine ⟨by simp; omega, hl, hm, fun z hz' => hwz z (List.mem_of_mem_take hz'), ?_⟩
    rcases Nat.eq_zero_or_pos len with h0 | hp
    · exact .inl h0
    · obtain ⟨b, off, spot⟩ := x
      have hc := hcell 0 (by omega)
      have hspot : spot = none := by simpa [Addr.add] using World.cell?_spot hc
      subst hspot
      refine .inr ⟨b, off, rfl, fun i hi => ?_⟩
      have := hcell i (by omega)
      rw [show (⟨b, off, none⟩ : Addr).add i = ⟨b, off + i, none⟩ from by simp [Addr.add]] at this
      rw [this]
      simp [hi]

/-- a piece of it, from i on, j long -/
theorem Sl.piece {k : IntKind} {w : World} {b off n cap : Nat} {zs : List Int} (h : Sl k w (some ⟨b, off, none⟩) n cap zs) (i j : Nat) (hij : i + j ≤ n) :
    Sl k w (some ⟨b, off + i, none⟩) j (cap - i) ((zs.drop i).take j) := by
  obtain ⟨h1, h2, h3, h4, h5⟩ := h
  refine ⟨by simp; omega, by omega, by unfold maxLen at *; omega, fun z hz => h4 z (List.mem_of_mem_drop (List.mem_of_mem_take hz)), ?_⟩
  rcases h5 with h5 | ⟨b', off', ha, hc⟩
  · exact .inl (by omega)
  · simp only [Option.some.injEq, Addr.mk.injEq] at ha
    obtain ⟨rfl, rfl, _⟩ := ha
    refine .inr ⟨b, off + i, rfl, fun m hm => ?_⟩
    rw [Nat.add_assoc, hc (i + m) (by omega)]
    simp [hm]

theorem Sl.at {k : IntKind} {w : World} {a : Option Addr} {n cap : Nat} {zs : List Int} (h : Sl k w a n cap zs) (hn : 0 < n) :
    ∃ b off, a = some ⟨b, off, none⟩ ∧ b < w.heap.size ∧ ∀ i, i < n → w.cell? ⟨b, off + i, none⟩ = some (.int k (zs.getD i 0)) := by
  obtain ⟨h1, h2, h3, h4, h5⟩ := h
  rcases h5 with h5 | ⟨b, off, ha, hc⟩
  · omega
  · exact ⟨b, off, ha, cell_lt (hc 0 hn), hc⟩

theorem one_newp {w : World} {B : Nat} {v : Value} {t : TypeId} (hB : B = w.heap.size) : ∀ j u, [v][j]? = some u → (w.alloc (.cells #[v] t)).cell? ((⟨B, 0, none⟩ : Addr).add j) = some u := by
  subst hB
  intro j u hj
  match j, hj with
  | 0, hj => simp at hj; subst hj; simp [Addr.add]
theorem Sl.alloc {k : IntKind} {w : World} {a : Option Addr} {n cap : Nat} {zs : List Int} (h : Sl k w a n cap zs) (o : Obj) : Sl k (w.alloc o) a n cap zs :=
  h.below ((Below.refl w.heap.size w).alloc (Nat.le_refl _) o) (Nat.le_refl _)
theorem Sl.drew {k : IntKind} {w : World} {a : Option Addr} {n cap : Nat} {zs : List Int} (h : Sl k w a n cap zs) : Sl k w.drew a n cap zs := h
theorem Sl.drewN {k : IntKind} {w : World} {a : Option Addr} {n cap : Nat} {zs : List Int} (h : Sl k w a n cap zs) (m : Nat) : Sl k (w.drewN m) a n cap zs := h
theorem Sl.first {k : IntKind} {w : World} {b off n cap : Nat} {zs : List Int} (h : Sl k w (some ⟨b, off, none⟩) n cap zs) (j : Nat) (hj : j ≤ n) : Sl k w (some ⟨b, off, none⟩) j cap (zs.take j) := by
  have := h.piece 0 j (by omega)
  simpa using this
theorem ownsRow_below {w w' : World} {base : Nat} {e : TypeId} {size : Nat} {v : Value} {n : Nat} {xs : List Value} {B : Nat} (h : w.ownsRow base e size v n xs) (hb : Below B w w') (hB : w.heap.size ≤ B) : w'.ownsRow base e size v n xs := by
  obtain ⟨h1, h2⟩ := h
  refine ⟨h1, ?_⟩
  rcases h2 with h2 | ⟨g, cap, cur, hv, hg, hh, r⟩
  · exact .inl h2
  · have hlt : g < w.heap.size := by
      rcases Nat.lt_or_ge g w.heap.size with hlt | hge
      · exact hlt
      · rw [Array.getElem?_eq_none hge] at hh; cases hh
    exact .inr ⟨g, cap, cur, hv, hg, by rw [hb.block g (by omega)]; exact hh, r⟩
theorem take_same {xs ys : List Int} {j : Nat} (h : xs.take j = ys.take j) (hx : j < xs.length) (hy : j < ys.length) (e : xs.getD j 0 = ys.getD j 0) : xs.take (j + 1) = ys.take (j + 1) := by
  rw [List.take_succ_eq_append_getElem hx, List.take_succ_eq_append_getElem hy, h]
  simp [hx, hy] at e
  rw [e]
theorem below_over {w w1 w2 : World} {o : Obj} (h : Below w.heap.size w w1) (hb : Below (w1.alloc o).heap.size (w1.alloc o) w2) : Below w.heap.size w w2 :=
  (h.alloc h.size o).trans (hb.mono (by have := h.size; simp; omega))
theorem Sl.over {k : IntKind} {w1 w2 : World} {o : Obj} {a : Option Addr} {n cap : Nat} {zs : List Int} (h : Sl k w1 a n cap zs) (hb : Below (w1.alloc o).heap.size (w1.alloc o) w2) : Sl k w2 a n cap zs :=
  (h.alloc o).below hb (Nat.le_refl _)
theorem Sl.nil {k : IntKind} {w : World} : Sl k w none 0 0 [] := ⟨rfl, Nat.le_refl _, by unfold maxLen; omega, by simp, .inl rfl⟩
theorem Sl.drawn {k : IntKind} {w w' : World} {a : Option Addr} {n cap : Nat} {zs : List Int} (h : Sl k w a n cap zs) (hq : ∃ q, w' = w.drewN q) : Sl k w' a n cap zs := by
  obtain ⟨q, rfl⟩ := hq; exact h
theorem below_drawn {B : Nat} {w w1 w2 : World} (h : Below B w w1) (hq : ∃ q, w2 = w1.drewN q) : Below B w w2 := by
  obtain ⟨q, rfl⟩ := hq; exact ⟨h.os, h.tape, h.output, h.size, h.block⟩

end
section
open Go.RowKit

/-- a rule as it lies: two slices, and a cost -/
structure Rw where
  la : Option Addr
  ln : Nat
  lc : Nat
  L : List Int
  ra : Option Addr
  rn : Nat
  rc : Nat
  R : List Int
  C : Int
def Rw.l (x : Rw) : Value := .slice x.la x.ln x.lc
def Rw.rt (x : Rw) : Value := .slice x.ra x.rn x.rc
def Rw.c (x : Rw) : Value := .int .u64 x.C
def Rw.cells (x : Rw) : List Value := [x.l, x.rt, x.c]
def Rw.v (x : Rw) : Value := .agg #[x.l, x.rt, x.c]
def Rw.r (x : Rw) : Rul := ⟨x.L, x.R, x.C⟩
def Rw.no : Rw := ⟨none, 0, 0, [], none, 0, 0, [], 0⟩
def Rw.Good (w : World) (x : Rw) : Prop := Sl .i64 w x.la x.ln x.lc x.L ∧ Sl .i64 w x.ra x.rn x.rc x.R ∧ 0 ≤ x.C ∧ x.C < 18446744073709551616
theorem Rw.no_good (w : World) : Rw.no.Good w := ⟨Sl.nil, Sl.nil, by decide, by decide⟩
theorem Rw.Good.below {w w' : World} {x : Rw} {B : Nat} (h : x.Good w) (hb : Below B w w') (hB : w.heap.size ≤ B) : x.Good w' := ⟨h.1.below hb hB, h.2.1.below hb hB, h.2.2⟩
theorem Rw.Good.alloc {w : World} {x : Rw} (h : x.Good w) (o : Obj) : x.Good (w.alloc o) := ⟨h.1.alloc o, h.2.1.alloc o, h.2.2⟩
theorem Rw.Good.drawn {w w' : World} {x : Rw} (h : x.Good w) (hq : ∃ q, w' = w.drewN q) : x.Good w' := by obtain ⟨q, rfl⟩ := hq; exact h

def ruls (xs : List Rw) : List Rul := xs.map Rw.r
def rcells (xs : List Rw) : List Value := xs.flatMap Rw.cells
theorem ruls_length (xs : List Rw) : (ruls xs).length = xs.length := by simp [ruls]
theorem ruls_app (xs ys : List Rw) : ruls (xs ++ ys) = ruls xs ++ ruls ys := by simp [ruls]
theorem rcells_app (xs ys : List Rw) : rcells (xs ++ ys) = rcells xs ++ rcells ys := by simp [rcells]
theorem rcells_cons (x : Rw) (xs : List Rw) : rcells (x :: xs) = x.cells ++ rcells xs := by simp [rcells]
theorem rcells_length : ∀ xs : List Rw, (rcells xs).length = xs.length * 3
  | [] => rfl
  | x :: xs => by rw [rcells_cons, List.length_append, rcells_length xs]; simp [Rw.cells]; omega
theorem ruls_at (xs : List Rw) (i : Nat) : (ruls xs).getD i Rul.no = (xs.getD i Rw.no).r := by
  simp only [ruls, List.getD_eq_getElem?_getD, List.getElem?_map]
  cases xs[i]? <;> rfl
theorem rcells_at : ∀ (xs : List Rw) (i j : Nat), i < xs.length → j < 3 → (rcells xs)[i * 3 + j]? = (xs.getD i Rw.no).cells[j]?
  | [], _, _, h, _ => by simp at h
  | x :: xs, 0, j, _, hj => by
    rw [rcells_cons, Nat.zero_mul, Nat.zero_add, List.getElem?_append_left (by simpa [Rw.cells] using hj)]; rfl
  | x :: xs, i + 1, j, h, hj => by
    rw [rcells_cons, List.getElem?_append_right (by simp [Rw.cells]; omega), show (i + 1) * 3 + j - x.cells.length = i * 3 + j from by simp [Rw.cells]; omega, rcells_at xs i j (by simpa using h) hj]
    simp

/-- the three cells of rule i -/
def RwAt (w : World) (b o : Nat) (x : Rw) : Prop :=
  w.cell? ⟨b, o, none⟩ = some x.l ∧ w.cell? ⟨b, o + 1, none⟩ = some x.rt ∧ w.cell? ⟨b, o + 2, none⟩ = some x.c

/-- the slice (a, n, cap) of rules reads as xs in the world w -/
def Rs (w : World) (a : Option Addr) (n cap : Nat) (xs : List Rw) : Prop :=
  xs.length = n ∧ n ≤ cap ∧ cap ≤ maxLen ∧ (∀ x ∈ xs, x.Good w) ∧
    (n = 0 ∨ ∃ b off, a = some ⟨b, off, none⟩ ∧ ∀ i, i < n → RwAt w b (off + i * 3) (xs.getD i Rw.no))

theorem RwAt.below {w w' : World} {b o B : Nat} {x : Rw} (h : RwAt w b o x) (hb : Below B w w') (hB : w.heap.size ≤ B) : RwAt w' b o x := by
  have hlt := cell_lt h.1
  refine ⟨?_, ?_, ?_⟩
  · rw [hb.cell (p := ⟨b, o, none⟩) (by show b < B; omega)]; exact h.1
  · rw [hb.cell (p := ⟨b, o + 1, none⟩) (by show b < B; omega)]; exact h.2.1
  · rw [hb.cell (p := ⟨b, o + 2, none⟩) (by show b < B; omega)]; exact h.2.2
theorem Rs.below {w w' : World} {a : Option Addr} {n cap B : Nat} {xs : List Rw} (h : Rs w a n cap xs) (hb : Below B w w') (hB : w.heap.size ≤ B) : Rs w' a n cap xs := by
  obtain ⟨h1, h2, h3, h4, h5⟩ := h
  refine ⟨h1, h2, h3, fun x hx => (h4 x hx).below hb hB, ?_⟩
  rcases h5 with h5 | ⟨b, off, ha, hc⟩
  · exact .inl h5
  · exact .inr ⟨b, off, ha, fun i hi => (hc i hi).below hb hB⟩
theorem Rs.alloc {w : World} {a : Option Addr} {n cap : Nat} {xs : List Rw} (h : Rs w a n cap xs) (o : Obj) : Rs (w.alloc o) a n cap xs :=
  h.below ((Below.refl w.heap.size w).alloc (Nat.le_refl _) o) (Nat.le_refl _)
theorem Rs.drawn {w w' : World} {a : Option Addr} {n cap : Nat} {xs : List Rw} (h : Rs w a n cap xs) (hq : ∃ q, w' = w.drewN q) : Rs w' a n cap xs := by
  obtain ⟨q, rfl⟩ := hq; exact h
theorem Rs.drewN {w : World} {a : Option Addr} {n cap : Nat} {xs : List Rw} (h : Rs w a n cap xs) (m : Nat) : Rs (w.drewN m) a n cap xs := h
theorem Rs.drew {w : World} {a : Option Addr} {n cap : Nat} {xs : List Rw} (h : Rs w a n cap xs) : Rs w.drew a n cap xs := h
theorem Rs.nil {w : World} : Rs w none 0 0 [] := ⟨rfl, Nat.le_refl _, by unfold maxLen; omega, by simp, .inl rfl⟩
theorem Rs.empty {w : World} {a : Option Addr} {c : Nat} (h : c ≤ maxLen) : Rs w a 0 c [] := ⟨rfl, Nat.zero_le _, h, by simp, .inl rfl⟩
theorem Rs.good {w : World} {a : Option Addr} {n cap : Nat} {xs : List Rw} (h : Rs w a n cap xs) (i : Nat) : (xs.getD i Rw.no).Good w := by
  rw [List.getD_eq_getElem?_getD]
  rcases Nat.lt_or_ge i xs.length with hi | hi
  · rw [List.getElem?_eq_getElem hi]; exact h.2.2.2.1 _ (List.getElem_mem hi)
  · rw [List.getElem?_eq_none hi]; exact Rw.no_good w
theorem Rs.at {w : World} {a : Option Addr} {n cap : Nat} {xs : List Rw} (h : Rs w a n cap xs) (hn : 0 < n) :
    ∃ b off, a = some ⟨b, off, none⟩ ∧ b < w.heap.size ∧ ∀ i, i < n → RwAt w b (off + i * 3) (xs.getD i Rw.no) := by
  obtain ⟨h1, h2, h3, h4, h5⟩ := h
  rcases h5 with h5 | ⟨b, off, ha, hc⟩
  · omega
  · exact ⟨b, off, ha, cell_lt (hc 0 hn).1, hc⟩
theorem Rs.one {w : World} {a : Option Addr} {n cap : Nat} {xs : List Rw} (h : Rs w a n cap xs) (i : Nat) (hi : i < n) :
    ∃ b off la ln lc L ra rn rc R C, a = some ⟨b, off, none⟩ ∧ b < w.heap.size ∧ w.cell? ⟨b, off + i * 3, none⟩ = some (.slice la ln lc) ∧ w.cell? ⟨b, off + i * 3 + 1, none⟩ = some (.slice ra rn rc) ∧ w.cell? ⟨b, off + i * 3 + 2, none⟩ = some (.int .u64 C) ∧
      Sl .i64 w la ln lc L ∧ Sl .i64 w ra rn rc R ∧ 0 ≤ C ∧ C < 18446744073709551616 ∧ xs.getD i Rw.no = ⟨la, ln, lc, L, ra, rn, rc, R, C⟩ := by
  obtain ⟨b, off, ha, hb, hc⟩ := h.at (by omega)
  have hg := h.good i
  have hx := hc i hi
  generalize xs.getD i Rw.no = x at hg hx
  obtain ⟨la, ln, lc, L, ra, rn, rc, R, C⟩ := x
  exact ⟨b, off, la, ln, lc, L, ra, rn, rc, R, C, ha, hb, hx.1, hx.2.1, hx.2.2, hg.1, hg.2.1, hg.2.2.1, hg.2.2.2, rfl⟩
/-- a piece of it -/
theorem Rs.piece {w : World} {b off n cap : Nat} {xs : List Rw} (h : Rs w (some ⟨b, off, none⟩) n cap xs) (i j : Nat) (hij : i + j ≤ n) :
    Rs w (some ⟨b, off + i * 3, none⟩) j (cap - i) ((xs.drop i).take j) := by
  obtain ⟨h1, h2, h3, h4, h5⟩ := h
  refine ⟨by simp; omega, by omega, by unfold maxLen at *; omega, fun x hx => h4 x (List.mem_of_mem_drop (List.mem_of_mem_take hx)), ?_⟩
  rcases h5 with h5 | ⟨b', off', ha, hc⟩
  · exact .inl (by omega)
  · simp only [Option.some.injEq, Addr.mk.injEq] at ha
    obtain ⟨rfl, rfl, _⟩ := ha
    refine .inr ⟨b, off + i * 3, rfl, fun m hm => ?_⟩
    have := hc (i + m) (by omega)
    rw [show off + (i + m) * 3 = off + i * 3 + m * 3 from by omega] at this
    have e : ((xs.drop i).take j).getD m Rw.no = xs.getD (i + m) Rw.no := by simp [hm]
    rw [e]; exact this
theorem Rs.first {w : World} {a : Option Addr} {n cap : Nat} {xs : List Rw} (h : Rs w a n cap xs) (j : Nat) (hj : j ≤ n) : Rs w a j cap (xs.take j) := by
  obtain ⟨h1, h2, h3, h4, h5⟩ := h
  refine ⟨by simp; omega, by omega, h3, fun x hx => h4 x (List.mem_of_mem_take hx), ?_⟩
  rcases h5 with h5 | ⟨b, off, ha, hc⟩
  · exact .inl (by omega)
  · refine .inr ⟨b, off, ha, fun m hm => ?_⟩
    have e : (xs.take j).getD m Rw.no = xs.getD m Rw.no := by simp [hm]
    rw [e]; exact hc m (by omega)
/-- a row that the call owns, read -/
theorem Rs.of_owns {w : World} {B : Nat} {T : TypeId} {a : Option Addr} {n cap : Nat} {xs : List Rw}
    (h : w.ownsRow B T 3 (.slice a n cap) n (rcells xs)) (hg : ∀ x ∈ xs, x.Good w) (hl : xs.length = n) : Rs w a n cap xs := by
  have h' := h
  obtain ⟨_, h2⟩ := h
  rcases h2 with ⟨hv, h0⟩ | ⟨g, c, cur, hv, hgB, hh, hnc, hcm, hcs, ht⟩
  · simp only [Value.slice.injEq] at hv
    obtain ⟨rfl, rfl, rfl⟩ := hv
    exact ⟨hl, Nat.le_refl _, by unfold maxLen; omega, hg, .inl rfl⟩
  · simp only [Value.slice.injEq] at hv
    obtain ⟨rfl, _, rfl⟩ := hv
    refine ⟨hl, hnc, hcm, hg, .inr ⟨g, 0, rfl, fun i hi => ?_⟩⟩
    have e : ∀ j, j < 3 → w.cell? ⟨g, 0 + i * 3 + j, none⟩ = (xs.getD i Rw.no).cells[j]? := fun j hj => by
      rw [Nat.zero_add, h'.cellAt (i * 3 + j) (by omega), rcells_at xs i j (by omega) hj]
    exact ⟨e 0 (by omega), e 1 (by omega), e 2 (by omega)⟩

/-- numbers that the call has just laid -/
theorem Sl.lay {k : IntKind} {w : World} {t : TypeId} {fr : Nat × Nat} {B n m : Nat} (zs : List Int) (hw : ∀ z ∈ zs, (Lit.int k z).wf = true) (hl : zs.length ≤ maxLen) (hB : B = w.heap.size) (hn : zs.length = n) (hm : zs.length = m) :
    Sl k (w.alloc (.cells (zs.map (Value.int k)).toArray t fr)) (some ⟨B, 0, none⟩) n m zs := by
  subst hB hn hm
  refine ⟨rfl, Nat.le_refl _, hl, hw, .inr ⟨w.heap.size, 0, rfl, fun i hi => ?_⟩⟩
  rw [World.cell?_alloc_mark]
  simp [hi]

end
section
open Go.RowKit

/-- costs, and where their rules lie -/
structure Cw where
  m : Int
  l : Int
  o : Int
  t : Int
  a : Option Addr
  n : Nat
  cap : Nat
  xs : List Rw
def Cw.cells (c : Cw) : Array Value := #[.int .u64 c.m, .int .u64 c.l, .int .u64 c.o, .int .u64 c.t, .slice c.a c.n c.cap]
def Cw.v (c : Cw) : Value := .agg c.cells
def Cw.base (c : Cw) : List Int := [c.m, c.l, c.o, c.t]
def Cw.c (c : Cw) : File.Cst := ⟨c.base, ruls c.xs⟩
def Cw.Good (w : World) (c : Cw) : Prop := Rs w c.a c.n c.cap c.xs ∧ ∀ x ∈ c.base, 0 ≤ x ∧ x < 18446744073709551616
theorem Cw.Good.below {w w' : World} {c : Cw} {B : Nat} (h : c.Good w) (hb : Below B w w') (hB : w.heap.size ≤ B) : c.Good w' := ⟨h.1.below hb hB, h.2⟩
theorem Cw.Good.alloc {w : World} {c : Cw} (h : c.Good w) (o : Obj) : c.Good (w.alloc o) := ⟨h.1.alloc o, h.2⟩
theorem Cw.base_wf {w : World} {c : Cw} (h : c.Good w) : ∀ z ∈ c.base, (Lit.int .u64 z).wf = true := fun z hz => by
  have := h.2 z hz
  exact WalkArith.wf_u64 ⟨this.1, by omega⟩

end
section
open Go.RowKit

theorem results_cell_row_tmp {P : Program} {fn : Func} {p u : Tmp} {ty : TypeId} (h : fn.results = #[.cell p ty, .tmp u]) (tmps : Array Value) (w : World) (g : Nat) (t : TypeId) (cs : Array Value) (fr : Nat × Nat) (d : TypeDesc)
    (hp : tmps.getD p undef = .pointer (some ⟨g, 0, none⟩)) (hg : w.heap[g]? = some (.cells cs t fr))
    (hu : P.underlying ty = some d) (hd : (match d with | .struct _ | .array _ _ => true | _ => false) = true) (hi : (P.info? ty).map (·.size) = some cs.size) :
    (results fn tmps).run P w = .ok (.tuple #[.agg cs, tmps.getD u undef]) w := by
  have hp' : tmps[p]?.getD undef = .pointer (some ⟨g, 0, none⟩) := by simpa using hp
  simp [results, h, hp', asAddr, run_loadVar_row w g t ty cs fr d hg hu hd hi]
theorem wpList_load_row_w {P : Program} {ops : Array Oper} {rest : List Oper} {o : Oper} {a : Act} {w : World} {Q : Exit → Act → World → Prop} (hwt : Region.wanted o (yielded ops a.tmps) = true) (ty : TypeId) (x : Operand) (ho : o.op = .load ty x)
    (g : Nat) (hx : a.eval x = .pointer (some ⟨g, 0, none⟩)) (t : TypeId) (cs : Array Value) (fr : Nat × Nat) (d : TypeDesc) (hg : w.heap[g]? = some (.cells cs t fr))
    (hu : P.underlying ty = some d) (hd : (match d with | .struct _ | .array _ _ => true | _ => false) = true) (hi : (P.info? ty).map (·.size) = some cs.size)
    (h : wpList P ops Q rest (a.put o.dst (.agg cs)) w) : wpList P ops Q (o :: rest) a w := by
  refine wpList_step fun K hK => ?_
  rw [if_pos hwt]
  exact wp_load_row ty x ho g hx t cs fr d hg hu hd hi (hK _ _ h)
theorem wpList_store_g {P : Program} {ops : Array Oper} {rest : List Oper} {o : Oper} {a : Act} {w : World} {Q : Exit → Act → World → Prop} (hgd : o.guard = none) (ty : TypeId) (x y : Operand) (ho : o.op = .store ty x y)
    (g : Nat) (cells : Array Value) (hx : a.eval x = .pointer (some ⟨g, 0, none⟩)) (hy : a.eval y = .agg cells)
    (t : TypeId) (old : Array Value) (hg : w.heap[g]? = some (.cells old t (0, 0))) (hi : (P.info? ty).map (·.size) = some cells.size)
    (hold : old.size = cells.size) (h1 : cells.all (·.oneCell') = true)
    (h : ∀ w', w'.heap[g]? = some (.cells cells t (0, 0)) → w.grownBy w' (some g) → w'.heap.size = w.heap.size → wpList P ops Q rest (a.put o.dst undef) w') : wpList P ops Q (o :: rest) a w :=
  wpList_store_row hgd ty x y ho g cells hx hy t old hg hi hold h1 (h _ (setRow_heap _ _ _ _ _ _ hg) ⟨rfl, rfl, rfl, by simp, fun k _ hk => setRow_other _ _ _ _ (fun e => hk (by rw [e]))⟩ (size_setRow _ _ _))
theorem below_made {w0 w1 w2 : World} {o : Obj} (hb : Below w0.heap.size w0 w1) (hg : (w1.alloc o).grownBy w2 (some w1.heap.size)) : Below w0.heap.size w0 w2 :=
  (hb.alloc hb.size o).grown hg (by have := hb.size; simp; omega) (fun k hk => by cases hk; exact hb.size)
theorem lt_two (w : World) (A B : Obj) : w.heap.size < ((w.alloc A).alloc B).heap.size := by unfold World.alloc; simp; omega
theorem lt_two' (w : World) (A B : Obj) : w.heap.size + 1 < ((w.alloc A).alloc B).heap.size := by unfold World.alloc; simp
theorem below_twice {w w2 w4 : World} {A B : Obj} (h2 : Below ((w.alloc A).alloc B).heap.size ((w.alloc A).alloc B) w2) (h4 : Below w2.heap.size w2 w4) : Below w.heap.size w w4 :=
  (((Below.refl w.heap.size w).alloc (Nat.le_refl _) A).alloc (by simp) B).trans ((h2.mono (by have := lt_two w A B; omega)).trans (h4.mono (by have := lt_two w A B; have := h2.size; omega)))

end
section
open Go.RowKit

theorem splice_all {α : Type} (L cs : List α) (h : L.length = cs.length) : splice L 0 cs = cs := by
  simp [splice, List.drop_eq_nil_of_le (show L.length ≤ cs.length by omega)]
theorem Sl.of_heap {k : IntKind} {w : World} {g n : Nat} {t : TypeId} {fr : Nat × Nat} {zs : List Int} (h : w.heap[g]? = some (.cells (zs.map (.int k)).toArray t fr)) (hw : ∀ z ∈ zs, (Lit.int k z).wf = true) (hl : zs.length = n) (hm : n ≤ maxLen) :
    Sl k w (some ⟨g, 0, none⟩) n n zs := by
  refine ⟨hl, Nat.le_refl _, hm, hw, .inr ⟨g, 0, rfl, fun i hi => ?_⟩⟩
  rw [World.cell?, h]
  simp [hl, hi]

end
section
open Go.RowKit

/-- a rule whose cells lie elsewhere than in block k -/
def Slf (k : Option Nat) (a : Option Addr) (n : Nat) : Prop := n = 0 ∨ ∃ b off, a = some ⟨b, off, none⟩ ∧ k ≠ some b
def Rw.Far (k : Option Nat) (x : Rw) : Prop := Slf k x.la x.ln ∧ Slf k x.ra x.rn
theorem Sl.grown {q : IntKind} {w w' : World} {a : Option Addr} {n cap : Nat} {zs : List Int} {k : Option Nat} (h : Sl q w a n cap zs) (hg : w.grownBy w' k) (hf : Slf k a n) : Sl q w' a n cap zs := by
  obtain ⟨h1, h2, h3, h4, h5⟩ := h
  refine ⟨h1, h2, h3, h4, ?_⟩
  rcases h5 with h5 | ⟨b, off, ha, hc⟩
  · exact .inl h5
  · rcases hf with hf | ⟨b', off', ha', hk⟩
    · exact .inl hf
    · rw [ha] at ha'
      simp only [Option.some.injEq, Addr.mk.injEq, and_true] at ha'
      obtain ⟨rfl, rfl⟩ := ha'
      exact .inr ⟨b, off, ha, fun i hi => hg.cell (hc i hi) (fun e => hk e.symm)⟩
theorem Rw.Good.grown {w w' : World} {x : Rw} {k : Option Nat} (h : x.Good w) (hg : w.grownBy w' k) (hf : x.Far k) : x.Good w' := ⟨h.1.grown hg hf.1, h.2.1.grown hg hf.2, h.2.2⟩

end
end Go.Proofs.Ytpcebfefbnpbpaa
