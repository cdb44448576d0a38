import Derived.WalkKit
import Derived.ProofKit
import Derived.Deep.QuietTactic
import Derived.Test.YtjmabjeaodojeaaGreatPackA
import Derived.Laws.Rows
import Derived.Laws.CopyOwn
import Derived.OwnWalk
import Derived.Below
import Derived.Laws.AppendOwn
import Derived.Orders
import Derived.Deep.AppendLies
/- Used by the law. -/
namespace Go.Proofs.YtjmabjeaodojeaaGreat
open Go.RowKit

def u8s (l : List Int) : List Value := l.map (.int .u8)
theorem u8s_snoc (xs : List Int) (b : Int) : u8s xs ++ [.int .u8 b] = u8s (xs ++ [b]) := by simp [u8s]
def i64s (l : List Int) : List Value := l.map (.int .i64)
theorem i64s_snoc (xs : List Int) (b : Int) : i64s xs ++ [.int .i64 b] = i64s (xs ++ [b]) := by simp [i64s]

def Sl (k : IntKind) (w : World) (a : Option Addr) (n cap : Nat) (zs : List Int) : Prop :=
  zs.length = n ∧ n ≤ cap ∧ cap ≤ maxLen ∧ (∀ z ∈ zs, (Lit.int k z).wf = true) ∧
    (n = 0 ∨ ∃ b off, a = some ⟨b, off, none⟩ ∧ ∀ i, i < n → w.cell? ⟨b, off + i, none⟩ = some (.int k (zs.getD i 0)))

theorem cell_lt {w : World} {b o : Nat} {v : Value} (h : w.cell? ⟨b, o, none⟩ = some v) : b < w.heap.size := by
  rcases Nat.lt_or_ge b w.heap.size with hlt | hge
  · exact hlt
  · rw [World.cell?] at h; simp [Array.getElem?_eq_none hge] at h

theorem Sl.below {k : IntKind} {w w' : World} {a : Option Addr} {n cap B : Nat} {zs : List Int} (h : Sl k w a n cap zs) (hb : Below B w w') (hB : w.heap.size ≤ B) : Sl k w' a n cap zs := by
  obtain ⟨h1, h2, h3, h4, h5⟩ := h
  refine ⟨h1, h2, h3, h4, ?_⟩
  rcases h5 with h5 | ⟨b, off, ha, hc⟩
  · exact .inl h5
  · refine .inr ⟨b, off, ha, fun i hi => ?_⟩
    have hci := hc i hi
    have hlt := cell_lt hci
    rw [hb.cell (p := ⟨b, off + i, none⟩) (by show b < B; omega)]
    exact hci

theorem Sl.of_owns {k : IntKind} {w : World} {B : Nat} {T : TypeId} {a : Option Addr} {n cap : Nat} {zs : List Int}
    (h : w.ownsRow B T 1 (.slice a n cap) n (zs.map (.int k))) (hw : ∀ z ∈ zs, (Lit.int k z).wf = true) (hl : zs.length = n) : Sl k w a n cap zs := by
  have h' := h
  obtain ⟨_, h2⟩ := h
  rcases h2 with ⟨hv, h0⟩ | ⟨g, c, cur, hv, hg, hh, hnc, hcm, hcs, ht⟩
  · simp only [Value.slice.injEq] at hv
    obtain ⟨rfl, rfl, rfl⟩ := hv
    exact ⟨hl, Nat.le_refl _, by unfold maxLen; omega, hw, .inl rfl⟩
  · simp only [Value.slice.injEq] at hv
    obtain ⟨rfl, _, rfl⟩ := hv
    refine ⟨hl, hnc, hcm, hw, .inr ⟨g, 0, rfl, fun i hi => ?_⟩⟩
    rw [Nat.zero_add, h'.cellAt i (by omega)]
    simp [hl, hi]

theorem Sl.of_row {k : IntKind} {w : World} {a : Option Addr} {len cap : Nat} {zs : List Int}
    (h : (a = none ∧ len = 0 ∧ cap = 0 ∧ zs = []) ∨ ∃ x, a = some x ∧ len ≤ cap ∧ cap ≤ maxLen ∧ zs.length = cap ∧ (∀ i, i < zs.length → w.cell? (x.add i) = some (.int k (zs.getD i 0))) ∧ ∀ n ∈ zs, (Lit.int k n).wf = true) :
    Sl k w a len cap (zs.take len) := by
  rcases h with ⟨rfl, rfl, rfl, rfl⟩ | ⟨x, rfl, hl, hm, hz, hcell, hwz⟩
  · exact ⟨rfl, Nat.le_refl _, by unfold maxLen; omega, by simp, .inl rfl⟩
  · refine ⟨by simp; omega, hl, hm, fun z hz' => hwz z (List.mem_of_mem_take hz'), ?_⟩
    rcases Nat.eq_zero_or_pos len with h0 | hp
    · exact .inl h0
    · obtain ⟨b, off, spot⟩ := x
      have hc := hcell 0 (by omega)
      have hspot : spot = none := by simpa [Addr.add] using World.cell?_spot hc
      subst hspot
      refine .inr ⟨b, off, rfl, fun i hi => ?_⟩
      have := hcell i (by omega)
      rw [show (⟨b, off, none⟩ : Addr).add i = ⟨b, off + i, none⟩ from by simp [Addr.add]] at this
      rw [this]
      simp [hi]

theorem Sl.piece {k : IntKind} {w : World} {b off n cap : Nat} {zs : List Int} (h : Sl k w (some ⟨b, off, none⟩) n cap zs) (i j : Nat) (hij : i + j ≤ n) :
    Sl k w (some ⟨b, off + i, none⟩) j (cap - i) ((zs.drop i).take j) := by
  obtain ⟨h1, h2, h3, h4, h5⟩ := h
  refine ⟨by simp; omega, by omega, by unfold maxLen at *; omega, fun z hz => h4 z (List.mem_of_mem_drop (List.mem_of_mem_take hz)), ?_⟩
  rcases h5 with h5 | ⟨b', off', ha, hc⟩
  · exact .inl (by omega)
  · simp only [Option.some.injEq, Addr.mk.injEq] at ha
    obtain ⟨rfl, rfl, _⟩ := ha
    refine .inr ⟨b, off + i, rfl, fun m hm => ?_⟩
    rw [Nat.add_assoc, hc (i + m) (by omega)]
    simp [hm]

theorem Sl.at {k : IntKind} {w : World} {a : Option Addr} {n cap : Nat} {zs : List Int} (h : Sl k w a n cap zs) (hn : 0 < n) :
    ∃ b off, a = some ⟨b, off, none⟩ ∧ b < w.heap.size ∧ ∀ i, i < n → w.cell? ⟨b, off + i, none⟩ = some (.int k (zs.getD i 0)) := by
  obtain ⟨h1, h2, h3, h4, h5⟩ := h
  rcases h5 with h5 | ⟨b, off, ha, hc⟩
  · omega
  · exact ⟨b, off, ha, cell_lt (hc 0 hn), hc⟩

theorem one_newp {w : World} {B : Nat} {v : Value} {t : TypeId} (hB : B = w.heap.size) : ∀ j u, [v][j]? = some u → (w.alloc (.cells #[v] t)).cell? ((⟨B, 0, none⟩ : Addr).add j) = some u := by
  subst hB
  intro j u hj
  match j, hj with
  | 0, hj => simp at hj; subst hj; simp [Addr.add]
theorem Sl.alloc {k : IntKind} {w : World} {a : Option Addr} {n cap : Nat} {zs : List Int} (h : Sl k w a n cap zs) (o : Obj) : Sl k (w.alloc o) a n cap zs :=
  h.below ((Below.refl w.heap.size w).alloc (Nat.le_refl _) o) (Nat.le_refl _)
theorem Sl.drew {k : IntKind} {w : World} {a : Option Addr} {n cap : Nat} {zs : List Int} (h : Sl k w a n cap zs) : Sl k w.drew a n cap zs := h
theorem Sl.drewN {k : IntKind} {w : World} {a : Option Addr} {n cap : Nat} {zs : List Int} (h : Sl k w a n cap zs) (m : Nat) : Sl k (w.drewN m) a n cap zs := h
theorem Sl.first {k : IntKind} {w : World} {b off n cap : Nat} {zs : List Int} (h : Sl k w (some ⟨b, off, none⟩) n cap zs) (j : Nat) (hj : j ≤ n) : Sl k w (some ⟨b, off, none⟩) j cap (zs.take j) := by
  have := h.piece 0 j (by omega)
  simpa using this
theorem ownsRow_below {w w' : World} {base : Nat} {e : TypeId} {size : Nat} {v : Value} {n : Nat} {xs : List Value} {B : Nat} (h : w.ownsRow base e size v n xs) (hb : Below B w w') (hB : w.heap.size ≤ B) : w'.ownsRow base e size v n xs := by
  obtain ⟨h1, h2⟩ := h
  refine ⟨h1, ?_⟩
  rcases h2 with h2 | ⟨g, cap, cur, hv, hg, hh, r⟩
  · exact .inl h2
  · have hlt : g < w.heap.size := by
      rcases Nat.lt_or_ge g w.heap.size with hlt | hge
      · exact hlt
      · rw [Array.getElem?_eq_none hge] at hh; cases hh
    exact .inr ⟨g, cap, cur, hv, hg, by rw [hb.block g (by omega)]; exact hh, r⟩
theorem take_same {xs ys : List Int} {j : Nat} (h : xs.take j = ys.take j) (hx : j < xs.length) (hy : j < ys.length) (e : xs.getD j 0 = ys.getD j 0) : xs.take (j + 1) = ys.take (j + 1) := by
  rw [List.take_succ_eq_append_getElem hx, List.take_succ_eq_append_getElem hy, h]
  simp [hx, hy] at e
  rw [e]
theorem Sl.over {k : IntKind} {w1 w2 : World} {o : Obj} {a : Option Addr} {n cap : Nat} {zs : List Int} (h : Sl k w1 a n cap zs) (hb : Below (w1.alloc o).heap.size (w1.alloc o) w2) : Sl k w2 a n cap zs :=
  (h.alloc o).below hb (Nat.le_refl _)
theorem Sl.nil {k : IntKind} {w : World} : Sl k w none 0 0 [] := ⟨rfl, Nat.le_refl _, by unfold maxLen; omega, by simp, .inl rfl⟩
theorem Sl.drawn {k : IntKind} {w w' : World} {a : Option Addr} {n cap : Nat} {zs : List Int} (h : Sl k w a n cap zs) (hq : ∃ q, w' = w.drewN q) : Sl k w' a n cap zs := by
  obtain ⟨q, rfl⟩ := hq; exact h
theorem below_drawn {B : Nat} {w w1 w2 : World} (h : Below B w w1) (hq : ∃ q, w2 = w1.drewN q) : Below B w w2 := by
  obtain ⟨q, rfl⟩ := hq; exact ⟨h.os, h.tape, h.output, h.size, h.block⟩

end Go.Proofs.YtjmabjeaodojeaaGreat

/- Used by the law. -/
namespace Go.Proofs.YtjmabjeaodojeaaGreat
open Go.RowKit

structure Rw where
  la : Option Addr
  ln : Nat
  lc : Nat
  L : List Int
  ra : Option Addr
  rn : Nat
  rc : Nat
  R : List Int
  C : Int
def Rw.l (x : Rw) : Value := .slice x.la x.ln x.lc
def Rw.rt (x : Rw) : Value := .slice x.ra x.rn x.rc
def Rw.c (x : Rw) : Value := .int .u64 x.C
def Rw.cells (x : Rw) : List Value := [x.l, x.rt, x.c]
def Rw.v (x : Rw) : Value := .agg #[x.l, x.rt, x.c]
def Rw.r (x : Rw) : Rul := ⟨x.L, x.R, x.C⟩
def Rw.no : Rw := ⟨none, 0, 0, [], none, 0, 0, [], 0⟩
def Rw.Good (w : World) (x : Rw) : Prop := Sl .i64 w x.la x.ln x.lc x.L ∧ Sl .i64 w x.ra x.rn x.rc x.R ∧ 0 ≤ x.C ∧ x.C < 18446744073709551616
set_option maxRecDepth 100000 in
theorem Rw.no_good (w : World) : Rw.no.Good w := ⟨Sl.nil, Sl.nil, by decide, by decide⟩
theorem Rw.Good.below {w w' : World} {x : Rw} {B : Nat} (h : x.Good w) (hb : Below B w w') (hB : w.heap.size ≤ B) : x.Good w' := ⟨h.1.below hb hB, h.2.1.below hb hB, h.2.2⟩
theorem Rw.Good.alloc {w : World} {x : Rw} (h : x.Good w) (o : Obj) : x.Good (w.alloc o) := ⟨h.1.alloc o, h.2.1.alloc o, h.2.2⟩
theorem Rw.Good.drawn {w w' : World} {x : Rw} (h : x.Good w) (hq : ∃ q, w' = w.drewN q) : x.Good w' := by obtain ⟨q, rfl⟩ := hq; exact h

def ruls (xs : List Rw) : List Rul := xs.map Rw.r
def rcells (xs : List Rw) : List Value := xs.flatMap Rw.cells
theorem ruls_length (xs : List Rw) : (ruls xs).length = xs.length := by simp [ruls]
theorem ruls_app (xs ys : List Rw) : ruls (xs ++ ys) = ruls xs ++ ruls ys := by simp [ruls]
theorem rcells_app (xs ys : List Rw) : rcells (xs ++ ys) = rcells xs ++ rcells ys := by simp [rcells]
theorem rcells_cons (x : Rw) (xs : List Rw) : rcells (x :: xs) = x.cells ++ rcells xs := by simp [rcells]
theorem rcells_length : ∀ xs : List Rw, (rcells xs).length = xs.length * 3
  | [] => rfl
  | x :: xs => by rw [rcells_cons, List.length_append, rcells_length xs]; simp [Rw.cells]; omega
theorem ruls_at (xs : List Rw) (i : Nat) : (ruls xs).getD i Rul.no = (xs.getD i Rw.no).r := by
  simp only [ruls, List.getD_eq_getElem?_getD, List.getElem?_map]
  cases xs[i]? <;> rfl
theorem rcells_at : ∀ (xs : List Rw) (i j : Nat), i < xs.length → j < 3 → (rcells xs)[i * 3 + j]? = (xs.getD i Rw.no).cells[j]?
  | [], _, _, h, _ => by simp at h
  | x :: xs, 0, j, _, hj => by
    rw [rcells_cons, Nat.zero_mul, Nat.zero_add, List.getElem?_append_left (by simpa [Rw.cells] using hj)]; rfl
  | x :: xs, i + 1, j, h, hj => by
    rw [rcells_cons, List.getElem?_append_right (by simp [Rw.cells]; omega), show (i + 1) * 3 + j - x.cells.length = i * 3 + j from by simp [Rw.cells]; omega, rcells_at xs i j (by simpa using h) hj]
    simp

def RwAt (w : World) (b o : Nat) (x : Rw) : Prop :=
  w.cell? ⟨b, o, none⟩ = some x.l ∧ w.cell? ⟨b, o + 1, none⟩ = some x.rt ∧ w.cell? ⟨b, o + 2, none⟩ = some x.c

def Rs (w : World) (a : Option Addr) (n cap : Nat) (xs : List Rw) : Prop :=
  xs.length = n ∧ n ≤ cap ∧ cap ≤ maxLen ∧ (∀ x ∈ xs, x.Good w) ∧
    (n = 0 ∨ ∃ b off, a = some ⟨b, off, none⟩ ∧ ∀ i, i < n → RwAt w b (off + i * 3) (xs.getD i Rw.no))

theorem RwAt.below {w w' : World} {b o B : Nat} {x : Rw} (h : RwAt w b o x) (hb : Below B w w') (hB : w.heap.size ≤ B) : RwAt w' b o x := by
  have hlt := cell_lt h.1
  refine ⟨?_, ?_, ?_⟩
  · rw [hb.cell (p := ⟨b, o, none⟩) (by show b < B; omega)]; exact h.1
  · rw [hb.cell (p := ⟨b, o + 1, none⟩) (by show b < B; omega)]; exact h.2.1
  · rw [hb.cell (p := ⟨b, o + 2, none⟩) (by show b < B; omega)]; exact h.2.2
theorem Rs.below {w w' : World} {a : Option Addr} {n cap B : Nat} {xs : List Rw} (h : Rs w a n cap xs) (hb : Below B w w') (hB : w.heap.size ≤ B) : Rs w' a n cap xs := by
  obtain ⟨h1, h2, h3, h4, h5⟩ := h
  refine ⟨h1, h2, h3, fun x hx => (h4 x hx).below hb hB, ?_⟩
  rcases h5 with h5 | ⟨b, off, ha, hc⟩
  · exact .inl h5
  · exact .inr ⟨b, off, ha, fun i hi => (hc i hi).below hb hB⟩
theorem Rs.alloc {w : World} {a : Option Addr} {n cap : Nat} {xs : List Rw} (h : Rs w a n cap xs) (o : Obj) : Rs (w.alloc o) a n cap xs :=
  h.below ((Below.refl w.heap.size w).alloc (Nat.le_refl _) o) (Nat.le_refl _)
theorem Rs.drawn {w w' : World} {a : Option Addr} {n cap : Nat} {xs : List Rw} (h : Rs w a n cap xs) (hq : ∃ q, w' = w.drewN q) : Rs w' a n cap xs := by
  obtain ⟨q, rfl⟩ := hq; exact h
theorem Rs.drewN {w : World} {a : Option Addr} {n cap : Nat} {xs : List Rw} (h : Rs w a n cap xs) (m : Nat) : Rs (w.drewN m) a n cap xs := h
theorem Rs.drew {w : World} {a : Option Addr} {n cap : Nat} {xs : List Rw} (h : Rs w a n cap xs) : Rs w.drew a n cap xs := h
theorem Rs.nil {w : World} : Rs w none 0 0 [] := ⟨rfl, Nat.le_refl _, by unfold maxLen; omega, by simp, .inl rfl⟩
theorem Rs.empty {w : World} {a : Option Addr} {c : Nat} (h : c ≤ maxLen) : Rs w a 0 c [] := ⟨rfl, Nat.zero_le _, h, by simp, .inl rfl⟩
theorem Rs.good {w : World} {a : Option Addr} {n cap : Nat} {xs : List Rw} (h : Rs w a n cap xs) (i : Nat) : (xs.getD i Rw.no).Good w := by
  rw [List.getD_eq_getElem?_getD]
  rcases Nat.lt_or_ge i xs.length with hi | hi
  · rw [List.getElem?_eq_getElem hi]; exact h.2.2.2.1 _ (List.getElem_mem hi)
  · rw [List.getElem?_eq_none hi]; exact Rw.no_good w
theorem Rs.at {w : World} {a : Option Addr} {n cap : Nat} {xs : List Rw} (h : Rs w a n cap xs) (hn : 0 < n) :
    ∃ b off, a = some ⟨b, off, none⟩ ∧ b < w.heap.size ∧ ∀ i, i < n → RwAt w b (off + i * 3) (xs.getD i Rw.no) := by
  obtain ⟨h1, h2, h3, h4, h5⟩ := h
  rcases h5 with h5 | ⟨b, off, ha, hc⟩
  · omega
  · exact ⟨b, off, ha, cell_lt (hc 0 hn).1, hc⟩
theorem Rs.one {w : World} {a : Option Addr} {n cap : Nat} {xs : List Rw} (h : Rs w a n cap xs) (i : Nat) (hi : i < n) :
    ∃ b off la ln lc L ra rn rc R C, a = some ⟨b, off, none⟩ ∧ b < w.heap.size ∧ w.cell? ⟨b, off + i * 3, none⟩ = some (.slice la ln lc) ∧ w.cell? ⟨b, off + i * 3 + 1, none⟩ = some (.slice ra rn rc) ∧ w.cell? ⟨b, off + i * 3 + 2, none⟩ = some (.int .u64 C) ∧
      Sl .i64 w la ln lc L ∧ Sl .i64 w ra rn rc R ∧ 0 ≤ C ∧ C < 18446744073709551616 ∧ xs.getD i Rw.no = ⟨la, ln, lc, L, ra, rn, rc, R, C⟩ := by
  obtain ⟨b, off, ha, hb, hc⟩ := h.at (by omega)
  have hg := h.good i
  have hx := hc i hi
  generalize xs.getD i Rw.no = x at hg hx
  obtain ⟨la, ln, lc, L, ra, rn, rc, R, C⟩ := x
  exact ⟨b, off, la, ln, lc, L, ra, rn, rc, R, C, ha, hb, hx.1, hx.2.1, hx.2.2, hg.1, hg.2.1, hg.2.2.1, hg.2.2.2, rfl⟩
theorem Rs.piece {w : World} {b off n cap : Nat} {xs : List Rw} (h : Rs w (some ⟨b, off, none⟩) n cap xs) (i j : Nat) (hij : i + j ≤ n) :
    Rs w (some ⟨b, off + i * 3, none⟩) j (cap - i) ((xs.drop i).take j) := by
  obtain ⟨h1, h2, h3, h4, h5⟩ := h
  refine ⟨by simp; omega, by omega, by unfold maxLen at *; omega, fun x hx => h4 x (List.mem_of_mem_drop (List.mem_of_mem_take hx)), ?_⟩
  rcases h5 with h5 | ⟨b', off', ha, hc⟩
  · exact .inl (by omega)
  · simp only [Option.some.injEq, Addr.mk.injEq] at ha
    obtain ⟨rfl, rfl, _⟩ := ha
    refine .inr ⟨b, off + i * 3, rfl, fun m hm => ?_⟩
    have := hc (i + m) (by omega)
    rw [show off + (i + m) * 3 = off + i * 3 + m * 3 from by omega] at this
    have e : ((xs.drop i).take j).getD m Rw.no = xs.getD (i + m) Rw.no := by simp [hm]
    rw [e]; exact this
theorem Rs.first {w : World} {a : Option Addr} {n cap : Nat} {xs : List Rw} (h : Rs w a n cap xs) (j : Nat) (hj : j ≤ n) : Rs w a j cap (xs.take j) := by
  obtain ⟨h1, h2, h3, h4, h5⟩ := h
  refine ⟨by simp; omega, by omega, h3, fun x hx => h4 x (List.mem_of_mem_take hx), ?_⟩
  rcases h5 with h5 | ⟨b, off, ha, hc⟩
  · exact .inl (by omega)
  · refine .inr ⟨b, off, ha, fun m hm => ?_⟩
    have e : (xs.take j).getD m Rw.no = xs.getD m Rw.no := by simp [hm]
    rw [e]; exact hc m (by omega)
theorem Rs.of_owns {w : World} {B : Nat} {T : TypeId} {a : Option Addr} {n cap : Nat} {xs : List Rw}
    (h : w.ownsRow B T 3 (.slice a n cap) n (rcells xs)) (hg : ∀ x ∈ xs, x.Good w) (hl : xs.length = n) : Rs w a n cap xs := by
  have h' := h
  obtain ⟨_, h2⟩ := h
  rcases h2 with ⟨hv, h0⟩ | ⟨g, c, cur, hv, hgB, hh, hnc, hcm, hcs, ht⟩
  · simp only [Value.slice.injEq] at hv
    obtain ⟨rfl, rfl, rfl⟩ := hv
    exact ⟨hl, Nat.le_refl _, by unfold maxLen; omega, hg, .inl rfl⟩
  · simp only [Value.slice.injEq] at hv
    obtain ⟨rfl, _, rfl⟩ := hv
    refine ⟨hl, hnc, hcm, hg, .inr ⟨g, 0, rfl, fun i hi => ?_⟩⟩
    have e : ∀ j, j < 3 → w.cell? ⟨g, 0 + i * 3 + j, none⟩ = (xs.getD i Rw.no).cells[j]? := fun j hj => by
      rw [Nat.zero_add, h'.cellAt (i * 3 + j) (by omega), rcells_at xs i j (by omega) hj]
    exact ⟨e 0 (by omega), e 1 (by omega), e 2 (by omega)⟩

theorem Sl.lay {k : IntKind} {w : World} {t : TypeId} {fr : Nat × Nat} {B n m : Nat} (zs : List Int) (hw : ∀ z ∈ zs, (Lit.int k z).wf = true) (hl : zs.length ≤ maxLen) (hB : B = w.heap.size) (hn : zs.length = n) (hm : zs.length = m) :
    Sl k (w.alloc (.cells (zs.map (Value.int k)).toArray t fr)) (some ⟨B, 0, none⟩) n m zs := by
  subst hB hn hm
  refine ⟨rfl, Nat.le_refl _, hl, hw, .inr ⟨w.heap.size, 0, rfl, fun i hi => ?_⟩⟩
  rw [World.cell?_alloc_mark]
  simp [hi]

end Go.Proofs.YtjmabjeaodojeaaGreat

/- Used by the law. -/
namespace Go.Proofs.YtjmabjeaodojeaaGreat
open Go.RowKit

theorem results_cell_row_tmp {P : Program} {fn : Func} {p u : Tmp} {ty : TypeId} (h : fn.results = #[.cell p ty, .tmp u]) (tmps : Array Value) (w : World) (g : Nat) (t : TypeId) (cs : Array Value) (fr : Nat × Nat) (d : TypeDesc)
    (hp : tmps.getD p undef = .pointer (some ⟨g, 0, none⟩)) (hg : w.heap[g]? = some (.cells cs t fr))
    (hu : P.underlying ty = some d) (hd : (match d with | .struct _ | .array _ _ => true | _ => false) = true) (hi : (P.info? ty).map (·.size) = some cs.size) :
    (results fn tmps).run P w = .ok (.tuple #[.agg cs, tmps.getD u undef]) w := by
  have hp' : tmps[p]?.getD undef = .pointer (some ⟨g, 0, none⟩) := by simpa using hp
  simp [results, h, hp', asAddr, run_loadVar_row w g t ty cs fr d hg hu hd hi]
theorem wpList_load_row_w {P : Program} {ops : Array Oper} {rest : List Oper} {o : Oper} {a : Act} {w : World} {Q : Exit → Act → World → Prop} (hwt : Region.wanted o (yielded ops a.tmps) = true) (ty : TypeId) (x : Operand) (ho : o.op = .load ty x)
    (g : Nat) (hx : a.eval x = .pointer (some ⟨g, 0, none⟩)) (t : TypeId) (cs : Array Value) (fr : Nat × Nat) (d : TypeDesc) (hg : w.heap[g]? = some (.cells cs t fr))
    (hu : P.underlying ty = some d) (hd : (match d with | .struct _ | .array _ _ => true | _ => false) = true) (hi : (P.info? ty).map (·.size) = some cs.size)
    (h : wpList P ops Q rest (a.put o.dst (.agg cs)) w) : wpList P ops Q (o :: rest) a w := by
  refine wpList_step fun K hK => ?_
  rw [if_pos hwt]
  exact wp_load_row ty x ho g hx t cs fr d hg hu hd hi (hK _ _ h)
theorem wpList_store_g {P : Program} {ops : Array Oper} {rest : List Oper} {o : Oper} {a : Act} {w : World} {Q : Exit → Act → World → Prop} (hgd : o.guard = none) (ty : TypeId) (x y : Operand) (ho : o.op = .store ty x y)
    (g : Nat) (cells : Array Value) (hx : a.eval x = .pointer (some ⟨g, 0, none⟩)) (hy : a.eval y = .agg cells)
    (t : TypeId) (old : Array Value) (hg : w.heap[g]? = some (.cells old t (0, 0))) (hi : (P.info? ty).map (·.size) = some cells.size)
    (hold : old.size = cells.size) (h1 : cells.all (·.oneCell') = true)
    (h : ∀ w', w'.heap[g]? = some (.cells cells t (0, 0)) → w.grownBy w' (some g) → w'.heap.size = w.heap.size → wpList P ops Q rest (a.put o.dst undef) w') : wpList P ops Q (o :: rest) a w :=
  wpList_store_row hgd ty x y ho g cells hx hy t old hg hi hold h1 (h _ (setRow_heap _ _ _ _ _ _ hg) ⟨rfl, rfl, rfl, by simp, fun k _ hk => setRow_other _ _ _ _ (fun e => hk (by rw [e]))⟩ (size_setRow _ _ _))
theorem below_made {w0 w1 w2 : World} {o : Obj} (hb : Below w0.heap.size w0 w1) (hg : (w1.alloc o).grownBy w2 (some w1.heap.size)) : Below w0.heap.size w0 w2 :=
  (hb.alloc hb.size o).grown hg (by have := hb.size; simp; omega) (fun k hk => by cases hk; exact hb.size)
theorem lt_two (w : World) (A B : Obj) : w.heap.size < ((w.alloc A).alloc B).heap.size := by unfold World.alloc; simp; omega
theorem lt_two' (w : World) (A B : Obj) : w.heap.size + 1 < ((w.alloc A).alloc B).heap.size := by unfold World.alloc; simp
theorem below_twice {w w2 w4 : World} {A B : Obj} (h2 : Below ((w.alloc A).alloc B).heap.size ((w.alloc A).alloc B) w2) (h4 : Below w2.heap.size w2 w4) : Below w.heap.size w w4 :=
  (((Below.refl w.heap.size w).alloc (Nat.le_refl _) A).alloc (by simp) B).trans ((h2.mono (by have := lt_two w A B; omega)).trans (h4.mono (by have := lt_two w A B; have := h2.size; omega)))

end Go.Proofs.YtjmabjeaodojeaaGreat

/- Used by the law. -/
namespace Go.Proofs.YtjmabjeaodojeaaGreat
open Go.RowKit

theorem splice_all {α : Type} (L cs : List α) (h : L.length = cs.length) : splice L 0 cs = cs := by
  simp [splice, List.drop_eq_nil_of_le (show L.length ≤ cs.length by omega)]
theorem Sl.of_heap {k : IntKind} {w : World} {g n : Nat} {t : TypeId} {fr : Nat × Nat} {zs : List Int} (h : w.heap[g]? = some (.cells (zs.map (.int k)).toArray t fr)) (hw : ∀ z ∈ zs, (Lit.int k z).wf = true) (hl : zs.length = n) (hm : n ≤ maxLen) :
    Sl k w (some ⟨g, 0, none⟩) n n zs := by
  refine ⟨hl, Nat.le_refl _, hm, hw, .inr ⟨g, 0, rfl, fun i hi => ?_⟩⟩
  rw [World.cell?, h]
  simp [hl, hi]

end Go.Proofs.YtjmabjeaodojeaaGreat

/- Used by the law. -/
namespace Go.Proofs.YtjmabjeaodojeaaGreat
open Go.RowKit

def Slf (k : Option Nat) (a : Option Addr) (n : Nat) : Prop := n = 0 ∨ ∃ b off, a = some ⟨b, off, none⟩ ∧ k ≠ some b
def Rw.Far (k : Option Nat) (x : Rw) : Prop := Slf k x.la x.ln ∧ Slf k x.ra x.rn
theorem Sl.grown {q : IntKind} {w w' : World} {a : Option Addr} {n cap : Nat} {zs : List Int} {k : Option Nat} (h : Sl q w a n cap zs) (hg : w.grownBy w' k) (hf : Slf k a n) : Sl q w' a n cap zs := by
  obtain ⟨h1, h2, h3, h4, h5⟩ := h
  refine ⟨h1, h2, h3, h4, ?_⟩
  rcases h5 with h5 | ⟨b, off, ha, hc⟩
  · exact .inl h5
  · rcases hf with hf | ⟨b', off', ha', hk⟩
    · exact .inl hf
    · rw [ha] at ha'
      simp only [Option.some.injEq, Addr.mk.injEq, and_true] at ha'
      obtain ⟨rfl, rfl⟩ := ha'
      exact .inr ⟨b, off, ha, fun i hi => hg.cell (hc i hi) (fun e => hk e.symm)⟩
theorem Rw.Good.grown {w w' : World} {x : Rw} {k : Option Nat} (h : x.Good w) (hg : w.grownBy w' k) (hf : x.Far k) : x.Good w' := ⟨h.1.grown hg hf.1, h.2.1.grown hg hf.2, h.2.2⟩

end Go.Proofs.YtjmabjeaodojeaaGreat

/- Used by the law. -/
namespace Go.Proofs.YtjmabjeaodojeaaGreat
open Go

def waits (ops : Array Oper) (i : Nat) (k : Tmp) : Bool := ops.all fun o => !(o.dst == some k) || o.after.any fun e => Region.binds .any e && e.on == i

def StepsTo (P : Program) (ops : Array Oper) (Q : Exit → Act → World → Prop) (o : Oper) (a : Act) (w : World) (R : Value → World → Prop) : Prop :=
  ∀ K : Act → World → Prop, (∀ v w', R v w' → K (a.put o.dst v) w') → if Region.wanted o (yielded ops a.tmps) = true then o.wp P a w K Q else K (a.put o.dst undef) w

structure Done (ops : Array Oper) (a0 a : Act) (L : Array Bool) (w : World) (T : Nat → Value → World → Prop) : Prop where
  size : L.size = ops.size
  defers : a.defers = a0.defers
  slots : a.tmps.size = a0.tmps.size
  closed : ∀ (j : Nat) (oj : Oper), ops[j]? = some oj → L.getD j true = true → ∀ e ∈ oj.after, Region.binds .any e = true → L.getD e.on false = true
  frame : ∀ k, (∀ (j : Nat) (oj : Oper), ops[j]? = some oj → oj.dst = some k → L.getD j true = false) → a.eval (.tmp k) = a0.eval (.tmp k)
  told : ∀ (j : Nat) (oj : Oper) (d : Tmp), ops[j]? = some oj → oj.dst = some d → L.getD j true = true → T j (a.eval (.tmp d)) w

theorem cnt_one (f g : Nat → Bool) (i : Nat) (h1 : f i = true) (h2 : g i = false) (h3 : ∀ j, j ≠ i → g j = f j) : ∀ n, (List.range n).countP g + (if i < n then 1 else 0) = (List.range n).countP f
  | 0 => by simp
  | n + 1 => by
    have ih := cnt_one f g i h1 h2 h3 n
    rw [List.range_succ, List.countP_append, List.countP_append, List.countP_singleton, List.countP_singleton]
    by_cases hn : n = i
    · subst hn
      rw [if_neg (by omega)] at ih
      rw [h1, h2, if_pos (show n < n + 1 by omega)]
      simp only [Bool.false_eq_true, if_false, if_true]
      omega
    · rw [h3 n hn]
      by_cases hi : i < n
      · rw [if_pos hi] at ih
        rw [if_pos (show i < n + 1 by omega)]; omega
      · rw [if_neg hi] at ih
        rw [if_neg (show ¬ i < n + 1 by omega)]; omega

theorem getD_true {L : Array Bool} {i : Nat} (hi : i < L.size) (d d' : Bool) : L.getD i d = L.getD i d' := by simp [hi]
theorem eval_same {a : Act} {d : Tmp} (v : Value) (h : d < a.tmps.size) : (a.put (some d) v).eval (.tmp d) = v := by
  simp [Act.eval, Act.put, h]

theorem wpAny_told {P : Program} {ops : Array Oper} {Q : Exit → Act → World → Prop} {a0 : Act} {w0 : World} (ia : Nat) (row : Option Nat) (T : Nat → Value → World → Prop)
    (hds : ∀ (i j : Nat) (oi oj : Oper) (d : Tmp), ops[i]? = some oi → ops[j]? = some oj → oi.dst = some d → oj.dst = some d → i = j)
    (hlow : ∀ (j : Nat) (oj : Oper), ops[j]? = some oj → ∀ e ∈ oj.after, Region.binds .any e = true → e.on < j)
    (hin : ∀ (i : Nat) (oi : Oper) (d : Tmp), ops[i]? = some oi → oi.dst = some d → d < a0.tmps.size)
    (hmono : ∀ (i : Nat) (v : Value) (w w' : World), T i v w → w.grownBy w' none → T i v w')
    (hmonoR : ∀ (i : Nat) (v : Value) (w w' : World), i < ia → T i v w → w.grownBy w' row → T i v w')
    (hlast : ∀ (j : Nat) (oj : Oper), ops[j]? = some oj → ia < j → ∃ e ∈ oj.after, Region.binds .any e = true ∧ e.on = ia)
    (hstep : ∀ (i : Nat) (o : Oper), ops[i]? = some o → ∀ (a : Act) (w : World), a.tmps.size = a0.tmps.size → w0.grownBy w row → (i = ia → w0.grownBy w none) → (∀ k, waits ops i k = true → a.eval (.tmp k) = a0.eval (.tmp k)) →
      (∀ e ∈ o.after, Region.binds .any e = true → ∀ (oe : Oper) (d : Tmp), ops[e.on]? = some oe → oe.dst = some d → T e.on (a.eval (.tmp d)) w) →
      StepsTo P ops Q o a w fun v w' => T i v w' ∧ w.grownBy w' row ∧ (i ≠ ia → w.grownBy w' none))
    (hend : ∀ (a : Act) (w : World), a.defers = a0.defers → a.tmps.size = a0.tmps.size → w0.grownBy w row → (∀ k, (∀ (j : Nat) (oj : Oper), ops[j]? = some oj → oj.dst ≠ some k) → a.eval (.tmp k) = a0.eval (.tmp k)) →
      (∀ (j : Nat) (oj : Oper) (d : Tmp), ops[j]? = some oj → oj.dst = some d → T j (a.eval (.tmp d)) w) → Q .normal a w) :
    ∀ fuel L a w, (List.range ops.size).countP (fun i => !L.getD i true) ≤ fuel → Done ops a0 a L w T → w0.grownBy w row → (L.getD ia false = false → w0.grownBy w none) → wpAny P .any ops Q fuel L a w := by
  have fin : ∀ L a w, Done ops a0 a L w T → w0.grownBy w row → (∀ j, j < ops.size → L.getD j true = true) → Q .normal a w := by
    intro L a w hD hg hall
    have hl : ∀ (j : Nat) (oj : Oper), ops[j]? = some oj → L.getD j true = true := fun j oj ho => hall j (Array.getElem?_eq_some_iff.1 ho).1
    exact hend a w hD.defers hD.slots hg (fun k hk => hD.frame k fun j oj ho hd => absurd hd (hk j oj ho)) (fun j oj d ho hd => hD.told j oj d ho hd (hl j oj ho))
  have stuck : ∀ L : Array Bool, L.size = ops.size → Region.ready .any ops L = [] → ∀ j, j < ops.size → L.getD j true = true := by
    intro L hs hr j
    induction j using Nat.strongRecOn with
    | _ j ih =>
      intro hj
      cases hL : L.getD j true with
      | true => rfl
      | false =>
        have : j ∈ Region.ready .any ops L := mem_ready.2 ⟨hL, ops[j], Array.getElem?_eq_getElem hj, fun e he hb => by
          have hlt := hlow j ops[j] (Array.getElem?_eq_getElem hj) e he hb
          rw [getD_true (by omega) false true]
          exact ih e.on hlt (by omega)⟩
        rw [hr] at this; cases this
  have one : ∀ (L : Array Bool) (a : Act) (w : World), Done ops a0 a L w T → w0.grownBy w row → (L.getD ia false = false → w0.grownBy w none) → ∀ i, i ∈ Region.ready .any ops L → ∀ K : Act → World → Prop,
      (∀ a' w', Done ops a0 a' (L.setIfInBounds i true) w' T → w0.grownBy w' row → ((L.setIfInBounds i true).getD ia false = false → w0.grownBy w' none) → K a' w') → wpOp P ops Q i K a w := by
    intro L a w hD hg hn i hi K hK
    obtain ⟨hLi, o, ho, haf⟩ := mem_ready.1 hi
    have hio : i < ops.size := (Array.getElem?_eq_some_iff.1 ho).1
    have hiL : i < L.size := by rw [hD.size]; exact hio
    have hwait : ∀ k, waits ops i k = true → a.eval (.tmp k) = a0.eval (.tmp k) := by
      intro k hk
      refine hD.frame k fun j oj hoj hdj => ?_
      cases hLj : L.getD j true with
      | false => rfl
      | true =>
        unfold waits at hk
        rw [Array.all_eq_true_iff_forall_mem] at hk
        have hm : oj ∈ ops := Array.mem_of_getElem? hoj
        have h := hk oj hm
        rw [hdj] at h
        simp only [beq_self_eq_true, Bool.not_true, Bool.false_or] at h
        rw [← Array.any_toList, List.any_eq_true] at h
        obtain ⟨e, he', hb⟩ := h
        have he : e ∈ oj.after := by simpa using he'
        rw [Bool.and_eq_true, beq_iff_eq] at hb
        have := hD.closed j oj hoj hLj e he hb.1
        rw [hb.2, getD_true hiL false true, hLi] at this
        cases this
    have htold : ∀ e ∈ o.after, Region.binds .any e = true → ∀ (oe : Oper) (d : Tmp), ops[e.on]? = some oe → oe.dst = some d → T e.on (a.eval (.tmp d)) w := by
      intro e he hb oe d hoe hd
      have h := haf e he hb
      have hlt : e.on < L.size := by rw [hD.size]; exact (Array.getElem?_eq_some_iff.1 hoe).1
      rw [getD_true hlt false true] at h
      exact hD.told e.on oe d hoe hd h
    have hS := hstep i o ho a w hD.slots hg (fun e => hn (by rw [← e, getD_true hiL false true]; exact hLi)) hwait htold K (fun v w' hR => by
      obtain ⟨hT, hgr, hgn⟩ := hR
      refine hK _ _ ⟨by simp [hD.size], ?_, ?_, ?_, ?_, ?_⟩ (hg.trans hgr) ?_
      · cases o.dst <;> exact hD.defers
      · cases o.dst with
        | none => exact hD.slots
        | some d => simp [Act.put, hD.slots]
      · intro j oj hoj hLj e he hb
        by_cases hji : j = i
        · subst hji
          rw [ho] at hoj; cases hoj
          have h := haf e he hb
          by_cases hei : e.on = j
          · rw [hei, getD_true (by simpa using hiL) false true]
            simp [hiL]
          · rw [getD_set_ne false (fun h => hei h.symm)]; exact h
        · rw [getD_set_ne true (fun h => hji h.symm)] at hLj
          have h := hD.closed j oj hoj hLj e he hb
          by_cases hei : e.on = i
          · rw [hei, getD_true (by simpa using hiL) false true]
            simp [hiL]
          · rw [getD_set_ne false (fun h => hei h.symm)]; exact h
      · intro k hk
        have hne : ∀ d, o.dst = some d → Operand.tmp k ≠ .tmp d := fun d hd e => by
          cases e
          have := hk i o ho hd
          simp [hiL] at this
        rw [Act.eval_put hne]
        refine hD.frame k fun j oj hoj hdj => ?_
        have h := hk j oj hoj hdj
        by_cases hji : j = i
        · rw [hji]; exact hLi
        · rw [getD_set_ne true (fun h => hji h.symm)] at h; exact h
      · intro j oj d hoj hdj hLj
        by_cases hji : j = i
        · subst hji
          rw [ho] at hoj; cases hoj
          rw [hdj, eval_same v (by rw [hD.slots]; exact hin j o d ho hdj)]; exact hT
        · rw [getD_set_ne true (fun h => hji h.symm)] at hLj
          have hne : ∀ d', o.dst = some d' → Operand.tmp d ≠ .tmp d' := fun d' hd' e => by
            cases e
            exact hji (hds j i oj o d hoj ho hdj hd')
          rw [Act.eval_put hne]
          have hT' := hD.told j oj d hoj hdj hLj
          by_cases hia : i = ia
          · refine hmonoR j _ _ _ ?_ hT' hgr
            rcases Nat.lt_or_ge ia j with hlt | hge
            · obtain ⟨e, he, hb, hon⟩ := hlast j oj hoj hlt
              have h := hD.closed j oj hoj hLj e he hb
              rw [hon, ← hia, getD_true hiL false true, hLi] at h; cases h
            · omega
          · exact hmono j _ _ _ hT' (hgn hia)
      · intro hia
        by_cases h : i = ia
        · subst h
          rw [getD_true (by simpa using hiL) false true] at hia
          simp [hiL] at hia
        · rw [getD_set_ne false h] at hia
          exact (hn hia).trans (hgn h))
    unfold wpOp
    rw [ho]
    simp only
    split
    · rename_i hw; rw [if_pos hw] at hS; exact .inl hS
    · rename_i hw; rw [if_neg hw] at hS; exact hS
  intro fuel
  induction fuel with
  | zero =>
    intro L a w hc hD hg _
    have hall : ∀ j, j < ops.size → L.getD j true = true := fun j hj => by
      have := List.countP_eq_zero.1 (Nat.le_zero.1 hc) j (List.mem_range.2 hj)
      simpa using this
    refine ⟨?_, fin L a w hD hg hall⟩
    cases hr : Region.ready .any ops L with
    | nil => rfl
    | cons i rs =>
      have hi : i ∈ Region.ready .any ops L := by rw [hr]; simp
      obtain ⟨hLi, o, ho, _⟩ := mem_ready.1 hi
      rw [hall i (Array.getElem?_eq_some_iff.1 ho).1] at hLi; cases hLi
  | succ fuel ih =>
    intro L a w hc hD hg hn
    refine ⟨fun hr => fin L a w hD hg (stuck L hD.size hr), fun i hi => one L a w hD hg hn i hi _ fun a' w' hD' hg' hn' => ih _ _ _ ?_ hD' hg' hn'⟩
    obtain ⟨hLi, o, ho, _⟩ := mem_ready.1 hi
    have hio : i < ops.size := (Array.getElem?_eq_some_iff.1 ho).1
    have hiL : i < L.size := by rw [hD.size]; exact hio
    have := cnt_one (fun j => !L.getD j true) (fun j => !(L.setIfInBounds i true).getD j true) i (by rw [hLi]; rfl) (by simp [hiL]) (fun j hj => by rw [getD_set_ne true (fun h => hj h.symm)]) ops.size
    rw [if_pos hio] at this
    omega

theorem wp_region_told {P : Program} {ops : Array Oper} {Q : Exit → Act → World → Prop} {a0 : Act} {w : World} {id : Nat} (hm : P.follows .mixedOrders = true) (ia : Nat) (row : Option Nat) (T : Nat → Value → World → Prop)
    (hds : ∀ (i j : Nat) (oi oj : Oper) (d : Tmp), ops[i]? = some oi → ops[j]? = some oj → oi.dst = some d → oj.dst = some d → i = j)
    (hlow : ∀ (j : Nat) (oj : Oper), ops[j]? = some oj → ∀ e ∈ oj.after, Region.binds .any e = true → e.on < j)
    (hin : ∀ (i : Nat) (oi : Oper) (d : Tmp), ops[i]? = some oi → oi.dst = some d → d < a0.tmps.size)
    (hmono : ∀ (i : Nat) (v : Value) (w w' : World), T i v w → w.grownBy w' none → T i v w')
    (hmonoR : ∀ (i : Nat) (v : Value) (w w' : World), i < ia → T i v w → w.grownBy w' row → T i v w')
    (hlast : ∀ (j : Nat) (oj : Oper), ops[j]? = some oj → ia < j → ∃ e ∈ oj.after, Region.binds .any e = true ∧ e.on = ia)
    (hstep : ∀ (i : Nat) (o : Oper), ops[i]? = some o → ∀ (a : Act) (w1 : World), a.tmps.size = a0.tmps.size → w.drew.grownBy w1 row → (i = ia → w.drew.grownBy w1 none) → (∀ k, waits ops i k = true → a.eval (.tmp k) = a0.eval (.tmp k)) →
      (∀ e ∈ o.after, Region.binds .any e = true → ∀ (oe : Oper) (d : Tmp), ops[e.on]? = some oe → oe.dst = some d → T e.on (a.eval (.tmp d)) w1) →
      StepsTo P ops Q o a w1 fun v w' => T i v w' ∧ w1.grownBy w' row ∧ (i ≠ ia → w1.grownBy w' none))
    (hend : ∀ (a : Act) (w1 : World), a.defers = a0.defers → a.tmps.size = a0.tmps.size → w.drew.grownBy w1 row → (∀ k, (∀ (j : Nat) (oj : Oper), ops[j]? = some oj → oj.dst ≠ some k) → a.eval (.tmp k) = a0.eval (.tmp k)) →
      (∀ (j : Nat) (oj : Oper) (d : Tmp), ops[j]? = some oj → oj.dst = some d → T j (a.eval (.tmp d)) w1) → Q .normal a w1) : (Code.region id ops true).wp P Q a0 w := by
  refine wp_region_any hm (wpAny_told (w0 := w.drew) ia row T hds hlow hin hmono hmonoR hlast hstep hend ops.size (Array.replicate ops.size false) a0 w.drew ?_ ⟨by simp, rfl, rfl, ?_, fun _ _ => rfl, ?_⟩ (World.grownBy.refl _ _) (fun _ => World.grownBy.refl _ _))
  · exact Nat.le_trans List.countP_le_length (by simp)
  · intro j oj hoj h
    have hj := (Array.getElem?_eq_some_iff.1 hoj).1
    simp [hj] at h
  · intro j oj d hoj _ h
    have hj := (Array.getElem?_eq_some_iff.1 hoj).1
    simp [hj] at h

/-! ### the checks by one Bool, and what a step is told by the numbers of its operations -/
def regFine (ops : Array Oper) (ia n : Nat) : Bool :=
  (List.range ops.size).all fun j => match ops[j]? with
    | none => true
    | some oj => (oj.after.toList.all fun e => !Region.binds .any e || decide (e.on < j)) && (!decide (ia < j) || oj.after.toList.any fun e => Region.binds .any e && e.on == ia) &&
      match oj.dst with
      | none => true
      | some d => decide (d < n) && (List.range j).all fun i => match ops[i]? with
        | none => true
        | some oi => !(oi.dst == some d)
def needs (ops : Array Oper) (i k d : Nat) : Bool := match ops[i]?, ops[k]? with
  | some oi, some ok => (oi.after.toList.any fun e => Region.binds .any e && e.on == k) && ok.dst == some d
  | _, _ => false
set_option maxRecDepth 100000 in
theorem regFine_at {ops : Array Oper} {ia n : Nat} (h : regFine ops ia n = true) {j : Nat} {oj : Oper} (ho : ops[j]? = some oj) :
    (∀ e ∈ oj.after, Region.binds .any e = true → e.on < j) ∧ (ia < j → ∃ e ∈ oj.after, Region.binds .any e = true ∧ e.on = ia) ∧ ∀ d, oj.dst = some d → d < n ∧ ∀ i oi, i < j → ops[i]? = some oi → oi.dst ≠ some d := by
  unfold regFine at h
  have hj := List.all_eq_true.1 h j (List.mem_range.2 (Array.getElem?_eq_some_iff.1 ho).1)
  rw [ho] at hj
  simp only [Bool.and_eq_true] at hj
  obtain ⟨⟨h1, h2⟩, h3⟩ := hj
  refine ⟨fun e he hb => ?_, fun hlt => ?_, fun d hd => ?_⟩
  · have := List.all_eq_true.1 h1 e (by simpa using he)
    simpa [hb] using this
  · have h2' : oj.after.toList.any (fun e => Region.binds .any e && e.on == ia) = true := by simpa [hlt] using h2
    obtain ⟨e, he, hb⟩ := List.any_eq_true.1 h2'
    rw [Bool.and_eq_true, beq_iff_eq] at hb
    exact ⟨e, by simpa using he, hb.1, hb.2⟩
  · rw [hd] at h3
    simp only [Bool.and_eq_true, decide_eq_true_eq] at h3
    refine ⟨h3.1, fun i oi hi hoi he => ?_⟩
    have := List.all_eq_true.1 h3.2 i (List.mem_range.2 hi)
    rw [hoi] at this
    simp [he] at this

theorem wp_region_told' {P : Program} {ops : Array Oper} {Q : Exit → Act → World → Prop} {a0 : Act} {w : World} {id : Nat} (hm : P.follows .mixedOrders = true) (ia : Nat) (row : Option Nat) (T : Nat → Value → World → Prop)
    (hfine : regFine ops ia a0.tmps.size = true)
    (hmono : ∀ (i : Nat) (v : Value) (w w' : World), T i v w → w.grownBy w' none → T i v w')
    (hmonoR : ∀ (i : Nat) (v : Value) (w w' : World), i < ia → T i v w → w.grownBy w' row → T i v w')
    (hstep : ∀ (i : Nat) (o : Oper), ops[i]? = some o → ∀ (a : Act) (w1 : World), w.drew.grownBy w1 row → (i = ia → w.drew.grownBy w1 none) → (∀ k, waits ops i k = true → a.eval (.tmp k) = a0.eval (.tmp k)) →
      (∀ k d, needs ops i k d = true → T k (a.eval (.tmp d)) w1) → StepsTo P ops Q o a w1 fun v w' => T i v w' ∧ w1.grownBy w' row ∧ (i ≠ ia → w1.grownBy w' none))
    (hend : ∀ (a : Act) (w1 : World), a.defers = a0.defers → a.tmps.size = a0.tmps.size → w.drew.grownBy w1 row → (∀ k, (∀ (j : Nat) (oj : Oper), ops[j]? = some oj → oj.dst ≠ some k) → a.eval (.tmp k) = a0.eval (.tmp k)) →
      (∀ (j : Nat) (oj : Oper) (d : Tmp), ops[j]? = some oj → oj.dst = some d → T j (a.eval (.tmp d)) w1) → Q .normal a w1) : (Code.region id ops true).wp P Q a0 w := by
  refine wp_region_told hm ia row T (fun i j oi oj d hi hj hdi hdj => ?_) (fun j oj ho => (regFine_at hfine ho).1) (fun i oi d ho hd => ((regFine_at hfine ho).2.2 d hd).1) hmono hmonoR (fun j oj ho => (regFine_at hfine ho).2.1) (fun i o ho a w1 _ hg hn hw ht => hstep i o ho a w1 hg hn hw fun k d hk => ?_) hend
  · rcases Nat.lt_trichotomy i j with h | h | h
    · exact absurd hdi (((regFine_at hfine hj).2.2 d hdj).2 i oi h hi)
    · exact h
    · exact absurd hdj (((regFine_at hfine hi).2.2 d hdi).2 j oj h hj)
  · unfold needs at hk
    rw [ho] at hk
    cases hok : ops[k]? with
    | none => rw [hok] at hk; cases hk
    | some ok =>
      rw [hok] at hk
      simp only [Bool.and_eq_true, beq_iff_eq] at hk
      obtain ⟨e, he, hb⟩ := List.any_eq_true.1 hk.1
      rw [Bool.and_eq_true, beq_iff_eq] at hb
      have := ht e (by simpa using he) hb.1 ok d (by rw [hb.2]; exact hok) hk.2
      rw [hb.2] at this; exact this

/-! ### steps -/
theorem StepsTo.of_run {P : Program} {ops : Array Oper} {Q : Exit → Act → World → Prop} {o : Oper} {a : Act} {w w' : World} {R : Value → World → Prop} {v : Value} (hg : o.guard = none) (h : (execOp a.eval o).run P w = .ok (.value v) w') (hR : R v w') : StepsTo P ops Q o a w R := by
  intro K hK
  rw [if_pos (by simp [Region.wanted, hg])]
  unfold Oper.wp
  rw [h]
  exact hK v w' hR
theorem StepsTo.move {P : Program} {ops : Array Oper} {Q : Exit → Act → World → Prop} {o : Oper} {a : Act} {w : World} {R : Value → World → Prop} (hg : o.guard = none) (x : Operand) (ho : o.op = .move x ∨ o.op = .assign x) (hR : R (a.eval x) w) : StepsTo P ops Q o a w R := by
  refine StepsTo.of_run (v := a.eval x) hg ?_ hR
  rcases ho with ho | ho <;> simp [execOp, ho]
theorem StepsTo.load {P : Program} {ops : Array Oper} {Q : Exit → Act → World → Prop} {o : Oper} {a : Act} {w : World} {R : Value → World → Prop} (hg : o.guard = none) (t : TypeId) (x : Operand) (ho : o.op = .load t x) (p : Addr) (hx : a.eval x = .pointer (some p)) {v : Value}
    (hrun : (Instr.loadAt t (.pointer (some p))).run P w = .ok v w) (hR : R v w) : StepsTo P ops Q o a w R := by
  refine StepsTo.of_run (v := v) hg ?_ hR
  simp [execOp, ho, hx, hrun, Result.andThen]

end Go.Proofs.YtjmabjeaodojeaaGreat

/- Used by the law. -/
namespace Go.Proofs.YtjmabjeaodojeaaGreat
open Go

def sees (ops : Array Oper) (j : Nat) (d : Tmp) : Bool := match ops[j]? with
  | none => false
  | some o => (o.dst == some d) || o.after.toList.any fun e => Region.binds .any e && match ops[e.on]? with
    | none => false
    | some oe => oe.dst == some d
def seesAll (ops : Array Oper) (sl : List (Tmp × Tmp)) : Bool := (List.range ops.size).all fun j => sees ops j (sl.getD j (0, 0)).1 && sees ops j (sl.getD j (0, 0)).2
def putv (dst : Option Tmp) (v : Value) (k : Tmp) (u : Value) : Value := cond (dst == some k) v u
theorem eval_putv {a : Act} {dst : Option Tmp} {v : Value} {k : Tmp} (h : ∀ d, dst = some d → d < a.tmps.size) : (a.put dst v).eval (.tmp k) = putv dst v k (a.eval (.tmp k)) := by
  unfold putv
  cases dst with
  | none => rfl
  | some d =>
    by_cases hk : d = k
    · subst hk
      rw [eval_same v (h d rfl)]; simp
    · rw [Act.eval_put (fun d' hd' e => by cases e; cases hd'; exact hk rfl)]
      have hb : (some d == some k) = false := by simpa using hk
      rw [hb]; rfl

structure Done2 (ops : Array Oper) (a0 a : Act) (L : Array Bool) (w : World) (sl : List (Tmp × Tmp)) (T : Nat → Value → Value → World → Prop) : Prop where
  size : L.size = ops.size
  defers : a.defers = a0.defers
  slots : a.tmps.size = a0.tmps.size
  closed : ∀ (j : Nat) (oj : Oper), ops[j]? = some oj → L.getD j true = true → ∀ e ∈ oj.after, Region.binds .any e = true → L.getD e.on false = true
  frame : ∀ k, (∀ (j : Nat) (oj : Oper), ops[j]? = some oj → oj.dst = some k → L.getD j true = false) → a.eval (.tmp k) = a0.eval (.tmp k)
  told : ∀ (j : Nat) (oj : Oper), ops[j]? = some oj → L.getD j true = true → T j (a.eval (.tmp (sl.getD j (0, 0)).1)) (a.eval (.tmp (sl.getD j (0, 0)).2)) w

theorem wpAny_told2 {P : Program} {ops : Array Oper} {Q : Exit → Act → World → Prop} {a0 : Act} (ia : Nat) (sl : List (Tmp × Tmp)) (T : Nat → Value → Value → World → Prop) (J : World → Prop) (Rr : Act → World → World → Prop) (hsl : seesAll ops sl = true)
    (hds : ∀ (i j : Nat) (oi oj : Oper) (d : Tmp), ops[i]? = some oi → ops[j]? = some oj → oi.dst = some d → oj.dst = some d → i = j)
    (hlow : ∀ (j : Nat) (oj : Oper), ops[j]? = some oj → ∀ e ∈ oj.after, Region.binds .any e = true → e.on < j)
    (hin : ∀ (i : Nat) (oi : Oper) (d : Tmp), ops[i]? = some oi → oi.dst = some d → d < a0.tmps.size)
    (hJ : ∀ w w', J w → w.grownBy w' none → J w') (hJR : ∀ a w w', J w → Rr a w w' → J w')
    (hmono : ∀ (i : Nat) (v u : Value) (w w' : World), T i v u w → w.grownBy w' none → T i v u w')
    (hmonoR : ∀ (i : Nat) (v u : Value) (a : Act) (w w' : World), i ≠ ia → T i v u w → Rr a w w' → T i v u w')
    (hstep : ∀ (i : Nat) (o : Oper), ops[i]? = some o → ∀ (a : Act) (w : World), a.tmps.size = a0.tmps.size → J w → (∀ k, waits ops i k = true → a.eval (.tmp k) = a0.eval (.tmp k)) →
      (∀ e ∈ o.after, Region.binds .any e = true → e.on < ops.size → T e.on (a.eval (.tmp (sl.getD e.on (0, 0)).1)) (a.eval (.tmp (sl.getD e.on (0, 0)).2)) w) →
      StepsTo P ops Q o a w fun v w' => T i (putv o.dst v (sl.getD i (0, 0)).1 (a.eval (.tmp (sl.getD i (0, 0)).1))) (putv o.dst v (sl.getD i (0, 0)).2 (a.eval (.tmp (sl.getD i (0, 0)).2))) w' ∧ (i = ia → Rr a w w') ∧ (i ≠ ia → w.grownBy w' none))
    (hend : ∀ (a : Act) (w : World), a.defers = a0.defers → a.tmps.size = a0.tmps.size → J w → (∀ k, (∀ (j : Nat) (oj : Oper), ops[j]? = some oj → oj.dst ≠ some k) → a.eval (.tmp k) = a0.eval (.tmp k)) →
      (∀ (j : Nat), j < ops.size → T j (a.eval (.tmp (sl.getD j (0, 0)).1)) (a.eval (.tmp (sl.getD j (0, 0)).2)) w) → Q .normal a w) :
    ∀ fuel L a w, (List.range ops.size).countP (fun i => !L.getD i true) ≤ fuel → Done2 ops a0 a L w sl T → J w → wpAny P .any ops Q fuel L a w := by
  have fin : ∀ L a w, Done2 ops a0 a L w sl T → J w → (∀ j, j < ops.size → L.getD j true = true) → Q .normal a w := by
    intro L a w hD hg hall
    have hl : ∀ (j : Nat) (oj : Oper), ops[j]? = some oj → L.getD j true = true := fun j oj ho => hall j (Array.getElem?_eq_some_iff.1 ho).1
    exact hend a w hD.defers hD.slots hg (fun k hk => hD.frame k fun j oj ho hd => absurd hd (hk j oj ho)) (fun j hj => hD.told j ops[j] (Array.getElem?_eq_getElem hj) (hl j ops[j] (Array.getElem?_eq_getElem hj)))
  have stuck : ∀ L : Array Bool, L.size = ops.size → Region.ready .any ops L = [] → ∀ j, j < ops.size → L.getD j true = true := by
    intro L hs hr j
    induction j using Nat.strongRecOn with
    | _ j ih =>
      intro hj
      cases hL : L.getD j true with
      | true => rfl
      | false =>
        have : j ∈ Region.ready .any ops L := mem_ready.2 ⟨hL, ops[j], Array.getElem?_eq_getElem hj, fun e he hb => by
          have hlt := hlow j ops[j] (Array.getElem?_eq_getElem hj) e he hb
          rw [getD_true (by omega) false true]
          exact ih e.on hlt (by omega)⟩
        rw [hr] at this; cases this
  have one : ∀ (L : Array Bool) (a : Act) (w : World), Done2 ops a0 a L w sl T → J w → ∀ i, i ∈ Region.ready .any ops L → ∀ K : Act → World → Prop,
      (∀ a' w', Done2 ops a0 a' (L.setIfInBounds i true) w' sl T → J w' → K a' w') → wpOp P ops Q i K a w := by
    intro L a w hD hg i hi K hK
    obtain ⟨hLi, o, ho, haf⟩ := mem_ready.1 hi
    have hio : i < ops.size := (Array.getElem?_eq_some_iff.1 ho).1
    have hiL : i < L.size := by rw [hD.size]; exact hio
    have hwait : ∀ k, waits ops i k = true → a.eval (.tmp k) = a0.eval (.tmp k) := by
      intro k hk
      refine hD.frame k fun j oj hoj hdj => ?_
      cases hLj : L.getD j true with
      | false => rfl
      | true =>
        unfold waits at hk
        rw [Array.all_eq_true_iff_forall_mem] at hk
        have hm : oj ∈ ops := Array.mem_of_getElem? hoj
        have h := hk oj hm
        rw [hdj] at h
        simp only [beq_self_eq_true, Bool.not_true, Bool.false_or] at h
        rw [← Array.any_toList, List.any_eq_true] at h
        obtain ⟨e, he', hb⟩ := h
        have he : e ∈ oj.after := by simpa using he'
        rw [Bool.and_eq_true, beq_iff_eq] at hb
        have := hD.closed j oj hoj hLj e he hb.1
        rw [hb.2, getD_true hiL false true, hLi] at this
        cases this
    have htold : ∀ e ∈ o.after, Region.binds .any e = true → e.on < ops.size → T e.on (a.eval (.tmp (sl.getD e.on (0, 0)).1)) (a.eval (.tmp (sl.getD e.on (0, 0)).2)) w := by
      intro e he hb hlt
      have h := haf e he hb
      rw [getD_true (by rw [hD.size]; exact hlt) false true] at h
      exact hD.told e.on _ (Array.getElem?_eq_getElem hlt) h
    have hind : ∀ d, o.dst = some d → d < a.tmps.size := fun d hd => by rw [hD.slots]; exact hin i o d ho hd
    have hseen : ∀ (j : Nat) (oj : Oper) (d : Tmp), ops[j]? = some oj → L.getD j true = true → j ≠ i → sees ops j d = true → o.dst ≠ some d := by
      intro j oj d hoj hLj hji hsd hod
      unfold sees at hsd
      rw [hoj] at hsd
      simp only [Bool.or_eq_true, beq_iff_eq] at hsd
      rcases hsd with hsd | hsd
      · exact hji (hds j i oj o d hoj ho hsd hod)
      · obtain ⟨e, he, hb⟩ := List.any_eq_true.1 hsd
        rw [Bool.and_eq_true] at hb
        cases hoe : ops[e.on]? with
        | none => rw [hoe] at hb; exact absurd hb.2 (by simp)
        | some oe =>
          rw [hoe] at hb
          have hde : oe.dst = some d := by simpa using hb.2
          have hei := hds e.on i oe o d hoe ho hde hod
          have h := hD.closed j oj hoj hLj e (by simpa using he) hb.1
          rw [hei, getD_true hiL false true, hLi] at h; cases h
    have hS := hstep i o ho a w hD.slots hg hwait htold K (fun v w' hR => by
      obtain ⟨hT, hgr, hgn⟩ := hR
      have hJ' : J w' := by
        by_cases hia : i = ia
        · exact hJR _ _ _ hg (hgr hia)
        · exact hJ _ _ hg (hgn hia)
      refine hK _ _ ⟨by simp [hD.size], ?_, ?_, ?_, ?_, ?_⟩ hJ'
      · cases o.dst <;> exact hD.defers
      · cases o.dst with
        | none => exact hD.slots
        | some d => simp [Act.put, hD.slots]
      · intro j oj hoj hLj e he hb
        by_cases hji : j = i
        · subst hji
          rw [ho] at hoj; cases hoj
          have h := haf e he hb
          by_cases hei : e.on = j
          · rw [hei, getD_true (by simpa using hiL) false true]
            simp [hiL]
          · rw [getD_set_ne false (fun h => hei h.symm)]; exact h
        · rw [getD_set_ne true (fun h => hji h.symm)] at hLj
          have h := hD.closed j oj hoj hLj e he hb
          by_cases hei : e.on = i
          · rw [hei, getD_true (by simpa using hiL) false true]
            simp [hiL]
          · rw [getD_set_ne false (fun h => hei h.symm)]; exact h
      · intro k hk
        have hne : ∀ d, o.dst = some d → Operand.tmp k ≠ .tmp d := fun d hd e => by
          cases e
          have := hk i o ho hd
          simp [hiL] at this
        rw [Act.eval_put hne]
        refine hD.frame k fun j oj hoj hdj => ?_
        have h := hk j oj hoj hdj
        by_cases hji : j = i
        · rw [hji]; exact hLi
        · rw [getD_set_ne true (fun h => hji h.symm)] at h; exact h
      · intro j oj hoj hLj
        by_cases hji : j = i
        · subst hji
          rw [eval_putv hind, eval_putv hind]; exact hT
        · rw [getD_set_ne true (fun h => hji h.symm)] at hLj
          have hj := (Array.getElem?_eq_some_iff.1 hoj).1
          have hs := List.all_eq_true.1 hsl j (List.mem_range.2 hj)
          rw [Bool.and_eq_true] at hs
          have n1 := hseen j oj _ hoj hLj hji hs.1
          have n2 := hseen j oj _ hoj hLj hji hs.2
          rw [Act.eval_put (fun d' hd' e => by cases e; exact n1 hd'), Act.eval_put (fun d' hd' e => by cases e; exact n2 hd')]
          have hT' := hD.told j oj hoj hLj
          by_cases hia : i = ia
          · exact hmonoR j _ _ a _ _ (fun e => hji (e.trans hia.symm)) hT' (hgr hia)
          · exact hmono j _ _ _ _ hT' (hgn hia))
    unfold wpOp
    rw [ho]
    simp only
    split
    · rename_i hw; rw [if_pos hw] at hS; exact .inl hS
    · rename_i hw; rw [if_neg hw] at hS; exact hS
  intro fuel
  induction fuel with
  | zero =>
    intro L a w hc hD hg
    have hall : ∀ j, j < ops.size → L.getD j true = true := fun j hj => by
      have := List.countP_eq_zero.1 (Nat.le_zero.1 hc) j (List.mem_range.2 hj)
      simpa using this
    refine ⟨?_, fin L a w hD hg hall⟩
    cases hr : Region.ready .any ops L with
    | nil => rfl
    | cons i rs =>
      have hi : i ∈ Region.ready .any ops L := by rw [hr]; simp
      obtain ⟨hLi, o, ho, _⟩ := mem_ready.1 hi
      rw [hall i (Array.getElem?_eq_some_iff.1 ho).1] at hLi; cases hLi
  | succ fuel ih =>
    intro L a w hc hD hg
    refine ⟨fun hr => fin L a w hD hg (stuck L hD.size hr), fun i hi => one L a w hD hg i hi _ fun a' w' hD' hg' => ih _ _ _ ?_ hD' hg'⟩
    obtain ⟨hLi, o, ho, _⟩ := mem_ready.1 hi
    have hio : i < ops.size := (Array.getElem?_eq_some_iff.1 ho).1
    have hiL : i < L.size := by rw [hD.size]; exact hio
    have := cnt_one (fun j => !L.getD j true) (fun j => !(L.setIfInBounds i true).getD j true) i (by rw [hLi]; rfl) (by simp [hiL]) (fun j hj => by rw [getD_set_ne true (fun h => hj h.symm)]) ops.size
    rw [if_pos hio] at this
    omega

def after (ops : Array Oper) (i k : Nat) : Bool := match ops[i]? with
  | some oi => decide (k < ops.size) && oi.after.toList.any fun e => Region.binds .any e && e.on == k
  | none => false
def noDst2 (ops : Array Oper) (k : Tmp) : Bool := ops.toList.all fun o => !(o.dst == some k)
theorem act_lit2 (t : Array Value) {n : Nat} (h : t.size = n) : t = ((List.range n).map fun k => t.getD k undef).toArray := by
  subst h
  apply Array.ext
  · simp
  · intro i h1 h2
    simp [h1]

set_option maxRecDepth 100000 in
theorem wp_region_told2 {P : Program} {ops : Array Oper} {Q : Exit → Act → World → Prop} {a0 : Act} {w : World} {id : Nat} (hm : P.follows .mixedOrders = true) (ia : Nat) (sl : List (Tmp × Tmp)) (T : Nat → Value → Value → World → Prop) (J : World → Prop) (Rr : Act → World → World → Prop)
    (hfine : regFine ops ops.size a0.tmps.size = true) (hsl : seesAll ops sl = true) (hJ0 : J w.drew)
    (hJ : ∀ w w', J w → w.grownBy w' none → J w') (hJR : ∀ a w w', J w → Rr a w w' → J w')
    (hmono : ∀ (i : Nat) (v u : Value) (w w' : World), T i v u w → w.grownBy w' none → T i v u w')
    (hmonoR : ∀ (i : Nat) (v u : Value) (a : Act) (w w' : World), i ≠ ia → T i v u w → Rr a w w' → T i v u w')
    (hstep : ∀ (i : Nat) (o : Oper), ops[i]? = some o → ∀ (a : Act) (w1 : World), J w1 → (∀ k, waits ops i k = true → a.eval (.tmp k) = a0.eval (.tmp k)) →
      (∀ k, after ops i k = true → T k (a.eval (.tmp (sl.getD k (0, 0)).1)) (a.eval (.tmp (sl.getD k (0, 0)).2)) w1) →
      StepsTo P ops Q o a w1 fun v w' => T i (putv o.dst v (sl.getD i (0, 0)).1 (a.eval (.tmp (sl.getD i (0, 0)).1))) (putv o.dst v (sl.getD i (0, 0)).2 (a.eval (.tmp (sl.getD i (0, 0)).2))) w' ∧ (i = ia → Rr a w1 w') ∧ (i ≠ ia → w1.grownBy w' none))
    (hend : ∀ (tm : Array Value) (w1 : World), tm.size = a0.tmps.size → J w1 → (∀ k, noDst2 ops k = true → tm.getD k undef = a0.tmps.getD k undef) →
      (∀ j, j < ops.size → T j (tm.getD (sl.getD j (0, 0)).1 undef) (tm.getD (sl.getD j (0, 0)).2 undef) w1) → Q .normal ⟨tm, a0.defers⟩ w1) : (Code.region id ops true).wp P Q a0 w := by
  refine wp_region_any hm (wpAny_told2 ia sl T J Rr hsl (fun i j oi oj d hi hj hdi hdj => ?_) (fun j oj ho => (regFine_at hfine ho).1) (fun i oi d ho hd => ((regFine_at hfine ho).2.2 d hd).1) hJ hJR hmono hmonoR
    (fun i o ho a w1 _ hg hw ht => hstep i o ho a w1 hg hw fun k hk => ?_) (fun a w1 hdf hsz hg hfr hto => ?_) ops.size (Array.replicate ops.size false) a0 w.drew ?_ ⟨by simp, rfl, rfl, ?_, fun _ _ => rfl, ?_⟩ hJ0)
  · rcases Nat.lt_trichotomy i j with h | h | h
    · exact absurd hdi (((regFine_at hfine hj).2.2 d hdj).2 i oi h hi)
    · exact h
    · exact absurd hdj (((regFine_at hfine hi).2.2 d hdi).2 j oj h hj)
  · unfold after at hk
    rw [ho] at hk
    simp only [Bool.and_eq_true, decide_eq_true_eq] at hk
    obtain ⟨hks, hk⟩ := hk
    obtain ⟨e, he, hb⟩ := List.any_eq_true.1 hk
    rw [Bool.and_eq_true, beq_iff_eq] at hb
    have := ht e (by simpa using he) hb.1 (by rw [hb.2]; exact hks)
    rw [hb.2] at this; exact this
  · obtain ⟨tm, df⟩ := a
    obtain rfl : df = a0.defers := hdf
    refine hend tm w1 hsz hg (fun k hk => hfr k fun j oj hj hd => ?_) (fun j hj => hto j hj)
    unfold noDst2 at hk
    have := List.all_eq_true.1 hk oj (by simpa using Array.mem_of_getElem? hj)
    rw [hd] at this
    simp at this
  · exact Nat.le_trans List.countP_le_length (by simp)
  · intro j oj hoj h
    have hj := (Array.getElem?_eq_some_iff.1 hoj).1
    simp [hj] at h
  · intro j oj hoj h
    have hj := (Array.getElem?_eq_some_iff.1 hoj).1
    simp [hj] at h

end Go.Proofs.YtjmabjeaodojeaaGreat

/- Used by the law. -/
namespace Go.Proofs.YtjmabjeaodojeaaGreat
open Go.RowKit

structure Bd where
  a : Option Addr
  n : Nat
  cap : Nat
  zs : List Int
def Bd.v (x : Bd) : Value := .slice x.a x.n x.cap
def Bd.Good (w : World) (x : Bd) : Prop := Sl .u8 w x.a x.n x.cap x.zs
def Bd.no : Bd := ⟨none, 0, 0, []⟩
instance : Inhabited Bd := ⟨Bd.no⟩
theorem Bd.no_good (w : World) : Bd.no.Good w := Sl.nil
theorem Bd.Good.below {w w' : World} {x : Bd} {B : Nat} (h : x.Good w) (hb : Below B w w') (hB : w.heap.size ≤ B) : x.Good w' := Sl.below h hb hB

def bnums (xs : List Bd) : List (List Int) := xs.map Bd.zs
def bvals (xs : List Bd) : List Value := xs.map Bd.v
theorem bnums_length (xs : List Bd) : (bnums xs).length = xs.length := by simp [bnums]
theorem bnums_app (xs ys : List Bd) : bnums (xs ++ ys) = bnums xs ++ bnums ys := by simp [bnums]
theorem bvals_app (xs ys : List Bd) : bvals (xs ++ ys) = bvals xs ++ bvals ys := by simp [bvals]
theorem bnums_at (xs : List Bd) (i : Nat) : (bnums xs).getD i [] = (xs.getD i Bd.no).zs := by
  simp only [bnums, List.getD_eq_getElem?_getD, List.getElem?_map]
  cases xs[i]? <;> rfl

def Bs (w : World) (a : Option Addr) (n cap : Nat) (xs : List Bd) : Prop :=
  xs.length = n ∧ n ≤ cap ∧ cap ≤ maxLen ∧ (∀ x ∈ xs, x.Good w) ∧
    (n = 0 ∨ ∃ b off, a = some ⟨b, off, none⟩ ∧ ∀ i, i < n → w.cell? ⟨b, off + i, none⟩ = some (xs.getD i Bd.no).v)

theorem Bs.below {w w' : World} {a : Option Addr} {n cap B : Nat} {xs : List Bd} (h : Bs w a n cap xs) (hb : Below B w w') (hB : w.heap.size ≤ B) : Bs w' a n cap xs := by
  obtain ⟨h1, h2, h3, h4, h5⟩ := h
  refine ⟨h1, h2, h3, fun x hx => (h4 x hx).below hb hB, ?_⟩
  rcases h5 with h5 | ⟨b, off, ha, hc⟩
  · exact .inl h5
  · refine .inr ⟨b, off, ha, fun i hi => ?_⟩
    have hci := hc i hi
    have hlt := cell_lt hci
    rw [hb.cell (p := ⟨b, off + i, none⟩) (by show b < B; omega)]
    exact hci
theorem Bs.alloc {w : World} {a : Option Addr} {n cap : Nat} {xs : List Bd} (h : Bs w a n cap xs) (o : Obj) : Bs (w.alloc o) a n cap xs :=
  h.below ((Below.refl w.heap.size w).alloc (Nat.le_refl _) o) (Nat.le_refl _)
theorem Bs.drewN {w : World} {a : Option Addr} {n cap : Nat} {xs : List Bd} (h : Bs w a n cap xs) (m : Nat) : Bs (w.drewN m) a n cap xs := h
theorem Bs.drawn {w w' : World} {a : Option Addr} {n cap : Nat} {xs : List Bd} (h : Bs w a n cap xs) (hq : ∃ q, w' = w.drewN q) : Bs w' a n cap xs := by
  obtain ⟨q, rfl⟩ := hq; exact h
theorem Bs.nil {w : World} : Bs w none 0 0 [] := ⟨rfl, Nat.le_refl _, by unfold maxLen; omega, by simp, .inl rfl⟩

theorem Bs.good {w : World} {a : Option Addr} {n cap : Nat} {xs : List Bd} (h : Bs w a n cap xs) (i : Nat) : (xs.getD i Bd.no).Good w := by
  rw [List.getD_eq_getElem?_getD]
  cases hx : xs[i]? with
  | none => exact Bd.no_good w
  | some x => exact h.2.2.2.1 x (List.mem_of_getElem? hx)

theorem Bs.at {w : World} {a : Option Addr} {n cap : Nat} {xs : List Bd} (h : Bs w a n cap xs) (hn : 0 < n) :
    ∃ b off, a = some ⟨b, off, none⟩ ∧ b < w.heap.size ∧ ∀ i, i < n → w.cell? ⟨b, off + i, none⟩ = some (.slice (xs.getD i Bd.no).a (xs.getD i Bd.no).n (xs.getD i Bd.no).cap) := by
  obtain ⟨h1, h2, h3, h4, h5⟩ := h
  rcases h5 with h5 | ⟨b, off, ha, hc⟩
  · omega
  · exact ⟨b, off, ha, cell_lt (hc 0 hn), hc⟩

theorem Bs.one {w : World} {a : Option Addr} {n cap : Nat} {xs : List Bd} (h : Bs w a n cap xs) (i : Nat) (hi : i < n) :
    ∃ b off a1 n1 c1 zs, a = some ⟨b, off, none⟩ ∧ b < w.heap.size ∧ xs.getD i Bd.no = ⟨a1, n1, c1, zs⟩ ∧ w.cell? ⟨b, off + i, none⟩ = some (.slice a1 n1 c1) ∧ Sl .u8 w a1 n1 c1 zs ∧ (bnums xs).getD i [] = zs := by
  obtain ⟨b, off, ha, hb, hc⟩ := h.at (by omega)
  exact ⟨b, off, _, _, _, _, ha, hb, rfl, hc i hi, h.good i, bnums_at xs i⟩

theorem Bs.of_owns {w : World} {B : Nat} {T : TypeId} {a : Option Addr} {n cap : Nat} {xs : List Bd}
    (h : w.ownsRow B T 1 (.slice a n cap) n (bvals xs)) (hw : ∀ x ∈ xs, x.Good w) (hl : xs.length = n) : Bs w a n cap xs := by
  have h' := h
  obtain ⟨_, h2⟩ := h
  rcases h2 with ⟨hv, h0⟩ | ⟨g, c, cur, hv, hg, hh, hnc, hcm, hcs, ht⟩
  · simp only [Value.slice.injEq] at hv
    obtain ⟨rfl, rfl, rfl⟩ := hv
    exact ⟨hl, Nat.le_refl _, by unfold maxLen; omega, hw, .inl rfl⟩
  · simp only [Value.slice.injEq] at hv
    obtain ⟨rfl, _, rfl⟩ := hv
    refine ⟨hl, hnc, hcm, hw, .inr ⟨g, 0, rfl, fun i hi => ?_⟩⟩
    rw [Nat.zero_add, h'.cellAt i (by omega)]
    simp [bvals, hl, hi]

theorem Bs.piece {w : World} {b off n cap : Nat} {xs : List Bd} (h : Bs w (some ⟨b, off, none⟩) n cap xs) (i j : Nat) (hij : i + j ≤ n) :
    Bs w (some ⟨b, off + i, none⟩) j (cap - i) ((xs.drop i).take j) := by
  obtain ⟨h1, h2, h3, h4, h5⟩ := h
  refine ⟨by simp; omega, by omega, by unfold maxLen at *; omega, fun z hz => h4 z (List.mem_of_mem_drop (List.mem_of_mem_take hz)), ?_⟩
  rcases h5 with h5 | ⟨b', off', ha, hc⟩
  · exact .inl (by omega)
  · simp only [Option.some.injEq, Addr.mk.injEq] at ha
    obtain ⟨rfl, rfl, _⟩ := ha
    refine .inr ⟨b, off + i, rfl, fun m hm => ?_⟩
    rw [Nat.add_assoc, hc (i + m) (by omega)]
    simp [hm]
theorem Bs.first {w : World} {a : Option Addr} {n cap : Nat} {xs : List Bd} (h : Bs w a n cap xs) (j : Nat) (hj : j ≤ n) : Bs w a j cap (xs.take j) := by
  obtain ⟨h1, h2, h3, h4, h5⟩ := h
  refine ⟨by simp; omega, by omega, h3, fun z hz => h4 z (List.mem_of_mem_take hz), ?_⟩
  rcases h5 with h5 | ⟨b', off', ha, hc⟩
  · exact .inl (by omega)
  · refine .inr ⟨b', off', ha, fun m hm => ?_⟩
    rw [hc m (by omega)]
    simp [hm]

end Go.Proofs.YtjmabjeaodojeaaGreat
