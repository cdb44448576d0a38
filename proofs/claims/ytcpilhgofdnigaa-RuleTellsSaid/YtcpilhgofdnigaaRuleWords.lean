/- A slice of rules as the walks are told of it, whether it came in, was made by the call, or is a piece of another. Nothing of the program. -/
import Derived.Test.YtcpilhgofdnigaaUtfSl
import Derived.Test.YtcpilhgofdnigaaRuleMath
namespace Go.Proofs.Ytcpilhgofdnigaa
open Go.RowKit

/-- a rule as it lies: two slices, and a cost -/
structure Rw where
  la : Option Addr
  ln : Nat
  lc : Nat
  L : List Int
  ra : Option Addr
  rn : Nat
  rc : Nat
  R : List Int
  C : Int
def Rw.l (x : Rw) : Value := .slice x.la x.ln x.lc
def Rw.rt (x : Rw) : Value := .slice x.ra x.rn x.rc
def Rw.c (x : Rw) : Value := .int .u64 x.C
def Rw.cells (x : Rw) : List Value := [x.l, x.rt, x.c]
def Rw.v (x : Rw) : Value := .agg #[x.l, x.rt, x.c]
def Rw.r (x : Rw) : Rul := ⟨x.L, x.R, x.C⟩
def Rw.no : Rw := ⟨none, 0, 0, [], none, 0, 0, [], 0⟩
def Rw.Good (w : World) (x : Rw) : Prop := Sl .i64 w x.la x.ln x.lc x.L ∧ Sl .i64 w x.ra x.rn x.rc x.R ∧ 0 ≤ x.C ∧ x.C < 18446744073709551616
theorem Rw.no_good (w : World) : Rw.no.Good w := ⟨Sl.nil, Sl.nil, by decide, by decide⟩
theorem Rw.Good.below {w w' : World} {x : Rw} {B : Nat} (h : x.Good w) (hb : Below B w w') (hB : w.heap.size ≤ B) : x.Good w' := ⟨h.1.below hb hB, h.2.1.below hb hB, h.2.2⟩
theorem Rw.Good.alloc {w : World} {x : Rw} (h : x.Good w) (o : Obj) : x.Good (w.alloc o) := ⟨h.1.alloc o, h.2.1.alloc o, h.2.2⟩
theorem Rw.Good.drawn {w w' : World} {x : Rw} (h : x.Good w) (hq : ∃ q, w' = w.drewN q) : x.Good w' := by obtain ⟨q, rfl⟩ := hq; exact h

def ruls (xs : List Rw) : List Rul := xs.map Rw.r
def rcells (xs : List Rw) : List Value := xs.flatMap Rw.cells
theorem ruls_length (xs : List Rw) : (ruls xs).length = xs.length := by simp [ruls]
theorem ruls_app (xs ys : List Rw) : ruls (xs ++ ys) = ruls xs ++ ruls ys := by simp [ruls]
theorem rcells_app (xs ys : List Rw) : rcells (xs ++ ys) = rcells xs ++ rcells ys := by simp [rcells]
theorem rcells_cons (x : Rw) (xs : List Rw) : rcells (x :: xs) = x.cells ++ rcells xs := by simp [rcells]
theorem rcells_length : ∀ xs : List Rw, (rcells xs).length = xs.length * 3
  | [] => rfl
  | x :: xs => by rw [rcells_cons, List.length_append, rcells_length xs]; simp [Rw.cells]; omega
theorem ruls_at (xs : List Rw) (i : Nat) : (ruls xs).getD i Rul.no = (xs.getD i Rw.no).r := by
  simp only [ruls, List.getD_eq_getElem?_getD, List.getElem?_map]
  cases xs[i]? <;> rfl
theorem rcells_at : ∀ (xs : List Rw) (i j : Nat), i < xs.length → j < 3 → (rcells xs)[i * 3 + j]? = (xs.getD i Rw.no).cells[j]?
  | [], _, _, h, _ => by simp at h
  | x :: xs, 0, j, _, hj => by
    rw [rcells_cons, Nat.zero_mul, Nat.zero_add, List.getElem?_append_left (by simpa [Rw.cells] using hj)]; rfl
  | x :: xs, i + 1, j, h, hj => by
    rw [rcells_cons, List.getElem?_append_right (by simp [Rw.cells]; omega), show (i + 1) * 3 + j - x.cells.length = i * 3 + j from by simp [Rw.cells]; omega, rcells_at xs i j (by simpa using h) hj]
    simp

/-- the three cells of rule i -/
def RwAt (w : World) (b o : Nat) (x : Rw) : Prop :=
  w.cell? ⟨b, o, none⟩ = some x.l ∧ w.cell? ⟨b, o + 1, none⟩ = some x.rt ∧ w.cell? ⟨b, o + 2, none⟩ = some x.c

/-- the slice (a, n, cap) of rules reads as xs in the world w -/
def Rs (w : World) (a : Option Addr) (n cap : Nat) (xs : List Rw) : Prop :=
  xs.length = n ∧ n ≤ cap ∧ cap ≤ maxLen ∧ (∀ x ∈ xs, x.Good w) ∧
    (n = 0 ∨ ∃ b off, a = some ⟨b, off, none⟩ ∧ ∀ i, i < n → RwAt w b (off + i * 3) (xs.getD i Rw.no))

theorem RwAt.below {w w' : World} {b o B : Nat} {x : Rw} (h : RwAt w b o x) (hb : Below B w w') (hB : w.heap.size ≤ B) : RwAt w' b o x := by
  have hlt := cell_lt h.1
  refine ⟨?_, ?_, ?_⟩
  · rw [hb.cell (p := ⟨b, o, none⟩) (by show b < B; omega)]; exact h.1
  · rw [hb.cell (p := ⟨b, o + 1, none⟩) (by show b < B; omega)]; exact h.2.1
  · rw [hb.cell (p := ⟨b, o + 2, none⟩) (by show b < B; omega)]; exact h.2.2
theorem Rs.below {w w' : World} {a : Option Addr} {n cap B : Nat} {xs : List Rw} (h : Rs w a n cap xs) (hb : Below B w w') (hB : w.heap.size ≤ B) : Rs w' a n cap xs := by
  obtain ⟨h1, h2, h3, h4, h5⟩ := h
  refine ⟨h1, h2, h3, fun x hx => (h4 x hx).below hb hB, ?_⟩
  rcases h5 with h5 | ⟨b, off, ha, hc⟩
  · exact .inl h5
  · exact .inr ⟨b, off, ha, fun i hi => (hc i hi).below hb hB⟩
theorem Rs.alloc {w : World} {a : Option Addr} {n cap : Nat} {xs : List Rw} (h : Rs w a n cap xs) (o : Obj) : Rs (w.alloc o) a n cap xs :=
  h.below ((Below.refl w.heap.size w).alloc (Nat.le_refl _) o) (Nat.le_refl _)
theorem Rs.drawn {w w' : World} {a : Option Addr} {n cap : Nat} {xs : List Rw} (h : Rs w a n cap xs) (hq : ∃ q, w' = w.drewN q) : Rs w' a n cap xs := by
  obtain ⟨q, rfl⟩ := hq; exact h
theorem Rs.drewN {w : World} {a : Option Addr} {n cap : Nat} {xs : List Rw} (h : Rs w a n cap xs) (m : Nat) : Rs (w.drewN m) a n cap xs := h
theorem Rs.drew {w : World} {a : Option Addr} {n cap : Nat} {xs : List Rw} (h : Rs w a n cap xs) : Rs w.drew a n cap xs := h
theorem Rs.nil {w : World} : Rs w none 0 0 [] := ⟨rfl, Nat.le_refl _, by unfold maxLen; omega, by simp, .inl rfl⟩
theorem Rs.empty {w : World} {a : Option Addr} {c : Nat} (h : c ≤ maxLen) : Rs w a 0 c [] := ⟨rfl, Nat.zero_le _, h, by simp, .inl rfl⟩
theorem Rs.good {w : World} {a : Option Addr} {n cap : Nat} {xs : List Rw} (h : Rs w a n cap xs) (i : Nat) : (xs.getD i Rw.no).Good w := by
  rw [List.getD_eq_getElem?_getD]
  rcases Nat.lt_or_ge i xs.length with hi | hi
  · rw [List.getElem?_eq_getElem hi]; exact h.2.2.2.1 _ (List.getElem_mem hi)
  · rw [List.getElem?_eq_none hi]; exact Rw.no_good w
theorem Rs.at {w : World} {a : Option Addr} {n cap : Nat} {xs : List Rw} (h : Rs w a n cap xs) (hn : 0 < n) :
    ∃ b off, a = some ⟨b, off, none⟩ ∧ b < w.heap.size ∧ ∀ i, i < n → RwAt w b (off + i * 3) (xs.getD i Rw.no) := by
  obtain ⟨h1, h2, h3, h4, h5⟩ := h
  rcases h5 with h5 | ⟨b, off, ha, hc⟩
  · omega
  · exact ⟨b, off, ha, cell_lt (hc 0 hn).1, hc⟩
theorem Rs.one {w : World} {a : Option Addr} {n cap : Nat} {xs : List Rw} (h : Rs w a n cap xs) (i : Nat) (hi : i < n) :
    ∃ b off la ln lc L ra rn rc R C, a = some ⟨b, off, none⟩ ∧ b < w.heap.size ∧ w.cell? ⟨b, off + i * 3, none⟩ = some (.slice la ln lc) ∧ w.cell? ⟨b, off + i * 3 + 1, none⟩ = some (.slice ra rn rc) ∧ w.cell? ⟨b, off + i * 3 + 2, none⟩ = some (.int .u64 C) ∧
      Sl .i64 w la ln lc L ∧ Sl .i64 w ra rn rc R ∧ 0 ≤ C ∧ C < 18446744073709551616 ∧ xs.getD i Rw.no = ⟨la, ln, lc, L, ra, rn, rc, R, C⟩ := by
  obtain ⟨b, off, ha, hb, hc⟩ := h.at (by omega)
  have hg := h.good i
  have hx := hc i hi
  generalize xs.getD i Rw.no = x at hg hx
  obtain ⟨la, ln, lc, L, ra, rn, rc, R, C⟩ := x
  exact ⟨b, off, la, ln, lc, L, ra, rn, rc, R, C, ha, hb, hx.1, hx.2.1, hx.2.2, hg.1, hg.2.1, hg.2.2.1, hg.2.2.2, rfl⟩
/-- a piece of it -/
theorem Rs.piece {w : World} {b off n cap : Nat} {xs : List Rw} (h : Rs w (some ⟨b, off, none⟩) n cap xs) (i j : Nat) (hij : i + j ≤ n) :
    Rs w (some ⟨b, off + i * 3, none⟩) j (cap - i) ((xs.drop i).take j) := by
  obtain ⟨h1, h2, h3, h4, h5⟩ := h
  refine ⟨by simp; omega, by omega, by unfold maxLen at *; omega, fun x hx => h4 x (List.mem_of_mem_drop (List.mem_of_mem_take hx)), ?_⟩
  rcases h5 with h5 | ⟨b', off', ha, hc⟩
  · exact .inl (by omega)
  · simp only [Option.some.injEq, Addr.mk.injEq] at ha
    obtain ⟨rfl, rfl, _⟩ := ha
    refine .inr ⟨b, off + i * 3, rfl, fun m hm => ?_⟩
    have := hc (i + m) (by omega)
    rw [show off + (i + m) * 3 = off + i * 3 + m * 3 from by omega] at this
    have e : ((xs.drop i).take j).getD m Rw.no = xs.getD (i + m) Rw.no := by simp [hm]
    rw [e]; exact this
theorem Rs.first {w : World} {a : Option Addr} {n cap : Nat} {xs : List Rw} (h : Rs w a n cap xs) (j : Nat) (hj : j ≤ n) : Rs w a j cap (xs.take j) := by
  obtain ⟨h1, h2, h3, h4, h5⟩ := h
  refine ⟨by simp; omega, by omega, h3, fun x hx => h4 x (List.mem_of_mem_take hx), ?_⟩
  rcases h5 with h5 | ⟨b, off, ha, hc⟩
  · exact .inl (by omega)
  · refine .inr ⟨b, off, ha, fun m hm => ?_⟩
    have e : (xs.take j).getD m Rw.no = xs.getD m Rw.no := by simp [hm]
    rw [e]; exact hc m (by omega)
/-- a row that the call owns, read -/
theorem Rs.of_owns {w : World} {B : Nat} {T : TypeId} {a : Option Addr} {n cap : Nat} {xs : List Rw}
    (h : w.ownsRow B T 3 (.slice a n cap) n (rcells xs)) (hg : ∀ x ∈ xs, x.Good w) (hl : xs.length = n) : Rs w a n cap xs := by
  have h' := h
  obtain ⟨_, h2⟩ := h
  rcases h2 with ⟨hv, h0⟩ | ⟨g, c, cur, hv, hgB, hh, hnc, hcm, hcs, ht⟩
  · simp only [Value.slice.injEq] at hv
    obtain ⟨rfl, rfl, rfl⟩ := hv
    exact ⟨hl, Nat.le_refl _, by unfold maxLen; omega, hg, .inl rfl⟩
  · simp only [Value.slice.injEq] at hv
    obtain ⟨rfl, _, rfl⟩ := hv
    refine ⟨hl, hnc, hcm, hg, .inr ⟨g, 0, rfl, fun i hi => ?_⟩⟩
    have e : ∀ j, j < 3 → w.cell? ⟨g, 0 + i * 3 + j, none⟩ = (xs.getD i Rw.no).cells[j]? := fun j hj => by
      rw [Nat.zero_add, h'.cellAt (i * 3 + j) (by omega), rcells_at xs i j (by omega) hj]
    exact ⟨e 0 (by omega), e 1 (by omega), e 2 (by omega)⟩

/-- numbers that the call has just laid -/
theorem Sl.lay {k : IntKind} {w : World} {t : TypeId} {fr : Nat × Nat} {B n m : Nat} (zs : List Int) (hw : ∀ z ∈ zs, (Lit.int k z).wf = true) (hl : zs.length ≤ maxLen) (hB : B = w.heap.size) (hn : zs.length = n) (hm : zs.length = m) :
    Sl k (w.alloc (.cells (zs.map (Value.int k)).toArray t fr)) (some ⟨B, 0, none⟩) n m zs := by
  subst hB hn hm
  refine ⟨rfl, Nat.le_refl _, hl, hw, .inr ⟨w.heap.size, 0, rfl, fun i hi => ?_⟩⟩
  rw [World.cell?_alloc_mark]
  simp [hi]

end Go.Proofs.Ytcpilhgofdnigaa
