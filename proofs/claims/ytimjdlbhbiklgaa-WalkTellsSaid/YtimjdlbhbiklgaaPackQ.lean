import Derived.Test.YtimjdlbhbiklgaaPackB
import Derived.Test.YtimjdlbhbiklgaaPackA
import Derived.Test.YtimjdlbhbiklgaaChecked
import Derived.Test.YtimjdlbhbiklgaaPackK
import Derived.KernelRfl
/- Used by the law. -/
namespace Go.Proofs.Ytimjdlbhbiklgaa
open Go.RowKit Tri

def acells (l : List (Int × Int)) : List Value := l.flatMap fun x => [.int .i64 x.1, .int .i64 x.2]
theorem acells_app (xs ys : List (Int × Int)) : acells (xs ++ ys) = acells xs ++ acells ys := by simp [acells]
theorem acells_cons (x : Int × Int) (xs : List (Int × Int)) : acells (x :: xs) = [.int .i64 x.1, .int .i64 x.2] ++ acells xs := by simp [acells]
theorem acells_length : ∀ xs : List (Int × Int), (acells xs).length = xs.length * 2
  | [] => rfl
  | x :: xs => by rw [acells_cons, List.length_append, acells_length xs]; simp; omega
theorem acells_at : ∀ (xs : List (Int × Int)) (i j : Nat), i < xs.length → j < 2 → (acells xs)[i * 2 + j]? = ([.int .i64 (xs.getD i (0, 0)).1, .int .i64 (xs.getD i (0, 0)).2] : List Value)[j]?
  | [], _, _, h, _ => by simp at h
  | x :: xs, 0, j, _, hj => by
    rw [acells_cons, Nat.zero_mul, Nat.zero_add, List.getElem?_append_left (by simpa using hj)]; rfl
  | x :: xs, i + 1, j, h, hj => by
    rw [acells_cons, List.getElem?_append_right (by simp; omega), show (i + 1) * 2 + j - ([.int .i64 x.1, .int .i64 x.2] : List Value).length = i * 2 + j from by simp; omega, acells_at xs i j (by simpa using h) hj]
    simp

def Ars (w : World) (a : Option Addr) (n cap : Nat) (l : List (Int × Int)) : Prop :=
  l.length = n ∧ n ≤ cap ∧ cap ≤ maxLen ∧ (∀ x ∈ l, (Lit.int .i64 x.1).wf = true ∧ (Lit.int .i64 x.2).wf = true) ∧
    (n = 0 ∨ ∃ b off, a = some ⟨b, off, none⟩ ∧ ∀ i, i < n → w.cell? ⟨b, off + i * 2, none⟩ = some (.int .i64 (l.getD i (0, 0)).1) ∧ w.cell? ⟨b, off + i * 2 + 1, none⟩ = some (.int .i64 (l.getD i (0, 0)).2))
theorem Ars.below {w w' : World} {a : Option Addr} {n cap B : Nat} {l : List (Int × Int)} (h : Ars w a n cap l) (hb : Below B w w') (hB : w.heap.size ≤ B) : Ars w' a n cap l := by
  obtain ⟨h1, h2, h3, h4, h5⟩ := h
  refine ⟨h1, h2, h3, h4, ?_⟩
  rcases h5 with h5 | ⟨b, off, ha, hc⟩
  · exact .inl h5
  · refine .inr ⟨b, off, ha, fun i hi => ?_⟩
    obtain ⟨e1, e2⟩ := hc i hi
    have hlt := cell_lt e1
    rw [hb.cell (p := ⟨b, off + i * 2, none⟩) (by show b < B; omega), hb.cell (p := ⟨b, off + i * 2 + 1, none⟩) (by show b < B; omega)]
    exact ⟨e1, e2⟩
theorem Ars.alloc {w : World} {a : Option Addr} {n cap : Nat} {l : List (Int × Int)} (h : Ars w a n cap l) (o : Obj) : Ars (w.alloc o) a n cap l :=
  h.below ((Below.refl w.heap.size w).alloc (Nat.le_refl _) o) (Nat.le_refl _)
theorem Ars.drawn {w w' : World} {a : Option Addr} {n cap : Nat} {l : List (Int × Int)} (h : Ars w a n cap l) (hq : ∃ q, w' = w.drewN q) : Ars w' a n cap l := by
  obtain ⟨q, rfl⟩ := hq; exact h
theorem Ars.nil {w : World} : Ars w none 0 0 [] := ⟨rfl, Nat.le_refl _, by unfold maxLen; omega, by simp, .inl rfl⟩
theorem Ars.at {w : World} {a : Option Addr} {n cap : Nat} {l : List (Int × Int)} (h : Ars w a n cap l) (hn : 0 < n) :
    ∃ b off, a = some ⟨b, off, none⟩ ∧ b < w.heap.size ∧ ∀ i, i < n → w.cell? ⟨b, off + i * 2, none⟩ = some (.int .i64 (l.getD i (0, 0)).1) ∧ w.cell? ⟨b, off + i * 2 + 1, none⟩ = some (.int .i64 (l.getD i (0, 0)).2) := by
  obtain ⟨h1, h2, h3, h4, h5⟩ := h
  rcases h5 with h5 | ⟨b, off, ha, hc⟩
  · omega
  · exact ⟨b, off, ha, cell_lt (hc 0 hn).1, hc⟩
theorem Ars.one {w : World} {a : Option Addr} {n cap : Nat} {l : List (Int × Int)} (h : Ars w a n cap l) (i : Nat) (hi : i < n) :
    ∃ b off s t, a = some ⟨b, off, none⟩ ∧ b < w.heap.size ∧ w.cell? ⟨b, off + i * 2, none⟩ = some (.int .i64 s) ∧ w.cell? ⟨b, off + i * 2 + 1, none⟩ = some (.int .i64 t) ∧ (Lit.int .i64 s).wf = true ∧ (Lit.int .i64 t).wf = true ∧ l.getD i (0, 0) = (s, t) := by
  obtain ⟨b, off, ha, hb, hc⟩ := h.at (by omega)
  obtain ⟨e1, e2⟩ := hc i hi
  have hm : l.getD i (0, 0) ∈ l := by
    rw [List.getD_eq_getElem?_getD, List.getElem?_eq_getElem (by rw [h.1]; exact hi), Option.getD_some]; exact List.getElem_mem _
  have hw := h.2.2.2.1 _ hm
  exact ⟨b, off, _, _, ha, hb, e1, e2, hw.1, hw.2, rfl⟩
theorem Ars.of_owns {w : World} {B : Nat} {T : TypeId} {a : Option Addr} {n cap : Nat} {l : List (Int × Int)}
    (h : w.ownsRow B T 2 (.slice a n cap) n (acells l)) (hg : ∀ x ∈ l, (Lit.int .i64 x.1).wf = true ∧ (Lit.int .i64 x.2).wf = true) (hl : l.length = n) : Ars w a n cap l := by
  have h' := h
  obtain ⟨_, h2⟩ := h
  rcases h2 with ⟨hv, h0⟩ | ⟨g, c, cur, hv, hgB, hh, hnc, hcm, hcs, ht⟩
  · simp only [Value.slice.injEq] at hv
    obtain ⟨rfl, rfl, rfl⟩ := hv
    exact ⟨hl, Nat.le_refl _, by unfold maxLen; omega, hg, .inl rfl⟩
  · simp only [Value.slice.injEq] at hv
    obtain ⟨rfl, _, rfl⟩ := hv
    refine ⟨hl, hnc, hcm, hg, .inr ⟨g, 0, rfl, fun i hi => ?_⟩⟩
    have e : ∀ j, j < 2 → w.cell? ⟨g, 0 + i * 2 + j, none⟩ = ([.int .i64 (l.getD i (0, 0)).1, .int .i64 (l.getD i (0, 0)).2] : List Value)[j]? := fun j hj => by
      rw [Nat.zero_add, h'.cellAt (i * 2 + j) (by omega), acells_at l i j (by omega) hj]
    exact ⟨e 0 (by omega), e 1 (by omega)⟩

structure Sw where
  fin : Bool
  a : Option Addr
  n : Nat
  cap : Nat
  arcs : List (Int × Int)
def Sw.f (x : Sw) : Value := .bool x.fin
def Sw.s (x : Sw) : Value := .slice x.a x.n x.cap
def Sw.cells (x : Sw) : List Value := [x.f, x.s]
def Sw.v (x : Sw) : Value := .agg #[x.f, x.s]
def Sw.st (x : Sw) : St := ⟨x.fin, x.arcs⟩
def Sw.no : Sw := ⟨false, none, 0, 0, []⟩
def Sw.Good (w : World) (x : Sw) : Prop := Ars w x.a x.n x.cap x.arcs
theorem Sw.no_good (w : World) : Sw.no.Good w := Ars.nil
theorem Sw.Good.below {w w' : World} {x : Sw} {B : Nat} (h : x.Good w) (hb : Below B w w') (hB : w.heap.size ≤ B) : x.Good w' := Ars.below h hb hB
theorem Sw.Good.alloc {w : World} {x : Sw} (h : x.Good w) (o : Obj) : x.Good (w.alloc o) := Ars.alloc h o

def sts (xs : List Sw) : List St := xs.map Sw.st
def scells (xs : List Sw) : List Value := xs.flatMap Sw.cells
theorem sts_length (xs : List Sw) : (sts xs).length = xs.length := by simp [sts]
theorem sts_app (xs ys : List Sw) : sts (xs ++ ys) = sts xs ++ sts ys := by simp [sts]
theorem scells_app (xs ys : List Sw) : scells (xs ++ ys) = scells xs ++ scells ys := by simp [scells]
theorem scells_cons (x : Sw) (xs : List Sw) : scells (x :: xs) = x.cells ++ scells xs := by simp [scells]
theorem scells_length : ∀ xs : List Sw, (scells xs).length = xs.length * 2
  | [] => rfl
  | x :: xs => by rw [scells_cons, List.length_append, scells_length xs]; simp [Sw.cells]; omega
theorem sts_at (xs : List Sw) (i : Nat) : (sts xs).getD i St.no = (xs.getD i Sw.no).st := by
  simp only [sts, List.getD_eq_getElem?_getD, List.getElem?_map]
  cases xs[i]? <;> rfl
theorem scells_at : ∀ (xs : List Sw) (i j : Nat), i < xs.length → j < 2 → (scells xs)[i * 2 + j]? = (xs.getD i Sw.no).cells[j]?
  | [], _, _, h, _ => by simp at h
  | x :: xs, 0, j, _, hj => by
    rw [scells_cons, Nat.zero_mul, Nat.zero_add, List.getElem?_append_left (by simpa [Sw.cells] using hj)]; rfl
  | x :: xs, i + 1, j, h, hj => by
    rw [scells_cons, List.getElem?_append_right (by simp [Sw.cells]; omega), show (i + 1) * 2 + j - x.cells.length = i * 2 + j from by simp [Sw.cells]; omega, scells_at xs i j (by simpa using h) hj]
    simp
def SwAt (w : World) (b o : Nat) (x : Sw) : Prop := w.cell? ⟨b, o, none⟩ = some x.f ∧ w.cell? ⟨b, o + 1, none⟩ = some x.s
def Ss (w : World) (a : Option Addr) (n cap : Nat) (xs : List Sw) : Prop :=
  xs.length = n ∧ n ≤ cap ∧ cap ≤ maxLen ∧ (∀ x ∈ xs, x.Good w) ∧
    (n = 0 ∨ ∃ b off, a = some ⟨b, off, none⟩ ∧ ∀ i, i < n → SwAt w b (off + i * 2) (xs.getD i Sw.no))
theorem SwAt.below {w w' : World} {b o B : Nat} {x : Sw} (h : SwAt w b o x) (hb : Below B w w') (hB : w.heap.size ≤ B) : SwAt w' b o x := by
  have hlt := cell_lt h.1
  refine ⟨?_, ?_⟩
  · rw [hb.cell (p := ⟨b, o, none⟩) (by show b < B; omega)]; exact h.1
  · rw [hb.cell (p := ⟨b, o + 1, none⟩) (by show b < B; omega)]; exact h.2
theorem Ss.below {w w' : World} {a : Option Addr} {n cap B : Nat} {xs : List Sw} (h : Ss w a n cap xs) (hb : Below B w w') (hB : w.heap.size ≤ B) : Ss w' a n cap xs := by
  obtain ⟨h1, h2, h3, h4, h5⟩ := h
  refine ⟨h1, h2, h3, fun x hx => (h4 x hx).below hb hB, ?_⟩
  rcases h5 with h5 | ⟨b, off, ha, hc⟩
  · exact .inl h5
  · exact .inr ⟨b, off, ha, fun i hi => (hc i hi).below hb hB⟩
theorem Ss.alloc {w : World} {a : Option Addr} {n cap : Nat} {xs : List Sw} (h : Ss w a n cap xs) (o : Obj) : Ss (w.alloc o) a n cap xs :=
  h.below ((Below.refl w.heap.size w).alloc (Nat.le_refl _) o) (Nat.le_refl _)
theorem Ss.drawn {w w' : World} {a : Option Addr} {n cap : Nat} {xs : List Sw} (h : Ss w a n cap xs) (hq : ∃ q, w' = w.drewN q) : Ss w' a n cap xs := by
  obtain ⟨q, rfl⟩ := hq; exact h
theorem Ss.drew {w : World} {a : Option Addr} {n cap : Nat} {xs : List Sw} (h : Ss w a n cap xs) : Ss w.drew a n cap xs := h
theorem Ss.nil {w : World} : Ss w none 0 0 [] := ⟨rfl, Nat.le_refl _, by unfold maxLen; omega, by simp, .inl rfl⟩
theorem Ss.good {w : World} {a : Option Addr} {n cap : Nat} {xs : List Sw} (h : Ss w a n cap xs) (i : Nat) : (xs.getD i Sw.no).Good w := by
  rw [List.getD_eq_getElem?_getD]
  rcases Nat.lt_or_ge i xs.length with hi | hi
  · rw [List.getElem?_eq_getElem hi]; exact h.2.2.2.1 _ (List.getElem_mem hi)
  · rw [List.getElem?_eq_none hi]; exact Sw.no_good w
theorem Ss.at {w : World} {a : Option Addr} {n cap : Nat} {xs : List Sw} (h : Ss w a n cap xs) (hn : 0 < n) :
    ∃ b off, a = some ⟨b, off, none⟩ ∧ b < w.heap.size ∧ ∀ i, i < n → SwAt w b (off + i * 2) (xs.getD i Sw.no) := by
  obtain ⟨h1, h2, h3, h4, h5⟩ := h
  rcases h5 with h5 | ⟨b, off, ha, hc⟩
  · omega
  · exact ⟨b, off, ha, cell_lt (hc 0 hn).1, hc⟩
theorem Ss.one {w : World} {a : Option Addr} {n cap : Nat} {xs : List Sw} (h : Ss w a n cap xs) (i : Nat) (hi : i < n) :
    ∃ b off f sa sn sc arcs, a = some ⟨b, off, none⟩ ∧ b < w.heap.size ∧ w.cell? ⟨b, off + i * 2, none⟩ = some (.bool f) ∧ w.cell? ⟨b, off + i * 2 + 1, none⟩ = some (.slice sa sn sc) ∧ Ars w sa sn sc arcs ∧ xs.getD i Sw.no = ⟨f, sa, sn, sc, arcs⟩ := by
  obtain ⟨b, off, ha, hb, hc⟩ := h.at (by omega)
  have hg := h.good i
  have hx := hc i hi
  generalize xs.getD i Sw.no = x at hg hx
  obtain ⟨f, sa, sn, sc, arcs⟩ := x
  exact ⟨b, off, f, sa, sn, sc, arcs, ha, hb, hx.1, hx.2, hg, rfl⟩
theorem Ss.of_owns {w : World} {B : Nat} {T : TypeId} {a : Option Addr} {n cap : Nat} {xs : List Sw}
    (h : w.ownsRow B T 2 (.slice a n cap) n (scells xs)) (hg : ∀ x ∈ xs, x.Good w) (hl : xs.length = n) : Ss w a n cap xs := by
  have h' := h
  obtain ⟨_, h2⟩ := h
  rcases h2 with ⟨hv, h0⟩ | ⟨g, c, cur, hv, hgB, hh, hnc, hcm, hcs, ht⟩
  · simp only [Value.slice.injEq] at hv
    obtain ⟨rfl, rfl, rfl⟩ := hv
    exact ⟨hl, Nat.le_refl _, by unfold maxLen; omega, hg, .inl rfl⟩
  · simp only [Value.slice.injEq] at hv
    obtain ⟨rfl, _, rfl⟩ := hv
    refine ⟨hl, hnc, hcm, hg, .inr ⟨g, 0, rfl, fun i hi => ?_⟩⟩
    have e : ∀ j, j < 2 → w.cell? ⟨g, 0 + i * 2 + j, none⟩ = (xs.getD i Sw.no).cells[j]? := fun j hj => by
      rw [Nat.zero_add, h'.cellAt (i * 2 + j) (by omega), scells_at xs i j (by omega) hj]
    exact ⟨e 0 (by omega), e 1 (by omega)⟩
theorem arcs_step {l : List (Int × Int)} {j : Nat} {x : Int × Int} (h : j < l.length) (hx : l.getD j (0, 0) = x) : l.take (j + 1) = l.take j ++ [x] := by
  rw [List.take_succ_eq_append_getElem h, ← hx]; simp [h]

end Go.Proofs.Ytimjdlbhbiklgaa

/- Used by the law. -/
namespace Go.Proofs.Ytimjdlbhbiklgaa
open Go.RowKit Tri

set_option maxRecDepth 100000 in
theorem info_arc : (Try.prog.info? 59).map (fun i => (i.zero, i.size, i.bytes)) = some (some (.agg #[.int .i64 0, .int .i64 0]), 2, 16) := by kernel_rfl
set_option maxRecDepth 100000 in
theorem info_state : (Try.prog.info? 47).map (fun i => (i.zero, i.size, i.bytes)) = some (some (.agg #[.bool false, .slice none 0 0]), 2, 32) := by kernel_rfl
theorem acells_one (l : List (Int × Int)) : ∀ u ∈ acells l, u.oneCell' = true := by
  intro u hu
  obtain ⟨x, _, hx⟩ := List.mem_flatMap.1 hu
  simp only [List.mem_cons, List.not_mem_nil, or_false] at hx
  rcases hx with rfl | rfl <;> rfl
theorem scells_one (xs : List Sw) : ∀ u ∈ scells xs, u.oneCell' = true := by
  intro u hu
  obtain ⟨x, _, hx⟩ := List.mem_flatMap.1 hu
  simp only [Sw.cells, List.mem_cons, List.not_mem_nil, or_false] at hx
  rcases hx with rfl | rfl <;> rfl
theorem two_cells {w : World} {g : Nat} {u v : Value} (h0 : w.cell? ⟨g, 0, none⟩ = some u) (h1 : w.cell? ⟨g, 1, none⟩ = some v) : ∀ j x, ([u, v] : List Value)[j]? = some x → w.cell? ((⟨g, 0, none⟩ : Addr).add j) = some x := by
  intro j x hj
  match j, hj with
  | 0, hj => simp at hj; subst hj; simpa [Addr.add] using h0
  | 1, hj => simp at hj; subst hj; simpa [Addr.add] using h1

set_option maxRecDepth 100000 in
theorem append_arc {w : World} {ops : Array Oper} {rest : List Oper} {o : Oper} {act : Act} {Q : Exit → Act → World → Prop} (hw : Region.wanted o (yielded ops act.tmps) = true) (s x : Operand)
    (ho : o.op = .call { callee := .builtin .append, args := #[s, x], argTypes := #[45, 45] }) (base : Nat) (v : Value) (n : Nat) (l : List (Int × Int)) (hs : act.eval s = v)
    (hown : w.ownsRow base 59 2 v n (acells l)) (g : Nat) (y : Int × Int) (hx : act.eval x = .slice (some ⟨g, 0, none⟩) 1 1) (h0 : w.cell? ⟨g, 0, none⟩ = some (.int .i64 y.1)) (h1 : w.cell? ⟨g, 1, none⟩ = some (.int .i64 y.2))
    (N : Nat) (hN : n + 1 = N) (h63 : N * 16 ≤ 140737488355328) (hbase : base ≤ w.heap.size)
    (h : ∀ a' c' w', w'.ownsRow base 59 2 (.slice a' N c') N (acells (l ++ [y])) → Below base w w' → w.grownBy w' v.ownBlock → (a' = none → c' = 0) → wpList Try.prog ops Q rest (act.put o.dst (.slice a' N c')) w') :
    wpList Try.prog ops Q (o :: rest) act w := by
  subst hN
  refine wpList_step fun K hK => ?_
  rw [if_pos hw]
  refine wp_append_cells s x 45 59 ho _ 2 16 Try.underlying45 info_arc rfl (by omega) base v n (acells l) hs hown _ 1 1 (acells [y]) hx rfl (fun _ => ⟨_, rfl, two_cells h0 h1⟩) (acells_one [y]) (by unfold maxLen; omega) (by omega) hbase ?_
  intro a' c' w' h1 h2 h3 h4
  exact hK _ _ (h a' c' w' (by rw [acells_app]; exact h1) h2 h3 h4)
set_option maxRecDepth 100000 in
theorem append_state {w : World} {ops : Array Oper} {rest : List Oper} {o : Oper} {act : Act} {Q : Exit → Act → World → Prop} (hw : Region.wanted o (yielded ops act.tmps) = true) (s x : Operand)
    (ho : o.op = .call { callee := .builtin .append, args := #[s, x], argTypes := #[22, 22] }) (base : Nat) (v : Value) (n : Nat) (l : List Sw) (hs : act.eval s = v)
    (hown : w.ownsRow base 47 2 v n (scells l)) (g : Nat) (y : Sw) (hx : act.eval x = .slice (some ⟨g, 0, none⟩) 1 1) (h0 : w.cell? ⟨g, 0, none⟩ = some y.f) (h1 : w.cell? ⟨g, 1, none⟩ = some y.s)
    (N : Nat) (hN : n + 1 = N) (h63 : N * 32 ≤ 140737488355328) (hbase : base ≤ w.heap.size)
    (h : ∀ a' c' w', w'.ownsRow base 47 2 (.slice a' N c') N (scells (l ++ [y])) → Below base w w' → w.grownBy w' v.ownBlock → (a' = none → c' = 0) → wpList Try.prog ops Q rest (act.put o.dst (.slice a' N c')) w') :
    wpList Try.prog ops Q (o :: rest) act w := by
  subst hN
  refine wpList_step fun K hK => ?_
  rw [if_pos hw]
  refine wp_append_cells s x 22 47 ho _ 2 32 Try.underlying22 info_state rfl (by omega) base v n (scells l) hs hown _ 1 1 (scells [y]) hx rfl (fun _ => ⟨_, rfl, two_cells h0 h1⟩) (scells_one [y]) (by unfold maxLen; omega) (by omega) hbase ?_
  intro a' c' w' h1 h2 h3 h4
  exact hK _ _ (h a' c' w' (by rw [scells_app]; exact h1) h2 h3 h4)

theorem lit2 (w : World) (u v : Value) (t : TypeId) (fr : Nat × Nat) : (w.alloc (.cells #[u, v] t fr)).cell? ⟨w.heap.size, 0, none⟩ = some u ∧ (w.alloc (.cells #[u, v] t fr)).cell? ⟨w.heap.size, 1, none⟩ = some v := by
  have h := heap_alloc_new w (.cells #[u, v] t fr)
  constructor
  · simp only [World.cell?]; rw [h]; rfl
  · simp only [World.cell?]; rw [h]; rfl
set_option maxRecDepth 100000 in
theorem step_build_arc {w : World} {ops : Array Oper} {o : Oper} {act : Act} {K : Act → World → Prop} {Q : Exit → Act → World → Prop} {E : Prop} (hw : Region.wanted o (yielded ops act.tmps) = true) (x : Operand) (s t : Int)
    (ho : o.op = .buildSlice 45 1 #[(0, x)]) (hx : act.eval x = .agg #[.int .i64 s, .int .i64 t]) (h : ∀ g w', w'.cell? ⟨g, 0, none⟩ = some (.int .i64 s) → w'.cell? ⟨g, 1, none⟩ = some (.int .i64 t) → Below w.heap.size w w' → K (act.put o.dst (.slice (some ⟨g, 0, none⟩) 1 1)) w') :
    if Region.wanted o (yielded ops act.tmps) = true then o.wp Try.prog act w K Q else E := by
  rw [if_pos hw]
  unfold Oper.wp
  simp only [execOp, ho, List.map_toArray, List.map_cons, List.map_nil, hx]
  go_simp
  exact h _ _ (lit2 w _ _ _ _).1 (lit2 w _ _ _ _).2 ((Below.refl _ w).alloc (Nat.le_refl _) _)

def Sw.Front (x : Sw) : Prop := x.n = 0 ∨ ∃ b, x.a = some ⟨b, 0, none⟩
theorem Sw.Good.apart {w w' : World} {x : Sw} {k : Option Nat} (h : x.Good w) (hf : x.Front) (hg : w.grownBy w' k) (hk : ∀ b, k = some b → ∀ z : Int, w.cell? ⟨b, 0, none⟩ ≠ some (.int .i64 z)) : x.Good w' := by
  obtain ⟨h1, h2, h3, h4, h5⟩ := h
  refine ⟨h1, h2, h3, h4, ?_⟩
  rcases h5 with h5 | ⟨b, off, ha, hc⟩
  · exact .inl h5
  · rcases Nat.eq_zero_or_pos x.n with h0 | hp
    · exact .inl h0
    · refine .inr ⟨b, off, ha, fun i hi => ?_⟩
      rcases hf with hf | ⟨b', hb'⟩
      · omega
      · rw [ha] at hb'
        simp only [Option.some.injEq, Addr.mk.injEq, and_true] at hb'
        obtain ⟨rfl, rfl⟩ := hb'
        have hne : k ≠ some b := fun e => hk b e _ (by have := (hc 0 hp).1; simpa using this)
        obtain ⟨e1, e2⟩ := hc i hi
        exact ⟨hg.cell e1 (fun e => hne e.symm), hg.cell e2 (fun e => hne e.symm)⟩
end Go.Proofs.Ytimjdlbhbiklgaa
