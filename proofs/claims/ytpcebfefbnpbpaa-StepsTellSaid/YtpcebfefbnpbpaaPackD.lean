import Derived.Test.YtpcebfefbnpbpaaPackB
import Derived.Below
import Derived.OwnWalk
import Derived.Laws.AppendOwn
import Derived.Laws.OwnMore
import Derived.Laws.AppendOwnNone
import Derived.WalkLawsBesides
import Derived.Test.YtpcebfefbnpbpaaPackA
import Derived.Test.YtpcebfefbnpbpaaChecked
import Derived.KernelRfl
import Derived.WalkKit
import Derived.ProofKit
import Derived.Outline
import Derived.BigQuiet
import Derived.BigGuardPart
import Derived.Deep.QuietTactic
import Derived.LoopN
import Derived.WalkMore
import Derived.OpenShut
import Derived.Laws.Small
import Derived.Lib.Hide
import Derived.Lib.Strings
import Derived.Deep.RegionLaw
import Derived.Deep.AppendLies
import Derived.Maps.RangeWalk
import Derived.ShutString
import Derived.Laws.BytesArg
import Derived.Laws.CopyOwn
import Derived.Lib.SlBytesConst
set_option linter.all false
set_option maxRecDepth 100000
set_option maxHeartbeats 12800000
namespace Go.Proofs.Ytpcebfefbnpbpaa
section
open Go.RowKit

theorem own_form {w : World} {base : Nat} {e : TypeId} {size : Nat} {v : Value} {k : Nat} {l : List Value} (h : w.ownsRow base e size v k l) : ∃ a' c', v = .slice a' k c' ∧ (a' = none → c' = 0) := by
  rcases h.2 with ⟨h1, h2⟩ | ⟨g, cap, cur, h1, _⟩
  · subst h2; exact ⟨none, 0, h1, fun _ => rfl⟩
  · exact ⟨_, cap, h1, fun h => by cases h⟩
theorem own_mono {w : World} {B B' : Nat} {e : TypeId} {size : Nat} {v : Value} {n : Nat} {l : List Value} (h : w.ownsRow B e size v n l) (hB : B' ≤ B) : w.ownsRow B' e size v n l := by
  refine ⟨h.1, ?_⟩
  rcases h.2 with h1 | ⟨g, c, cur, h1, h2, h3⟩
  · exact .inl h1
  · exact .inr ⟨g, c, cur, h1, Nat.le_trans hB h2, h3⟩

theorem run_append_nil_any {P : Program} {w : World} (base : Nat) (t ty e : TypeId) (i : TypeInfo) (size c : Nat) (ht : P.underlying t = some (.slice e)) (hi : P.info? e = some i)
    (v : Value) (n : Nat) (xs : List Value) (hown : w.ownsRow base e size v n xs) :
    (Builtin.append_ #[t, t] ty #[v, .slice none 0 c]).run P w = .ok v w := by
  rcases hown.2 with ⟨rfl, rfl⟩ | ⟨g, cap, cur, rfl, _, _, hnc, _⟩
  · simp [Builtin.append_, run_underlying ht, sizeOf, typeInfo, hi, Builtin.lenOf, Builtin.firstCells]
  · simp [Builtin.append_, run_underlying ht, sizeOf, typeInfo, hi, Builtin.lenOf, Builtin.firstCells, hnc, storeCells]

theorem wp_append_cells {P : Program} {w : World} {o : Oper} {act : Act} {K : Act → World → Prop} {Q : Exit → Act → World → Prop} (s x : Operand) (T e : TypeId)
    (ho : o.op = .call { callee := .builtin .append, args := #[s, x], argTypes := #[T, T] }) (z : Value) (size bytes : Nat) (hu : P.underlying T = some (.slice e)) (hinfo : (P.info? e).map (fun i => (i.zero, i.size, i.bytes)) = some (some z, size, bytes))
    (hzc : z.cells.size = size) (hsz : 0 < size) (base : Nat) (v : Value) (n : Nat) (xs : List Value) (hs : act.eval s = v)
    (hown : w.ownsRow base e size v n xs) (a : Option Addr) (m c : Nat) (zs : List Value) (hx : act.eval x = .slice a m c) (hz : zs.length = m * size) (hc : 0 < m → ∃ y, a = some y ∧ ∀ j u, zs[j]? = some u → w.cell? (y.add j) = some u) (h1 : ∀ u ∈ zs, u.oneCell' = true)
    (hmax : n + m ≤ maxLen) (h63 : (n + m) * bytes ≤ 140737488355328) (hbase : base ≤ w.heap.size)
    (h : ∀ a' c' w', w'.ownsRow base e size (.slice a' (n + m) c') (n + m) (xs ++ zs) → Below base w w' → w.grownBy w' v.ownBlock → (a' = none → c' = 0) → K (act.put o.dst (.slice a' (n + m) c')) w') :
    o.wp P act w K Q := by
  obtain ⟨i0, hi, hz0, hz1, hz2⟩ := info_parts hinfo
  cases a with
  | none =>
    obtain rfl : m = 0 := by
      rcases Nat.eq_zero_or_pos m with h0 | h0
      · exact h0
      · obtain ⟨y, e, _⟩ := hc h0; cases e
    obtain rfl : zs = [] := List.eq_nil_of_length_eq_zero (by rw [hz, Nat.zero_mul])
    obtain ⟨a', c', rfl, hnil⟩ := own_form hown
    have hrun := run_append_nil_any (P := P) (w := w) base T o.type e i0 size c hu hi _ n xs hown
    unfold Oper.wp
    simp [execOp, ho, resolve, invoke, builtin, hs, hx, hrun, Result.andThen]
    exact h a' c' w (by simpa using hown) (Below.refl _ _) (World.grownBy.refl w _) hnil
  | some y =>
    have hnews : ∀ j u, zs[j]? = some u → w.cell? (y.add j) = some u := by
      intro j u hj
      have hjl : j < zs.length := by
        rcases Nat.lt_or_ge j zs.length with hlt | hge
        · exact hlt
        · simp [List.getElem?_eq_none hge] at hj
      obtain ⟨y', hy, hh⟩ := hc (by rcases Nat.eq_zero_or_pos m with h0 | h0; · rw [hz, h0, Nat.zero_mul] at hjl; omega
                                    · exact h0)
      cases hy
      exact hh j u hj
    refine wp_append_own w s x T ho base e i0 z size bytes hu hi hz0 hz1 hz2 hzc hsz v n xs hs hown y m c zs hx hz hnews h1 hmax h63 hbase ?_
    intro v' w' hown' hgrow _
    obtain ⟨a', c', rfl, hnil⟩ := own_form hown'
    exact h a' c' w' hown' ((Below.refl _ _).grown hgrow hbase (fun k hk => (hown.lt k hk).1)) hgrow hnil

end
section
open Go.RowKit

/-- a step as it lies: what it takes, the slice that it puts, whether it puts any sign, what it costs -/
structure Pw where
  e : Int
  a : Option Addr
  n : Nat
  cap : Nat
  p : List Int
  any : Bool
  c : Int
def Pw.cells (x : Pw) : List Value := [.int .i64 x.e, .slice x.a x.n x.cap, .bool x.any, .int .u64 x.c]
def Pw.v (x : Pw) : Value := .agg #[.int .i64 x.e, .slice x.a x.n x.cap, .bool x.any, .int .u64 x.c]
def Pw.s (x : Pw) : Stp.St := ⟨x.e, x.p, x.any, x.c⟩
def Pw.no : Pw := ⟨0, none, 0, 0, [], false, 0⟩
def Pw.Good (w : World) (x : Pw) : Prop := Sl .i64 w x.a x.n x.cap x.p ∧ (Lit.int .i64 x.e).wf = true ∧ 0 ≤ x.c ∧ x.c < 18446744073709551616
theorem Pw.no_good (w : World) : Pw.no.Good w := ⟨Sl.nil, by decide, by decide, by decide⟩
theorem Pw.Good.below {w w' : World} {x : Pw} {B : Nat} (h : x.Good w) (hb : Below B w w') (hB : w.heap.size ≤ B) : x.Good w' := ⟨h.1.below hb hB, h.2⟩
theorem Pw.Good.alloc {w : World} {x : Pw} (h : x.Good w) (o : Obj) : x.Good (w.alloc o) := ⟨h.1.alloc o, h.2⟩
theorem Pw.Good.drawn {w w' : World} {x : Pw} (h : x.Good w) (hq : ∃ q, w' = w.drewN q) : x.Good w' := by obtain ⟨q, rfl⟩ := hq; exact h

def stps (xs : List Pw) : List Stp.St := xs.map Pw.s
def pcells (xs : List Pw) : List Value := xs.flatMap Pw.cells
theorem stps_length (xs : List Pw) : (stps xs).length = xs.length := by simp [stps]
theorem stps_app (xs ys : List Pw) : stps (xs ++ ys) = stps xs ++ stps ys := by simp [stps]
theorem pcells_app (xs ys : List Pw) : pcells (xs ++ ys) = pcells xs ++ pcells ys := by simp [pcells]
theorem pcells_cons (x : Pw) (xs : List Pw) : pcells (x :: xs) = x.cells ++ pcells xs := by simp [pcells]
theorem pcells_length : ∀ xs : List Pw, (pcells xs).length = xs.length * 4
  | [] => rfl
  | x :: xs => by rw [pcells_cons, List.length_append, pcells_length xs]; simp [Pw.cells]; omega
theorem stps_at (xs : List Pw) (i : Nat) : (stps xs).getD i Stp.St.no = (xs.getD i Pw.no).s := by
  simp only [stps, List.getD_eq_getElem?_getD, List.getElem?_map]
  cases xs[i]? <;> rfl
theorem pcells_at : ∀ (xs : List Pw) (i j : Nat), i < xs.length → j < 4 → (pcells xs)[i * 4 + j]? = (xs.getD i Pw.no).cells[j]?
  | [], _, _, h, _ => by simp at h
  | x :: xs, 0, j, _, hj => by
    rw [pcells_cons, Nat.zero_mul, Nat.zero_add, List.getElem?_append_left (by simpa [Pw.cells] using hj)]; rfl
  | x :: xs, i + 1, j, h, hj => by
    rw [pcells_cons, List.getElem?_append_right (by simp [Pw.cells]; omega), show (i + 1) * 4 + j - x.cells.length = i * 4 + j from by simp [Pw.cells]; omega, pcells_at xs i j (by simpa using h) hj]
    simp

/-- the four cells of step i -/
def PwAt (w : World) (b o : Nat) (x : Pw) : Prop :=
  w.cell? ⟨b, o, none⟩ = some (.int .i64 x.e) ∧ w.cell? ⟨b, o + 1, none⟩ = some (.slice x.a x.n x.cap) ∧ w.cell? ⟨b, o + 2, none⟩ = some (.bool x.any) ∧ w.cell? ⟨b, o + 3, none⟩ = some (.int .u64 x.c)

/-- the slice (a, n, cap) of steps reads as xs in the world w -/
def Ps (w : World) (a : Option Addr) (n cap : Nat) (xs : List Pw) : Prop :=
  xs.length = n ∧ n ≤ cap ∧ cap ≤ maxLen ∧ (∀ x ∈ xs, x.Good w) ∧
    (n = 0 ∨ ∃ b off, a = some ⟨b, off, none⟩ ∧ ∀ i, i < n → PwAt w b (off + i * 4) (xs.getD i Pw.no))

theorem PwAt.below {w w' : World} {b o B : Nat} {x : Pw} (h : PwAt w b o x) (hb : Below B w w') (hB : w.heap.size ≤ B) : PwAt w' b o x := by
  have hlt := cell_lt h.1
  refine ⟨?_, ?_, ?_, ?_⟩
  · rw [hb.cell (p := ⟨b, o, none⟩) (by show b < B; omega)]; exact h.1
  · rw [hb.cell (p := ⟨b, o + 1, none⟩) (by show b < B; omega)]; exact h.2.1
  · rw [hb.cell (p := ⟨b, o + 2, none⟩) (by show b < B; omega)]; exact h.2.2.1
  · rw [hb.cell (p := ⟨b, o + 3, none⟩) (by show b < B; omega)]; exact h.2.2.2
theorem PwAt.grown {w w' : World} {b o : Nat} {x : Pw} {row : Option Nat} (h : PwAt w b o x) (hg : w.grownBy w' row) (hne : some b ≠ row) : PwAt w' b o x :=
  ⟨hg.cell h.1 hne, hg.cell h.2.1 hne, hg.cell h.2.2.1 hne, hg.cell h.2.2.2 hne⟩
theorem Ps.below {w w' : World} {a : Option Addr} {n cap B : Nat} {xs : List Pw} (h : Ps w a n cap xs) (hb : Below B w w') (hB : w.heap.size ≤ B) : Ps w' a n cap xs := by
  obtain ⟨h1, h2, h3, h4, h5⟩ := h
  refine ⟨h1, h2, h3, fun x hx => (h4 x hx).below hb hB, ?_⟩
  rcases h5 with h5 | ⟨b, off, ha, hc⟩
  · exact .inl h5
  · exact .inr ⟨b, off, ha, fun i hi => (hc i hi).below hb hB⟩
theorem Ps.alloc {w : World} {a : Option Addr} {n cap : Nat} {xs : List Pw} (h : Ps w a n cap xs) (o : Obj) : Ps (w.alloc o) a n cap xs :=
  h.below ((Below.refl w.heap.size w).alloc (Nat.le_refl _) o) (Nat.le_refl _)
theorem Ps.drawn {w w' : World} {a : Option Addr} {n cap : Nat} {xs : List Pw} (h : Ps w a n cap xs) (hq : ∃ q, w' = w.drewN q) : Ps w' a n cap xs := by
  obtain ⟨q, rfl⟩ := hq; exact h
theorem Ps.drewN {w : World} {a : Option Addr} {n cap : Nat} {xs : List Pw} (h : Ps w a n cap xs) (m : Nat) : Ps (w.drewN m) a n cap xs := h
theorem Ps.nil {w : World} : Ps w none 0 0 [] := ⟨rfl, Nat.le_refl _, by unfold maxLen; omega, by simp, .inl rfl⟩
theorem Ps.empty {w : World} {a : Option Addr} {c : Nat} (h : c ≤ maxLen) : Ps w a 0 c [] := ⟨rfl, Nat.zero_le _, h, by simp, .inl rfl⟩
theorem Ps.good {w : World} {a : Option Addr} {n cap : Nat} {xs : List Pw} (h : Ps w a n cap xs) (i : Nat) : (xs.getD i Pw.no).Good w := by
  rw [List.getD_eq_getElem?_getD]
  rcases Nat.lt_or_ge i xs.length with hi | hi
  · rw [List.getElem?_eq_getElem hi]; exact h.2.2.2.1 _ (List.getElem_mem hi)
  · rw [List.getElem?_eq_none hi]; exact Pw.no_good w
theorem Ps.at {w : World} {a : Option Addr} {n cap : Nat} {xs : List Pw} (h : Ps w a n cap xs) (hn : 0 < n) :
    ∃ b off, a = some ⟨b, off, none⟩ ∧ b < w.heap.size ∧ ∀ i, i < n → PwAt w b (off + i * 4) (xs.getD i Pw.no) := by
  obtain ⟨h1, h2, h3, h4, h5⟩ := h
  rcases h5 with h5 | ⟨b, off, ha, hc⟩
  · omega
  · exact ⟨b, off, ha, cell_lt (hc 0 hn).1, hc⟩
theorem Ps.one {w : World} {a : Option Addr} {n cap : Nat} {xs : List Pw} (h : Ps w a n cap xs) (i : Nat) (hi : i < n) :
    ∃ b off e pa pn pc p any c, a = some ⟨b, off, none⟩ ∧ b < w.heap.size ∧ w.cell? ⟨b, off + i * 4, none⟩ = some (.int .i64 e) ∧ w.cell? ⟨b, off + i * 4 + 1, none⟩ = some (.slice pa pn pc) ∧ w.cell? ⟨b, off + i * 4 + 2, none⟩ = some (.bool any) ∧ w.cell? ⟨b, off + i * 4 + 3, none⟩ = some (.int .u64 c) ∧
      Sl .i64 w pa pn pc p ∧ (Lit.int .i64 e).wf = true ∧ 0 ≤ c ∧ c < 18446744073709551616 ∧ xs.getD i Pw.no = ⟨e, pa, pn, pc, p, any, c⟩ := by
  obtain ⟨b, off, ha, hb, hc⟩ := h.at (by omega)
  have hg := h.good i
  have hx := hc i hi
  generalize xs.getD i Pw.no = x at hg hx
  obtain ⟨e, pa, pn, pc, p, any, c⟩ := x
  exact ⟨b, off, e, pa, pn, pc, p, any, c, ha, hb, hx.1, hx.2.1, hx.2.2.1, hx.2.2.2, hg.1, hg.2.1, hg.2.2.1, hg.2.2.2, rfl⟩
/-- the first ones -/
theorem Ps.first {w : World} {a : Option Addr} {n cap : Nat} {xs : List Pw} (h : Ps w a n cap xs) (j : Nat) (hj : j ≤ n) : Ps w a j cap (xs.take j) := by
  obtain ⟨h1, h2, h3, h4, h5⟩ := h
  refine ⟨by simp; omega, by omega, h3, fun x hx => h4 x (List.mem_of_mem_take hx), ?_⟩
  rcases h5 with h5 | ⟨b, off, ha, hc⟩
  · exact .inl (by omega)
  · refine .inr ⟨b, off, ha, fun m hm => ?_⟩
    have e : (xs.take j).getD m Pw.no = xs.getD m Pw.no := by simp [hm]
    rw [e]; exact hc m (by omega)
/-- a row that the call owns, read -/
theorem Ps.of_owns {w : World} {B : Nat} {T : TypeId} {a : Option Addr} {n cap : Nat} {xs : List Pw}
    (h : w.ownsRow B T 4 (.slice a n cap) n (pcells xs)) (hg : ∀ x ∈ xs, x.Good w) (hl : xs.length = n) : Ps w a n cap xs := by
  have h' := h
  obtain ⟨_, h2⟩ := h
  rcases h2 with ⟨hv, h0⟩ | ⟨g, c, cur, hv, hgB, hh, hnc, hcm, hcs, ht⟩
  · simp only [Value.slice.injEq] at hv
    obtain ⟨rfl, rfl, rfl⟩ := hv
    exact ⟨hl, Nat.le_refl _, by unfold maxLen; omega, hg, .inl rfl⟩
  · simp only [Value.slice.injEq] at hv
    obtain ⟨rfl, _, rfl⟩ := hv
    refine ⟨hl, hnc, hcm, hg, .inr ⟨g, 0, rfl, fun i hi => ?_⟩⟩
    have e : ∀ j, j < 4 → w.cell? ⟨g, 0 + i * 4 + j, none⟩ = (xs.getD i Pw.no).cells[j]? := fun j hj => by
      rw [Nat.zero_add, h'.cellAt (i * 4 + j) (by omega), pcells_at xs i j (by omega) hj]
    exact ⟨e 0 (by omega), e 1 (by omega), e 2 (by omega), e 3 (by omega)⟩
/-- steps that the call has just laid -/
theorem Ps.newc {w : World} {t : TypeId} {B n m : Nat} {fr : Nat × Nat} (xs : List Pw) (hg : ∀ x ∈ xs, x.Good w) (hl : xs.length ≤ maxLen) (hB : B = w.heap.size) (hn : xs.length = n) (hm : xs.length = m) :
    Ps (w.alloc (.cells (pcells xs).toArray t fr)) (some ⟨B, 0, none⟩) n m xs := by
  subst hB hn hm
  refine ⟨rfl, Nat.le_refl _, hl, fun x hx => (hg x hx).alloc _, .inr ⟨w.heap.size, 0, rfl, fun i hi => ?_⟩⟩
  have e : ∀ j, j < 4 → (w.alloc (.cells (pcells xs).toArray t fr)).cell? ⟨w.heap.size, 0 + i * 4 + j, none⟩ = (xs.getD i Pw.no).cells[j]? := fun j hj => by
    rw [World.cell?_alloc_mark, Nat.zero_add]
    rw [← pcells_at xs i j hi hj]
    simp
  exact ⟨e 0 (by omega), e 1 (by omega), e 2 (by omega), e 3 (by omega)⟩
theorem pcells_one (xs : List Pw) : ∀ u ∈ pcells xs, u.oneCell' = true := by
  intro u hu
  obtain ⟨x, _, hx⟩ := List.mem_flatMap.1 hu
  simp only [Pw.cells, List.mem_cons, List.not_mem_nil, or_false] at hx
  rcases hx with rfl | rfl | rfl | rfl <;> rfl
theorem Ps.news {w : World} {a : Option Addr} {m c : Nat} {zs : List Pw} (hz : Ps w a m c zs) (h0 : 0 < m) : ∃ y, a = some y ∧ ∀ j u, (pcells zs)[j]? = some u → w.cell? (y.add j) = some u := by
  obtain ⟨b, off, rfl, _, hc⟩ := hz.at h0
  refine ⟨_, rfl, fun j u hj => ?_⟩
  have hl := pcells_length zs
  have hjl : j < zs.length * 4 := by
    rcases Nat.lt_or_ge j (zs.length * 4) with h | h
    · exact h
    · rw [List.getElem?_eq_none (by omega)] at hj; cases hj
  have hq : j / 4 < zs.length := by omega
  have h3 : j % 4 < 4 := Nat.mod_lt _ (by omega)
  have hje : j = j / 4 * 4 + j % 4 := by omega
  have hat := pcells_at zs (j / 4) (j % 4) hq h3
  rw [← hje, hj] at hat
  have hca := hc (j / 4) (by rw [← hz.1]; exact hq)
  have e0 : (⟨b, off, none⟩ : Addr).add j = ⟨b, off + j, none⟩ := by simp [Addr.add]
  have e1 : off + j = off + j / 4 * 4 + j % 4 := by omega
  rw [e0, e1]
  generalize zs.getD (j / 4) Pw.no = x at hat hca
  rcases (show j % 4 = 0 ∨ j % 4 = 1 ∨ j % 4 = 2 ∨ j % 4 = 3 by omega) with h | h | h | h <;> rw [h] at hat ⊢ <;> simp [Pw.cells] at hat <;> rw [hat]
  · exact hca.1
  · exact hca.2.1
  · exact hca.2.2.1
  · exact hca.2.2.2

end
section
open Go.RowKit

theorem info_step : (Try.prog.info? 37).map (fun i => (i.zero, i.size, i.bytes)) = some (some (.agg #[.int .i64 0, .slice none 0 0, .bool false, .int .u64 0]), 4, 48) := by kernel_rfl

theorem wp_append_steps {w : World} {o : Oper} {act : Act} {K : Act → World → Prop} {Q : Exit → Act → World → Prop} (s x : Operand)
    (ho : o.op = .call { callee := .builtin .append, args := #[s, x], argTypes := #[32, 32] }) (base : Nat) (v : Value) (n : Nat) (xs : List Pw) (hs : act.eval s = v)
    (hown : w.ownsRow base 37 4 v n (pcells xs)) (a : Option Addr) (m c : Nat) (zs : List Pw) (hx : act.eval x = .slice a m c) (hz : Ps w a m c zs)
    (N : Nat) (hN : n + m = N) (h63 : N * 48 ≤ 140737488355328) (hbase : base ≤ w.heap.size)
    (h : ∀ a' c' w', w'.ownsRow base 37 4 (.slice a' N c') N (pcells (xs ++ zs)) → Below base w w' → w.grownBy w' v.ownBlock → (a' = none → c' = 0) → K (act.put o.dst (.slice a' N c')) w') :
    o.wp Try.prog act w K Q := by
  subst hN
  refine wp_append_cells s x 32 37 ho _ 4 48 Try.underlying32 info_step rfl (by omega) base v n (pcells xs) hs hown a m c (pcells zs) hx (by rw [pcells_length, hz.1]) (fun h0 => hz.news h0) (pcells_one zs) (by unfold maxLen; omega) (by omega) hbase ?_
  intro a' c' w' h1 h2 h3 h4
  exact h a' c' w' (by rw [pcells_app]; exact h1) h2 h3 h4

/-- where the region does not draw -/
theorem append_steps {w : World} {ops : Array Oper} {rest : List Oper} {o : Oper} {act : Act} {Q : Exit → Act → World → Prop} (hw : Region.wanted o (yielded ops act.tmps) = true) (s x : Operand)
    (ho : o.op = .call { callee := .builtin .append, args := #[s, x], argTypes := #[32, 32] }) (base : Nat) (v : Value) (n : Nat) (xs : List Pw) (hs : act.eval s = v)
    (hown : w.ownsRow base 37 4 v n (pcells xs)) (a : Option Addr) (m c : Nat) (zs : List Pw) (hx : act.eval x = .slice a m c) (hz : Ps w a m c zs)
    (N : Nat) (hN : n + m = N) (h63 : N * 48 ≤ 140737488355328) (hbase : base ≤ w.heap.size)
    (h : ∀ a' c' w', w'.ownsRow base 37 4 (.slice a' N c') N (pcells (xs ++ zs)) → Below base w w' → w.grownBy w' v.ownBlock → (a' = none → c' = 0) → wpList Try.prog ops Q rest (act.put o.dst (.slice a' N c')) w') :
    wpList Try.prog ops Q (o :: rest) act w := by
  refine wpList_step fun K hK => ?_
  rw [if_pos hw]
  exact wp_append_steps s x ho base v n xs hs hown a m c zs hx hz N hN h63 hbase fun a' c' w' h1 h2 h3 h4 => hK _ _ (h a' c' w' h1 h2 h3 h4)

/-- at a step of a region that draws: what was laid since w0 -/
theorem step_append_steps {w w0 : World} {ops : Array Oper} {o : Oper} {act : Act} {K : Act → World → Prop} {Q : Exit → Act → World → Prop} {E : Prop} (hw : Region.wanted o (yielded ops act.tmps) = true) (s x : Operand)
    (ho : o.op = .call { callee := .builtin .append, args := #[s, x], argTypes := #[32, 32] }) (base : Nat) (v : Value) (n : Nat) (xs : List Pw) (hs : act.eval s = v)
    (hown : w.ownsRow base 37 4 v n (pcells xs)) (a : Option Addr) (m c : Nat) (zs : List Pw) (hx : act.eval x = .slice a m c) (hz : Ps w a m c zs)
    (N : Nat) (hN : n + m = N) (h63 : N * 48 ≤ 140737488355328) (hb0 : base ≤ w0.heap.size) (hbel : Below base w0 w)
    (h : ∀ a' c' w', w'.ownsRow base 37 4 (.slice a' N c') N (pcells (xs ++ zs)) → Below base w0 w' → w.grownBy w' v.ownBlock → (a' = none → c' = 0) → K (act.put o.dst (.slice a' N c')) w') :
    if Region.wanted o (yielded ops act.tmps) = true then o.wp Try.prog act w K Q else E := by
  rw [if_pos hw]
  exact wp_append_steps s x ho base v n xs hs hown a m c zs hx hz N hN h63 (Nat.le_trans hb0 hbel.size) fun a' c' w' h1 h2 h3 h4 => h a' c' w' h1 (hbel.trans h2) h3 h4
theorem owns_nil_steps (w : World) (B : Nat) : w.ownsRow B 37 4 (.slice none 0 0) 0 (pcells []) := ⟨rfl, .inl ⟨rfl, rfl⟩⟩
end
section
open Go.RowKit

theorem bytes_ne {a b : List Int} (ha : ∀ z ∈ a, (Lit.int .u8 z).wf = true) (hb : ∀ z ∈ b, (Lit.int .u8 z).wf = true) (h : strOfNums a = strOfNums b) : a = b := by
  have h' : a.map (fun n => UInt8.ofNat n.toNat) = b.map (fun n => UInt8.ofNat n.toNat) := by
    have := congrArg (fun s : ByteArray => s.data.toList) h
    simpa [strOfNums] using this
  clear h
  induction a generalizing b with
  | nil => cases b with
    | nil => rfl
    | cons y b => simp at h'
  | cons x a ih => cases b with
    | nil => simp at h'
    | cons y b =>
      simp only [List.map_cons, List.cons.injEq] at h'
      have hx := bounds_u8 (ha x (by simp))
      have hy := bounds_u8 (hb y (by simp))
      have e : x = y := by
        have := congrArg UInt8.toNat h'.1
        simp at this
        omega
      rw [e, ih (fun z hz => ha z (by simp [hz])) (fun z hz => hb z (by simp [hz])) h'.2]

/-- two rows of bytes as strings: alike just if they are -/
theorem str_eq {a b : List Int} (ha : ∀ z ∈ a, (Lit.int .u8 z).wf = true) (hb : ∀ z ∈ b, (Lit.int .u8 z).wf = true) : ((strOfNums a).toList == (strOfNums b).toList) = decide (a = b) := by
  by_cases h : a = b
  · subst h; simp
  · have h2 : decide (a = b) = false := by simpa using h
    rw [h2, beq_eq_false_iff_ne]
    intro e
    apply h
    refine bytes_ne ha hb ?_
    rw [Lib.toList_data, Lib.toList_data] at e
    rw [← Lib.mk_data (strOfNums a), ← Lib.mk_data (strOfNums b), e]

theorem Sl.newB {w : World} {t : TypeId} {fr : Nat × Nat} {B n m : Nat} (zs : List Int) (hw : ∀ z ∈ zs, (Lit.int .u8 z).wf = true) (hl : zs.length ≤ maxLen) (hB : B = w.heap.size) (hn : zs.length = n) (hm : zs.length = m) :
    Sl .u8 (w.alloc (.cells (zs.map (Value.int .u8)).toArray t fr)) (some ⟨B, 0, none⟩) n m zs := by
  subst hB hn hm
  refine ⟨rfl, Nat.le_refl _, hl, hw, .inr ⟨w.heap.size, 0, rfl, fun i hi => ?_⟩⟩
  rw [World.cell?_alloc_mark]
  simp [hi]

theorem info_u8 : (Try.prog.info? 5).map (fun i => (i.zero, i.size, i.bytes)) = some (some (.int .u8 0), 1, 1) := by kernel_rfl
theorem size_u8 : (Try.prog.info? 5).map (·.size) = some 1 := by kernel_rfl

theorem owns_form {w : World} {base : Nat} {e : TypeId} {v : Value} {k : Nat} {l : List Value} (h : w.ownsRow base e 1 v k l) : ∃ a' c', v = .slice a' k c' ∧ (a' = none → c' = 0) := by
  rcases h.2 with ⟨h1, h2⟩ | ⟨g, cap, cur, h1, _⟩
  · subst h2; exact ⟨none, 0, h1, fun _ => rfl⟩
  · exact ⟨_, cap, h1, fun h => by cases h⟩

theorem run_append_none_any {P : Program} {w : World} (base : Nat) (t ty e : TypeId) (i : TypeInfo) (size c : Nat) (ht : P.underlying t = some (.slice e)) (hi : P.info? e = some i)
    (v : Value) (n : Nat) (xs : List Value) (hown : w.ownsRow base e size v n xs) :
    (Builtin.append_ #[t, t] ty #[v, .slice none 0 c]).run P w = .ok v w := by
  rcases hown.2 with ⟨rfl, rfl⟩ | ⟨g, cap, cur, rfl, _, _, hnc, _⟩
  · simp [Builtin.append_, run_underlying ht, sizeOf, typeInfo, hi, Builtin.lenOf, Builtin.firstCells]
  · simp [Builtin.append_, run_underlying ht, sizeOf, typeInfo, hi, Builtin.lenOf, Builtin.firstCells, hnc, storeCells]

/-- append of whatever row of one-cell values, guarded or not, where the region does not draw -/
theorem append_row {w : World} {ops : Array Oper} {rest : List Oper} {o : Oper} {act : Act} {Q : Exit → Act → World → Prop} (hw : Region.wanted o (yielded ops act.tmps) = true) (s x : Operand) (T e : TypeId)
    (ho : o.op = .call { callee := .builtin .append, args := #[s, x], argTypes := #[T, T] }) (z : Value) (bytes : Nat) (hu : Try.prog.underlying T = some (.slice e)) (hinfo : (Try.prog.info? e).map (fun i => (i.zero, i.size, i.bytes)) = some (some z, 1, bytes)) (hzc : z.cells.size = 1) (base : Nat) (v : Value) (n : Nat) (xs : List Value) (hs : act.eval s = v)
    (hown : w.ownsRow base e 1 v n xs) (a : Option Addr) (m c : Nat) (zs : List Value) (hx : act.eval x = .slice a m c) (hz : zs.length = m) (hc : 0 < m → ∃ y, a = some y ∧ ∀ j u, zs[j]? = some u → w.cell? (y.add j) = some u) (h1 : ∀ u ∈ zs, u.oneCell' = true)
    (hmax : n + m ≤ maxLen) (h63 : (n + m) * bytes ≤ 140737488355328) (hbase : base ≤ w.heap.size)
    (h : ∀ a' c' w', w'.ownsRow base e 1 (.slice a' (n + m) c') (n + m) (xs ++ zs) → Below base w w' → (a' = none → c' = 0) → wpList Try.prog ops Q rest (act.put o.dst (.slice a' (n + m) c')) w') :
    wpList Try.prog ops Q (o :: rest) act w := by
  obtain ⟨i0, hi, hz0, hz1, hz2⟩ := info_parts hinfo
  refine wpList_step fun K hK => ?_
  rw [if_pos hw]
  cases a with
  | none =>
    obtain rfl : m = 0 := by
      rcases Nat.eq_zero_or_pos m with h0 | h0
      · exact h0
      · obtain ⟨y, e, _⟩ := hc h0; cases e
    obtain rfl : zs = [] := List.eq_nil_of_length_eq_zero hz
    obtain ⟨a', c', rfl, hnil⟩ := owns_form hown
    have hrun := run_append_none_any (P := Try.prog) (w := w) base T o.type e i0 1 c hu hi _ n xs hown
    unfold Oper.wp
    simp [execOp, ho, resolve, invoke, builtin, hs, hx, hrun, Result.andThen]
    exact hK _ _ (h a' c' w (by simpa using hown) (Below.refl _ _) hnil)
  | some y =>
    have hnews : ∀ j u, zs[j]? = some u → w.cell? (y.add j) = some u := by
      intro j u hj
      have hjl : j < zs.length := by
        rcases Nat.lt_or_ge j zs.length with hlt | hge
        · exact hlt
        · simp [List.getElem?_eq_none hge] at hj
      obtain ⟨y', hy, hh⟩ := hc (by omega)
      cases hy
      exact hh j u hj
    refine wp_append_own w s x T ho base e i0 z 1 bytes hu hi hz0 hz1 hz2 hzc (by decide) v n xs hs hown y m c zs hx (by simp [hz]) hnews h1 hmax h63 hbase ?_
    intro v' w' hown' hgrow _
    obtain ⟨a', c', rfl, hnil⟩ := owns_form hown'
    exact hK _ _ (h a' c' w' hown' ((Below.refl _ _).grown hgrow hbase (fun k hk => (hown.lt k hk).1)) hnil)

/-- one cell that the call made, read as a slice -/
theorem Sl.one {w : World} {g : Nat} {z : Int} (hz : (Lit.int .u8 z).wf = true) (h : w.cell? ⟨g, 0, none⟩ = some (.int .u8 z)) : Sl .u8 w (some ⟨g, 0, none⟩) 1 1 [z] :=
  ⟨rfl, Nat.le_refl _, by unfold maxLen; omega, by simpa using hz, .inr ⟨g, 0, rfl, fun i hi => match i, hi with
    | 0, _ => h
    | i + 1, hi => absurd hi (by omega)⟩⟩
/-- a row of bytes that the call owns, one of them stored anew -/
theorem owns_set {w : World} {B g n c : Nat} {xs : List Int} (h : w.ownsRow B 5 1 (.slice (some ⟨g, 0, none⟩) n c) n (u8s xs)) (j : Nat) (z : Int) :
    (w.setCell ⟨g, j, none⟩ (.int .u8 z)).ownsRow B 5 1 (.slice (some ⟨g, 0, none⟩) n c) n (u8s (xs.set j z)) := by
  have := (h.stored j (.int .u8 z)).1
  simpa [u8s, List.map_set] using this

theorem owns0_bytes (w : World) : (w.alloc (.cells #[] 5)).ownsRow w.heap.size 5 1 (.slice (some ⟨w.heap.size, 0, none⟩) 0 0) 0 (u8s []) := by
  have h := World.ownsRow_lit (base := w.heap.size) (e := 5) (size := 1) w #[] 0 (Nat.le_refl _) (Nat.zero_le _) (by simp)
  simpa [u8s] using h

theorem owns_mono {w : World} {B B' : Nat} {e : TypeId} {size : Nat} {v : Value} {n : Nat} {l : List Value} (h : w.ownsRow B e size v n l) (hB : B' ≤ B) : w.ownsRow B' e size v n l := by
  refine ⟨h.1, ?_⟩
  rcases h.2 with h1 | ⟨g, c, cur, h1, h2, h3⟩
  · exact .inl h1
  · exact .inr ⟨g, c, cur, h1, Nat.le_trans hB h2, h3⟩
end
section
open Go.RowKit

theorem info_i64 : (Try.prog.info? 3).map (fun i => (i.zero, i.size, i.bytes)) = some (some (.int .i64 0), 1, 8) := by kernel_rfl

theorem append_i64 {w : World} {ops : Array Oper} {rest : List Oper} {o : Oper} {act : Act} {Q : Exit → Act → World → Prop} (hw : Region.wanted o (yielded ops act.tmps) = true) (s x : Operand)
    (ho : o.op = .call { callee := .builtin .append, args := #[s, x], argTypes := #[26, 26] }) (base : Nat) (v : Value) (n : Nat) (xs : List Int) (hs : act.eval s = v)
    (hown : w.ownsRow base 3 1 v n (i64s xs)) (a : Option Addr) (m c : Nat) (zs : List Int) (hx : act.eval x = .slice a m c) (hz : Sl .i64 w a m c zs)
    (N : Nat) (hN : n + m = N) (h63 : N ≤ 1000000000000) (hbase : base ≤ w.heap.size)
    (h : ∀ a' c' w', w'.ownsRow base 3 1 (.slice a' N c') N (i64s (xs ++ zs)) → Below base w w' → (a' = none → c' = 0) → wpList Try.prog ops Q rest (act.put o.dst (.slice a' N c')) w') :
    wpList Try.prog ops Q (o :: rest) act w := by
  subst hN
  have hm := hz.2.1
  refine append_row hw s x 26 3 ho (.int .i64 0) 8 Try.underlying26 info_i64 rfl base v n (i64s xs) hs hown a m c (i64s zs) hx (by simp [i64s, hz.1]) ?_ (ints_oneCell .i64 zs) (by unfold maxLen; omega) (by omega) hbase ?_
  · intro h0
    obtain ⟨b, off, rfl, _, hc⟩ := hz.at h0
    refine ⟨_, rfl, fun j u hj => ?_⟩
    have hjl : j < zs.length := by
      rcases Nat.lt_or_ge j zs.length with hlt | hge
      · exact hlt
      · simp [i64s, List.getElem?_eq_none hge] at hj
    have := hc j (by have := hz.1; omega)
    rw [show (⟨b, off, none⟩ : Addr).add j = ⟨b, off + j, none⟩ from by simp [Addr.add], this]
    simp [i64s, hjl] at hj
    rw [← hj]; simp [hjl]
  · intro a' c' w' ho' hb' hn'
    exact h a' c' w' (by rw [show i64s (xs ++ zs) = i64s xs ++ i64s zs from by simp [i64s]]; exact ho') hb' hn'

theorem Sl.newI {w : World} {t : TypeId} {fr : Nat × Nat} {B n m : Nat} (zs : List Int) (hw : ∀ z ∈ zs, (Lit.int .i64 z).wf = true) (hl : zs.length ≤ maxLen) (hB : B = w.heap.size) (hn : zs.length = n) (hm : zs.length = m) :
    Sl .i64 (w.alloc (.cells (zs.map (Value.int .i64)).toArray t fr)) (some ⟨B, 0, none⟩) n m zs := by
  subst hB hn hm
  refine ⟨rfl, Nat.le_refl _, hl, hw, .inr ⟨w.heap.size, 0, rfl, fun i hi => ?_⟩⟩
  rw [World.cell?_alloc_mark]
  simp [hi]
theorem ownsI_lit (w : World) (zs : List Int) (n : Nat) (hn : zs.length = n) (hl : n ≤ maxLen) :
    (w.alloc (.cells (zs.map (Value.int .i64)).toArray 3)).ownsRow w.heap.size 3 1 (.slice (some ⟨w.heap.size, 0, none⟩) n n) n (i64s zs) := by
  have h := World.ownsRow_lit (base := w.heap.size) (e := 3) (size := 1) w (zs.map (Value.int .i64)).toArray n (Nat.le_refl _) hl (by simp [hn])
  simpa [i64s] using h

end
section
open Go.RowKit

theorem Sl.block {k : IntKind} {W W' : World} {a : Option Addr} {n cap : Nat} {zs : List Int} (h : Sl k W a n cap zs) (hb : ∀ b off, a = some ⟨b, off, none⟩ → W'.heap[b]? = W.heap[b]?) : Sl k W' a n cap zs := by
  obtain ⟨h1, h2, h3, h4, h5⟩ := h
  refine ⟨h1, h2, h3, h4, ?_⟩
  rcases h5 with h5 | ⟨b, off, ha, hc⟩
  · exact .inl h5
  · exact .inr ⟨b, off, ha, fun i hi => (World.cell?_of_block (w := W) (hb b off ha)).trans (hc i hi)⟩

/-- what the step puts lies in a block of ints -/
def Pw.Own (W : World) (x : Pw) : Prop := ∃ b off cs fr, x.a = some ⟨b, off, none⟩ ∧ W.heap[b]? = some (.cells cs 3 fr)
/-- lay in w0, or lies in a block of ints -/
def Pw.Ok (w0 W : World) (x : Pw) : Prop := x.Good w0 ∨ (x.Good W ∧ x.Own W)
/-- what lies below B, and each block of ints or of steps, lies as it lay -/
structure Kept (B : Nat) (W W' : World) : Prop where
  bel : Below B W W'
  typ : ∀ (k : Nat) (cs : Array Value) (t : TypeId) (fr : Nat × Nat), W.heap[k]? = some (.cells cs t fr) → (t = 3 ∨ t = 37) → W'.heap[k]? = some (.cells cs t fr)
theorem Kept.refl (B : Nat) (W : World) : Kept B W W := ⟨Below.refl _ _, fun _ _ _ _ h _ => h⟩
theorem Kept.trans {B : Nat} {X Y Z : World} (h : Kept B X Y) (h' : Kept B Y Z) : Kept B X Z := ⟨h.bel.trans h'.bel, fun k cs t fr hk ht => h'.typ k cs t fr (h.typ k cs t fr hk ht) ht⟩
theorem lt_of_obj {W : World} {k : Nat} {o : Obj} (h : W.heap[k]? = some o) : k < W.heap.size := (Array.getElem?_eq_some_iff.1 h).1
theorem Kept.of_below {B : Nat} {W W' : World} (h : Below W.heap.size W W') (hB : B ≤ W.heap.size) : Kept B W W' := ⟨h.mono hB, fun k cs t fr hk _ => (h.block k (lt_of_obj hk)).trans hk⟩
theorem Kept.alloc {B : Nat} {W : World} (hB : B ≤ W.heap.size) (o : Obj) : Kept B W (W.alloc o) := Kept.of_below ((Below.refl _ W).alloc (Nat.le_refl _) o) hB
theorem Kept.grown {B : Nat} {W W' : World} {row : Option Nat} (hb : Below B W W') (hg : W.grownBy W' row) (hr : ∀ r, row = some r → ∀ cs t fr, W.heap[r]? = some (.cells cs t fr) → t ≠ 3 ∧ t ≠ 37) : Kept B W W' :=
  ⟨hb, fun k cs t fr hk ht => (hg.block k (lt_of_obj hk) (fun e => by
    have h := hr k e.symm cs t fr hk
    rcases ht with ht | ht
    · exact h.1 ht
    · exact h.2 ht)).trans hk⟩
theorem Pw.Ok.below {w0 W W' : World} {x : Pw} (h : x.Ok w0 W) (hb : Below W.heap.size W W') : x.Ok w0 W' := by
  rcases h with h | ⟨h1, b, off, cs, fr, h2, h3⟩
  · exact .inl h
  · exact .inr ⟨h1.below hb (Nat.le_refl _), b, off, cs, fr, h2, (hb.block b (lt_of_obj h3)).trans h3⟩
theorem Pw.Ok.good {w0 W : World} {x : Pw} (h : x.Ok w0 W) (hb : Below w0.heap.size w0 W) : x.Good W := by
  rcases h with h | h
  · exact h.below hb (Nat.le_refl _)
  · exact h.1
theorem Pw.Ok.grown {w0 W W' : World} {x : Pw} {row : Option Nat} (h : x.Ok w0 W) (hg : W.grownBy W' row) (hr : ∀ r, row = some r → ∀ cs fr, W.heap[r]? ≠ some (.cells cs 3 fr)) : x.Ok w0 W' := by
  rcases h with h | ⟨h1, b, off, cs, fr, h2, h3⟩
  · exact .inl h
  · have hk : W'.heap[b]? = W.heap[b]? := hg.block b (lt_of_obj h3) (fun e => hr b e.symm cs fr h3)
    refine .inr ⟨⟨h1.1.block fun b' off' e => ?_, h1.2⟩, b, off, cs, fr, h2, hk.trans h3⟩
    rw [h2] at e
    simp only [Option.some.injEq, Addr.mk.injEq] at e
    obtain ⟨rfl, _⟩ := e
    exact hk
theorem Pw.Ok.kept {w0 W W' : World} {x : Pw} {B : Nat} (h : x.Ok w0 W) (hk : Kept B W W') : x.Ok w0 W' := by
  rcases h with h | ⟨h1, b, off, cs, fr, h2, h3⟩
  · exact .inl h
  · have h4 := hk.typ b cs _ fr h3 (.inl rfl)
    refine .inr ⟨⟨h1.1.block fun b' off' e => ?_, h1.2⟩, b, off, cs, fr, h2, h4⟩
    rw [h2] at e
    simp only [Option.some.injEq, Addr.mk.injEq] at e
    obtain ⟨rfl, _⟩ := e
    exact h4.trans h3.symm
/-- the block that it puts from -/
def Pw.blk (x : Pw) : Option Nat := x.a.map Addr.block
/-- it lies, and what it puts, in a block of ints -/
def Pw.Lies (W : World) (x : Pw) : Prop := x.Good W ∧ (x.a = none ∨ x.Own W)
/-- .. that was not there in w0 -/
def Pw.New (w0 W : World) (x : Pw) : Prop := x.Lies W ∧ ∀ b, x.blk = some b → w0.heap.size ≤ b
theorem Sl.none_any {k : IntKind} {W W' : World} {n cap : Nat} {zs : List Int} (h : Sl k W none n cap zs) : Sl k W' none n cap zs := by
  obtain ⟨h1, h2, h3, h4, h5⟩ := h
  rcases h5 with h5 | ⟨b, off, ha, _⟩
  · exact ⟨h1, h2, h3, h4, .inl h5⟩
  · cases ha
theorem Pw.Lies.ok {w0 W : World} {x : Pw} (h : x.Lies W) : x.Ok w0 W := by
  obtain ⟨h1, h2⟩ := h
  rcases h2 with h2 | h2
  · refine .inl ⟨?_, h1.2⟩
    have := h1.1
    rw [h2] at this ⊢
    exact this.none_any
  · exact .inr ⟨h1, h2⟩
theorem Pw.New.ok {w0 W : World} {x : Pw} (h : x.New w0 W) : x.Ok w0 W := h.1.ok
theorem Pw.Lies.below {W W' : World} {x : Pw} (h : x.Lies W) (hb : Below W.heap.size W W') : x.Lies W' := by
  refine ⟨h.1.below hb (Nat.le_refl _), ?_⟩
  rcases h.2 with h2 | ⟨b, off, cs, fr, h2, h3⟩
  · exact .inl h2
  · exact .inr ⟨b, off, cs, fr, h2, (hb.block b (lt_of_obj h3)).trans h3⟩
theorem Pw.Lies.blk {W : World} {x : Pw} {b : Nat} (h : x.Lies W) (hb : x.blk = some b) : ∃ cs fr, W.heap[b]? = some (.cells cs 3 fr) := by
  rcases h.2 with h2 | ⟨b', off, cs, fr, h2, h3⟩
  · rw [Pw.blk, h2] at hb; cases hb
  · rw [Pw.blk, h2] at hb
    obtain rfl : b' = b := by simpa using hb
    exact ⟨cs, fr, h3⟩
/-- where its block lies as it lay -/
theorem Pw.Lies.block {W W' : World} {x : Pw} (h : x.Lies W) (hb : ∀ b, x.blk = some b → W'.heap[b]? = W.heap[b]?) : x.Lies W' := by
  have hk : ∀ b off, x.a = some ⟨b, off, none⟩ → W'.heap[b]? = W.heap[b]? := fun b off e => hb b (by rw [Pw.blk, e]; rfl)
  refine ⟨⟨h.1.1.block hk, h.1.2⟩, ?_⟩
  rcases h.2 with h2 | ⟨b, off, cs, fr, h2, h3⟩
  · exact .inl h2
  · exact .inr ⟨b, off, cs, fr, h2, (hk b off h2).trans h3⟩
/-- one that puts nothing -/
theorem Pw.New.none {w0 W : World} {e c : Int} {any : Bool} (he : (Lit.int .i64 e).wf = true) (h0 : 0 ≤ c) (h1 : c < 18446744073709551616) : (⟨e, Option.none, 0, 0, [], any, c⟩ : Pw).New w0 W := ⟨⟨⟨Sl.nil, he, h0, h1⟩, .inl rfl⟩, fun b h => by cases h⟩
/-- one that puts what was just laid -/
theorem Pw.New.new {w0 W : World} {e c : Int} {any : Bool} {b off n cap : Nat} {zs : List Int} {cs : Array Value} {fr : Nat × Nat} (hs : Sl .i64 W (some ⟨b, off, Option.none⟩) n cap zs) (hb : W.heap[b]? = some (.cells cs 3 fr)) (hB : w0.heap.size ≤ b) (he : (Lit.int .i64 e).wf = true) (h0 : 0 ≤ c) (h1 : c < 18446744073709551616) : (⟨e, some ⟨b, off, Option.none⟩, n, cap, zs, any, c⟩ : Pw).New w0 W :=
  ⟨⟨⟨hs, he, h0, h1⟩, .inr ⟨b, off, cs, fr, rfl, hb⟩⟩, fun b' h => by
    obtain rfl : b = b' := by simpa [Pw.blk] using h
    exact hB⟩
theorem owned_step {W : World} {B : Nat} {v : Value} {k : Nat} {xs : List Value} (h : W.ownsRow B 37 4 v k xs) : ∀ r, v.ownBlock = some r → ∀ cs fr, W.heap[r]? ≠ some (.cells cs 3 fr) := by
  intro r e cs fr e2
  rcases h.2 with ⟨e1, _⟩ | ⟨g, cap, cur, e1, _, hgb, _⟩
  · rw [e1] at e; simp [Value.ownBlock] at e
  · rw [e1] at e
    obtain rfl : g = r := by simpa [Value.ownBlock] using e
    rw [hgb] at e2
    simp at e2

/-- a row of steps in W; what lay in w0 lies so still -/
structure MadeP (w0 W : World) (B : Nat) (a : Option Addr) (n c : Nat) (xs : List Pw) : Prop where
  own : W.ownsRow B 37 4 (.slice a n c) n (pcells xs)
  good : ∀ x ∈ xs, x.Ok w0 W
  len : xs.length = n
  bel : Below w0.heap.size w0 W
theorem MadeP.start (w0 W : World) (B : Nat) (hb : Below w0.heap.size w0 W) : MadeP w0 W B none 0 0 [] := ⟨owns_nil_steps _ _, by simp, rfl, hb⟩
theorem MadeP.below {w0 W W' : World} {B : Nat} {a : Option Addr} {n c : Nat} {xs : List Pw} (h : MadeP w0 W B a n c xs) (hb : Below W.heap.size W W') : MadeP w0 W' B a n c xs :=
  ⟨ownsRow_below h.own hb (Nat.le_refl _), fun x hx => (h.good x hx).below hb, h.len, h.bel.trans (hb.mono h.bel.size)⟩
theorem MadeP.drawn {w0 W W' : World} {B : Nat} {a : Option Addr} {n c : Nat} {xs : List Pw} (h : MadeP w0 W B a n c xs) (hq : ∃ q, W' = W.drewN q) : MadeP w0 W' B a n c xs := h.below (below_drawn (Below.refl _ W) hq)
theorem MadeP.kept {w0 W W' : World} {B : Nat} {a : Option Addr} {n c : Nat} {xs : List Pw} (h : MadeP w0 W B a n c xs) (hk : Kept w0.heap.size W W') : MadeP w0 W' B a n c xs := by
  refine ⟨⟨h.own.1, ?_⟩, fun x hx => (h.good x hx).kept hk, h.len, h.bel.trans hk.bel⟩
  rcases h.own.2 with h2 | ⟨g, cap, cur, hv, hg, hh, r⟩
  · exact .inl h2
  · exact .inr ⟨g, cap, cur, hv, hg, hk.typ g cur _ _ hh (.inr rfl), r⟩
theorem MadeP.push {w0 W W' : World} {B : Nat} {a a' : Option Addr} {n c N c' : Nat} {xs zs : List Pw} (h : MadeP w0 W B a n c xs) (hB : w0.heap.size ≤ B) (hz : ∀ x ∈ zs, x.Ok w0 W) (hN : xs.length + zs.length = N)
    (hown : W'.ownsRow B 37 4 (.slice a' N c') N (pcells (xs ++ zs))) (hb : Below B W W') (hg : W.grownBy W' (Value.slice a n c).ownBlock) : MadeP w0 W' B a' N c' (xs ++ zs) := by
  refine ⟨hown, fun x hx => ?_, by rw [List.length_append]; exact hN, h.bel.trans (hb.mono hB)⟩
  rcases List.mem_append.1 hx with hx | hx
  · exact (h.good x hx).grown hg (owned_step h.own)
  · exact (hz x hx).grown hg (owned_step h.own)
theorem MadeP.ps {w0 W : World} {B : Nat} {a : Option Addr} {n c : Nat} {xs : List Pw} (h : MadeP w0 W B a n c xs) : Ps W a n c xs := Ps.of_owns h.own (fun x hx => (h.good x hx).good h.bel) h.len
/-- steps that a call answers, from w on; w0: where what it was handed lay -/
def StepsIs (w0 w w' : World) (e : Ending) (l : List Stp.St) : Prop := ∃ a n c xs, e = .returned (.slice a n c) ∧ MadeP w0 w' w.heap.size a n c xs ∧ stps xs = l ∧ (a = none → c = 0) ∧ Below w.heap.size w w'
end
section
open Go.RowKit

theorem step_append_i64 {w w0 : World} {ops : Array Oper} {o : Oper} {act : Act} {K : Act → World → Prop} {Q : Exit → Act → World → Prop} {E : Prop} (hw : Region.wanted o (yielded ops act.tmps) = true) (s x : Operand)
    (ho : o.op = .call { callee := .builtin .append, args := #[s, x], argTypes := #[26, 26] }) (base : Nat) (v : Value) (n : Nat) (xs : List Int) (hs : act.eval s = v)
    (hown : w.ownsRow base 3 1 v n (i64s xs)) (a : Option Addr) (m c : Nat) (zs : List Int) (hx : act.eval x = .slice a m c) (hz : Sl .i64 w a m c zs)
    (N : Nat) (hN : n + m = N) (h63 : N ≤ 1000000000000) (hb0 : base ≤ w0.heap.size) (hbel : Below base w0 w)
    (h : ∀ a' c' w', w'.ownsRow base 3 1 (.slice a' N c') N (i64s (xs ++ zs)) → Below base w0 w' → (a' = none → c' = 0) → K (act.put o.dst (.slice a' N c')) w') :
    if Region.wanted o (yielded ops act.tmps) = true then o.wp Try.prog act w K Q else E := by
  subst hN
  rw [if_pos hw]
  refine wp_append_cells s x 26 3 ho _ 1 8 Try.underlying26 info_i64 rfl (by omega) base v n (i64s xs) hs hown a m c (i64s zs) hx (by simp [i64s, hz.1]) ?_ (ints_oneCell .i64 zs) (by unfold maxLen; omega) (by omega) (Nat.le_trans hb0 hbel.size) ?_
  · intro h0
    obtain ⟨b, off, rfl, _, hc⟩ := hz.at h0
    refine ⟨_, rfl, fun j u hj => ?_⟩
    have hjl : j < zs.length := by
      rcases Nat.lt_or_ge j zs.length with hlt | hge
      · exact hlt
      · simp [i64s, List.getElem?_eq_none hge] at hj
    have := hc j (by have := hz.1; omega)
    rw [show (⟨b, off, none⟩ : Addr).add j = ⟨b, off + j, none⟩ from by simp [Addr.add], this]
    simp [i64s, hjl] at hj
    rw [← hj]; simp [hjl]
  · intro a' c' w' ho' hb' _ hn'
    exact h a' c' w' (by rw [show i64s (xs ++ zs) = i64s xs ++ i64s zs from by simp [i64s]]; exact ho') (hbel.trans hb') hn'
end
end Go.Proofs.Ytpcebfefbnpbpaa
